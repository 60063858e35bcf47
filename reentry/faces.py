"""The faces of machines: what their surroundings see of them."""


class Face:
    """Entries (name, arguments, results) and callouts (name, arguments, answers), ascending."""

    def __init__(self, entries, callouts):
        self.entries = tuple(sorted(entries))
        self.callouts = tuple(sorted(callouts))

    def entry_named(self, name):
        """The entry with this name; None if there is none."""
        return triple_named(self.entries, name)

    def callout_named(self, name):
        """The callout with this name; None if there is none."""
        return triple_named(self.callouts, name)

    def __eq__(self, other):
        return isinstance(other, Face) and self.entries == other.entries and self.callouts == other.callouts


def triple_named(triples, name):
    """The triple that begins with this name, for any value as the name; None if there is none."""
    if not isinstance(name, str):
        return None
    for triple in triples:
        if triple[0] == name:
            return triple
    return None
