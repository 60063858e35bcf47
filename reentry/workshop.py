"""Workshops, which keep modules and demands on them."""

from reentry.demands import check_demand, has_form, is_about
from reentry.errors import InvalidDeed, NothingToUndo, UnknownDemand, UnknownModule
from reentry.modules import Module
from reentry.names import is_name
from reentry.texts import module_in


class Workshop:
    """Modules under names, and demands that hold at every time.

    `_kept` has the modules by their names, and `_past` for each deed of the history `_kept` and the demands as
    they were before it. What has been in one of these is never changed, so that it can be put back.
    """

    def __init__(self):
        self._kept = {}
        self._past = ()
        self.names = ()
        self.demands = ()
        self.history = ()

    def do(self, deed):
        """Do a deed."""
        check_deed(deed)
        self._carry_out(deed)

    def do_all(self, *deeds, watch=None):
        """Do all deeds in their sequence, or none."""
        for deed in deeds:
            check_deed(deed)
        kept, past, names, demands, history = self._kept, self._past, self.names, self.demands, self.history
        done = None
        try:
            for index, deed in enumerate(deeds):
                self._carry_out(deed)
                if watch is not None:
                    watch(self, index)
            done = True
        finally:
            if done is None:
                self._kept, self._past, self.names, self.demands, self.history = kept, past, names, demands, history

    def undo(self):
        """Take back the last deed."""
        if not self._past:
            raise NothingToUndo()
        kept, demands = self._past[-1]
        self._past = self._past[:-1]
        self.history = self.history[:-1]
        self._have(kept, demands)

    def module(self, name):
        """The module with this name."""
        if name not in self:
            raise UnknownModule(name)
        return self._kept[name]

    def __contains__(self, value):
        return isinstance(value, str) and value in self._kept

    def __len__(self):
        return len(self._kept)

    def _carry_out(self, deed):
        """Do what is a deed, or raise its error before anything has changed."""
        word = deed[0]
        if word == "drop" and deed[1] not in self:
            raise UnknownModule(deed[1])
        demands = demands_behind(self.demands, deed)
        kept = kept_behind(self._kept, deed)
        # All demands hold already, and stay so if neither they nor their modules are new.
        for demand in demands_touched(demands, deed):
            check_demand(kept, demand)
        self._past = self._past + ((self._kept, self.demands),)
        self.history = self.history + (deed,)
        self._have(kept, demands)

    def _have(self, kept, demands):
        """Have these modules and demands."""
        self._kept = kept
        self.names = tuple(sorted(kept))
        self.demands = demands


def kept_behind(kept, deed):
    """The modules behind a deed, by their names."""
    if deed[0] == "put":
        return {**kept, deed[1]: Module.read(deed[2])}
    if deed[0] == "drop":
        return {name: kept[name] for name in kept if name != deed[1]}
    return kept


def demands_behind(demands, deed):
    """The demands behind a deed."""
    if deed[0] == "demand":
        return demands + (deed[1],)
    if deed[0] == "release":
        for index, demand in enumerate(demands):
            if demand == deed[1]:
                return demands[:index] + demands[index + 1:]
        raise UnknownDemand(deed[1])
    return demands


def demands_touched(demands, deed):
    """Those of the demands behind a deed that need not hold any more."""
    if deed[0] == "demand":
        return demands[-1:]
    if deed[0] == "release":
        return ()
    return [demand for demand in demands if is_about(demand, deed[1])]


def check_deed(value):
    """Raise the error for a value that is not a deed."""
    if not is_deed(value):
        raise InvalidDeed(value)


def is_deed(value):
    """Whether any value is a deed."""
    if not isinstance(value, tuple) or not 2 <= len(value) <= 3 or not isinstance(value[0], str):
        return False
    if value[0] == "put":
        return len(value) == 3 and is_name(value[1]) and module_in(value[2]) is not None
    if len(value) == 3:
        return False
    if value[0] == "drop":
        return is_name(value[1])
    return value[0] in ("demand", "release") and has_form(value[1])
