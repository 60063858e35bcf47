"""The checker of certificates, which trusts nobody."""

from reentry.always import false_stores
from reentry.claims import Double, Single, claimed_in, is_tuple
from reentry.errors import InvalidMoves
from reentry.names import is_integer
from reentry.sessions import make_moves, played
from reentry.texts import condition_in, module_in, table_in


def holds(claim, certificate):
    """Whether any value is a claim, and any other one a certificate for it."""
    if not isinstance(claim, tuple) or not 3 <= len(claim) <= 4 or not isinstance(claim[0], str):
        return False
    module = module_in(claim[1])
    if module is None:
        return False
    if len(claim) == 3:
        table = during_in(module.face, claim[2])
        return claim[0] == "endless" and table is not None and is_endless(module, table, certificate)
    if claim[0] in ("depth", "deep"):
        return is_about_depth(claim, module, certificate)
    table = during_in(module.face, claim[3])
    if table is None:
        return False
    if claim[0] in ("alike", "not alike"):
        return is_about_both(claim, module, table, certificate)
    if claim[0] in ("always", "not always"):
        return is_about_condition(claim, module, table, certificate)
    return False


def is_about_both(claim, one, table, certificate):
    """Whether a certificate shows that two modules are alike, or that they are not."""
    other = module_in(claim[2])
    if other is None or one.face != other.face:
        return False
    if claim[0] == "alike":
        claimed = claimed_in(Double(one, other), table, certificate)
        return claimed is not None and claimed.is_closed()
    first = session_behind(one, table, certificate)
    second = session_behind(other, table, certificate)
    if first is None or second is None or len(first) == 0:
        return False
    return first.log[:-1] == second.log[:-1] and first.log[-1] != second.log[-1]


def is_about_condition(claim, module, table, certificate):
    """Whether a certificate shows that a condition holds always, or that it does not."""
    condition = condition_in(module, claim[2])
    if condition is None:
        return False
    if claim[0] == "not always":
        session = session_behind(module, table, certificate)
        return is_at_turn(session) and 0 in false_stores(module, condition, [session.store])
    claimed = claimed_in(Single(module), table, certificate)
    if claimed is None or not claimed.is_closed():
        return False
    things = claimed.steps.stores.things
    stores = [things[store] for store in claimed.grounds] + [things[place[2]] for place in claimed.placed]
    return not false_stores(module, condition, stores)


def is_about_depth(claim, module, certificate):
    """Whether a certificate shows that the depth is at most so great, or that so many callouts can be pending."""
    table = during_in(module.face, claim[2])
    number = claim[3]
    if table is None or not is_integer(number) or number < 0:
        return False
    if claim[0] == "deep":
        session = session_behind(module, table, certificate)
        return is_at_turn(session) and len(session.pending) == number
    if not is_tuple(certificate, 2):
        return False
    claimed = claimed_in(Single(module), table, certificate[0])
    return claimed is not None and claimed.is_closed() and are_ranks(claimed, certificate[1], number)


def are_ranks(claimed, ranks, most):
    """Whether any value is a tuple of ranks for the places of a table, none of them above `most`."""
    if not is_tuple(ranks, len(claimed.places)):
        return False
    if not all([is_integer(rank) and 1 <= rank <= most for rank in ranks]):
        return False
    lowest = {}
    for place, rank in zip(claimed.places, ranks):
        lowest[place[0]] = min(rank, lowest.get(place[0], rank))
    for place, rank in zip(claimed.places, ranks):
        calls = claimed.calls_from(claimed.steps.doors_at(place[1:]))
        if not all([lowest.get(call, rank + 1) > rank for call in calls]):
            return False
    return True


def is_endless(module, table, certificate):
    """Whether a certificate shows that calls can be nested without end."""
    if not is_tuple(certificate, 2):
        return False
    session = session_behind(module, table, certificate[0])
    if not is_at_turn(session) or not session.pending:
        return False
    first = len(session)
    top, store = session.frames[-1], session.store
    try:
        make_moves(session, certificate[1])
    except InvalidMoves:
        return False
    if session.is_over or session.store != store:
        return False
    more = [0] + more_pending(session.log[first:])
    return min(more) >= 0 and more[-1] > 0 and session.frames[-1] == top


def more_pending(log):
    """For each of these moves, how many more callouts are pending behind it than before the first one."""
    counts = []
    more = 0
    for move, response in log:
        if move[0] == "answer":
            more -= 1
        if response[0] == "out":
            more += 1
        counts.append(more)
    return counts


def session_behind(module, table, moves):
    """A session in which these moves were made; None if any value as the moves is no play."""
    try:
        return played(module, moves, table)
    except InvalidMoves:
        return None


def is_at_turn(session):
    """Whether there is a session, and it is the surroundings' turn in it."""
    return session is not None and not session.is_over


def during_in(face, pairs):
    """The table of any value that is an ascending tuple of pairs of a face; None if it is none."""
    table = table_in(face, pairs)
    return table if table is not None and table.pairs == pairs else None
