"""Conditions and rules that hold in all plays, and plays that lead to where they do not."""

from reentry.errors import UnknownName
from reentry.expressions import check_expression
from reentry.machines import HANG, Watched, check_machine
from reentry.routes import Routes
from reentry.rows import Rows
from reentry.tables import table_for


def holds_always(machine, condition, during=None):
    """Whether a condition holds at each turn of the surroundings."""
    return breach(machine, condition, during) is None


def breach(machine, condition, during=None):
    """A shortest play behind which a condition is false at the surroundings' turn; None if it holds always."""
    check_machine(machine)
    check_condition(machine, condition)
    return breach_in(Rows(machine, table_for(machine, during)), machine, condition)


def check_condition(machine, condition):
    """Raise the error for a value that is not an expression over variables of a machine."""
    check_expression(condition)
    names = [variable[0] for variable in machine.variables]
    for name in condition.names:
        if name not in names:
            raise UnknownName(None, name)


def breach_in(rows, machine, condition):
    """What `breach` returns, from the tables of the machine."""
    false = false_stores(machine, condition, rows.steps.stores.things)
    if not false:
        return None
    return Routes(rows).play_to_turn(lambda turn: turn[1] in false)


def false_stores(machine, condition, stores):
    """The numbers of those of these stores in which a condition is false, as the keys of a dict."""
    names = [variable[0] for variable in machine.variables]
    false = {}
    for number, store in enumerate(stores):
        values = dict(zip(names, machine.values_in(store)))
        if condition.worth(values) == 0:
            false[number] = True
    return false


def is_kept(machine, rule, during=None):
    """Whether no play leads a rule to a bad state."""
    return violation(machine, rule, during) is None


def violation(machine, rule, during=None):
    """A shortest play that leads a rule to a bad state; None if it is kept."""
    watched = Watched(machine, rule)
    rows = Rows(watched, table_for(watched, during))
    routes = Routes(rows)
    stores = rows.steps.stores.things
    to_turn = routes.play_to_turn(lambda turn: stores[turn[1]][1] in rule.bad)
    to_hang = None
    if HANG in rows.steps.responses:
        to_hang = routes.play_to_step(lambda turn, step: hangs_badly(rows.steps, rule, turn, step))
    if to_turn is None or (to_hang is not None and to_hang.length < to_turn.length):
        return to_hang
    return to_turn


def hangs_badly(steps, rule, turn, step):
    """Whether a step of a watched machine at a turn is a hang that leads the rule to a bad state."""
    if step[1] != HANG:
        return False
    frame, store = turn
    move = step[0].move
    # The store of a watched machine stays as it was when it hangs, so the rule is led on here.
    event = move if move[0] == "call" else ("answer", steps.callouts[frame], move[1])
    state = rule.next_state(steps.stores.things[store][1], event)
    return rule.next_state(state, HANG) in rule.bad
