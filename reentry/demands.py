"""Demands on modules that are kept under names."""

from reentry.always import holds_always
from reentry.depth import depth_of
from reentry.errors import BrokenDemand
from reentry.likeness import alike
from reentry.names import is_integer
from reentry.tables import Table
from reentry.texts import condition_in, table_in

WORDS = ("alike", "always", "depth")


def has_form(value):
    """Whether any value is a tuple of the word of a demand and as many elements as belong to it."""
    return isinstance(value, tuple) and len(value) == 4 and isinstance(value[0], str) and value[0] in WORDS


def is_about(demand, name):
    """Whether a demand that is as described may be one on the module with this name."""
    # A condition can have the text of a name, too: such a demand is looked at once more than it need be.
    return name in demand[1:3]


def check_demand(modules, demand):
    """Raise the error for a demand that is not as described or does not hold for the modules of this dict."""
    if not is_met(modules, demand):
        raise BrokenDemand(demand)


def is_met(modules, demand):
    """Whether a demand is as described, and holds."""
    word, name, wanted, pairs = demand
    module = module_named(modules, name)
    if module is None:
        return False
    during = Table.full(module) if pairs is None else table_in(module.face, pairs)
    if during is None:
        return False
    if word == "alike":
        other = module_named(modules, wanted)
        return other is not None and module.face == other.face and alike(module, other, during)
    if word == "always":
        condition = condition_in(module, wanted)
        return condition is not None and holds_always(module, condition, during)
    return is_integer(wanted) and wanted >= 0 and is_within(depth_of(module, during), wanted)


def is_within(depth, most):
    """Whether a depth, or None for a depth without end, is at most so great."""
    return depth is not None and depth <= most


def module_named(modules, name):
    """The module that a dict has under any value as its name; None if there is none."""
    return modules.get(name) if isinstance(name, str) else None
