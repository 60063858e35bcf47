"""Texts that tell what can come of a module or another machine."""

from reentry.depth import depth_in, lines_in
from reentry.machines import HANG, check_machine
from reentry.modules import check_module
from reentry.rows import Rows
from reentry.shorter import first_lines
from reentry.tables import table_for


def listing(module, during=None):
    """The lines of a module with their numbers, and with marks at those in which statements begin."""
    check_module(module)
    used = lines_in(module, Rows(module, table_for(module, during)))
    marks = {number: "+" if number in used else "-" for number in first_lines(module)}
    return "\n".join([f"{number:>4} {marks.get(number, ' ')} {line}" for number, line in enumerate(module.lines)])


def summary(machine, during=None):
    """The depth of a machine, and how many responses can come."""
    check_machine(machine)
    rows = Rows(machine, table_for(machine, during))
    depth = depth_in(rows)
    words = [response[0] for response in rows.steps.responses]
    lines = [
        f"depth {'without end' if depth is None else depth}",
        f"hangs {'yes' if HANG in rows.steps.responses else 'no'}",
        f"outs {words.count('out')}",
        f"backs {words.count('back')}",
    ]
    return "\n".join(lines)
