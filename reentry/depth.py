"""How deep calls can be nested, which responses can come, and which lines are used."""

from reentry.errors import InvalidResponse
from reentry.limits import MAX_ASKED
from reentry.machines import HANG, check_machine
from reentry.modules import check_module
from reentry.names import is_integer, is_name
from reentry.pieces import joined, length_of
from reentry.plays import Play, check_count
from reentry.routes import Routes
from reentry.rows import Rows
from reentry.tables import table_for


def depth_of(machine, during=None):
    """The greatest number of pending callouts; None if there is none."""
    check_machine(machine)
    return depth_in(Rows(machine, table_for(machine, during)))


def depth_in(rows):
    """The greatest number of pending callouts in these tables; None if there is none."""
    levels = levels_of(rows)
    return None if levels is None else max(levels.values(), default=0)


def levels_of(rows):
    """How deep calls of doors can be nested, from 1 on, for all doors that have calls which come to a turn.

    None if they can be nested without end.
    """
    links = links_of(rows)
    before = {door: 0 for door in links}
    for following in links.values():
        for door in following:
            before[door] += 1
    levels = {}
    number = 0
    level = [door for door in links if before[door] == 0]
    while level:
        number += 1
        for door in level:
            levels[door] = number
        level = doors_freed(links, level, before)
    # Doors that are left stand in a ring, or behind one.
    return levels if len(levels) == len(links) else None


def doors_freed(links, level, before):
    """The doors that no others stand before any more when those of this level are taken away."""
    freed = []
    for door in level:
        for following in links[door]:
            before[following] -= 1
            if before[following] == 0:
                freed.append(following)
    return freed


def links_of(rows):
    """The links of all doors that have calls which come to a turn."""
    return {door: links_from(rows, door) for door, ways in rows.ways.items() if ways}


def links_from(rows, door):
    """The doors, of those with such calls, whose calls can be made at turns to which calls of this door come.

    Each of them has a shortest piece from a call of this door to such a turn.
    """
    links = {}
    for turn, way in rows.ways[door].items():
        for further in rows.steps.doors_at(turn):
            if rows.ways[further]:
                # The shortest ways come first.
                links.setdefault(further, way)
    return links


def deep_play(machine, depth, during=None):
    """A shortest play behind which just so many callouts are pending at a turn; None if there is none."""
    check_machine(machine)
    check_count(depth, MAX_ASKED)
    rows = Rows(machine, table_for(machine, during))
    if depth == 0:
        return Play(None)
    links = links_of(rows)
    level = {}
    for turn, piece in Routes(rows).turns.items():
        if turn[0] is None:
            for door in rows.steps.doors_at(turn):
                if door in links:
                    level[door] = piece
    for _ in range(depth - 1):
        level = next_level(links, level)
    return nearest_of([joined(piece, nearest_way(rows, door)) for door, piece in level.items()])


def next_level(links, level):
    """The doors whose calls can be made at turns behind calls of the doors of a level, with shortest pieces."""
    found = {}
    for door, piece in level.items():
        for further, way in links[door].items():
            length = length_of(piece) + way.length
            if further not in found or length < found[further][0]:
                found[further] = (length, piece, way)
    return {door: joined(piece, way) for door, (_, piece, way) in found.items()}


def nearest_way(rows, door):
    """A shortest piece from a call of this door to a turn: the shortest ways come first."""
    return list(rows.ways[door].values())[0]


def nearest_of(pieces):
    """A shortest one of these pieces as a play; None without pieces."""
    if not pieces:
        return None
    return Play(min(pieces, key=lambda piece: piece.length))


def coming(machine, during=None):
    """All responses that can come, ascending."""
    check_machine(machine)
    rows = Rows(machine, table_for(machine, during))
    return tuple(sorted(rows.steps.responses))


def play_to(machine, response, during=None):
    """A shortest play that ends with this response; None if it cannot come."""
    check_machine(machine)
    if not is_response(response):
        raise InvalidResponse(response)
    rows = Rows(machine, table_for(machine, during))
    if response not in rows.steps.responses:
        return None
    return Routes(rows).play_to_step(lambda turn, step: step[1] == response)


def is_response(value):
    """Whether any value is a response."""
    if not isinstance(value, tuple) or not 1 <= len(value) <= 3 or not isinstance(value[0], str):
        return False
    if len(value) == 1:
        return value == HANG
    if len(value) == 2:
        return value[0] == "back" and is_integer(value[1])
    return value[0] == "out" and is_name(value[1]) and is_integer(value[2])


def used_lines(module, during=None):
    """The lines of the statements that some play runs, ascending."""
    check_module(module)
    return lines_in(module, Rows(module, table_for(module, during)))


def lines_in(module, rows):
    """The lines of the statements that the calls and answers of these tables run, ascending."""
    steps = rows.steps
    lines = {}
    for store, entry in rows.hops:
        for piece, _, _, _ in steps.calls_from((store, entry)):
            lines.update(module.lines_behind(steps.stores.things[store], None, piece.move))
    for frame, store in steps.from_turns:
        for piece, _, _, _ in steps.answers_at((frame, store)):
            lines.update(module.lines_behind(steps.stores.things[store], steps.waits.things[frame], piece.move))
    return tuple(sorted(lines))
