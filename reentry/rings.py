"""Turns to which some play leads back with more callouts pending, so that calls can be nested without end."""

from reentry.errors import TooLong
from reentry.limits import MAX_WRITTEN
from reentry.offers import Offers
from reentry.pieces import length_of, moves_in
from reentry.routes import Routes


def endless_plays(rows):
    """A play to a turn, and one that goes on from there to the same turn with more callouts pending.

    Neither has more than 400 moves: all turns are tried that are near enough, in the sequence of their distance.
    """
    turns = Routes(rows).turns
    links = {turn: links_from(rows, turn) for turn in turns if turn[0] is not None}
    parts = parts_of(links)
    rings = ring_parts(links, parts)
    for turn, piece in turns.items():
        if turn[0] is not None and parts[turn] in rings and piece.length <= MAX_WRITTEN:
            ring = ring_from(links, parts, turn)
            if ring is not None:
                return moves_in(piece, 0, piece.length), moves_in(ring, 0, ring.length)
    raise TooLong(MAX_WRITTEN)


def links_from(rows, turn):
    """The turns to which the surroundings come from a turn, with at least as many callouts pending.

    Each of them stands in a triple with a shortest piece and 1 if more are pending there, otherwise 0.
    """
    frame, store = turn
    links = []
    for door in rows.steps.doors_at(turn):
        links += [((frame, after), hop, 0) for after, hop in rows.hops[door].items() if after != store]
        links += links_behind(rows.steps.calls_from(door), 1)
    return links + links_behind(rows.steps.answers_at(turn), 0)


def links_behind(steps, more):
    """Links to the turns behind those of the steps that call out."""
    return [((frame, store), piece, more) for piece, _, store, frame in steps if frame is not None]


def parts_of(links):
    """A number for each turn; two turns have the same one if each of them leads to the other."""
    back = {turn: [] for turn in links}
    for turn, following in links.items():
        for further, _, _ in following:
            back[further].append(turn)
    parts = {}
    for root in reversed(order_of_leaving(links)):
        ahead = [root]
        while ahead:
            turn = ahead.pop()
            if turn not in parts:
                parts[turn] = parts.get(root, len(parts))
                ahead += back[turn]
    return parts


def order_of_leaving(links):
    """All turns, in the sequence in which a search in depth leaves them."""
    seen = {}
    left = []
    for root in links:
        ahead = [(root, False)]
        while ahead:
            turn, is_done = ahead.pop()
            if is_done:
                left.append(turn)
            elif turn not in seen:
                seen[turn] = True
                ahead.append((turn, True))
                ahead += [(further, False) for further, _, _ in links[turn]]
    return left


def ring_parts(links, parts):
    """The numbers of the parts in which a link leads to where more callouts are pending, as the keys of a dict."""
    rings = {}
    for turn, following in links.items():
        for further, _, more in following:
            if more and parts[turn] == parts[further]:
                rings[parts[turn]] = True
    return rings


def ring_from(links, parts, start):
    """A shortest piece from a turn to the same turn with more pending; None if it has more than 400 moves."""
    offers = Offers()
    offers.offer((start, 0), None, None)
    taken = offers.take()
    while taken is not None:
        (turn, deeper), piece = taken
        if turn == start and deeper:
            return piece
        for further, way, more in links[turn]:
            if parts[further] == parts[start] and length_of(piece) + way.length <= MAX_WRITTEN:
                offers.offer((further, max(deeper, more)), piece, way)
        taken = offers.take()
    return None
