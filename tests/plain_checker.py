"""The checker once more: points 26 and 27 word by word, without hurry, with `enter` and `resume` of modules alone."""

from reentry.errors import InvalidText
from reentry.expressions import read_expression
from reentry.modules import Module

HANG = ("hang",)


class Wrong(Exception):
    pass


def need(truth):
    if truth is not True:
        raise Wrong


def is_int(value):
    return type(value) is int


def need_tuple(value, many=None):
    need(type(value) is tuple and (many is None or len(value) == many))


def accepts(claim, certificate):
    try:
        check(claim, certificate)
    except Wrong:
        return False
    return True


def module_of(text):
    try:
        return Module.read(text)
    except InvalidText:
        raise Wrong from None


def check(claim, certificate):
    need_tuple(claim)
    need(len(claim) in (3, 4) and type(claim[0]) is str)
    word, module = claim[0], module_of(claim[1])
    need(len(claim) == (3 if word == "endless" else 4))
    need(word in ("alike", "not alike", "always", "not always", "depth", "deep", "endless"))
    during = claim[2] if word in ("depth", "deep", "endless") else claim[3]
    check_during(module, during)
    if word in ("alike", "not alike"):
        other = module_of(claim[2])
        need((module.face.entries, module.face.callouts) == (other.face.entries, other.face.callouts))
        if word == "alike":
            check_table((module, other), during, certificate)
        else:
            first, second = play_of(module, during, certificate)[1], play_of(other, during, certificate)[1]
            need(bool(first) and first[:-1] == second[:-1] and first[-1] != second[-1])
    elif word in ("always", "not always"):
        try:
            condition = read_expression(claim[2])
        except InvalidText:
            raise Wrong from None
        names = [name for name, _, _ in module.variables]
        need(set(condition.names) <= set(names))
        truth = lambda store: condition.evaluate(dict(zip(names, store))) != 0
        if word == "not always":
            (store, waiting), responses = play_of(module, during, certificate)
            need(HANG not in responses and not truth(store))
        else:
            grounds, places, _ = check_table((module,), during, certificate)
            need(all(truth(ground[0]) for ground in grounds) and all(truth(stores[0]) for _, (_, stores) in places))
    elif word == "endless":
        check_endless(module, during, certificate)
    else:
        need(is_int(claim[3]) and claim[3] >= 0)
        if word == "deep":
            (_, waiting), responses = play_of(module, during, certificate)
            need(HANG not in responses and len(waiting) == claim[3])
        else:
            need_tuple(certificate, 2)
            _, places, _ = check_table((module,), during, certificate[0])
            check_ranks(module, during, places, certificate[1], claim[3])


def check_during(module, during):
    need_tuple(during)
    for pair in during:
        need_tuple(pair, 2)
        need(type(pair[0]) is str and pair[0] in [name for name, _, _ in module.face.callouts])
        need(type(pair[1]) is str and pair[1] in [name for name, _, _ in module.face.entries])
    need(all(first < second for first, second in zip(during, during[1:])))


def callout_of(module, frame):
    return module.lines[frame[0]].split()[1]


def check_store(module, store):
    need_tuple(store, len(module.variables))
    for value, (_, size, _) in zip(store, module.variables):
        need(is_int(value) and 0 <= value < size)


def check_frame(module, frame):
    need_tuple(frame, 2)
    line, values = frame
    need(is_int(line) and 0 <= line < len(module.lines) and module.lines[line].startswith("  ") and module.lines[line].split()[0] == "call")
    sizes = []
    for text in module.lines[:line]:
        if text.startswith("entry "):
            sizes = [int(text.split()[2])]
        elif text.startswith("  slot "):
            sizes.append(int(text.split()[2]))
    need_tuple(values, len(sizes))
    need(all(is_int(value) and 0 <= value < size for value, size in zip(values, sizes)))


def check_call(modules, call):
    """The call as a pair of the stores and the rest."""
    need_tuple(call, len(modules) + 2)
    for module, store in zip(modules, call):
        check_store(module, store)
    entry, value = call[len(modules):]
    sizes = [arguments for name, arguments, _ in modules[0].face.entries if type(entry) is str and name == entry]
    need(len(sizes) == 1 and is_int(value) and 0 <= value < sizes[0])
    return call[:len(modules)], entry, value


def check_stores(modules, stores):
    if len(modules) == 1:
        stores = (stores,)
    need_tuple(stores, len(modules))
    for module, store in zip(modules, stores):
        check_store(module, store)
    return stores


def check_place(modules, place):
    """The place as a pair of the frames and the stores."""
    need_tuple(place, 2 * len(modules))
    frames, stores = place[::2], place[1::2]
    for module, frame, store in zip(modules, frames, stores):
        check_frame(module, frame)
        check_store(module, store)
    need(len({callout_of(module, frame) for module, frame in zip(modules, frames)}) == 1)
    return frames, stores


def check_table(modules, during, table):
    """A closed table: its grounds, places and ends, in a form in which stores and frames are tuples of those of the modules."""
    need_tuple(table, 3)
    for rows in table:
        need_tuple(rows)
    grounds = [check_stores(modules, row) for row in table[0]]
    for row in table[1] + table[2]:
        need_tuple(row, 2)
    places = [(check_call(modules, call), check_place(modules, place)) for call, place in table[1]]
    ends = [(check_call(modules, call), check_stores(modules, stores)) for call, stores in table[2]]
    ground_set, place_set, end_set, behind = set(grounds), set(places), set(ends), {}
    for call, stores in ends:
        behind.setdefault(call, []).append(stores)

    def need_step(call, steps):
        need(len({step[0] for step in steps}) == 1)
        stores, frames = tuple(step[1] for step in steps), tuple(step[2] for step in steps)
        if steps[0][0][0] == "back":
            need((call, stores) in end_set)
        elif steps[0][0][0] == "out":
            need((call, (frames, stores)) in place_set)

    def need_covered(stores, entry, value):
        need_step((stores, entry, value), [module.enter(store, entry, value) for module, store in zip(modules, stores)])

    need(tuple(module.first for module in modules) in ground_set)
    for stores in grounds:
        for entry, arguments, _ in modules[0].face.entries:
            for value in range(arguments):
                need_covered(stores, entry, value)
                need(all(after in ground_set for after in behind.get((stores, entry, value), ())))
    for call, (frames, stores) in places:
        callout = callout_of(modules[0], frames[0])
        for entry, arguments, _ in modules[0].face.entries:
            for value in range(arguments if (callout, entry) in during else 0):
                need_covered(stores, entry, value)
                need(all((call, (frames, after)) in place_set for after in behind.get((stores, entry, value), ())))
        answers = [many for name, _, many in modules[0].face.callouts if name == callout][0]
        for answer in range(-1, answers):
            need_step(call, [module.resume(store, frame, answer) for module, store, frame in zip(modules, stores, frames)])
    return grounds, places, ends


def check_ranks(module, during, places, ranks, most):
    need_tuple(ranks, len(places))
    need(all(is_int(rank) and 1 <= rank <= most for rank in ranks))
    for (_, (frames, stores)), rank in zip(places, ranks):
        for (call, _), deeper in zip(places, ranks):
            if call[0] == stores and (callout_of(module, frames[0]), call[1]) in during:
                need(deeper >= rank + 1)


def play_of(module, during, moves):
    """The store and what waits behind a play, and its responses."""
    need_tuple(moves)
    point, responses = (module.first, ()), ()
    for move in moves:
        need(HANG not in responses)
        point, response = behind(module, during, point, move)
        responses += (response,)
    return point, responses


def behind(module, during, point, move):
    store, waiting = point
    need(type(move) is tuple and len(move) in (2, 3) and type(move[0]) is str)
    callout = callout_of(module, waiting[-1]) if waiting else None
    if len(move) == 3:
        sizes = [arguments for name, arguments, _ in module.face.entries if type(move[1]) is str and name == move[1]]
        need(move[0] == "call" and len(sizes) == 1 and is_int(move[2]) and 0 <= move[2] < sizes[0])
        need(not waiting or (callout, move[1]) in during)
        response, store, frame = module.enter(store, move[1], move[2])
    else:
        need(move[0] == "answer" and bool(waiting) and is_int(move[1]))
        need(-1 <= move[1] < [many for name, _, many in module.face.callouts if name == callout][0])
        response, store, frame = module.resume(store, waiting[-1], move[1])
        waiting = waiting[:-1]
    return (store, waiting + ((frame,) if response[0] == "out" else ())), response


def check_endless(module, during, certificate):
    need_tuple(certificate, 2)
    first, second = certificate
    need_tuple(second)
    point, responses = play_of(module, during, first)
    need(HANG not in responses and len(point[1]) > 0)
    (store, waiting), many = point, len(point[1])
    for move in second:
        point, response = behind(module, during, point, move)
        need(response != HANG and len(point[1]) >= many)
    need(point[0] == store and point[1][-1] == waiting[-1] and len(point[1]) > many)
