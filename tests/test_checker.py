import random
import unittest

from reentry.certificates import certify_always, certify_alike, certify_depth
from reentry.checker import holds
from reentry.errors import LimitError
from reentry.expressions import read_expression
from reentry.modules import Module
from reentry.plays import plays
from reentry.sessions import Session, responses_of
from reentry.tables import Table
from tests.oracle import Maker
from tests.plain import HANG, part_of_full, tables_of
from tests.plain_checker import accepts
from tests.test_likeness import COUNTER, EARLY, read
from tests.values import any_values

TEXT = "variable n 2 0\ncallout ask 1 1\nentry go 1 2 z\n  call ask 0\n  return n"
CALL = ((0,), "go", 0)
TABLE = (((0,),), ((CALL, ((3, (0,)), (0,))),), ((CALL, (0,)),))
GO, YES, NO = ("call", "go", 0), ("answer", 0), ("answer", -1)
ASK_GO = (("ask", "go"),)


def modules(seeds, most=150):
    for seed in seeds:
        maker = Maker(seed)
        module = maker.module() if seed % 3 else maker.nested_module()
        table = part_of_full(module, maker.chance) or Table.full(module)
        if tables_of(module, table, most) is not None:
            yield seed, maker, module, table


def proofs_for(maker, module, table):
    """Claims about a module with right certificates."""
    found = []
    for other in maker.others(module):
        if isinstance(other, Module):
            found.append((certify_alike, module, other, table))
    names = [name for name, _, _ in module.variables]
    for _ in range(2 if names else 0):
        found.append((certify_always, module, maker.expression(names), table))
    found.append((certify_always, module, read_expression("1"), table))
    found.append((certify_depth, module, table))
    proofs = []
    for function, *args in found:
        try:
            proofs.append(function(*args))
        except LimitError:
            continue
    play = maker.chance.choice(list(plays(module, 2, table)))
    session = Session(module, table)
    for move in play:
        session(move)
    if not session.is_over:
        proofs.append((("deep", str(module), table.pairs, len(session.pending)), play))
    return proofs


def places_in(value, path=()):
    """The ways to all elements of nested tuples."""
    if type(value) is tuple:
        for index, part in enumerate(value):
            yield path + (index,)
            yield from places_in(part, path + (index,))


def part_at(value, path):
    for index in path:
        value = value[index]
    return value


def put(value, path, change):
    """The nested tuples with another one in the place of the tuple around the last index, as `change` makes it."""
    if len(path) == 1:
        return change(value, path[0])
    return value[:path[0]] + (put(value[path[0]], path[1:], change),) + value[path[0] + 1:]


def changes(part, chance):
    """Ways to change the tuple around an element."""
    yield lambda row, index: row[:index] + row[index + 1:]
    yield lambda row, index: row[:index + 1] + row[index:]
    yield lambda row, index: row[:index] + row[:index:-1] + row[index:index + 1]
    yield lambda row, index: row[:index] + (chance.choice(row),) + row[index + 1:]
    others = [None, [], (), part, [part], (part,), Stranger]
    if type(part) is int:
        others += [part + 1, part - 1, part == 1, str(part), -part, 0, 1, bool(part), 10 ** 59]
    if type(part) is tuple:
        others += [list(part), part[::-1], part + part[-1:], part[:-1]]
    if type(part) is str:
        others += [part + "x", part[:-1], part.encode(), 0]
    for other in others:
        yield lambda row, index, other=other: row[:index] + (other,) + row[index + 1:]


class Stranger:
    def __eq__(self, other):
        return True

    def __hash__(self):
        return 0


class TestAgainstPlainChecker(unittest.TestCase):
    """Right certificates, changed at every place, for the checker and for a plain one."""

    def setUp(self):
        self.counts = {}

    def compare(self, claim, certificate):
        found = holds(claim, certificate)
        self.assertIs(found, accepts(claim, certificate), (claim, certificate))
        key = claim[0], found
        self.counts[key] = self.counts.get(key, 0) + 1
        return found

    def check_changes(self, claim, certificate, chance, many):
        pair = (claim, certificate)
        paths = [path for path in places_in(pair) if len(path) > 1]
        for path in chance.sample(paths, min(len(paths), many)):
            for change in changes(part_at(pair, path), chance):
                changed = put(pair, path, change)
                if isinstance(changed[0], tuple) and changed[0] and isinstance(changed[0][0], str):
                    self.compare(*changed)

    def test_changed_certificates(self):
        for seed, maker, module, table in modules(range(60), 70):
            for claim, certificate in proofs_for(maker, module, table):
                with self.subTest(seed=seed, claim=claim[0]):
                    self.assertIs(self.compare(claim, certificate), True)
                    self.check_changes(claim, certificate, maker.chance, 9)
        for word in ("alike", "not alike", "always", "not always", "depth", "deep", "endless"):
            for found in (True, False):
                self.assertGreater(self.counts.get((word, found), 0), 10, self.counts)

    def test_every_place_of_small_certificates(self):
        chance = random.Random(5)
        module = Module.read(TEXT)
        text = "variable n 2 0\ncallout ask 1 1\nentry go 2 2 z\n  if n\n    return 1\n  assign n z\n  call ask 0\n  assign n 0"
        other = Module.read(text)
        for made in (module, other):
            for table in (Table(), Table(*ASK_GO)):
                for claim, certificate in (certify_alike(made, made, table), certify_always(made, read_expression("below(n, 2)"), table), certify_depth(made, table)):
                    self.assertIs(self.compare(claim, certificate), True)
                    self.check_changes(claim, certificate, chance, 10 ** 6)

    def test_rows_left_out_one_by_one(self):
        for seed, maker, module, table in modules(range(200, 240), 60):
            for claim, certificate in (certify_alike(module, module, table), certify_always(module, read_expression("1"), table)):
                for kind in range(3):
                    for index in range(len(certificate[kind])):
                        rows = certificate[kind][:index] + certificate[kind][index + 1:]
                        # The program's tables have nothing that is not needed.
                        self.assertIs(self.compare(claim, certificate[:kind] + (rows,) + certificate[kind + 1:]), False)

    def test_more_rows_than_needed(self):
        more = 0
        for seed, maker, module, table in modules(range(300, 360)):
            for small in (Table(), table & Table(*table.pairs[:1])):
                for function, args in ((certify_alike, (module, module)), (certify_always, (module, read_expression("1")))):
                    (claim, least), (_, large) = function(*args, small), function(*args, table)
                    more += least != large
                    self.assertIs(self.compare(claim, large), True)
                    both = tuple(rows + extra for rows, extra in zip(least, large))
                    self.assertIs(self.compare(claim, both), True)
                    mixed = []
                    for rows in both:
                        rows = list(rows)
                        maker.chance.shuffle(rows)
                        mixed.append(tuple(rows))
                    self.assertIs(self.compare(claim, tuple(mixed)), True)
        self.assertGreater(more, 20)

    def test_certificates_for_other_claims(self):
        for seed, maker, module, table in modules(range(400, 440), 80):
            proofs = proofs_for(maker, module, table)
            for claim, _ in proofs:
                for _, certificate in proofs:
                    self.compare(claim, certificate)
                    for word in ("alike", "not alike", "always", "not always", "depth", "deep", "endless"):
                        self.compare((word,) + claim[1:], certificate)


class TestClaims(unittest.TestCase):
    def check(self, claim, certificate, expected):
        self.assertIs(holds(claim, certificate), expected)
        self.assertIs(holds(certificate=certificate, claim=claim), expected)
        self.assertIs(accepts(claim, certificate), expected)

    def test_values_of_every_kind(self):
        right = ("always", TEXT, "equal(n, 0)", ())
        self.check(right, TABLE, True)
        for value in any_values() + [Stranger(), holds]:
            self.assertIs(holds(value, TABLE), False)
            self.assertIs(holds(value, value), False)
            self.assertIs(holds(right, value), False)
            for index in range(4):
                if value != () and value != "1" or isinstance(value, Stranger):
                    self.assertIs(holds(right[:index] + (value,) + right[index + 1:], TABLE), False)
            for word in ("alike", "not alike", "always", "not always", "depth", "deep", "endless"):
                for claim in ((word, value), (word, TEXT, value), (word, TEXT, value, ()), (word, TEXT, TEXT, value), (word, TEXT, (), value), (word, value, (), 1), (word,), value):
                    for certificate in (TABLE, value, (TABLE, value), (value, value), (value,), (value, value, value), ((value,), (), ())):
                        self.assertIs(type(holds(claim, certificate)), bool)

    def test_words(self):
        for word in ("Alike", "alike ", "not  alike", "notalike", "", "always not", "deepest", "dept", None, 0, True, ("alike",)):
            for claim in ((word, TEXT, TEXT, ()), (word, TEXT, "n", ()), (word, TEXT, (), 1), (word, TEXT, ())):
                for certificate in (TABLE, (), (TABLE, (1,)), ((GO,), (GO,))):
                    self.check(claim, certificate, False)

    def test_claims_of_other_lengths(self):
        spin = read("variable n 2 0", "callout ask 1 1", "entry go 1 1 z", "  call ask 0", "  assign n 1")
        full = Table(*ASK_GO)
        proofs = [certify_alike(spin, spin), certify_alike(spin, Module.read(TEXT.replace("go 1 2", "go 1 1").replace("n 2 0", "n 2 1").replace("  call ask 0\n", "")))]
        proofs += [certify_always(spin, read_expression("1")), certify_always(spin, read_expression("not(n)")), certify_depth(spin, Table()), certify_depth(spin, full)]
        proofs.append((("deep", str(spin), (), 1), (GO,)))
        self.assertEqual([claim[0] for claim, _ in proofs], ["alike", "not alike", "always", "not always", "depth", "endless", "deep"])
        for claim, certificate in proofs:
            self.check(claim, certificate, True)
            self.check(claim[:-1], certificate, False)
            self.check(claim[1:], certificate, False)
            self.check(list(claim), certificate, False)
            for more in ((), 0, 1, None, claim[-1], str(spin)):
                self.check(claim + (more,), certificate, False)
                self.check(claim[:1] + (more,) + claim[1:], certificate, False)

    def test_texts(self):
        claim, certificate = certify_alike(COUNTER, COUNTER)
        for text in (TEXT, "", str(COUNTER) + "\n", str(COUNTER) + " ", str(COUNTER).replace("return n", "return  n"), COUNTER, str(EARLY), str(COUNTER).encode(), None):
            self.check(claim[:1] + (text,) + claim[2:], certificate, False)
            self.check(claim[:2] + (text,) + claim[3:], certificate, False)
        for text in ("m", "equal(n,0)", "z", "", None, 1, read_expression("equal(n, 0)"), "ask", "go", "equal(n, 1000)"):
            self.check(("always", TEXT, text, ()), TABLE, False)
            self.check(("not always", TEXT, text, ()), (), False)
        for text in ("1", "below(n, 2)", "not(n)", "minus(n, 1)"):
            self.check(("always", TEXT, text, ()), TABLE, True)
        for text in ("0", "n"):
            self.check(("always", TEXT, text, ()), TABLE, False)
            self.check(("not always", TEXT, text, ()), (), True)

    def test_during(self):
        made = read("callout b 1 1", "callout a 1 1", "entry e 1 1 z", "entry d 1 1 z")
        certificate = certify_alike(made, made)[1]
        pairs = (("a", "d"), ("a", "e"), ("b", "d"), ("b", "e"))
        text = str(made)
        for during, expected in (
            (pairs, True), (pairs[1:], True), ((), True), (pairs[::-1], False), (pairs[:1] * 2, False), (pairs[:1] + pairs, False), (list(pairs), False),
            (pairs[2:] + pairs[:2], False), (pairs + (("b", "f"),), False), ((("c", "d"),), False), ((("d", "a"),), False), ((("a", "d", "x"),), False),
            ((["a", "d"],), False), (("a", "d"), False), (None, False), (Table(*pairs), False), ((("a",),), False), (((b"a", "d"),), False), ((None,), False),
        ):
            self.check(("alike", text, text, during), certificate, expected)
            self.check(("always", text, "1", during), certify_always(made, read_expression("1"))[1], expected)
            self.check(("depth", text, during, 0), certify_depth(made)[1], expected)
            self.check(("deep", text, during, 0), (), expected)
            self.check(("not always", text, "0", during), (), expected)

    def test_unlike_faces(self):
        one = read("entry go 1 1 z")
        for lines in (("entry go 1 2 z",), ("entry on 1 1 z",), ("callout c 1 1", "entry go 1 1 z"), ("entry go 2 1 z",), ("entry go 1 1 z", "entry on 1 1 z")):
            other = read(*lines)
            for certificate in (((((), ()),), (), ((((), (), "go", 0), ((), ())),)), (GO,), ()):
                self.check(("alike", str(one), str(other), ()), certificate, False)
                self.check(("not alike", str(one), str(other), ()), certificate, False)

    def test_parting_plays(self):
        claim = ("not alike", str(COUNTER), str(EARLY), (("changed", "add"),))
        add, get = ("call", "add", 1), ("call", "get", 0)
        play = certify_alike(COUNTER, EARLY, Table(("changed", "add")))[1]
        self.check(claim, play, True)
        self.check(claim[:3] + ((),), play, False)
        self.check(claim[:3] + ((("changed", "get"),),), play, False)
        self.check(("not alike", claim[2], claim[1], claim[3]), play, True)
        self.check(claim, play + (get,), False)
        self.check(claim, play[:-1], False)
        self.check(claim, (), False)
        self.check(claim, list(play), False)
        self.check(claim, (get,) + play, True)
        self.check(claim, (add, add, add, ("answer", 0), ("answer", 0)), True)
        self.check(claim, (add, get, ("answer", 0), add, add, ("answer", 0), ("answer", 0)), False)
        for index in range(len(play)):
            for wrong in (("call", "add", 2), ("call", "no", 0), ("answer", 2), ("answer", True), None, list(play[index]), ("call", "add", True), GO):
                self.check(claim, play[:index] + (wrong,) + play[index + 1:], False)
                self.check(claim, play[:index] + (wrong,) + play[index:], False)
        # Behind a hang nothing comes, also where only one of the two hangs.
        spin, still = read("entry go 1 1 z", "  while 1"), read("entry go 1 1 z")
        claim = ("not alike", str(spin), str(still), ())
        self.check(claim, (GO,), True)
        self.check(claim, (GO, GO), False)
        self.check(("not alike", str(spin), str(spin), ()), (GO,), False)

    def test_breaches(self):
        text = str(COUNTER)
        add, get = ("call", "add", 1), ("call", "get", 0)
        claim = ("not always", text, "below(n, 1)", ())
        self.check(claim, (add,), True)
        self.check(claim, (get, add, ("answer", 1), get), True)
        self.check(claim, (get,), False)
        self.check(claim, (), False)
        self.check(claim, (add, add), False)
        self.check(claim[:3] + ((("changed", "add"),),), (add, add), True)
        self.check(claim, [add], False)
        self.check(claim, (list(add),), False)
        hanging = read("variable n 2 0", "entry go 1 1 z", "  assign n 1", "  while 1")
        # It is nobody's turn behind a hang.
        self.check(("not always", str(hanging), "not(n)", ()), (GO,), False)

    def test_depth(self):
        table, ranks = certify_depth(Module.read(TEXT), Table())[1]
        self.check(("depth", TEXT, (), 1), (table, ranks), True)
        for number in (2, 3, 10 ** 59):
            self.check(("depth", TEXT, (), number), (table, ranks), True)
        self.check(("depth", TEXT, (), 3), (table, (3,)), True)
        for number in (0, -1, True, None, "1", (1,)):
            self.check(("depth", TEXT, (), number), (table, ranks), False)
        for wrong in ((), (1, 1), (0,), (2,), (True,), ("1",), (None,), [1], 1, (-1,), None):
            self.check(("depth", TEXT, (), 1), (table, wrong), False)
        self.check(("depth", TEXT, (), 1), (table, ranks, ()), False)
        self.check(("depth", TEXT, (), 1), [table, ranks], False)
        self.check(("depth", TEXT, (), 1), table, False)
        # Under this table there is no depth, so that no ranks will do.
        full = certify_always(Module.read(TEXT), read_expression("1"))[1]
        for number in range(4):
            for rank in range(5):
                self.check(("depth", TEXT, ASK_GO, number), (full, (rank,) * len(full[1])), False)
        # A row that stands there twice has two ranks, each of which must fit.
        two = read("callout a 1 1", "callout b 1 1", "entry go 1 1 z", "  call a 0", "entry on 1 1 z", "  call b 0")
        claim, (table, ranks) = certify_depth(two, Table(("a", "on")))
        self.assertEqual((claim[3], sorted(ranks)), (2, [1, 2]))
        twice = (table[0], table[1] * 2, table[2])
        self.check(claim, (twice, ranks * 2), True)
        for wrong in ((1, 1, 1, 2), (1, 2, 2, 1), (2, 2, 2, 2), (1, 1, 2, 2), (2, 1, 1, 2)):
            deep = [rank for (call, _), rank in zip(twice[1], wrong) if call[1] == "on"]
            flat = [rank for (call, _), rank in zip(twice[1], wrong) if call[1] == "go"]
            self.check(claim, (twice, wrong), max(flat) < min(deep))

    def test_deep_plays(self):
        for many in range(5):
            claim = ("deep", TEXT, ASK_GO, many)
            for play in ((GO,) * many, (GO, YES) + (GO,) * many, (GO,) * (many + 1) + (NO,)):
                self.check(claim, play, True)
                self.check(claim[:3] + (many + 1,), play, False)
                self.check(claim[:3] + (many - 1,), play, False)
                self.check(claim[:2] + ((),) + claim[3:], play, many < 2 and play[:2] != (GO, GO))
            self.check(claim, list((GO,) * many), False)
        self.check(("deep", TEXT, ASK_GO, True), (GO,), False)
        self.check(("deep", TEXT, ASK_GO, 1), (GO, YES, YES), False)
        hanging = read("callout ask 1 1", "entry go 2 1 k", "  if k", "    while 1", "  call ask 0")
        self.check(("deep", str(hanging), ASK_GO, 1), (GO,), True)
        self.check(("deep", str(hanging), ASK_GO, 1), (GO, ("call", "go", 1)), False)
        self.check(("deep", str(hanging), ASK_GO, 0), (("call", "go", 1),), False)

    def test_endless(self):
        claim = ("endless", TEXT, ASK_GO)
        for first in ((GO,), (GO, GO), (GO, YES, GO), (GO, GO, NO)):
            for second, expected in (((GO,), True), ((GO, GO), True), ((GO, YES, GO), True), ((), False), ((GO, YES), False), ((YES, GO), False), ((YES, GO, GO), False), ((GO, YES, YES, GO, GO), False)):
                self.check(claim, (first, second), expected)
                self.check(claim, (first, list(second)), False)
                self.check(claim, [first, second], False)
                self.check(claim, (first, second, ()), False)
                self.check(claim[:2] + ((),), (first, second), False)
        self.check(claim, ((), (GO,)), False)
        self.check(claim, ((GO, YES), (GO,)), False)
        self.check(claim, ((GO,), (("call", "go", 1),)), False)
        self.check(claim + (1,), ((GO,), (GO,)), False)
        # Another callout may take the place of the lowest one, if as many are pending at every turn.
        again = read("callout ask 1 1", "entry go 1 1 z", "  attempt", "    call ask 0", "  call ask 0")
        self.check(("endless", str(again), ASK_GO), ((GO, NO), (GO, NO)), True)
        self.check(("endless", str(again), ASK_GO), ((GO,), (YES, GO)), True)
        self.check(("endless", str(again), ASK_GO), ((GO,), (YES, YES, GO, GO)), False)
        # Behind both plays the frame and the store must be the same.
        slots = read("variable n 3 0", "callout ask 1 1", "entry go 2 1 k", "  assign n plus(n, 1)", "  call ask 0")
        self.check(("endless", str(slots), ASK_GO), ((GO,), (GO, GO, GO)), True)
        self.check(("endless", str(slots), ASK_GO), ((GO,), (GO, GO)), False)
        self.check(("endless", str(slots), ASK_GO), ((GO,), (GO, GO, ("call", "go", 1))), False)
        self.check(("endless", str(slots), ASK_GO), ((("call", "go", 1),), (GO, GO, ("call", "go", 1))), True)
        hanging = read("callout ask 1 1", "entry go 2 1 k", "  if k", "    while 1", "  call ask 0")
        self.check(("endless", str(hanging), ASK_GO), ((GO,), (GO,)), True)
        self.check(("endless", str(hanging), ASK_GO), ((GO,), (GO, ("call", "go", 1))), False)
        self.check(("endless", str(hanging), ASK_GO), ((("call", "go", 1),), (GO,)), False)
        self.check(("endless", str(hanging), ASK_GO), ((GO, ("call", "go", 1)), ()), False)

    def test_lists_and_truths(self):
        claim = ("always", TEXT, "1", ())
        self.check(claim, TABLE, True)
        zero, line = False, 3
        for table in (
            [*TABLE], (list(TABLE[0]),) + TABLE[1:], (TABLE[0], list(TABLE[1]), TABLE[2]), (TABLE[0], TABLE[1], list(TABLE[2])), (([0],),) + TABLE[1:],
            (((zero,),),) + TABLE[1:], (TABLE[0], ((CALL, ((line, (zero,)), (0,))),), TABLE[2]), (TABLE[0], ((((0,), "go", zero), ((line, (0,)), (0,))),), TABLE[2]),
            (TABLE[0], TABLE[1], ((((zero,), "go", 0), (0,)),)), (TABLE[0], TABLE[1], ((CALL, (zero,)),)), (TABLE[0], ((CALL, [(line, (0,)), (0,)]),), TABLE[2]),
            (TABLE[0], ((list(CALL), ((line, (0,)), (0,))),), TABLE[2]), (TABLE[0], ((CALL, ([line, (0,)], (0,))),), TABLE[2]), TABLE + ((),), TABLE[:2],
            (TABLE[0] * 2, TABLE[1] + ((CALL, ((line, (zero,)), (0,))),), TABLE[2]),
        ):
            self.check(claim, table, False)
        one = "variable n 2 1\ncallout ask 1 1\nentry go 1 2 z\n  call ask 0\n  return n"
        call = ((1,), "go", 0)
        self.check(("always", one, "1", ()), (((1,),), ((call, ((3, (0,)), (1,))),), ((call, (1,)),)), True)
        self.check(("always", one, "1", ()), (((True,),), ((call, ((3, (0,)), (1,))),), ((call, (1,)),)), False)
        self.check(("always", one, "1", ()), (((1,),), ((call, ((3, (0,)), (1,))),), ((call, (True,)),)), False)

    def test_rows_of_other_forms(self):
        claim = ("always", TEXT, "1", ())
        for line in (0, 1, 2, 4, 5, -1, -2, "3", None, 10 ** 59):
            row = (CALL, ((line, (0,)), (0,)))
            self.check(claim, (TABLE[0], TABLE[1] + (row,), TABLE[2]), False)
        for frame in ((3,), (3, (0,), 0), (3, ()), (3, (0, 0)), (3, (1,)), (3, 0), ((0,), 3), (3, (-1,))):
            self.check(claim, (TABLE[0], TABLE[1] + ((CALL, (frame, (0,))),), TABLE[2]), False)
        for call in (((0,), "go"), ((0,), "go", 0, 0), ((0,), "go", 1), ((0,), "ask", 0), ("go", (0,), 0), ((2,), "go", 0), ((), "go", 0), ((0,), (0,), "go", 0), ((0,), None, 0)):
            self.check(claim, (TABLE[0], TABLE[1], TABLE[2] + ((call, (0,)),)), False)
            self.check(claim, (TABLE[0], TABLE[1] + ((call, ((3, (0,)), (0,))),), TABLE[2]), False)
        for store in ((2,), (-1,), (), (0, 0), 0, None, ((0,),), (None,), ("0",)):
            self.check(claim, (TABLE[0] + (store,),) + TABLE[1:], False)
            self.check(claim, (TABLE[0], TABLE[1], TABLE[2] + ((CALL, store),)), False)
        # Rows of the right form that are not needed, and ask for nothing that is not there.
        other = ((1,), "go", 0)
        self.check(claim, (TABLE[0], TABLE[1], TABLE[2] + ((other, (0,)), (other, (1,)))), True)
        self.check(claim, (TABLE[0], TABLE[1], TABLE[2] + ((CALL, (1,)),)), False)
        self.check(claim, (TABLE[0], TABLE[1] + ((other, ((3, (0,)), (1,))),), TABLE[2]), False)
        self.check(claim, (TABLE[0], TABLE[1] + ((other, ((3, (0,)), (1,))),), TABLE[2] + ((other, (1,)),)), True)
        self.check(claim, (TABLE[0] + ((1,),), TABLE[1] + ((other, ((3, (0,)), (1,))),), TABLE[2] + ((other, (1,)),)), True)
        self.check(claim, (TABLE[0] + ((1,),), TABLE[1], TABLE[2] + ((other, (1,)),)), False)
        self.check(("always", TEXT, "equal(n, 0)", ()), (TABLE[0], TABLE[1] + ((other, ((3, (0,)), (1,))),), TABLE[2] + ((other, (1,)),)), False)

    def test_places_that_call_different_callouts(self):
        one = read("callout a 1 1", "callout b 1 1", "entry go 1 1 z", "  call a 0", "  call b 0")
        claim, table = certify_alike(one, one)
        self.check(claim, table, True)
        call = ((), (), "go", 0)
        self.check(claim, (table[0], table[1] + ((call, ((3, (0,)), (), (4, (0,)), ())),), table[2]), False)
        self.assertIn((call, ((3, (0,)), (), (3, (0,)), ())), table[1])
        # Both answer in the same way, so that nothing but the callouts tells such a place from the others.
        two = read("callout a 1 1", "callout b 1 1", "entry go 2 1 k", "  if k", "    call a 0", "  else", "    call b 0")
        claim, table = certify_alike(two, two, Table())
        self.check(claim, table, True)
        for first, second, expected in (((4, (1,)), (6, (0,)), False), ((6, (0,)), (4, (1,)), False), ((4, (1,)), (4, (0,)), True), ((6, (0,)), (6, (1,)), True)):
            self.check(claim, (table[0], table[1] + ((call, (first, (), second, ())),), table[2]), expected)

    def test_calls_that_are_made_at_places_alone(self):
        # The store with which this module calls out is no ground: what comes from it is asked for by the place.
        made = read("variable n 3 0", "callout ask 1 1", "entry go 1 2 z", "  if n", "    return 1", "  assign n 1", "  attempt", "    call ask 0", "  assign n 0")
        full = Table(*ASK_GO)
        for claim, table in (certify_alike(made, made, full), certify_always(made, read_expression("below(n, 2)"), full)):
            self.assertEqual([len(rows) for rows in table], [1, 1, 2])
            self.check(claim, table, True)
            for index in range(2):
                rows = table[2][:index] + table[2][index + 1:]
                self.check(claim, table[:2] + (rows,), False)
                self.check(claim[:3] + ((),), table[:2] + (rows,), table[2][index][0][0] == (1,))
        claim, (table, ranks) = certify_depth(made, full)
        self.assertEqual((claim[3], ranks), (1, (1,)))
        for index in range(2):
            self.check(claim, ((table[0], table[1], table[2][:index] + table[2][index + 1:]), ranks), False)
        # Such a call hides a breach, another response, and a deeper call where it is left out.
        bad = Module.read(str(made).replace("    return 1", "    assign n 2\n    return 1"))
        call, within = ((0,), "go", 0), ((1,), "go", 0)
        hiding = (((0,),), ((call, ((8, (0,)), (1,))),), ((call, (0,)),))
        shown = (hiding[0], hiding[1] + ((call, ((8, (0,)), (2,))),), hiding[2] + ((within, (2,)), (((2,), "go", 0), (2,))))
        for condition, expected in (("below(n, 2)", False), ("below(n, 3)", True)):
            self.check(("always", str(bad), condition, ()), hiding, True)
            self.check(("always", str(bad), condition, ASK_GO), hiding, False)
            self.check(("always", str(bad), condition, ASK_GO), shown, expected)
        other = Module.read(str(made).replace("    return 1", "    return 0"))
        call = ((0,), (0,), "go", 0)
        both = ((((0,), (0,)),), ((call, ((7, (0,)), (1,), (7, (0,)), (1,))),), ((call, ((0,), (0,))),))
        self.check(("alike", str(made), str(other), ()), both, True)
        self.check(("alike", str(made), str(other), ASK_GO), both, False)
        deep = read("variable n 2 0", "callout ask 1 1", "entry go 1 1 z", "  assign n plus(n, 1)", "  attempt", "    call ask 0", "  assign n 0")
        call, within = ((0,), "go", 0), ((1,), "go", 0)
        flat = (((0,),), ((call, ((5, (0,)), (1,))),), ((call, (0,)),))
        self.check(("depth", str(deep), (), 1), (flat, (1,)), True)
        self.check(("depth", str(deep), ASK_GO, 1), (flat, (1,)), False)

    def test_pair_rows_of_other_forms(self):
        claim, table = certify_alike(Module.read(TEXT), Module.read(TEXT), Table())
        self.check(claim, table, True)
        other = ((1,), (1,), "go", 0)
        place, end = ((3, (0,)), (1,), (3, (0,)), (1,)), ((1,), (1,))
        self.check(claim, (table[0], table[1] + ((other, place),), table[2] + ((other, end),)), True)
        self.check(claim, (table[0], table[1], table[2] + ((other, end),)), True)
        for call in (
            ((2,), (1,), "go", 0), ((1,), (2,), "go", 0), ((True,), (1,), "go", 0), ((1,), (True,), "go", 0), ([1], (1,), "go", 0), ((1,), [1], "go", 0), ((1,), "go", 0),
            ((1,), (1,), "go", 1), ((1,), (1,), "go", False), ((1,), (1,), "ask", 0), ((1,), (1,), "go"), ((1,), (1,), "go", 0, 0), (((1,), (1,)), "go", 0), list(other), None,
        ):
            self.check(claim, (table[0], table[1], table[2] + ((call, end),)), False)
            self.check(claim, (table[0], table[1] + ((call, place),), table[2] + ((call, end),)), False)
        for store in (((1,), (2,)), ((2,), (1,)), ((1,),), (1,), ((1,), (1,), (1,)), ((True,), (1,)), ((1,), (True,)), [(1,), (1,)], ([1], (1,)), ((1,), [1]), (), None):
            self.check(claim, (table[0], table[1], table[2] + ((other, store),)), False)
            self.check(claim, (table[0] + (store,), table[1], table[2]), False)
        for index, wrongs in ((0, ((4, (0,)), (3, (1,)), (3, (False,)), [3, (0,)], (3,), None)), (1, ((2,), (True,), [1], (), None))):
            for wrong in wrongs:
                for side in (index, index + 2):
                    row = (other, place[:side] + (wrong,) + place[side + 1:])
                    self.check(claim, (table[0], table[1] + (row,), table[2] + ((other, end),)), False)
        for row in ((other,), (other, place, place), [other, place], (place, other), (other, place[:3]), (other, place + ((1,),)), (other, list(place)), other, None):
            self.check(claim, (table[0], table[1] + (row,), table[2] + ((other, end),)), False)
        for row in ((other,), (other, end, end), [other, end], (end, other), other, None):
            self.check(claim, (table[0], table[1], table[2] + (row,)), False)

    def test_no_limit_of_rows(self):
        # Tables of more than 20,000 rows: all stores of four variables, none of which is needed.
        made = read("variable a 10 0", "variable b 10 0", "variable c 8 0", "variable d 5 0", "entry go 1 1 z")
        stores = [(a, b, c, d) for a in range(10) for b in range(10) for c in range(8) for d in range(5)]
        ends = tuple(((store, "go", 0), store) for store in stores)
        self.assertIs(holds(("always", str(made), "1", ()), (tuple(stores), (), ends)), True)
        self.assertIs(holds(("always", str(made), "1", ()), (tuple(stores), (), ends[:-1])), False)
        text = "\n".join(f"variable {name} {size} 0" for name, size in (("a", 10), ("b", 10))) + "\n"
        text += "\n".join(f"entry e{index} 40 1 k\n  assign a plus(a, k)\n  assign b plus(b, times(k, {index}))" for index in range(5))
        made, stores = Module.read(text), [(a, b) for a in range(10) for b in range(10)]
        ends = tuple(((store, f"e{index}", k), ((store[0] + k) % 10, (store[1] + k * index) % 10)) for store in stores for index in range(5) for k in range(40))
        self.assertGreater(len(stores) + len(ends), 20000)
        self.assertIs(holds(("always", text, "below(a, 10)", ()), (tuple(stores), (), ends)), True)
        self.assertIs(holds(("always", text, "below(a, 9)", ()), (tuple(stores), (), ends)), False)
        self.assertIs(holds(("always", text, "below(a, 10)", ()), (tuple(stores), (), ends[:-1])), False)
        pairs = tuple(((store, store, entry, k), (after, after)) for (store, entry, k), after in ends)
        self.assertIs(holds(("alike", text, text, ()), (tuple((store, store) for store in stores), (), pairs)), True)

    def test_long_plays(self):
        self.assertIs(holds(("deep", TEXT, ASK_GO, 1000), (GO,) * 1000), True)
        self.assertIs(holds(("deep", TEXT, ASK_GO, 0), (GO, YES) * 1000), True)
        self.assertIs(holds(("endless", TEXT, ASK_GO), ((GO, YES) * 500 + (GO,), (GO, YES) * 500 + (GO,))), True)

    def test_hangs_ask_for_nothing(self):
        spin = read("variable n 2 0", "entry go 2 1 k", "  assign n 1", "  while k", "  assign n 0")
        claim, table = certify_always(spin, read_expression("not(n)"))
        self.assertEqual(table, (((0,),), (), ((((0,), "go", 0), (0,)),)))
        self.check(claim, table, True)
        self.check(("alike", str(spin), str(spin), ()), ((((0,), (0,)),), (), ((((0,), (0,), "go", 0), ((0,), (0,))),)), True)
        still = str(spin).replace("  while k\n", "")
        self.check(("alike", str(spin), still, ()), ((((0,), (0,)),), (), ((((0,), (0,), "go", 0), ((0,), (0,))),)), False)
