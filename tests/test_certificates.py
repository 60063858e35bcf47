import unittest

from reentry import errors
from reentry.always import holds_always
from reentry.certificates import certify_always, certify_alike, certify_depth
from reentry.checker import holds
from reentry.depth import depth_of
from reentry.expressions import Number, read_expression
from reentry.likeness import alike
from reentry.modules import Module
from reentry.rings import links_from, parts_of, ring_from, ring_parts
from reentry.routes import Routes
from reentry.rows import Rows
from reentry.sessions import Session
from reentry.tables import Table, table_for
from tests.oracle import Maker
from tests.plain import HANG, Pair, Search, made, moves_at, part_of_full, tables_of
from tests.plain_checker import accepts
from tests.test_likeness import COUNTER, EARLY, read
from tests.test_long_plays import doubling, expected_length
from tests.values import check_error

OPPOSITE = {"alike": "not alike", "not alike": "alike", "always": "not always", "not always": "always"}


def small_modules(seeds, most=300):
    for seed in seeds:
        maker = Maker(seed)
        module = maker.module() if seed % 3 else maker.nested_module()
        table = part_of_full(module, maker.chance)
        if tables_of(module, table, most) is not None:
            yield seed, maker, module, table


class TestCertificates(unittest.TestCase):
    def check(self, function, *args, plain=True):
        """The claim and the certificate, which the checker accepts, and which it does not accept for the opposite."""
        proof = function(*args)
        self.assertIs(type(proof), tuple)
        claim, certificate = proof
        self.assertIs(holds(claim, certificate), True)
        if plain:
            self.assertIs(accepts(claim, certificate), True)
        if claim[0] in OPPOSITE:
            self.assertIs(holds((OPPOSITE[claim[0]],) + claim[1:], certificate), False)
        if claim[0] == "depth":
            self.assertIs(holds(claim[:3] + (claim[3] - 1,), certificate), False)
            self.assertIs(holds(("endless",) + claim[1:3], certificate), False)
        self.assertEqual(function(*args), proof)
        return claim, certificate

    def during(self, module, table):
        return table_for(module, table).pairs

    def test_alike(self):
        counts = {}
        for seed, maker, module, table in small_modules(range(150)):
            for other in maker.others(module):
                if not isinstance(other, Module) or tables_of(Pair(module, other), table, 200) is None:
                    continue
                with self.subTest(seed=seed):
                    claim, certificate = self.check(certify_alike, module, other, table)
                    word = "alike" if alike(module, other, table) else "not alike"
                    self.assertEqual(claim, (word, str(module), str(other), self.during(module, table)))
                    self.assertEqual(certify_alike(during=table, other=other, one=module), (claim, certificate))
                    if word == "alike":
                        grounds, places, ends = tables_of(Pair(module, other), table)
                        self.assertEqual(len(certificate[0]), len(set(certificate[0])))
                        self.assertEqual(set(certificate[0]), grounds)
                        self.assertEqual({(call[:2], *call[2:], (place[::2], place[1::2])) for call, place in certificate[1]}, {(*call, place) for call, place in places})
                        self.assertEqual({(call[:2], *call[2:], stores) for call, stores in certificate[2]}, {(*call, stores) for call, stores in ends})
                    counts[word] = counts.get(word, 0) + 1
        self.assertGreater(min(counts.values()), 60, counts)

    def test_always(self):
        counts = {}
        for seed, maker, module, table in small_modules(range(200)):
            names = [name for name, _, _ in module.variables]
            for condition in [maker.expression(names) for _ in range(2 if names else 0)] + [Number(0), Number(7)]:
                with self.subTest(seed=seed):
                    claim, certificate = self.check(certify_always, module, condition, table)
                    word = "always" if holds_always(module, condition, table) else "not always"
                    self.assertEqual(claim, (word, str(module), str(condition), self.during(module, table)))
                    self.assertEqual(certify_always(during=table, condition=condition, module=module), (claim, certificate))
                    if word == "always":
                        for rows, plain in zip(certificate, tables_of(module, table)):
                            self.assertEqual((len(rows), set(rows)), (len(plain), plain))
                    counts[word] = counts.get(word, 0) + 1
        self.assertGreater(min(counts.values()), 100, counts)

    def test_depth(self):
        counts = {}
        for seed, maker, module, table in small_modules(range(300)):
            with self.subTest(seed=seed):
                claim, certificate = self.check(certify_depth, module, table)
                depth = depth_of(module, table)
                pair = (str(module), self.during(module, table))
                self.assertEqual(claim, ("endless",) + pair if depth is None else ("depth",) + pair + (depth,))
                self.assertEqual(certify_depth(during=table, module=module), (claim, certificate))
                if depth is None:
                    self.assertEqual([type(play) for play in certificate], [tuple, tuple])
                    self.assertLessEqual(max(len(play) for play in certificate), 400)
                counts[depth] = counts.get(depth, 0) + 1
        self.assertGreater(min(counts[depth] for depth in (None, 0, 1)), 20, counts)
        self.assertGreater(sum(counts.get(depth, 0) for depth in (2, 3)), 8, counts)

    def test_examples_of_each_word(self):
        self.assertEqual(self.check(certify_alike, COUNTER, COUNTER)[0][0], "alike")
        self.assertEqual(self.check(certify_alike, COUNTER, EARLY)[0][0], "not alike")
        self.assertEqual(self.check(certify_alike, COUNTER, EARLY, Table())[0][3], ())
        self.assertEqual(self.check(certify_always, COUNTER, read_expression("below(n, 4)"))[0][3], (("changed", "add"), ("changed", "get")))
        self.assertEqual(self.check(certify_always, COUNTER, read_expression("below(n, 3)"))[0][0], "not always")
        self.assertEqual(self.check(certify_depth, COUNTER, Table())[0][3], 1)
        self.assertEqual(self.check(certify_depth, COUNTER)[0][0], "endless")
        self.assertEqual(self.check(certify_depth, doubling(12))[0][3], 12)
        self.assertEqual(self.check(certify_depth, read("entry go 1 1 z"))[1], ((((),), (), ((((), "go", 0), ()),)), ()))
        self.assertEqual(certify_always(COUNTER, read_expression("n"))[1], ())

    def test_large_tables(self):
        lines = ["variable a 13 0", "callout c 1 3", "entry go 40 1 k", "  call c 0", "  assign a plus(a, k)", "entry on 5 1 k", "  assign a plus(a, k)", "  call c 0"]
        made_so = read(*lines)
        claim, certificate = self.check(certify_alike, made_so, made_so, plain=False)
        self.assertGreater(sum(len(rows) for rows in certificate), 15000)
        self.check(certify_always, made_so, read_expression("below(a, 13)"), plain=False)
        self.assertEqual(certify_depth(made_so)[0][0], "endless")
        self.check(certify_depth, made_so, Table(("c", "on")) - Table(("c", "on")), plain=False)


class TestLongPlays(unittest.TestCase):
    def test_doubling(self):
        for level in (4, 5, 6, 7, 8, 24):
            length = expected_length(level)
            one, other = doubling(level, f"both(ok, equal(m, {level}))"), doubling(level, "0")
            condition = read_expression(f"not(both(equal(l, {level}), ok))")
            if length <= 400:
                for claim, certificate in (certify_alike(one, other), certify_always(one, condition)):
                    self.assertEqual((claim[0][:3], len(certificate)), ("not", length))
                    self.assertIs(holds(claim, certificate), True)
            else:
                check_error(self, errors.TooLong, {"limit": 400}, certify_alike, one, other)
                check_error(self, errors.TooLong, {"limit": 400}, certify_alike, other, one)
                check_error(self, errors.TooLong, {"limit": 400}, certify_always, one, condition)
            self.assertEqual(certify_alike(one, other, Table())[0][0], "alike")
            self.assertEqual(certify_always(one, condition, Table())[0][0], "always")

    def counting(self, last, *tail):
        """A module whose entry counts up to `last` and then runs these lines."""
        return read(
            "variable n 21 0", "variable m 20 0", "callout c 1 1", "entry go 1 2 z", f"  if equal(plus(times(n, 20), m), {last})", *tail,
            "  assign m plus(m, 1)", "  if equal(m, 0)", "    assign n plus(n, 1)",
        )

    def test_just_400_moves(self):
        for last, fits in ((398, True), (399, True), (400, False)):
            one, other = self.counting(last, "    return 1"), self.counting(last, "    return 0")
            condition = read_expression(f"below(plus(times(n, 20), m), {last + 1})")
            if fits:
                claim, certificate = certify_alike(one, other)
                self.assertEqual((claim[0], len(certificate)), ("not alike", last + 1))
                self.assertIs(holds(claim, certificate), True)
                claim, certificate = certify_always(other.read(str(other).replace("    return 0", "    assign m m")), condition)
                self.assertEqual((claim[0], len(certificate)), ("not always", last + 1))
                self.assertIs(holds(claim, certificate), True)
            else:
                check_error(self, errors.TooLong, {"limit": 400}, certify_alike, one, other)
                check_error(self, errors.TooLong, {"limit": 400}, certify_always, other.read(str(other).replace("    return 0", "    assign m m")), condition)


class TestEndless(unittest.TestCase):
    def plain_ring(self, machine, table, frame, callout, store, most):
        """The length of a shortest way to the same turn with more pending, found move by move; None beyond `most`."""
        start = (store, ((callout, frame),))
        level, seen = [start], {start}
        for length in range(1, most + 1):
            further = []
            for store_now, waiting in level:
                for move in moves_at(machine, table, waiting):
                    response, behind, left = made(machine, store_now, waiting, move)
                    if response == HANG or not left or (behind, left) in seen:
                        continue
                    if behind == store and left[-1][1] == frame and len(left) > 1:
                        return length
                    seen.add((behind, left))
                    further.append((behind, left))
            level = further
        return None

    def test_shortest_rings(self):
        counts = {}
        for seed, maker, module, table in small_modules(range(150), 120):
            rows = Rows(module, table_for(module, table))
            turns = [turn for turn in Routes(rows).turns if turn[0] is not None]
            links = {turn: links_from(rows, turn) for turn in turns}
            parts = parts_of(links)
            rings = ring_parts(links, parts)
            for frame, store in turns[:6]:
                piece = ring_from(links, parts, (frame, store)) if parts[(frame, store)] in rings else None
                steps = rows.steps
                plain = self.plain_ring(module, table, steps.waits.things[frame], steps.callouts[frame], steps.stores.things[store], 4)
                if plain is not None:
                    self.assertEqual(piece.length, plain)
                elif piece is not None:
                    self.assertGreater(piece.length, 4)
                word = "none" if piece is None else "long" if plain is None else "short"
                counts[word] = counts.get(word, 0) + 1
        self.assertGreater(min(counts[word] for word in ("none", "short")), 50, counts)
        self.assertGreater(counts["long"], 3, counts)

    def check(self, module, table=None, lengths=None):
        claim, certificate = certify_depth(module, table)
        self.assertEqual(claim, ("endless", str(module), table_for(module, table).pairs))
        self.assertIs(holds(claim, certificate), True)
        self.assertLessEqual(max(len(play) for play in certificate), 400)
        if lengths is not None:
            self.assertEqual(tuple(len(play) for play in certificate), lengths)

    def check_too_long(self, module, table=None):
        """Nothing is promised, but that there is no depth."""
        self.assertIsNone(depth_of(module, table))
        check_error(self, errors.TooLong, {"limit": 400}, certify_depth, module, table)

    def test_calls_back_at_once(self):
        self.check(read("callout c 1 1", "entry go 1 1 z", "  call c 0"), None, (1, 1))
        self.check(read("callout c 1 1", "callout d 1 1", "entry go 1 1 z", "  call c 0", "entry on 1 1 z", "  call d 0"), Table(("c", "on"), ("d", "go")), (1, 2))

    def test_counting_before(self):
        # The last call of many counts far by the answers that it gets, and only then makes the callout that counts.
        for last in (10, 397, 398, 399, 400, 401, 700):
            module = read(
                "variable n 36 0", "variable m 20 0", "callout tick 1 1", "callout c 1 1", "entry go 1 1 z",
                f"  while below(plus(times(n, 20), m), {last})", "    attempt", "      call tick 0", "    assign m plus(m, 1)", "    if equal(m, 0)", "      assign n plus(n, 1)",
                "  call c 0",
            )
            table = Table(("c", "go"))
            if last <= 399:
                self.check(module, table, (last + 1, 1))
            else:
                self.check_too_long(module, table)

    def test_counting_between(self):
        # Each call back begins to count anew.
        for last in (10, 398, 399, 400, 700):
            module = read(
                "variable n 36 0", "variable m 20 0", "callout tick 1 1", "callout c 1 1", "entry go 1 1 z", "  assign n 0", "  assign m 0",
                f"  while below(plus(times(n, 20), m), {last})", "    attempt", "      call tick 0", "    assign m plus(m, 1)", "    if equal(m, 0)", "      assign n plus(n, 1)",
                "  call c 0",
            )
            table = Table(("c", "go"))
            if last <= 399:
                self.check(module, table, (1, last + 1))
            else:
                self.check_too_long(module, table)

    def ring_far_away(self, size, start):
        """Calls nest in a ring of `size` * 20 stores; one entry more nests at once, at one of these stores alone."""
        return read(
            f"variable n {size} 0", "variable m 20 0", "callout c 1 1", "entry go 1 1 z", "  assign m plus(m, 1)", "  if equal(m, 0)", "    assign n plus(n, 1)",
            "  while 1", "    attempt", "      call c 0", "entry on 1 1 z", f"  if equal(plus(times(n, 20), m), {start})", "    while 1", "      attempt", "        call c 0", "  while 1",
        )

    def test_a_short_ring_behind_long_ones(self):
        for size, start, lengths in ((20, 5, None), (25, 5, (6, 1)), (25, 300, (301, 1)), (25, 399, (400, 1)), (38, 399, (400, 1))):
            self.check(self.ring_far_away(size, start), None, lengths)
        for size, start in ((25, 400), (25, 499), (38, 700)):
            self.check_too_long(self.ring_far_away(size, start))
        self.check(self.ring_far_away(20, 999), None, (1, 400))
        self.check_too_long(self.ring_far_away(21, 999))

    def test_other_turns_of_the_same_ring(self):
        # To be nested without end, calls must first be taken to the ring, and every turn of it is as good as another.
        module = read(
            "variable n 40 0", "callout c 1 1", "entry go 1 1 z", "  assign n plus(n, 1)", "  if equal(n, 39)", "    assign n 30", "  while 1", "    attempt", "      call c 0",
        )
        self.check(module, None, (30, 9))

    def test_a_callout_that_takes_the_place_of_another(self):
        # An answer leads from the first callout of a call to the second one, at which the calls back are allowed.
        module = read("variable n 2 0", "callout a 1 1", "callout b 1 1", "entry go 1 1 z", "  attempt", "    call a 0", "  call b 0")
        self.check(module, Table(("b", "go")), (1, 2))
        self.check(module, Table(("a", "go")), (1, 1))

    def test_hops_lead_back(self):
        # A call back that returns must set the variable before the next one can be nested.
        module = read("variable n 3 0", "callout c 1 1", "entry go 1 1 z", "  if not(equal(n, 2))", "    fail", "  assign n 0", "  call c 0", "entry up 1 1 z", "  assign n plus(n, 1)")
        self.check(module, None, (3, 3))
        session = Session(module)
        for move in sum(certify_depth(module)[1], ()):
            session(move)
        self.assertEqual(session.pending, ("c", "c"))
