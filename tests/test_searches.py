import unittest

from reentry.always import breach, holds_always, is_kept, violation
from reentry.beside import Beside
from reentry.depth import coming, deep_play, depth_of, play_to, used_lines
from reentry.errors import TooLarge
from reentry.likeness import alike, parting
from reentry.machines import Begun, Guarded, Watched
from reentry.modules import Module
from reentry.routes import Routes
from reentry.rows import Rows
from reentry.rules import Rule
from reentry.sessions import Session, responses_of
from reentry.tables import Table, table_for
from tests.oracle import Maker, OracleSession
from tests.plain import HANG, Lengths, Pair, Search, moves_at, part_of_full, tables_of

MOST = 5


def program_lengths(system, table):
    """The lengths of shortest plays to all turns, from the program."""
    routes = Routes(Rows(system, table))
    steps = routes.rows.steps
    frames, stores = {None: None, **dict(enumerate(steps.waits.things))}, steps.stores.things
    return {(frames[frame], stores[store]): 0 if piece is None else piece.length for (frame, store), piece in routes.turns.items()}


class TestTables(unittest.TestCase):
    """The tables of point 26 and the lengths of plays to all turns, against rules that are applied without hurry."""

    def check(self, machine, table, seen):
        tables = tables_of(machine, table, 800)
        if tables is None:
            return
        system = Beside(machine.one, machine.other) if isinstance(machine, Pair) else machine
        given = table_for(system.one if isinstance(system, Beside) else system, table)
        self.assertEqual(Rows(system, given).many, sum(len(part) for part in tables))
        lengths = Lengths(machine, table)
        self.assertEqual(program_lengths(system, given), lengths.turns)
        seen.append(max(lengths.turns.values()))
        if not isinstance(machine, Pair):
            deep = [deep_play(machine, many, table) for many in range(9)]
            self.assertEqual([None if play is None else play.length for play in deep], lengths.deep(8))

    def test_modules_and_machines(self):
        seen = []
        for seed in range(400):
            maker = Maker(seed)
            machine = maker.machine() if seed % 2 else maker.module("1")
            self.check(machine, part_of_full(machine, maker.chance), seen)
        self.assertGreater(len([length for length in seen if length > 3]), 20)

    def test_long_plays(self):
        seen = []
        for seed in range(120):
            maker = Maker(seed)
            machine = maker.nested_module()
            self.check(machine, part_of_full(machine, maker.chance), seen)
        self.assertGreater(len([length for length in seen if length > 15]), 20)

    def test_pairs(self):
        seen = []
        for seed in range(80):
            maker = Maker(seed)
            machine = maker.nested_module()
            other = maker.nested_module()
            others = [Guarded(machine), Begun(machine, (2, 1))] + [other] * (other.face == machine.face)
            for other in others:
                self.check(Pair(machine, other), part_of_full(machine, maker.chance), seen)
        self.assertGreater(len([length for length in seen if length > 10]), 20)


class TestSearches(unittest.TestCase):
    """Answers and plays for modules and machines that are made by chance, against all short plays."""

    def setUp(self):
        self.counts = {}

    def machines(self, seeds):
        """Small machines, each with its maker, a table and all its short plays."""
        for seed in seeds:
            maker = Maker(seed)
            machine = (maker.module, maker.machine, maker.nested_module)[seed % 3]()
            table = part_of_full(machine, maker.chance)
            if tables_of(machine, table, 800) is not None:
                with self.subTest(seed=seed):
                    yield maker, machine, table, Search(machine, table, MOST)

    def same(self, play, plain):
        """The play is none shorter or longer than the shortest plain one, which is None if there is none of MOST moves."""
        if plain is not None:
            self.assertIsNotNone(play)
            self.assertEqual(play.length, len(plain))
        elif play is not None:
            self.assertGreater(play.length, MOST)
        word = "none" if play is None else "long" if plain is None else "short"
        self.counts[word] = self.counts.get(word, 0) + 1

    def check_counts(self, least):
        self.assertGreaterEqual(min(self.counts.get(word, 0) for word in ("none", "long", "short")), least, self.counts)

    def session_behind(self, machine, play, table):
        session = Session(machine, table)
        for move in play.moves():
            session(move)
        return session

    def test_conditions(self):
        for maker, machine, table, search in self.machines(range(360)):
            names = [name for name, _, _ in machine.variables]
            for _ in range(3 if names else 0):
                condition = maker.expression(names)

                def is_false(shown):
                    return condition.evaluate(dict(zip(names, shown))) == 0

                play = breach(machine, condition, table)
                self.same(play, search.nearest(lambda store, waiting: is_false(machine.values_in(store))))
                self.assertIs(holds_always(machine, condition, table), play is None)
                if play is not None:
                    session = self.session_behind(machine, play, table)
                    self.assertTrue(is_false(session.shown) and not session.is_over)
        self.check_counts(1)

    def bad_play(self, machine, rule, table):
        """A shortest play that leads a rule to a bad state, of at most MOST moves; None if there is none."""
        found = [()] if 0 in rule.bad else []

        def watch(play, store, waiting, move, response, behind, left):
            event = move if move[0] == "call" else ("answer", waiting[-1][0], move[1])
            state = rule.after(store[1], event)
            if state in rule.bad or (rule.after(state, HANG) if response == HANG else behind[1]) in rule.bad:
                found.append(play + (move,))

        Search(Watched(machine, rule), table, MOST, watch)
        return min(found, key=len) if found else None

    def test_rules(self):
        for maker, machine, table, _ in self.machines(range(600)):
            rule = maker.rule(machine)
            if maker.chance.random() < 0.5:
                rule = Rule(rule.steps + tuple((state, HANG, 3) for state in range(4) if maker.chance.random() < 0.5), (3,))
            try:
                play = violation(machine, rule, table)
            except TooLarge:
                continue
            self.same(play, self.bad_play(machine, rule, table))
            self.assertIs(is_kept(machine, rule, table), play is None)
        self.check_counts(3)

    def test_depth(self):
        for maker, machine, table, search in self.machines(range(360)):
            depth = depth_of(machine, table)
            for many in range(7):
                play = deep_play(machine, many, table)
                self.same(play, search.nearest(lambda store, waiting: len(waiting) == many))
                self.assertIs(play is None, depth is not None and depth < many)
                if play is not None:
                    session = self.session_behind(machine, play, table)
                    self.assertEqual((len(session.pending), session.is_over), (many, False))
        self.check_counts(10)

    def test_responses(self):
        for maker, machine, table, search in self.machines(range(360)):
            found = coming(machine, table)
            self.assertEqual(found, tuple(sorted(found)))
            self.assertLessEqual(set(search.ends), set(found))
            everything = [HANG] + [("back", value) for value in range(-1, 3)] + [("out", c, v) for c, many, _ in machine.face.callouts for v in range(many)]
            for response in sorted({*everything, *found}):
                play = play_to(machine, response, table)
                self.same(play, search.ends.get(response))
                self.assertIs(play is not None, response in found)
                if play is not None:
                    self.assertEqual(responses_of(machine, play.moves(), table)[-1], response)
        self.check_counts(10)

    def lines_of_plays(self, module, table, search):
        """The lines that are run by the short plays and one move more, with all turns that these plays lead to."""
        tops, lines = {}, set()
        for (store, waiting), play in search.turns.items():
            tops.setdefault((waiting[-1][1] if waiting else None, store), (play, waiting))
        for play, waiting in tops.values():
            for move in moves_at(module, table, waiting):
                oracle = OracleSession(module)
                for step in play + (move,):
                    oracle.call(*step[1:]) if step[0] == "call" else oracle.answer(step[1])
                lines |= oracle.oracle.lines
        return lines, set(tops)

    def test_lines(self):
        exact = less = 0
        for seed in range(150):
            maker = Maker(seed)
            module = maker.nested_module() if seed % 3 == 0 else maker.module()
            table = part_of_full(module, maker.chance)
            if tables_of(module, table, 600) is None:
                continue
            used = used_lines(module, table)
            self.assertEqual(used, tuple(sorted(used)))
            lines, tops = self.lines_of_plays(module, table, Search(module, table, 4))
            self.assertLessEqual(lines, set(used))
            if set(Lengths(module, table).turns) == tops:
                self.assertEqual(lines, set(used))
                exact += 1
                less += len(lines) < sum(entry.body != () for entry in module.entries) + module.amount
        self.assertGreater(exact, 60)
        self.assertGreater(less, 30)

    def test_likeness(self):
        for maker, machine, table, _ in self.machines(range(150)):
            for other in maker.others(machine):
                pair = Pair(machine, other)
                if tables_of(pair, table, 800) is None:
                    continue
                play, back = parting(machine, other, table), parting(other, machine, table)
                self.same(play, Search(pair, table, MOST).ends.get(None))
                self.assertEqual((play is None, alike(machine, other, table), alike(other, machine, table)), (back is None,) * 3)
                if play is not None:
                    self.assertEqual(back.length, play.length)
                    first, second = [responses_of(made, play.moves(), table) for made in (machine, other)]
                    self.assertEqual(first[:-1], second[:-1])
                    self.assertNotEqual(first[-1], second[-1])
        self.check_counts(10)

    def test_parts_of_tables(self):
        parted = 0
        for seed in range(60):
            maker = Maker(seed)
            machine = maker.nested_module() if seed % 2 else maker.module()
            for other in maker.others(machine):
                full = Table.full(machine)
                tables = [Table(), part_of_full(machine, maker.chance) or full, full]
                tables.insert(1, tables[1] & Table(*list(full)[::2]))
                found = [parting(machine, other, table) for table in tables]
                for smaller, larger in zip(found, found[1:]):
                    if smaller is not None:
                        self.assertLessEqual(larger.length, smaller.length)
                        parted += 1
        self.assertGreater(parted, 50)
