import unittest

from reentry.machines import Machine
from tests.oracle import Maker, OracleSession


class TestAgainstOracle(unittest.TestCase):
    """Machines that were made by chance get the same responses as from generators, in long plays."""

    def play(self, maker, machine, most):
        """Play by chance; the numbers of moves, and whether it came to calls back and a hang."""
        session, chance = OracleSession(machine), maker.chance
        store, waiting, seen = machine.first, [], {"moves": 0, "nested": 0, "hang": 0, "fail": 0}
        points = {}
        for _ in range(most):
            self.assertIs(type(store), tuple)
            self.assertEqual(machine.values_in(store), session.oracle.shown())
            state = session.oracle.state()
            self.assertEqual(points.setdefault(state, store), store)
            if waiting and chance.random() < 0.5:
                frame, callout = waiting.pop()
                answer = chance.randint(-1, dict((name, many) for name, _, many in machine.face.callouts)[callout] - 1)
                response, behind, frame = machine.resume(store, frame, answer)
                expected = session.answer(answer)
            else:
                seen["nested"] += len(waiting) > 0
                name, arguments, _ = chance.choice(machine.face.entries)
                value = chance.randrange(arguments)
                response, behind, frame = machine.enter(store, name, value)
                expected = session.call(name, value)
            self.assertEqual(response, expected, str(machine))
            seen["moves"] += 1
            seen["fail"] += response == ("back", -1)
            if response == ("hang",):
                self.assertEqual((behind, frame), (store, None))
                seen["hang"] += 1
                break
            self.assertEqual(frame is None, response[0] == "back")
            if frame is not None:
                self.assertIs(type(frame), tuple)
                waiting.append((frame, response[1]))
            store = behind
        self.assertEqual(len(set(points.values())), len(points))
        return seen

    def check(self, seeds, make):
        total = {}
        for seed in seeds:
            maker = Maker(seed)
            machine = make(maker)
            self.assertIsInstance(machine, Machine)
            with self.subTest(seed=seed):
                for _ in range(4):
                    for word, many in self.play(maker, machine, 40).items():
                        total[word] = total.get(word, 0) + many
        return total

    def test_modules(self):
        total = self.check(range(400), lambda maker: maker.module())
        for word in ("moves", "nested", "hang", "fail"):
            self.assertGreater(total[word], 100)

    def test_machines(self):
        total = self.check(range(1000, 2000), lambda maker: maker.machine())
        for word in ("moves", "nested", "hang", "fail"):
            self.assertGreater(total[word], 100)
