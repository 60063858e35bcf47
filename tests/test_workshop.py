import random
import unittest

from reentry import errors
from reentry.always import holds_always
from reentry.depth import depth_of
from reentry.expressions import read_expression
from reentry.likeness import alike
from reentry.modules import Module
from reentry.tables import Table
from reentry.workshop import Workshop
from tests.oracle import Maker
from tests.plain import tables_of
from tests.test_arguments import ABOVE, FULL
from tests.test_likeness import COUNTER, EARLY, read
from tests.values import Stranger, any_values, check_error

ONE, TWO = "entry go 1 2 z\n  return 1", "variable n 2 0\nentry go 1 2 z\n  assign n 1\n  return n"
ASK = "variable n 3 0\ncallout ask 1 1\nentry go 1 3 z\n  assign n 1\n  call ask 0\n  return n\nentry get 1 3 z\n  return n"
PAIRS = (("ask", "get"),)


def put(name, text):
    return ("put", name, text)


def state(shop):
    return shop.names, shop.demands, shop.history, len(shop), [str(shop.module(name)) for name in shop.names]


class Stop(Exception):
    pass


class TestWorkshop(unittest.TestCase):
    def filled(self, *deeds):
        shop = Workshop()
        self.assertIsNone(shop.do_all(put("a", ONE), put("b", TWO), put("c", ASK), *deeds))
        return shop

    def check_refused(self, shop, kind, fields, deed):
        """A deed raises this error, alone and among others, and nothing changes."""
        before = state(shop)
        check_error(self, kind, fields, shop.do, deed)
        self.assertEqual(state(shop), before)
        check_error(self, kind, fields, shop.do, deed=deed)
        check_error(self, kind, fields, shop.do_all, deed)
        check_error(self, kind, fields, shop.do_all, put("zz", ONE), deed, put("yy", ONE))
        self.assertEqual(state(shop), before)

    def check_broken(self, shop, demand, named=None):
        self.check_refused(shop, errors.BrokenDemand, {"demand": demand if named is None else named}, ("demand", demand))

    def test_a_new_one(self):
        shop = Workshop()
        self.assertEqual((shop.names, shop.demands, shop.history, len(shop), bool(shop)), ((), (), (), 0, False))
        check_error(self, errors.NothingToUndo, {}, shop.undo)
        self.assertIsNone(shop.do_all())
        self.assertEqual(state(shop), ((), (), (), 0, []))
        self.assertIsNot(Workshop(), shop)
        self.assertFalse(Workshop() == shop)

    def test_each_deed_done_and_taken_back(self):
        demand = ("alike", "a", "b", None)
        deeds = [put("b", ONE), put("a", ONE), ("demand", demand), put("b", TWO), ("demand", ("depth", "a", 0, ())), ("demand", demand), ("release", ("alike", "a", "b", None)), ("drop", "b"), ("release", demand), ("drop", "b")]
        shop, states = Workshop(), []
        for deed in deeds[:7]:
            states.append(state(shop))
            self.assertIsNone(shop.do(deed))
            self.assertEqual(shop.history[-1:], (deed,))
            self.assertIs(shop.history[-1], deed)
        self.assertEqual((shop.names, shop.demands, len(shop)), (("a", "b"), (("depth", "a", 0, ()), demand), 2))
        self.assertEqual(str(shop.module("b")), TWO)
        # The second one of equal demands is left, which names a module that is to be dropped.
        self.check_refused(shop, errors.BrokenDemand, {"demand": demand}, deeds[7])
        for deed in deeds[8:]:
            states.append(state(shop))
            shop.do(deed)
        self.assertEqual((shop.names, shop.demands), (("a",), (("depth", "a", 0, ()),)))
        while states:
            self.assertIsNone(shop.undo())
            self.assertEqual(state(shop), states.pop())
        check_error(self, errors.NothingToUndo, {}, shop.undo)
        self.assertEqual(state(shop), ((), (), (), 0, []))
        shop.do(put("q", ONE))
        self.assertEqual(shop.history, (put("q", ONE),))

    def test_names_and_modules(self):
        shop = self.filled()
        self.assertEqual((shop.names, len(shop), bool(shop)), (("a", "b", "c"), 3, True))
        self.assertEqual(str(shop.module("c")), ASK)
        self.assertEqual(shop.module(name="a"), Module.read(ONE))
        for value in any_values() + ["d", "A", ("a",), ["a"], "", Stranger()]:
            is_name = isinstance(value, str) and value in ("a", "b", "c")
            self.assertIs(value in shop, is_name)
            if not is_name:
                check_error(self, errors.UnknownModule, {"name": value}, shop.module, value)
                check_error(self, errors.UnknownModule, {"name": value}, shop.module, name=value)

    def test_drop(self):
        shop = self.filled()
        shop.do(("drop", "a"))
        self.assertEqual((shop.names, "a" in shop, len(shop)), (("b", "c"), False, 2))
        self.check_refused(shop, errors.UnknownModule, {"name": "a"}, ("drop", "a"))
        self.check_refused(shop, errors.UnknownModule, {"name": "nobody"}, ("drop", "nobody"))
        shop.do(put("a", TWO))
        self.assertEqual(str(shop.module("a")), TWO)

    def test_release(self):
        first, second = ("depth", "a", 0, None), ("depth", "a", 1, None)
        shop = self.filled(("demand", first), ("demand", second), ("demand", ("depth", "a", 0, None)))
        shop.do(("release", ("depth", "a", 0, None)))
        self.assertEqual(shop.demands, (second, first))
        shop.do(("release", first))
        self.assertEqual(shop.demands, (second,))
        for unknown in (first, ("depth", "b", 1, None), ("depth", "a", 1, ()), ("alike", "a", 1, None), ("depth", "a", [1], None), ("always", None, {}, Stranger)):
            self.check_refused(shop, errors.UnknownDemand, {"demand": unknown}, ("release", unknown))

    def test_demands_that_hold(self):
        demands = [
            ("alike", "a", "b", None), ("alike", "b", "a", ()), ("alike", "c", "c", PAIRS), ("always", "c", "below(n, 2)", None), ("always", "a", "1", ()),
            ("always", "c", "below(n, 2)", (("ask", "go"), ("ask", "get"))), ("depth", "a", 0, None), ("depth", "c", 1, PAIRS), ("depth", "c", 10 ** 59, ()), ("depth", "b", 7, None),
        ]
        shop = self.filled()
        for index, demand in enumerate(demands):
            shop.do(("demand", demand))
            self.assertEqual(shop.demands, tuple(demands[:index + 1]))
            self.assertIs(shop.demands[-1], demand)
        self.assertEqual(shop.history[3:], tuple(("demand", demand) for demand in demands))

    def test_demands_that_do_not_hold(self):
        shop = self.filled(put("d", ASK.replace("assign n 1", "assign n 2")))
        for demand in (
            ("alike", "c", "d", None), ("alike", "d", "c", ()), ("always", "c", "not(n)", None), ("always", "c", "0", ()), ("always", "a", "0", None), ("depth", "c", 0, ()),
            ("depth", "c", 5, None), ("depth", "c", 10 ** 59, (("ask", "go"),)),
        ):
            self.check_broken(shop, demand)

    def test_demands_that_are_not_as_described(self):
        shop = self.filled()
        strange = [value for value in any_values() if value is not None and value != ()] + [("ask", "go"), [("ask", "go")], (("go", "ask"),), (("ask", "x"),), (("ask", "go"), ("ask", "go")), (["ask", "go"],), Table(), Table(("ask", "go")), ((),), (None,), (("ask", "go", 0),), Stranger()]
        for pairs in strange:
            self.check_broken(shop, ("alike", "c", "c", pairs))
            self.check_broken(shop, ("always", "c", "1", pairs))
            self.check_broken(shop, ("depth", "c", 10 ** 9, pairs))
        for name in [value for value in any_values() if value != "a" or isinstance(value, Stranger)] + ["d", ("a",), ["a"], COUNTER, b"a"]:
            self.check_broken(shop, ("alike", name, "a", None))
            self.check_broken(shop, ("alike", "a", name, None))
            self.check_broken(shop, ("always", name, "1", None))
            self.check_broken(shop, ("depth", name, 9, None))
        for text in ["m", "equal(n,0)", "", "go", "plus(n, ask)", None, 1, True, read_expression("1"), ["1"], b"1", Stranger()]:
            self.check_broken(shop, ("always", "c", text, None))
        self.check_broken(shop, ("always", "a", "n", None))
        for number in (-1, True, False, None, "0", (0,), [1], -(10 ** 59), Stranger()):
            self.check_broken(shop, ("depth", "a", number, None))
        # Unlike faces, and pairs of the face of another module.
        for other in ("b", "c"):
            self.check_broken(self.filled(put("b", "entry go 2 2 z")), ("alike", "a", other, None))
        self.check_broken(shop, ("alike", "a", "b", PAIRS))
        self.check_broken(shop, ("depth", "a", 0, PAIRS))
        self.check_broken(shop, ("always", "b", "1", PAIRS))

    def test_which_of_several_broken_ones_is_named(self):
        first, second, third = ("alike", "a", "b", None), ("depth", "c", 1, PAIRS), ("always", "c", "below(n, 2)", ())
        fourth, fifth = ("alike", "b", "a", ()), ("depth", "a", 0, None)
        shop = self.filled(*[("demand", demand) for demand in (first, second, third, fourth, fifth)])
        other = ASK.replace("assign n 1", "assign n 2").replace("  return n\nentry get 1 3 z\n", "  return n\nentry get 1 3 z\n  call ask 0\n")
        for deed, named in (
            (put("b", "entry go 1 2 z"), first), (put("a", "entry go 1 2 z\n  fail"), first), (put("c", other), second), (put("c", ASK.replace("assign n 1", "assign n 2")), third),
            (("drop", "a"), first), (("drop", "b"), first), (("drop", "c"), second), (put("c", ONE), second), (put("a", ASK), first),
        ):
            self.check_refused(shop, errors.BrokenDemand, {"demand": named}, deed)
        shop.do(("release", first))
        self.check_refused(shop, errors.BrokenDemand, {"demand": fourth}, ("drop", "a"))
        self.check_refused(shop, errors.BrokenDemand, {"demand": second}, ("drop", "c"))
        shop.do(("demand", first))
        self.check_refused(shop, errors.BrokenDemand, {"demand": fourth}, ("drop", "b"))
        shop.do(("release", fourth))
        self.check_refused(shop, errors.BrokenDemand, {"demand": fifth}, ("drop", "a"))
        self.check_refused(shop, errors.BrokenDemand, {"demand": first}, ("drop", "b"))

    def test_modules_in_the_place_of_others(self):
        shop = self.filled(("demand", ("alike", "a", "b", None)), ("demand", ("always", "c", "below(n, 2)", None)))
        shop.do(put("a", TWO))
        shop.do(put("b", ONE))
        shop.do(put("c", ASK.replace("variable n 3 0", "variable n 3 1")))
        self.check_refused(shop, errors.BrokenDemand, {"demand": ("always", "c", "below(n, 2)", None)}, put("c", ASK.replace("variable n 3 0", "variable n 3 2")))
        self.check_refused(shop, errors.BrokenDemand, {"demand": ("always", "c", "below(n, 2)", None)}, put("c", ASK.replace(" n", " m")))
        self.assertEqual(str(shop.module("a")), TWO)
        for _ in range(3):
            shop.undo()
        self.assertEqual([str(shop.module(name)) for name in "abc"], [ONE, TWO, ASK])

    def test_values_that_are_no_deeds(self):
        shop = self.filled()
        values = [value for value in any_values()] + [Stranger(), Workshop(), ONE, ("put",), ("drop",), ("demand",), ("release",), ("alike", "a", "b", None)]
        values += [("put", "d"), ("put", "d", ONE, None), ["put", "d", ONE], ("put", "D", ONE), ("put", "d", ONE + "\n"), ("put", "d", Module.read(ONE)), ("put", None, ONE), ("put", ["d"], ONE), ("put", "toolongname", ONE), ("Put", "d", ONE), ("put", "d", ""), ("put", True, ONE), ("put", "d", None), (Stranger(), "d", ONE), (Stranger(), ("depth", "a", 0, None))]
        values += [("drop", "a", "b"), ("drop", "A"), ("drop", None), ("drop", ("a",)), ["drop", "a"], ("drop", ""), ("drop", True), ("drop", "a", "b", "c"), ("put", "d", ONE, None, None), ("Drop", "a"), (["drop"], "a"), (None, "a"), (Stranger(), "a")]
        for word in ("demand", "release"):
            for demand in (
                None, (), ("alike",), ("alike", "a", "b"), ("alike", "a", "b", None, None), ["alike", "a", "b", None], ("Alike", "a", "b", None), ("not alike", "a", "b", None),
                ("deep", "a", 1, None), (None, "a", "b", None), ("always", "a", "1"), ("depth", "a", 1), ("depth", "a", 1, None, ()), (["depth"], "a", 1, None), (Stranger(), "a", "b", None), "alike", {}, (("alike", "a", "b", None),),
            ):
                values.append((word, demand))
            values.append((word, ("alike", "a", "b", None), 1))
            values.append((word, ("alike", "a", "b", None), 1, 2))
            values.append((word + "s", ("alike", "a", "b", None)))
            values.append((word,) + ("alike", "a", "b", None))
        for value in values:
            self.check_refused(shop, errors.InvalidDeed, {"value": value}, value)
        # What is no deed is found before anything is done, and the first one is named.
        seen = []
        check_error(self, errors.InvalidDeed, {"value": None}, shop.do_all, ("drop", "nobody"), None, 5, watch=lambda given, index: seen.append(index))
        check_error(self, errors.InvalidDeed, {"value": 5}, shop.do_all, put("d", ONE), 5, watch=lambda given, index: seen.append(index))
        self.assertEqual(seen, [])

    def test_an_error_at_each_place(self):
        right = [put("d", ONE), ("demand", ("alike", "a", "d", None)), put("e", ASK), ("release", ("alike", "a", "d", None)), ("drop", "d")]
        wrong = [
            (("drop", "x"), errors.UnknownModule, {"name": "x"}), (("release", ("depth", "a", 9, None)), errors.UnknownDemand, {"demand": ("depth", "a", 9, None)}),
            (("demand", ("depth", "c", 0, None)), errors.BrokenDemand, {"demand": ("depth", "c", 0, None)}), (("drop",), errors.InvalidDeed, {"value": ("drop",)}),
        ]
        for place in range(len(right) + 1):
            for deed, kind, fields in wrong:
                shop = self.filled(("demand", ("depth", "a", 0, None)))
                before, seen = state(shop), []
                fields = {name: value for name, value in zip(fields, [deed[1] if name != "value" else deed for name in fields])}
                check_error(self, kind, fields, shop.do_all, *right[:place], deed, *right[place:], watch=lambda given, index: seen.append((given is shop, index)))
                self.assertEqual(state(shop), before)
                self.assertEqual(seen, [] if kind is errors.InvalidDeed else [(True, index) for index in range(place)])
                shop.undo()
                self.assertEqual(shop.demands, ())

    def test_a_watch_that_looks(self):
        deeds = [put("d", ONE), ("demand", ("alike", "a", "d", None)), ("release", ("alike", "a", "d", None)), ("drop", "d")]
        shop, plain, seen = self.filled(), self.filled(), []
        self.assertIsNone(shop.do_all(*deeds, watch=lambda given, index: seen.append((given is shop, index, state(given)))))
        for index, deed in enumerate(deeds):
            plain.do(deed)
            self.assertEqual(seen[index], (True, index, state(plain)))
        self.assertEqual(len(seen), 4)
        self.assertEqual(state(shop), state(plain))
        shop.do_all(watch=seen.append)
        self.assertEqual(len(seen), 4)
        with self.assertRaises(TypeError):
            shop.do(deeds[0], None)

    def test_a_watch_that_raises(self):
        deeds = [put("d", ONE), ("demand", ("alike", "a", "d", None)), ("release", ("alike", "a", "d", None)), ("drop", "d")]
        for place in range(4):
            for error in (Stop("no"), errors.Over(), ValueError(3), errors.InvalidDeed(1), KeyError(1), StopIteration()):
                shop, seen = self.filled(("demand", ("depth", "a", 0, None))), []
                before = state(shop)

                def watch(given, index):
                    seen.append(index)
                    if index == place:
                        raise error

                with self.assertRaises(type(error)) as caught:
                    shop.do_all(*deeds, watch=watch)
                self.assertIs(caught.exception, error)
                self.assertEqual((state(shop), seen), (before, list(range(place + 1))))
                shop.do_all(*deeds)
                for _ in deeds:
                    shop.undo()
                self.assertEqual(state(shop), before)
                shop.undo()
                self.assertEqual((shop.demands, len(shop.history)), ((), 3))

    def test_modules_past_a_limit(self):
        shop = Workshop()
        check_error(self, errors.InvalidDeed, {"value": ("put", "a", "entry go 41 1 z")}, shop.do, ("put", "a", "entry go 41 1 z"))
        shop.do_all(put("full", str(FULL)), put("above", str(ABOVE)))
        shop.do_all(("demand", ("alike", "full", "full", None)), ("demand", ("depth", "full", 0, ())), ("demand", ("always", "full", "below(a, 10)", None)))
        for demand in (("alike", "above", "above", None), ("depth", "above", 0, ()), ("always", "above", "0", None), ("always", "above", "1", ()), ("depth", "above", 0, None)):
            self.check_refused(shop, errors.TooLarge, {"limit": 20000}, ("demand", demand))
        for demand in (("depth", "above", True, ()), ("always", "above", "x", ()), ("alike", "above", "full", None), ("depth", "above", -1, ()), ("depth", "above", 1, [])):
            self.check_broken(shop, demand)
        self.check_refused(shop, errors.BrokenDemand, {"demand": ("alike", "full", "full", None)}, ("drop", "full"))
        self.check_refused(shop, errors.TooLarge, {"limit": 20000}, put("full", str(ABOVE)))
        # The first one of the demands tells, whether it is too large or does not hold.
        shop = Workshop()
        shop.do_all(put("a", str(FULL)), ("demand", ("always", "a", "below(b, 10)", ())), ("demand", ("depth", "a", 0, None)))
        self.check_refused(shop, errors.TooLarge, {"limit": 20000}, put("a", str(ABOVE)))
        self.check_refused(shop, errors.BrokenDemand, {"demand": ("always", "a", "below(b, 10)", ())}, put("a", str(ABOVE).replace("variable b", "variable d").replace("assign b plus(b", "assign d plus(d")))

    def test_drawn_deeds(self):
        done = {}
        for seed in range(60):
            maker, chance = Maker(seed), random.Random(seed)
            texts = [str(other) for other in maker.others(maker.module()) if isinstance(other, Module)] + [ONE, TWO]
            texts = [text for text in texts if tables_of(Module.read(text), None, 200) is not None]
            shop, names, demands, states, history = Workshop(), {}, [], [], []
            for _ in range(40):
                deed = self.drawn_deed(chance, texts, demands)
                expected = self.expected_error(deed, names, demands)
                if chance.random() < 0.15:
                    deed, expected = "undo", None if history else errors.NothingToUndo
                before = state(shop)
                try:
                    shop.undo() if deed == "undo" else shop.do(deed)
                except (errors.StateError, errors.LimitError) as error:
                    self.assertIs(type(error), expected[0] if isinstance(expected, tuple) else expected)
                    if isinstance(expected, tuple):
                        self.assertEqual(list(vars(error).values()), [expected[1]])
                    self.assertEqual(state(shop), before)
                    done[type(error).__name__] = done.get(type(error).__name__, 0) + 1
                    continue
                self.assertIsNone(expected)
                if deed == "undo":
                    names, demands = states.pop()
                    history.pop()
                else:
                    states.append((names, demands))
                    names, demands = self.behind(deed, names, demands)
                    history.append(deed)
                    done[deed[0]] = done.get(deed[0], 0) + 1
                self.assertEqual(state(shop), (tuple(sorted(names)), tuple(demands), tuple(history), len(names), [names[name] for name in sorted(names)]))
        for word in ("put", "drop", "demand", "release", "BrokenDemand", "UnknownModule", "UnknownDemand", "NothingToUndo"):
            self.assertGreater(done.get(word, 0), 10, done)

    def drawn_deed(self, chance, texts, demands):
        word, name = chance.choice(("put", "put", "drop", "demand", "demand", "demand", "release")), chance.choice("ab")
        if word == "put":
            return put(name, chance.choice(texts))
        if word == "drop":
            return (word, name)
        if word == "release" and demands and chance.random() < 0.7:
            return (word, chance.choice(demands))
        demand = chance.choice((("alike", name, chance.choice("ab")), ("always", name, chance.choice(("1", "below(v, 2)", "w"))), ("depth", name, chance.randrange(3))))
        return (word, demand + (chance.choice((None, (), (("c", "e"),), (("c", "e"), ("c", "f")))),))

    def behind(self, deed, names, demands):
        if deed[0] == "put":
            return {**names, deed[1]: deed[2]}, demands
        if deed[0] == "drop":
            return {name: text for name, text in names.items() if name != deed[1]}, demands
        if deed[0] == "demand":
            return names, demands + [deed[1]]
        index = demands.index(deed[1])
        return names, demands[:index] + demands[index + 1:]

    def expected_error(self, deed, names, demands):
        """The error of a deed, found by checking all demands anew."""
        if deed[0] == "drop" and deed[1] not in names:
            return errors.UnknownModule, deed[1]
        if deed[0] == "release":
            return None if deed[1] in demands else (errors.UnknownDemand, deed[1])
        names, demands = self.behind(deed, names, demands)
        modules = {name: Module.read(text) for name, text in names.items()}
        for demand in demands:
            try:
                if not self.is_met(modules, demand):
                    return errors.BrokenDemand, demand
            except errors.TooLarge:
                return errors.TooLarge, 20000
        return None

    def is_met(self, modules, demand):
        word, name, wanted, pairs = demand
        if name not in modules or (word == "alike" and wanted not in modules):
            return False
        module = modules[name]
        full = Table.full(module).pairs
        if pairs is not None and not set(pairs) <= set(full):
            return False
        table = None if pairs is None else Table(*pairs)
        if word == "alike":
            return module.face == modules[wanted].face and alike(module, modules[wanted], table)
        if word == "always":
            condition = read_expression(wanted)
            return set(condition.names) <= {variable for variable, _, _ in module.variables} and holds_always(module, condition, table)
        depth = depth_of(module, table)
        return depth is not None and depth <= wanted
