import re
import unittest
from random import Random
from time import perf_counter

from onejumps import errors
from onejumps.consoles import Console
from onejumps.errors import (
    InvalidName, InvalidNumber, InvalidSaying, JumpError, NotMeant, NothingToUndo, NotTame, UnknownName, Unorderly,
)
from onejumps.texts import show_saying
from tests.helping import NO_SAYINGS, Case, exactly
from tests.sayings import (
    ALL, NONE_OF_TWO, PARTINGS, RISING, TREES, deep_saying, doubled_saying, some_sayings, steady_sayings, wild_sayings,
)
from tests.trying import all_orders, orders_up_to, walk_by_trying
from tests.trying_consoles import Model, Refused
from tests.trying_texts import bent_texts, order_text

NO_NAMES = [
    None, True, 0, 1, "", "A", "aB", "a b", "a1", "1", "abcdefghi", " a", "a ", "a\n", "\u00e9", "a-b", "_", b"a", ["a"], ("a",),
    {"a": 1}, {"a"}, [], (), "{", "`",
]

NAMES = ["a", "b", "c", "zz", "all", "names", "abcdefgh", "none"]


def filled():
    """A console with some sayings."""
    console = Console()
    for name, saying in [("all", ALL), ("trees", TREES), ("parts", PARTINGS), ("rising", RISING)]:
        console.keep(name, saying)
    return console


def state_of(console):
    return exactly([(name, console.saying(name)) for name in console.names()])


class ConsoleCase(Case):
    def assert_orders(self, console, told):
        for text, answer in told:
            self.assertEqual(exactly(console.order(text)), exactly(answer), text)

    def assert_like(self, console, model, text):
        """Expect of a console the answer, or the error, of a model, and what it holds then."""
        try:
            told = model.order(text)
        except Refused as refused:
            name, value = refused.args
            self.assert_error(console.order, {"text": text}, getattr(errors, name), value)
            return False
        self.assertEqual(exactly(console.order(text)), exactly(told), text)
        return True

    def assert_holds(self, console, model):
        self.assertEqual(console.names(), sorted(model.held))
        for name, saying in model.held.items():
            self.assertEqual(exactly(console.saying(name)), exactly(saying))


class TestKeepDropUndo(ConsoleCase):
    def test_none_at_first(self):
        console = Console()
        self.assert_told(console.names, {}, [])
        self.assertEqual(console.order("names"), "none")
        self.assert_error(console.undo, {}, NothingToUndo, 0)

    def test_keep_by_position_and_by_name(self):
        console = Console()
        for saying in some_sayings():
            self.assertIs(console.keep("a", saying), None)
            self.assert_told(console.saying, {"name": "a"}, saying)
            self.assertIs(console.keep(name="b", saying=saying), None)
            self.assert_told(console.saying, {"name": "b"}, saying)
        self.assertEqual(console.names(), ["a", "b"])
        self.assertIs(console.drop(name="a"), None)
        self.assertIs(console.drop("b"), None)
        self.assertEqual(console.names(), [])

    def test_names_ascend_and_are_a_new_list(self):
        console = Console()
        for name in NAMES:
            console.keep(name, TREES)
        self.assert_told(console.names, {}, sorted(NAMES))
        self.assert_new_list(console.names)
        self.assertEqual(console.order("names"), "\n".join(sorted(NAMES)))

    def test_a_new_saying_takes_the_place_of_an_elder_one(self):
        console = Console()
        for saying in (TREES, PARTINGS, TREES):
            console.keep("a", saying)
        self.assertEqual((console.names(), console.saying("a")), (["a"], TREES))
        for saying in (PARTINGS, TREES):
            self.assertIs(console.undo(), None)
            self.assertEqual(console.saying("a"), saying)
        console.undo()
        self.assertEqual(console.names(), [])
        self.assert_error(console.undo, {}, NothingToUndo, 0)

    def test_undo_of_drop(self):
        console = filled()
        console.drop("trees")
        self.assertEqual(console.names(), ["all", "parts", "rising"])
        console.drop("all")
        console.undo()
        console.undo()
        self.assertEqual(console.names(), ["all", "parts", "rising", "trees"])
        self.assertEqual(console.saying("trees"), TREES)
        console.undo()
        self.assertEqual(console.names(), ["all", "parts", "trees"])

    def test_undo_again_takes_back_what_was_ahead(self):
        console = Console()
        states = [state_of(console)]
        changes = [
            lambda: console.keep("a", TREES), lambda: console.order("say b (list [-])"), lambda: console.drop("a"),
            lambda: console.order("both c b b"), lambda: console.keep("b", RISING), lambda: console.order("drop b"),
            lambda: console.order("either c c c"), lambda: console.keep("c", PARTINGS), lambda: console.keep("c", PARTINGS),
        ]
        for change in changes:
            change()
            states.append(state_of(console))
        for k, state in enumerate(reversed(states[:-1])):
            console.undo() if k % 2 else self.assertEqual(console.order("undo"), "done")
            self.assertEqual(state_of(console), state)
        for call in (console.undo, lambda: console.order("undo")):
            self.assert_error(call, {}, NothingToUndo, 0)

    def test_undo_behind_refused_calls_and_questions(self):
        console = filled()
        console.keep("last", TREES)
        refused = [
            lambda: console.keep("X", TREES), lambda: console.keep("last", None), lambda: console.drop("none"),
            lambda: console.saying("none"), lambda: console.order("drop none"), lambda: console.order("both x trees none"),
            lambda: console.order("say last (list [1])"), lambda: console.order("walk rising 3"), lambda: console.order(""),
            lambda: console.order("nth trees 3 5"), lambda: console.order("drop last\n"), lambda: console.order("undo "),
        ]
        before = state_of(console)
        for call in refused:
            with self.assertRaises(JumpError):
                call()
            self.assertEqual(state_of(console), before)
        self.assert_orders(console, [("names", "all\nlast\nparts\nrising\ntrees"), ("count trees 3", "5")])
        console.undo()
        self.assertEqual(console.names(), ["all", "parts", "rising", "trees"])

    def test_changes_behind_an_undo(self):
        console = Console()
        console.keep("a", TREES)
        console.keep("a", RISING)
        console.undo()
        console.keep("b", PARTINGS)
        console.undo()
        self.assertEqual((console.names(), console.saying("a")), (["a"], TREES))
        console.undo()
        self.assertEqual(console.names(), [])
        self.assert_error(console.undo, {}, NothingToUndo, 0)
        console.keep("a", ALL)
        self.assertEqual(console.saying("a"), ALL)

    def test_two_consoles_beside_one_another(self):
        one, other = Console(), Console()
        one.keep("a", TREES)
        other.keep("a", PARTINGS)
        other.keep("b", ALL)
        one.order("both c a a")
        self.assertEqual((one.names(), other.names()), (["a", "c"], ["a", "b"]))
        self.assertEqual((one.saying("a"), other.saying("a")), (TREES, PARTINGS))
        other.undo()
        other.drop("a")
        self.assertEqual((one.names(), other.names()), (["a", "c"], []))
        one.undo()
        one.undo()
        self.assert_error(one.undo, {}, NothingToUndo, 0)
        other.undo()
        self.assertEqual(other.saying("a"), PARTINGS)

    def test_a_saying_of_others_stays_when_they_change(self):
        console = filled()
        console.order("both x trees parts")
        console.keep("trees", ALL)
        console.drop("parts")
        self.assertEqual(console.saying("x"), ("both", TREES, PARTINGS))
        console.order("either x x trees")
        self.assertEqual(console.saying("x"), ("either", ("both", TREES, PARTINGS), ALL))


class TestErrors(ConsoleCase):
    def test_no_names(self):
        console = filled()
        before = state_of(console)
        for name in NO_NAMES:
            self.assert_error(console.keep, {"name": name, "saying": TREES}, InvalidName, name)
            self.assert_error(console.drop, {"name": name}, UnknownName, name)
            self.assert_error(console.saying, {"name": name}, UnknownName, name)
        for name in ("x", "tree", "treess", "abcdefgh"):
            self.assert_error(console.drop, {"name": name}, UnknownName, name)
            self.assert_error(console.saying, {"name": name}, UnknownName, name)
        self.assertEqual(state_of(console), before)

    def test_no_sayings(self):
        console = filled()
        before = state_of(console)
        for told in NO_SAYINGS:
            self.assert_error(console.keep, {"name": "a", "saying": told}, InvalidSaying, told)
            self.assert_error(console.keep, {"name": "all", "saying": told}, InvalidSaying, told)
        self.assertEqual(state_of(console), before)

    def test_which_is_due(self):
        faults = [("name", told, InvalidName, told) for told in (None, "A", ["a"])]
        faults += [("saying", told, InvalidSaying, told) for told in (None, ["list", ()], ("list", ((2, 1),)))]
        self.assert_due(Console().keep, {"name": "a", "saying": TREES}, faults)

    def test_unknown_names_in_texts_the_first_from_the_left(self):
        console = filled()
        for text, name in [
            ("drop x", "x"), ("show x", "x"), ("steady x", "x"), ("means x 1", "x"), ("closes x 0", "x"), ("count x 0", "x"),
            ("tame x -1", "x"), ("next x 2 1", "x"), ("last x 2 1", "x"), ("jump x 2 1", "x"), ("nth x 0 0", "x"),
            ("place x 2 1", "x"), ("walk x 0", "x"), ("both all x y", "x"), ("both y trees x", "x"), ("either x y x", "y"),
            ("either all y all", "y"), ("both z z all", "z"),
        ]:
            self.assert_error(console.order, {"text": text}, UnknownName, name)

    def test_errors_of_the_functions(self):
        console = filled()
        for text, kind, value in [
            ("closes trees 0", InvalidNumber, 0), ("count trees -1", InvalidNumber, -1), ("tame trees 0", InvalidNumber, 0),
            ("walk trees -3", InvalidNumber, -3), ("nth trees 0 0", InvalidNumber, 0), ("nth trees 3 5", InvalidNumber, 5),
            ("nth trees 3 -1", InvalidNumber, -1), ("nth trees 3 999999999", InvalidNumber, 999999999),
            ("count rising -999999999", InvalidNumber, -999999999),
            ("walk rising 2", NotTame, ("front", (1,))), ("closes rising 3", NotTame, ("front", (1,))),
            ("nth rising 2 9", NotTame, ("front", (1,))), ("next rising 2 1", NotTame, ("front", (1,))),
            ("last rising 1 2", NotTame, ("front", (1,))), ("jump rising 1 2", NotTame, ("front", (1,))),
            ("place rising 1 2", NotTame, ("front", (1,))),
            ("next trees 2 3 1", NotMeant, (2, 3, 1)), ("last trees 2 3 1", NotMeant, (2, 3, 1)),
            ("jump parts 1 3 2", NotMeant, (1, 3, 2)), ("place trees 2 3 1", NotMeant, (2, 3, 1)),
        ]:
            self.assert_error(console.order, {"text": text}, kind, value)
        self.assert_error(Console().order, {"text": "undo"}, NothingToUndo, 0)

    def test_texts_that_are_none(self):
        console = filled()
        before = state_of(console)
        for text in [
            "", " ", "\n", "x", "do", "undo ", " undo", "undo x", "undo\n", "undo\nundo", "names ", "names x", "Names",
            "names\n", "say", "say ", "say a", "say a ", "say a (list [-]) ", "say A (list [-])", "say a  (list [-])",
            "say abcdefghi (list [-])", "say  (list [-])", "say a trees", "say a (list [])", "say a (list [-])\n",
            "say a (list [-])\nsay b (list [-])", "both", "both a", "both a trees", "both a trees all x", "both a trees  all",
            "both a trees all ", "both A trees all", "both a Trees all", "both a trees all1", "both trees all",
            "either a trees (list [-])", "drop", "drop ", "drop trees ", "drop trees all", "drop Trees", "show", "show trees x",
            "show (list [-])", "means trees", "means trees ", "means trees 1 1", "means trees 0", "means trees 1  2",
            "means trees 1 2 ", "means 1 2", "means trees 1,2", "means trees (1, 2)", "means trees 2", "steady",
            "steady trees 3", "closes trees", "closes trees x", "closes trees 03", "closes trees +3", "closes trees 3 ",
            "closes trees 3 3", "count trees 1234567890", "count trees 0000000001", "count trees -0", "count trees 3.0",
            "count trees", "count trees ", "tame trees", "tame trees 1 2", "nth trees 3", "nth trees 3 1 1", "nth trees  3 1",
            "nth trees 3 01", "nth trees 3 1 ", "nth 3 1", "place trees", "place trees 1 3", "walk trees 3\n",
            "walk trees 3\nwalk trees 3", "walk trees 3 ", "\nnames", "next trees 2 1\n", "next", "last trees", "jump trees x",
            "NEXT trees 2 1", "keep a (list [-])", "order names", "saying trees", "SAY a (list [-])", "unknown x 0",
            "count unknown 1_0", "means unknown 1 1", "walk trees -", "show trees\n", "show unknown\n", "drop unknown\n",
        ]:
            self.assert_error(console.order, {"text": text}, Unorderly, text)
        self.assertEqual(state_of(console), before)
        console.undo()
        self.assertEqual(console.names(), ["all", "parts", "trees"])


class TestOrder(ConsoleCase):
    def test_texts_that_change_something(self):
        console = Console()
        self.assert_orders(console, [
            ("say a (list [2 3 1])", "done"), ("say none (list [-])", "done"), ("both say a none", "done"),
            ("either say say a", "done"), ("names", "a\nnone\nsay"),
            ("show say", "(either (both (list [2 3 1]) (list [-])) (list [2 3 1]))"), ("drop none", "done"),
            ("names", "a\nsay"), ("undo", "done"), ("show none", "(list [-])"), ("undo", "done"),
            ("show say", "(both (list [2 3 1]) (list [-]))"), ("undo", "done"), ("names", "a\nnone"),
            ("say a (list [1 3*2, 2 1])", "done"), ("show a", "(list [1 3*2, 2 1])"), ("undo", "done"),
            ("show a", "(list [2 3 1])"), ("drop a", "done"), ("drop none", "done"), ("names", "none"),
        ])

    def test_questions(self):
        self.assert_orders(filled(), [
            ("means trees 2 3 1", "no"), ("means trees 3 2 1", "yes"), ("means rising 1", "yes"), ("steady trees", "yes"),
            ("steady rising", "no"), ("steady all", "yes"), ("closes all 4", "yes"), ("closes trees 4", "no"),
            ("closes all 1", "no"), ("count trees 5", "42"), ("count parts 5", "52"), ("count rising 1", "1"),
            ("tame trees 5", "yes"), ("tame rising 4", "front 1"), ("tame rising 1", "yes"),
            ("next trees 3 1 2", "3 2 1"), ("next trees 2 1 3", "none"), ("next all 1", "none"), ("last trees 1 2", "none"),
            ("last trees 2 1", "1 2"), ("last trees 2 1 3", "3 2 1"), ("jump trees 3 2 1", "3 2"),
            ("jump trees 1 2 3", "3 -1"), ("jump trees 2 1 3", "none"), ("nth trees 4 0", "1 2 3 4"),
            ("nth trees 3 4", "2 1 3"), ("nth rising 1 0", "1"), ("place trees 3 2 1", "3"), ("place all 1", "0"),
            ("walk trees 3", "1 2 3\n1 3 2\n3 1 2\n3 2 1\n2 1 3"), ("walk all 1", "1"), ("walk all 2", "1 2\n2 1"),
            ("means all 12 11 3 1 2 10 9 4 6 8 7 5", "yes"), ("show parts", "(list [1 3*2])"),
        ])
        console = filled()
        console.keep("down", wild_sayings()[10])
        self.assert_orders(console, [("tame down 5", "down 3 5 1 4 2"), ("tame down 4", "yes")])
        console.keep("end", ("list", (((1, 2, 3), None),)))
        self.assert_orders(console, [("tame end 3", "end 1 2")])

    def test_by_name(self):
        self.assert_told(filled().order, {"text": "count trees 4"}, "14")

    def test_all_questions_of_some_sayings_like_the_model(self):
        console, model = Console(), Model()
        for saying in some_sayings()[::2] + steady_sayings()[3:6] + wild_sayings()[::4]:
            console.keep("a", saying)
            model.change("a", saying)
            for n in range(-1, 5):
                texts = [f"{word} a {n}" for word in ("closes", "count", "tame", "walk")]
                texts += [f"nth a {n} {i}" for i in (-1, 0, 1, 7, 13, 14, 23, 24)]
                for text in texts + ["show a", "steady a"]:
                    self.assert_like(console, model, text)
            for order in orders_up_to(4):
                for word in ("means", "next", "last", "jump", "place"):
                    self.assert_like(console, model, f"{word} a {order_text(order)}")

    def test_bent_texts_like_the_model(self):
        console, model = filled(), Model()
        for name in console.names():
            model.change(name, console.saying(name))
        for text in [
            "say a (list [2 1])", "both a all all", "drop a", "undo", "names", "show all", "means all 2 1", "steady all",
            "closes all 3", "count all -3", "tame all 2", "next all 2 1", "nth all 2 1", "place all 1", "walk all 2",
        ]:
            for bent in bent_texts(text, " 01a-\nZ"):
                # Of many things it would take long to ask.
                if all(int(digits) < 5 for digits in re.findall("[0-9]+", bent)):
                    self.assert_like(console, model, bent)
            self.assert_holds(console, model)


class TestLongRuns(ConsoleCase):
    def text_by_chance(self, chance, model):
        """A text, mostly of what can be done, sometimes not."""
        name, other, third = (chance.choice(NAMES + sorted(model.held) * 2) for _ in range(3))
        if chance.random() < 0.04:
            return chance.choice(["say a (list [1])", "drop A", "undo x", "means all 1 1", "names\n", "count a 01", "x", ""])
        saying = chance.choice(some_sayings()[:8] + steady_sayings()[:6] + wild_sayings()[:3])
        order = order_text(chance.choice(all_orders(chance.choice((1, 2, 3, 4)))))
        n, i = chance.choice((0, 1, 2, 3, 4)), chance.choice((0, 1, 2, 5, 13, 23, -1))
        return chance.choice([
            f"say {name} {show_saying(saying)}", f"both {name} {other} {third}", f"either {name} {other} {third}",
            f"drop {name}", "undo", f"say {name} {show_saying(saying)}", "names", f"show {name}", f"steady {name}",
            f"means {name} {order}", f"closes {name} {n}", f"count {name} {n}", f"tame {name} {n}", f"next {name} {order}",
            f"last {name} {order}", f"jump {name} {order}", f"nth {name} {n} {i}", f"place {name} {order}", f"walk {name} {n}",
        ])

    def test_like_the_model(self):
        for seed in range(6):
            chance = Random(seed)
            console, model = Console(), Model()
            done = 0
            for _ in range(250):
                if any(len(exactly(saying)) > 3000 for saying in model.held.values()):
                    console, model = Console(), Model()
                done += self.assert_like(console, model, self.text_by_chance(chance, model))
                self.assert_holds(console, model)
            self.assertGreater(done, 100)
            while model.before:
                self.assert_like(console, model, "undo")
                self.assert_holds(console, model)
            self.assert_like(console, model, "undo")

    def test_calls_and_texts_by_turns(self):
        chance = Random(77)
        console, model = Console(), Model()
        for _ in range(300):
            name, saying = chance.choice(NAMES), chance.choice(some_sayings())
            word = chance.choice(["keep", "say", "drop", "drop by text", "undo"])
            if word == "keep":
                console.keep(name, saying)
                model.change(name, saying)
            elif word == "say":
                self.assert_like(console, model, f"say {name} {show_saying(saying)}")
            elif word == "drop by text":
                self.assert_like(console, model, f"drop {name}")
            elif word == "drop" and name in model.held:
                console.drop(name)
                model.drop(name)
            elif word == "undo" and model.before:
                console.undo()
                model.undo()
            self.assert_holds(console, model)


class TestSpeed(ConsoleCase):
    def test_six_hundred_changes(self):
        start = perf_counter()
        console = Console()
        console.keep("a", TREES)
        for k in range(299):
            console.order(f"both b a {'ab'[k % 12 > 0]}")
            console.order("drop b" if k % 12 == 11 else f"say c {show_saying(PARTINGS)}")
        self.assertEqual(console.order("count b 5"), "42")
        for _ in range(599):
            console.undo()
        self.assertEqual(console.names(), [])
        self.assertLess(perf_counter() - start, 3)

    def test_sayings_twelve_deep_and_walks_of_six(self):
        start = perf_counter()
        console = Console()
        console.keep("a", TREES)
        for k in range(12):
            console.order(f"{('both', 'either')[k % 2]} a a a")
        self.assertEqual(console.saying("a"), doubled_saying(TREES, 12))
        self.assertEqual(console.order("show a"), show_saying(doubled_saying(TREES, 12)))
        self.assertEqual(console.order("say b " + console.order("show a")), "done")
        self.assertEqual(console.saying("b"), console.saying("a"))
        console.keep("c", deep_saying(("both", "either"), True))
        for name in ("a", "b", "c"):
            told = console.order(f"walk {name} 6").split("\n")
            self.assertEqual(console.order(f"count {name} 6"), str(len(told)))
            self.assertEqual(console.order(f"nth {name} 6 {len(told) - 1}"), told[-1])
            self.assertEqual(console.order(f"place {name} {told[7]}"), "7")
            self.assertEqual(console.order(f"next {name} {told[7]}"), told[8])
            self.assertEqual(console.order(f"tame {name} 6"), "yes")
        self.assertEqual(console.order("walk a 6"), "\n".join(order_text(order) for order in walk_by_trying(TREES, 6)))
        self.assertLess(perf_counter() - start, 6)


if __name__ == "__main__":
    unittest.main()
