"""Promises [9], [10] and [11] without `read_saying`, and what [2] says of sayings."""

import itertools
import operator
import unittest

from foreheads.crowds import Crowds
from foreheads.errors import InvalidSaying
from foreheads.sayings import AtLeast, Common, Fact, Knows, Rest, Saying, Silent, Sure, everybody, somebody

from samples import any_values, is_number

SIGNS = (
    ("&", operator.and_, operator.iand),
    ("|", operator.or_, operator.ior),
    ("^", operator.xor, operator.ixor),
    ("-", operator.sub, operator.isub),
)


def simple():
    """Sayings, each with its text, depth and number of Common; new ones at each call."""
    return [
        (AtLeast("marked", 2), "marked >= 2", 0, 0),
        (AtLeast("plain", 0), "plain >= 0", 0, 0),
        (Rest("plain", 1, 3), "plain by 3 leaves 1", 0, 0),
        (Rest("marked", 0, 1), "marked by 1 leaves 0", 0, 0),
        (Fact(Crowds.at_least("marked", 1)), "[1 0 1 1: - +]", 0, 0),
        (Fact(Crowds((1, 1), (2, 2), ["+++"] * 3)), "[0 0 1 1: +]", 0, 0),
        (Sure("marked"), "sure marked", 1, 0),
        (Sure("plain"), "sure plain", 1, 0),
        (Silent(), "silent", 1, 0),
    ]


def around(saying, text, depth, commons):
    """What is made of one saying."""
    return [
        (Knows("marked", saying), f"knows marked ({text})", depth + 1, commons),
        (Knows("plain", saying), f"knows plain ({text})", depth + 1, commons),
        (Common(saying), f"common ({text})", depth + 1, commons + 1),
        (~saying, f"~({text})", depth, commons),
    ]


def between(one, other):
    """What is made of two sayings."""
    return [(sign(one[0], other[0]), f"({one[1]}) {mark} ({other[1]})", max(one[2], other[2]), one[3] + other[3])
            for mark, sign, _ in SIGNS]


def many():
    """Sayings of many forms, up to three layers."""
    found = simple()
    for row in simple():
        found += around(*row)
    layer = found[::5]
    for row in layer:
        found += around(*row)
    for one, other in itertools.product(layer, simple()[::3]):
        found += between(one, other) + between(other, one)
    for one, other in itertools.product(found[-9:], found[-40::8]):
        found += between(one, other)
    return found


class Forms(unittest.TestCase):
    def test_text_depth_and_commons(self):
        for saying, text, depth, commons in many():
            self.assertEqual(str(saying), text)
            self.assertEqual(saying.depth, depth, text)
            self.assertEqual(saying.commons, commons, text)
            self.assertTrue({"depth", "commons"} <= set(vars(saying)))
            self.assertIsInstance(saying, Saying)

    def test_attributes(self):
        inner, crowds = Sure("plain"), Crowds.of([(1, 2)])
        self.assertEqual((AtLeast("marked", 3).kind, AtLeast("marked", 3).number), ("marked", 3))
        rest = Rest("plain", 2, 5)
        self.assertEqual((rest.kind, rest.rest, rest.period), ("plain", 2, 5))
        self.assertIs(Fact(crowds).crowds, crowds)
        self.assertEqual(Sure("plain").kind, "plain")
        knows = Knows("marked", inner)
        self.assertEqual(knows.kind, "marked")
        self.assertIs(knows.saying, inner)
        self.assertIs(Common(inner).saying, inner)

    def test_attributes_are_set_when_created(self):
        for saying, names in ((AtLeast("marked", 3), {"kind", "number"}), (Rest("plain", 0, 1), {"kind", "rest", "period"}),
                              (Fact(Crowds.every()), {"crowds"}), (Sure("marked"), {"kind"}), (Silent(), set()),
                              (Knows("plain", Silent()), {"kind", "saying"}), (Common(Silent()), {"saying"})):
            self.assertEqual(set(vars(saying)), names | {"depth", "commons"})

    def test_by_name(self):
        self.assertEqual(str(AtLeast(number=1, kind="plain")), "plain >= 1")
        self.assertEqual(str(Rest(period=4, rest=3, kind="marked")), "marked by 4 leaves 3")
        self.assertEqual(str(Fact(crowds=Crowds.nothing())), "[0 0 1 1: -]")
        self.assertEqual(str(Sure(kind="plain")), "sure plain")
        self.assertEqual(str(Knows(saying=Silent(), kind="plain")), "knows plain (silent)")
        self.assertEqual(str(Common(saying=Silent())), "common (silent)")
        self.assertEqual(str(everybody(saying=Silent())), "(knows marked (silent)) & (knows plain (silent))")
        self.assertEqual(somebody(saying=Silent()), somebody(Silent()))

    def test_example(self):
        s = ~Knows("plain", AtLeast("marked", 2)) & Common(Silent())
        self.assertEqual((str(s), s.depth, s.commons),
                         ("(~(knows plain (marked >= 2))) & (common (silent))", 2, 1))

    def test_parentheses_always(self):
        a, b, c = AtLeast("marked", 1), Silent(), Sure("plain")
        self.assertEqual(str(a & b & c), "((marked >= 1) & (silent)) & (sure plain)")
        self.assertEqual(str(a & (b & c)), "(marked >= 1) & ((silent) & (sure plain))")
        self.assertEqual(str(~~a), "~(~(marked >= 1))")
        self.assertEqual(str(~a - (b ^ c)), "(~(marked >= 1)) - ((silent) ^ (sure plain))")
        self.assertEqual(str(Common(Common(a) | c)), "common ((common (marked >= 1)) | (sure plain))")

    def test_commons_are_counted_each_time(self):
        c = Common(Silent())
        self.assertEqual((c & c).commons, 2)
        self.assertEqual(Common(c | Knows("plain", c)).commons, 3)
        self.assertEqual((~c).commons, 1)
        self.assertEqual(Common(c | Knows("plain", c)).depth, 4)

    def test_everybody_and_somebody(self):
        for saying, text, depth, commons in many()[::4]:
            every, some = everybody(saying), somebody(saying)
            self.assertEqual(every, Knows("marked", saying) & Knows("plain", saying))
            self.assertEqual(str(every), f"(knows marked ({text})) & (knows plain ({text}))")
            self.assertEqual(some, (AtLeast("marked", 1) & Knows("marked", saying))
                             | (AtLeast("plain", 1) & Knows("plain", saying)))
            self.assertEqual(str(some), f"((marked >= 1) & (knows marked ({text}))) | "
                                        f"((plain >= 1) & (knows plain ({text})))")
            self.assertEqual((every.depth, some.depth), (depth + 1, depth + 1))
            self.assertEqual((every.commons, some.commons), (2 * commons, 2 * commons))

    def test_not_iterable(self):
        for saying, _, _, _ in many()[::6]:
            self.assertRaises(TypeError, iter, saying)
            self.assertRaises(TypeError, list, saying)
            with self.assertRaises(TypeError):
                1 in saying


class Equality(unittest.TestCase):
    def test_exactly_if_the_texts_are(self):
        ones, others = many()[::7], many()
        for one, text, _, _ in ones:
            for other, other_text, _, _ in others:
                self.assertIs(one == other, text == other_text)
                self.assertIs(one != other, text != other_text)

    def test_one_part_differs(self):
        base = Rest("marked", 1, 4)
        for other in (Rest("plain", 1, 4), Rest("marked", 2, 4), Rest("marked", 1, 3)):
            self.assertNotEqual(base, other)
        self.assertNotEqual(AtLeast("marked", 1), AtLeast("plain", 1))
        self.assertNotEqual(AtLeast("marked", 1), AtLeast("marked", 2))
        self.assertNotEqual(Sure("marked"), Sure("plain"))
        self.assertNotEqual(Knows("marked", base), Knows("plain", base))
        self.assertNotEqual(Knows("marked", base), Knows("marked", ~base))
        self.assertNotEqual(base & Silent(), Silent() & base)
        # They hold in the same crowds, but are other texts.
        self.assertNotEqual(AtLeast("marked", 1), Fact(Crowds.at_least("marked", 1)))
        self.assertNotEqual(AtLeast("marked", 0), AtLeast("plain", 0))

    def test_facts(self):
        greater = Crowds((2, 1), (2, 2), ["---", "+++", "+++", "+++"])
        self.assertEqual(Fact(greater), Fact(Crowds.at_least("marked", 1)))
        self.assertEqual(~Fact(greater), ~Fact(Crowds.at_least("marked", 1)))
        self.assertNotEqual(Fact(greater), Fact(Crowds.at_least("marked", 2)))

    def test_equal_to_nothing_else(self):
        for saying, text, _, _ in many()[::5]:
            for value in any_values() + [text, [saying], (saying,)]:
                if not isinstance(value, Saying):
                    self.assertIs(saying == value, False)
                    self.assertIs(saying != value, True)
                    self.assertIs(value == saying, False)


class Signs(unittest.TestCase):
    def test_in_place(self):
        for one, other in itertools.product(many()[::9], simple()):
            for mark, sign, in_place in SIGNS:
                kept = same = one[0]
                same = in_place(same, other[0])
                self.assertIsNot(same, kept)
                self.assertEqual(str(same), f"({one[1]}) {mark} ({other[1]})")
                self.assertEqual(str(kept), one[1])
                self.assertEqual(same, sign(one[0], other[0]))
                self.assertEqual((kept.depth, kept.commons), one[2:])

    def test_each_sign_of_each_class(self):
        classes = [simple()[at] for at in (0, 2, 4, 6, 8)]
        classes += around(*simple()[2]) + between(simple()[0], simple()[8])
        for one, other in itertools.product(classes, repeat=2):
            for result, text, depth, commons in between(one, other):
                self.assertEqual((str(result), result.depth, result.commons), (text, depth, commons))
        for one in classes:
            self.assertEqual(str(~one[0]), f"~({one[1]})")

    def test_anything_but_a_saying(self):
        for saying, _, _, _ in simple() + many()[::5]:
            for value in any_values() + [Saying, Silent, "silent", {1}, {}]:
                if isinstance(value, Saying):
                    continue
                for _, sign, in_place in SIGNS:
                    self.assertRaises(TypeError, sign, saying, value)
                    self.assertRaises(TypeError, sign, value, saying)
                    self.assertRaises(TypeError, in_place, saying, value)

    def test_parts_stay_as_they_were(self):
        part = Common(AtLeast("plain", 1))
        whole = ~part & part
        whole |= part
        self.assertEqual((str(part), part.depth, part.commons), ("common (plain >= 1)", 1, 1))

    def test_saying_itself(self):
        self.assertRaises(TypeError, Saying)
        for kind in (AtLeast, Rest, Fact, Sure, Silent, Knows, Common):
            self.assertTrue(issubclass(kind, Saying))
            self.assertEqual(kind.__module__, "foreheads.sayings")


class WrongSayings(unittest.TestCase):
    def word(self, kind, *values):
        with self.assertRaises(InvalidSaying) as caught:
            kind(*values)
        return caught.exception.word

    def is_kind(self, value):
        return isinstance(value, str) and value in ("marked", "plain")

    def test_kind(self):
        for value in any_values():
            if not self.is_kind(value):
                self.assertEqual(self.word(AtLeast, value, 1), "kind")
                self.assertEqual(self.word(Rest, value, 0, 1), "kind")
                self.assertEqual(self.word(Sure, value), "kind")
                self.assertEqual(self.word(Knows, value, Silent()), "kind")

    def test_number(self):
        for value in any_values():
            if is_number(value):
                self.assertEqual(AtLeast("marked", value).number, value)
            else:
                self.assertEqual(self.word(AtLeast, "marked", value), "number")

    def test_period(self):
        for value in any_values():
            if is_number(value) and value >= 1:
                self.assertEqual(Rest("plain", 0, value).period, value)
            else:
                self.assertEqual(self.word(Rest, "plain", 0, value), "period")

    def test_rest(self):
        for value in any_values():
            for period in (1, 2, 3, 10 ** 31):
                if is_number(value) and value < period:
                    self.assertEqual(Rest("plain", value, period).rest, value)
                else:
                    self.assertEqual(self.word(Rest, "plain", value, period), "rest")

    def test_crowds(self):
        for value in any_values() + [(0, 0), Crowds]:
            if isinstance(value, Crowds):
                self.assertIs(Fact(value).crowds, value)
            else:
                self.assertEqual(self.word(Fact, value), "crowds")

    def test_saying(self):
        for value in any_values() + ["silent", Saying, Silent]:
            if isinstance(value, Saying):
                self.assertIs(Common(value).saying, value)
                self.assertIs(Knows("marked", value).saying, value)
            else:
                self.assertEqual(self.word(Common, value), "saying")
                self.assertEqual(self.word(Knows, "marked", value), "saying")
                self.assertEqual(self.word(everybody, value), "saying")
                self.assertEqual(self.word(somebody, value), "saying")

    def test_several_wrong_at_once(self):
        for wrong in any_values()[:12]:
            if not self.is_kind(wrong):
                self.assertEqual(self.word(AtLeast, wrong, -1), "kind")
                self.assertEqual(self.word(Rest, wrong, -1, 0), "kind")
                self.assertEqual(self.word(Knows, wrong, None), "kind")
        for rest in any_values():
            for period in (0, -1, True, None, "1", [1], Silent()):
                self.assertEqual(self.word(Rest, "marked", rest, period), "period")

    def test_bools(self):
        self.assertEqual(self.word(AtLeast, "marked", True), "number")
        self.assertEqual(self.word(Rest, "marked", 0, True), "period")
        self.assertEqual(self.word(Rest, "marked", False, 2), "rest")

    def test_wrong_number_of_arguments(self):
        for kind, values in ((AtLeast, ["marked"]), (Rest, ["marked", 1]), (Fact, []), (Sure, []), (Silent, [1]),
                             (Knows, ["plain"]), (Common, [])):
            self.assertRaises(TypeError, kind, *values)


class BeyondTheLimits(unittest.TestCase):
    def test_great_numbers(self):
        great = 10 ** 30
        self.assertEqual(str(AtLeast("plain", great)), f"plain >= {great}")
        self.assertEqual(str(Rest("plain", great - 1, great)), f"plain by {great} leaves {great - 1}")
        self.assertNotEqual(AtLeast("plain", great), AtLeast("plain", great + 1))
        self.assertEqual(Rest("plain", great - 1, great), Rest("plain", great - 1, great))

    def test_deep_sayings(self):
        saying, text = Silent(), "silent"
        for _ in range(3000):
            saying, text = Knows("plain", ~saying), f"knows plain (~({text}))"
        self.assertEqual(saying.depth, 3001)
        self.assertEqual(str(saying), text)
        self.assertEqual(saying, Knows("plain", ~saying.saying.saying))
        self.assertNotEqual(saying, ~saying)

    def test_long_sayings(self):
        saying = Common(Silent())
        for _ in range(2000):
            saying &= Common(Silent())
        self.assertEqual((saying.depth, saying.commons), (2, 2001))
        self.assertEqual(str(saying).count("silent"), 2001)

    def test_great_facts(self):
        rows = ["+-" * 75 + "-" for _ in range(150)] + ["-" * 151]
        crowds = Crowds((150, 150), (1, 1), rows)
        self.assertEqual(str(Fact(crowds)), str(crowds))
        self.assertEqual(Fact(crowds), Fact(Crowds((150, 150), (1, 1), rows)))
        self.assertNotEqual(Fact(crowds), Fact(~crowds))


if __name__ == "__main__":
    unittest.main()
