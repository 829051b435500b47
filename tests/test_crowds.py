"""Promises [6], [7] and [8], and what [2] says of sets of crowds."""

import itertools
import operator
import random
import unittest

from foreheads.crowds import Crowds
from foreheads.errors import InvalidCrowds

from samples import any_values, is_crowd, is_integer, is_number, package_objects

KINDS = ("marked", "plain")


def sign_at(starts, periods, rows, marked, plain):
    """The sign of a crowd by a table, straight from the words of [6]."""
    while marked >= starts[0] + periods[0]:
        marked -= periods[0]
    while plain >= starts[1] + periods[1]:
        plain -= periods[1]
    return rows[marked][plain]


def drawn(chance, start, period):
    """A table with starts and periods of at most these."""
    starts = (chance.randint(0, start), chance.randint(0, start))
    periods = (chance.randint(1, period), chance.randint(1, period))
    share = chance.choice((0.05, 0.5, 0.95))
    rows = ["".join("+" if chance.random() < share else "-" for _ in range(starts[1] + periods[1]))
            for _ in range(starts[0] + periods[0])]
    return starts, periods, rows


def blown_up(chance, starts, periods, rows):
    """A greater table of the same set."""
    later = (starts[0] + chance.randint(0, 4), starts[1] + chance.randint(0, 4))
    longer = (periods[0] * chance.randint(1, 3), periods[1] * chance.randint(1, 3))
    return later, longer, [
        "".join(sign_at(starts, periods, rows, marked, plain) for plain in range(later[1] + longer[1]))
        for marked in range(later[0] + longer[0])]


def least_round(parts, start, period):
    """The least period, then the least start, of a sequence that has these; by trying all."""
    def goes_round(low, step):
        return all(parts[at] == parts[at + step] for at in range(low, len(parts) - step))
    step = next(step for step in range(1, period + 1) if goes_round(start, step))
    return next(low for low in range(start + 1) if goes_round(low, step)), step


def least_table(starts, periods, rows):
    """The least table, of a piece of the plane that is long enough to try all starts and periods on."""
    height = starts[0] + 3 * periods[0]
    width = starts[1] + 3 * periods[1]
    piece = [[sign_at(starts, periods, rows, k, l) for l in range(width)] for k in range(height)]
    low, step = least_round(piece, starts[0], periods[0])
    side, stride = least_round([list(column) for column in zip(*piece)], starts[1], periods[1])
    return (low, side), (step, stride), tuple("".join(row[:side + stride]) for row in piece[:low + step])


def table_of(crowds):
    return crowds.starts, crowds.periods, crowds.rows


def piece_of(crowds, far=3):
    """All crowds up to the starts and some periods."""
    height = crowds.starts[0] + far * crowds.periods[0]
    width = crowds.starts[1] + far * crowds.periods[1]
    return [(k, l) for k in range(height) for l in range(width)]


def in_some_sets():
    """Sets of many kinds."""
    chance = random.Random(8)
    sets = [Crowds.nothing(), Crowds.every(), Crowds.of([(0, 0)]), Crowds.of([(3, 1), (0, 4)])]
    sets += [Crowds.at_least(kind, number) for kind in KINDS for number in (1, 4)]
    sets += [Crowds.leaving(kind, 1, period) for kind in KINDS for period in (2, 3)]
    return sets + [Crowds(*drawn(chance, 5, 4)) for _ in range(12)]


class Tables(unittest.TestCase):
    def check(self, starts, periods, rows):
        crowds = Crowds(starts, periods, rows)
        self.assertEqual(table_of(crowds), least_table(starts, periods, rows))
        for value in table_of(crowds):
            self.assertIs(type(value), tuple)
        for marked, plain in itertools.product(range(starts[0] + 2 * periods[0]), range(starts[1] + 2 * periods[1])):
            wanted = sign_at(starts, periods, rows, marked, plain) == "+"
            self.assertIs((marked, plain) in crowds, wanted)
        return crowds

    def test_all_small_tables(self):
        for start, side, step, stride in itertools.product((0, 1, 2), (0, 1), (1, 2), (1, 2)):
            height, width = start + step, side + stride
            lines = ["".join(signs) for signs in itertools.product("+-", repeat=width)]
            for rows in itertools.product(lines, repeat=height):
                self.assertEqual(table_of(Crowds((start, side), (step, stride), rows)),
                                 least_table((start, side), (step, stride), rows))

    def test_drawn_tables(self):
        chance = random.Random(6)
        for _ in range(150):
            self.check(*drawn(chance, 5, 6))

    def test_greater_tables_of_the_same_set(self):
        chance = random.Random(7)
        for _ in range(100):
            table = drawn(chance, 4, 4)
            crowds = self.check(*table)
            greater = Crowds(*blown_up(chance, *table))
            self.assertEqual(table_of(greater), table_of(crowds))
            self.assertEqual(str(greater), str(crowds))
            self.assertTrue(greater == crowds)
            self.assertFalse(greater != crowds)

    def test_rows_that_are_alike(self):
        self.assertEqual(table_of(Crowds((3, 0), (2, 1), ["+"] * 5)), ((0, 0), (1, 1), ("+",)))
        self.assertEqual(table_of(Crowds((0, 3), (1, 2), ["-----"])), ((0, 0), (1, 1), ("-",)))
        self.assertEqual(table_of(Crowds((2, 1), (2, 2), ["-+-"] * 4)), ((0, 0), (1, 2), ("-+",)))
        self.assertEqual(table_of(Crowds((1, 2), (2, 2), ["----", "++++", "----"])), ((0, 0), (2, 1), ("-", "+")))

    def test_least_period_ahead_of_least_start(self):
        # By a period of 4 the start could be 0; the least period asks for a later one.
        self.assertEqual(table_of(Crowds((3, 0), (2, 1), ["+", "-", "-", "+", "-"])),
                         ((2, 0), (2, 1), ("+", "-", "-", "+")))
        self.assertEqual(table_of(Crowds((1, 0), (4, 1), ["+", "-", "+", "-", "+"])), ((0, 0), (2, 1), ("+", "-")))

    def test_six_is_not_only_two_times_three(self):
        for signs, period in (("+-+-+-", 2), ("+--+--", 3), ("++-+--", 6), ("++++++", 1)):
            self.assertEqual(Crowds((0, 0), (1, 6), [signs]).periods, (1, period))
            self.assertEqual(Crowds((0, 0), (6, 1), list(signs)).periods, (period, 1))

    def test_lists_and_tuples(self):
        for kind, other in itertools.product((list, tuple), repeat=2):
            crowds = Crowds(kind((1, 0)), other((1, 2)), kind(("--", "-+")))
            self.assertEqual(table_of(crowds), ((1, 0), (1, 2), ("--", "-+")))

    def test_by_name(self):
        self.assertEqual(str(Crowds(rows=["-", "+"], periods=(1, 1), starts=(1, 0))), "[1 0 1 1: - +]")

    def test_great_tables(self):
        chance = random.Random(9)
        starts, periods = (150, 149), (12, 12)
        rows = ["".join(chance.choice("+-") for _ in range(161)) for _ in range(162)]
        self.assertEqual(table_of(Crowds(starts, periods, rows)), (starts, periods, tuple(rows)))
        self.assertEqual(table_of(Crowds(starts, periods, ["+" * 161] * 162)), ((0, 0), (1, 1), ("+",)))

    def test_attributes_are_set_when_created(self):
        for crowds in in_some_sets() + [~Crowds.nothing(), Crowds.every().beside("plain")]:
            self.assertEqual(sorted(vars(crowds)), ["periods", "rows", "starts"])

    def test_arguments_that_change_later(self):
        starts, periods, rows = [1, 0], [1, 2], ["--", "-+"]
        crowds = Crowds(starts, periods, rows)
        starts[0] = 0
        periods.append(3)
        rows[1] = "++"
        self.assertEqual(str(crowds), "[1 0 1 2: -- -+]")
        several = [(1, 1)]
        crowds = Crowds.of(several)
        several.append((2, 2))
        self.assertEqual(crowds, Crowds.of([(1, 1)]))


class WrongTables(unittest.TestCase):
    def word(self, starts, periods, rows):
        with self.assertRaises(InvalidCrowds) as caught:
            Crowds(starts, periods, rows)
        return caught.exception.word

    def test_starts(self):
        for value in any_values():
            if isinstance(value, (list, tuple)) and len(value) == 2 and all(is_number(part) for part in value):
                continue
            self.assertEqual(self.word(value, (1, 1), ["+"]), "starts", value)
            self.assertEqual(self.word(value, None, None), "starts", value)

    def test_periods(self):
        for value in any_values():
            if isinstance(value, (list, tuple)) and len(value) == 2 and all(
                    is_integer(part) and part >= 1 for part in value):
                continue
            self.assertEqual(self.word((0, 0), value, ["+"]), "periods", value)
            self.assertEqual(self.word([10 ** 30, 0], value, None), "periods", value)

    def test_rows_of_any_kind(self):
        for value in any_values():
            if value != ["+"]:
                self.assertEqual(self.word((0, 0), (1, 1), value), "rows", value)

    def test_any_value_as_a_row(self):
        for value in any_values():
            if not (isinstance(value, str) and value in ("+", "-")):
                self.assertEqual(self.word((0, 0), (1, 1), [value]), "rows", value)
                self.assertEqual(self.word((1, 0), (1, 1), ["+", value]), "rows", value)

    def test_objects_of_any_class_of_the_package(self):
        for value in package_objects():
            self.assertEqual(self.word((0, 0), (1, 1), value), "rows", value)
            self.assertEqual(self.word("x", None, value), "starts", value)
            self.assertEqual(self.word((0, 0), (0, 1), value), "periods", value)
            self.assertEqual(self.word(value, (1, 1), ["+"]), "starts", value)
            self.assertEqual(self.word((0, 0), value, ["+"]), "periods", value)
            self.assertEqual(self.word((0, 0), (1, 1), [value]), "rows", value)

    def test_numbers_of_rows_and_signs(self):
        good = ["+-+", "-+-"]
        self.assertEqual(Crowds((1, 1), (1, 2), good).starts, (1, 0))
        for rows in ([], good[:1], good + ["+++"], ["+-", "-+-"], ["+-+", "-+"], ["+-+", "-+-+"], ["", ""],
                     ["+-+", "-+ "], ["+-+", "-+x"], ["+-+", "-+0"], ["+-+", "-+\n"], ["x-+", "-+-"],
                     "+-", "+-+-+-", [good], (good,), ["+-+", ["-", "+", "-"]], ["+-+", ("-", "+", "-")]):
            self.assertEqual(self.word((1, 1), (1, 2), rows), "rows", rows)
            if isinstance(rows, list):
                self.assertEqual(self.word((1, 1), (1, 2), tuple(rows)), "rows", rows)

    def test_numbers_that_are_too_low(self):
        self.assertEqual(self.word((-1, 0), (2, 1), ["+"]), "starts")
        self.assertEqual(self.word((0, -1), (1, 2), ["+"]), "starts")
        self.assertEqual(self.word((1, 0), (0, 1), ["+"]), "periods")
        self.assertEqual(self.word((0, 1), (1, 0), ["+"]), "periods")
        self.assertEqual(self.word((2, 0), (-1, 1), ["+"]), "periods")

    def test_bools(self):
        for value in (True, False):
            self.assertEqual(self.word((value, 0), (1, 1), ["+", "+"]), "starts")
            self.assertEqual(self.word((0, value), (1, 1), ["++"]), "starts")
        self.assertEqual(self.word((0, 0), (True, 1), ["+"]), "periods")
        self.assertEqual(self.word((0, 0), (1, True), ["+"]), "periods")

    def test_tables_that_are_too_great_for_their_rows(self):
        self.assertEqual(self.word((10 ** 30, 0), (1, 1), ["+"]), "rows")
        self.assertEqual(self.word((0, 0), (1, 10 ** 30), ["+"]), "rows")


class Makers(unittest.TestCase):
    def test_nothing_and_every(self):
        self.assertEqual(str(Crowds.nothing()), "[0 0 1 1: -]")
        self.assertEqual(str(Crowds.every()), "[0 0 1 1: +]")

    def test_of(self):
        chance = random.Random(3)
        for _ in range(40):
            crowds = [(chance.randint(0, 8), chance.randint(0, 8)) for _ in range(chance.randint(0, 9))]
            made = Crowds.of(crowds)
            self.assertEqual(made, Crowds.of(tuple(crowds)))
            for crowd in itertools.product(range(12), repeat=2):
                self.assertIs(crowd in made, crowd in crowds)

    def test_of_edges(self):
        self.assertEqual(Crowds.of([]), Crowds.nothing())
        self.assertEqual(Crowds.of(()), Crowds.nothing())
        self.assertEqual(str(Crowds.of([(0, 0)])), "[1 1 1 1: +- --]")
        self.assertEqual(Crowds.of([(2, 1), (2, 1)]), Crowds.of([(2, 1)]))
        self.assertEqual(Crowds.of(crowds=[(0, 1)]), Crowds.of([(0, 1)]))
        self.assertEqual(Crowds.of([(40, 0), (0, 40)]).starts, (41, 41))

    def test_of_any_value(self):
        for value in any_values():
            if isinstance(value, (list, tuple)) and all(is_crowd(part) for part in value):
                self.assertEqual(Crowds.of(value).size, len(value))
                continue
            with self.assertRaises(InvalidCrowds) as caught:
                Crowds.of(value)
            self.assertEqual(caught.exception.word, "crowds")

    def test_of_any_value_in_it(self):
        for value in any_values():
            if not is_crowd(value):
                for crowds in ([value], (value,), [(1, 1), value], [value, (1, 1)]):
                    with self.assertRaises(InvalidCrowds) as caught:
                        Crowds.of(crowds)
                    self.assertEqual(caught.exception.word, "crowds")

    def test_at_least(self):
        for number in (0, 1, 2, 7, 150):
            marked, plain = Crowds.at_least("marked", number), Crowds.at_least(kind="plain", number=number)
            for many in (0, 1, 2, 6, 7, 8, 149, 150, 151, 10 ** 30):
                self.assertIs((many, 3) in marked, many >= number)
                self.assertIs((3, many) in plain, many >= number)
        self.assertEqual(Crowds.at_least("marked", 0), Crowds.every())
        self.assertEqual(Crowds.at_least("plain", 0), Crowds.every())
        self.assertEqual(str(Crowds.at_least("marked", 1)), "[1 0 1 1: - +]")
        self.assertEqual(str(Crowds.at_least("plain", 2)), "[0 2 1 1: --+]")

    def test_leaving(self):
        for period, rest in itertools.product((1, 2, 3, 6, 12), (-10 ** 30, -13, -1, 0, 1, 2, 5, 12, 10 ** 30)):
            marked = Crowds.leaving("marked", rest, period)
            plain = Crowds.leaving(kind="plain", rest=rest, period=period)
            for many in range(25):
                self.assertIs((many, 2) in marked, many % period == rest % period)
                self.assertIs((2, many) in plain, many % period == rest % period)
        self.assertEqual(Crowds.leaving("plain", 5, 1), Crowds.every())
        self.assertEqual(str(Crowds.leaving("marked", -1, 3)), "[0 0 3 1: - - +]")
        self.assertEqual(str(Crowds.leaving("plain", 4, 3)), "[0 0 1 3: -+-]")


class Signs(unittest.TestCase):
    OPERATORS = (
        (operator.and_, operator.iand, lambda a, b: a and b),
        (operator.or_, operator.ior, lambda a, b: a or b),
        (operator.sub, operator.isub, lambda a, b: a and not b),
        (operator.xor, operator.ixor, lambda a, b: a != b),
    )

    def far(self, one, other):
        height = max(one.starts[0], other.starts[0]) + 2 * one.periods[0] * other.periods[0]
        width = max(one.starts[1], other.starts[1]) + 2 * one.periods[1] * other.periods[1]
        return [(k, l) for k in range(height) for l in range(width)]

    def test_signs(self):
        for one, other in itertools.product(in_some_sets()[::2], in_some_sets()):
            before = table_of(one), table_of(other)
            crowds = self.far(one, other)[::7]
            for sign, in_place, wanted in self.OPERATORS:
                result = sign(one, other)
                self.assertIs(type(result), Crowds)
                for crowd in crowds:
                    self.assertIs(crowd in result, wanted(crowd in one, crowd in other))
                self.assertEqual(table_of(result), table_of(Crowds(*table_of(result))))
                self.assertEqual(in_place(one, other), result)
            self.assertEqual((table_of(one), table_of(other)), before)

    def test_in_place(self):
        for sign, in_place, _ in self.OPERATORS:
            for one, other in itertools.product(in_some_sets()[4:9], repeat=2):
                kept = same = one
                same = in_place(same, other)
                self.assertIsNot(same, one)
                self.assertIs(kept, one)
                self.assertEqual(same, sign(one, other))

    def test_inversion(self):
        for crowds in in_some_sets():
            other = ~crowds
            self.assertEqual(other.starts, crowds.starts)
            self.assertEqual(other.periods, crowds.periods)
            for crowd in piece_of(crowds):
                self.assertIs(crowd in other, crowd not in crowds)
            self.assertEqual(~other, crowds)

    def check_least(self, crowds):
        """By the second way: all starts and periods are tried."""
        self.assertEqual(table_of(crowds), least_table(*table_of(crowds)))
        for value in table_of(crowds):
            self.assertIs(type(value), tuple)
        for row in crowds.rows:
            self.assertIs(type(row), str)

    def test_tables_of_results_are_the_least(self):
        sets = in_some_sets()
        for one, other in itertools.product(sets[::2], sets[1::2]):
            for sign, _, _ in self.OPERATORS:
                self.check_least(sign(one, other))
            self.check_least((one - other) | (one & other))
        for crowds in sets:
            for result in (~crowds, crowds.beside("marked"), crowds.beside("plain"), crowds ^ crowds, crowds | ~crowds):
                self.check_least(result)
        for kind, number in itertools.product(KINDS, (0, 1, 2, 20)):
            self.check_least(Crowds.at_least(kind, number))
            self.check_least(~Crowds.at_least(kind, number).beside(kind))
            for period in (1, 2, 6, 12):
                self.check_least(Crowds.leaving(kind, number, period))

    def test_far_starts(self):
        rows = ["".join("+" if (k * 7 + l * 5 + k * l) % 3 == 0 else "-" for l in range(14)) for k in range(14)]
        near, chance = Crowds((8, 8), (6, 6), rows), random.Random(4)
        for far in (Crowds.at_least("marked", 149), Crowds.at_least("plain", 150),
                    Crowds.at_least("marked", 150) ^ Crowds.at_least("plain", 149)):
            for sign, _, wanted in self.OPERATORS:
                for one, other in ((near, far), (far, near), (far, far), (far, far.beside("plain"))):
                    result = sign(one, other)
                    for _ in range(60):
                        crowd = (chance.choice((3, 9, 148, 149, 150, 151, 10 ** 30)), chance.randint(0, 160))
                        self.assertIs(crowd in result, wanted(crowd in one, crowd in other))
                        self.assertIs(crowd[::-1] in result, wanted(crowd[::-1] in one, crowd[::-1] in other))
            self.assertTrue(near & far < near < near | far)
            self.assertFalse(near <= far or near >= far or far <= near)
        self.assertTrue(Crowds.at_least("marked", 150) < Crowds.at_least("marked", 149))
        self.assertFalse(Crowds.at_least("plain", 149) <= Crowds.at_least("plain", 150))
        self.assertEqual(Crowds.at_least("marked", 149) - Crowds.at_least("marked", 150),
                         Crowds.at_least("marked", 149) & ~Crowds.at_least("marked", 150))
        self.assertEqual(table_of(Crowds.at_least("plain", 150)), ((0, 150), (1, 1), ("-" * 150 + "+",)))

    def test_two_periods(self):
        both = Crowds.leaving("marked", 1, 4) & Crowds.leaving("marked", 2, 3)
        self.assertEqual(both, Crowds.leaving("marked", 5, 12))
        both = Crowds.leaving("plain", 1, 4) & Crowds.leaving("plain", 2, 3)
        self.assertEqual(both, Crowds.leaving("plain", 5, 12))
        self.assertEqual(Crowds.leaving("marked", 0, 2) | Crowds.leaving("marked", 1, 2), Crowds.every())
        self.assertEqual(Crowds.leaving("plain", 0, 6) - Crowds.leaving("plain", 0, 2), Crowds.nothing())

    def test_anything_else(self):
        crowds = Crowds.every()
        for value in any_values():
            if isinstance(value, Crowds):
                continue
            for sign in (operator.and_, operator.or_, operator.sub, operator.xor,
                         operator.le, operator.lt, operator.ge, operator.gt):
                self.assertRaises(TypeError, sign, crowds, value)
                self.assertRaises(TypeError, sign, value, crowds)

    def test_comparisons(self):
        for one, other in itertools.product(in_some_sets(), repeat=2):
            crowds = self.far(one, other)
            less = all(crowd in other for crowd in crowds if crowd in one)
            more = all(crowd in one for crowd in crowds if crowd in other)
            self.assertIs(one <= other, less)
            self.assertIs(one >= other, more)
            self.assertIs(one < other, less and not more)
            self.assertIs(one > other, more and not less)
            self.assertIs(one == other, less and more)
            self.assertIs(one != other, not (less and more))

    def test_subsets(self):
        chance = random.Random(5)
        for _ in range(60):
            one, other = Crowds(*drawn(chance, 4, 3)), Crowds(*drawn(chance, 4, 3))
            self.assertTrue(one & other <= one <= one | other)
            self.assertTrue(one | other >= other >= one & other)
            if one != other:
                self.assertTrue(one & other < one | other)
                self.assertTrue(one | other > one & other)
            self.assertFalse(one < one or one > one)
            self.assertTrue(one <= one and one >= one)

    def test_equal_to_nothing_else(self):
        for crowds in in_some_sets()[:6]:
            for value in any_values() + [str(crowds), table_of(crowds), list(crowds.rows)]:
                if not isinstance(value, Crowds):
                    self.assertIs(crowds == value, False)
                    self.assertIs(crowds != value, True)
                    self.assertIs(value == crowds, False)

    def test_great_sets(self):
        chance = random.Random(1)
        rows = ["".join(chance.choice("+-") for _ in range(162)) for _ in range(153)]
        one = Crowds((150, 150), (3, 12), rows)
        other = Crowds((140, 150), (4, 6), [row[:156] for row in rows[:144]])
        for sign, _, wanted in self.OPERATORS:
            result = sign(one, other)
            for _ in range(1500):
                crowd = (chance.randint(0, 200), chance.randint(0, 200))
                self.assertIs(crowd in result, wanted(crowd in one, crowd in other))
        self.assertTrue(one & other < one < one | other)


class Looking(unittest.TestCase):
    def test_any_value_in_it(self):
        for crowds in in_some_sets()[:8]:
            for value in any_values():
                if is_crowd(value):
                    wanted = sign_at(crowds.starts, crowds.periods, crowds.rows, *value) == "+"
                    self.assertIs(value in crowds, wanted)
                else:
                    self.assertIs(value in crowds, False)

    def test_what_looks_nearly_like_a_crowd(self):
        every = Crowds.every()
        self.assertIn((1, 2), every)
        for value in ([1, 2], (1,), (1, 2, 3), (True, 2), (1, True), (False, False), (-1, 2), (1, -2), (None, 1),
                      ("1", "2"), ((1, 2),), [(1, 2)], ([1], [2]), "12", every, (every, 1), ()):
            self.assertNotIn(value, every)

    def test_great_crowds(self):
        some = Crowds.at_least("marked", 1) & Crowds.leaving("plain", 1, 2)
        self.assertIn((10 ** 30, 10 ** 30 - 1), some)
        self.assertNotIn((10 ** 30, 10 ** 30), some)
        self.assertNotIn((0, 10 ** 30 - 1), some)
        sevens = Crowds.leaving("marked", 3, 7) - Crowds.of([(3, 0)])
        for many in (10 ** 30, 10 ** 30 - 1, 10 ** 29 + 3):
            self.assertIs((many, 5) in sevens, many % 7 == 3)
        chance = random.Random(2)
        for _ in range(50):
            starts, periods, rows = drawn(chance, 9, 6)
            crowds = Crowds(starts, periods, rows)
            marked, plain = chance.randint(20, 10 ** 30), chance.randint(20, 10 ** 30)
            row = rows[starts[0] + (marked - starts[0]) % periods[0]]
            self.assertIs((marked, plain) in crowds, row[starts[1] + (plain - starts[1]) % periods[1]] == "+")

    def test_truth(self):
        for crowds in in_some_sets():
            self.assertIs(bool(crowds), any(crowd in crowds for crowd in piece_of(crowds)))
        self.assertIs(bool(Crowds.nothing()), False)
        self.assertIs(bool(Crowds.of([(0, 0)])), True)
        self.assertIs(bool(Crowds.of([(7, 9)])), True)

    def test_least(self):
        for crowds in in_some_sets():
            inside = [crowd for crowd in piece_of(crowds) if crowd in crowds]
            wanted = min(inside, key=lambda crowd: (crowd[0] + crowd[1], crowd[0]), default=None)
            self.assertEqual(crowds.least, wanted)
        self.assertEqual(Crowds.every().least, (0, 0))
        self.assertIsNone(Crowds.nothing().least)
        self.assertEqual(Crowds.of([(3, 1), (2, 2), (1, 4)]).least, (2, 2))
        self.assertEqual(Crowds.of([(5, 0), (0, 6)]).least, (5, 0))
        self.assertEqual(Crowds.of([(6, 0), (1, 5), (0, 7)]).least, (1, 5))

    def test_size(self):
        for crowds in in_some_sets():
            near = sum(crowd in crowds for crowd in piece_of(crowds, 1))
            far = sum(crowd in crowds for crowd in piece_of(crowds, 2))
            self.assertEqual(crowds.size, near if near == far else None)
        self.assertEqual(Crowds.nothing().size, 0)
        self.assertEqual(Crowds.of([(0, 0), (3, 5), (0, 0)]).size, 2)
        self.assertIsNone(Crowds.every().size)
        self.assertIsNone((~Crowds.of([(1, 1)])).size)
        self.assertIsNone((Crowds.at_least("marked", 2) - Crowds.at_least("plain", 1)).size)
        self.assertIsNone((Crowds.at_least("plain", 2) - Crowds.at_least("marked", 1)).size)
        self.assertEqual((~(Crowds.at_least("plain", 3) | Crowds.at_least("marked", 4))).size, 12)

    def test_marked_in(self):
        for crowds in in_some_sets():
            for number in range(14):
                wanted = tuple(k for k in range(number + 1) if (k, number - k) in crowds)
                self.assertEqual(crowds.marked_in(number), wanted)
        self.assertEqual(Crowds.every().marked_in(0), (0,))
        self.assertEqual(Crowds.nothing().marked_in(5), ())
        self.assertEqual(Crowds.leaving("marked", 1, 4).marked_in(number=1000), tuple(range(1, 1001, 4)))

    def test_beside(self):
        for crowds in in_some_sets():
            before = table_of(crowds)
            marked, plain = crowds.beside("marked"), crowds.beside(kind="plain")
            for k, l in piece_of(crowds, 4):
                self.assertIs((k, l) in marked, k >= 1 and (k - 1, l + 1) in crowds)
                self.assertIs((k, l) in plain, l >= 1 and (k + 1, l - 1) in crowds)
            self.assertEqual(table_of(crowds), before)

    def test_beside_edges(self):
        self.assertEqual(Crowds.every().beside("marked"), Crowds.at_least("marked", 1))
        self.assertEqual(Crowds.every().beside("plain"), Crowds.at_least("plain", 1))
        self.assertEqual(Crowds.of([(0, 0)]).beside("marked"), Crowds.nothing())
        self.assertEqual(Crowds.of([(0, 0)]).beside("plain"), Crowds.nothing())
        self.assertEqual(Crowds.of([(2, 1)]).beside("marked"), Crowds.of([(3, 0)]))
        self.assertEqual(Crowds.of([(2, 1)]).beside("plain"), Crowds.of([(1, 2)]))
        far = Crowds.at_least("marked", 150) & Crowds.leaving("plain", 5, 12)
        self.assertIn((151, 4), far.beside("marked"))
        self.assertNotIn((150, 4), far.beside("marked"))
        self.assertIn((149, 6), far.beside("plain"))

    def test_text(self):
        for crowds in in_some_sets():
            (low, side), (step, stride) = crowds.starts, crowds.periods
            self.assertEqual(str(crowds), f"[{low} {side} {step} {stride}: {' '.join(crowds.rows)}]")
        self.assertEqual(str(Crowds((1, 2), (3, 1), ["+--", "-+-", "--+", "+++"])), "[1 2 3 1: +-- -+- --+ +++]")

    def test_not_iterable(self):
        for crowds in (Crowds.every(), Crowds.of([(1, 2)])):
            self.assertRaises(TypeError, iter, crowds)
            self.assertRaises(TypeError, list, crowds)
            self.assertRaises(TypeError, len, crowds)
            with self.assertRaises(TypeError):
                _, _ = crowds

    def test_example(self):
        some = Crowds.at_least("marked", 1) & Crowds.leaving("plain", 1, 2)
        self.assertEqual((str(some), some.least, some.marked_in(4), str(some.beside("plain")), (10 ** 20, 3) in some),
                         ("[1 0 1 2: -- -+]", (1, 1), (1, 3), "[0 1 1 2: --+]", True))


if __name__ == "__main__":
    unittest.main()
