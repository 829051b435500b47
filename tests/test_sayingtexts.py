"""Promise [11]: `read_saying`, and what [3] says of texts."""

import itertools
import random
import re
import unittest

from foreheads.crowds import Crowds
from foreheads.errors import InvalidText
from foreheads.sayings import AtLeast, Fact, Rest, Silent, everybody, somebody
from foreheads.sayingtexts import read_saying

from terms import SIGNS, commons_of, depth_of, drawn_saying, drawn_table, saying_of, text_of

KINDS = ("marked", "plain")


class Ends:
    """The second way: all places at which something that begins at a place can end, and whether the text can end in it.

    `goes_over` is set when something could go on behind the end of the text.
    """

    def __init__(self, text):
        self.text = text
        self.goes_over = False

    def word(self, starts, word):
        found = set()
        for at in starts:
            if self.text.startswith(word, at):
                found.add(at + len(word))
            elif word.startswith(self.text[at:]):
                self.goes_over = True
        return found

    def words(self, starts, *options):
        return set().union(*[self.word(starts, option) for option in options])

    def number(self, starts, lowest):
        """Ends of numbers, with the numbers."""
        found = set()
        for at in starts:
            if at == len(self.text):
                self.goes_over = True
            for end in range(at + 1, min(at + 4, len(self.text)) + 1):
                piece = self.text[at:end]
                if re.fullmatch("0|[1-9][0-9]*", piece) and int(piece) >= lowest:
                    found.add((end, int(piece)))
        return found

    def rest(self, start, period):
        return self.words({start}, *[str(number) for number in range(period)])

    def table(self, starts):
        found = set()
        for a in starts:
            for b, down in self.number({a}, 0):
                for c, across in self.number(self.word({b}, " "), 0):
                    for d, more_down in self.number(self.word({c}, " "), 1):
                        for e, more_across in self.number(self.word({d}, " "), 1):
                            found |= self.rows(self.word({e}, ":"), down + more_down, across + more_across)
        return found

    def rows(self, ends, height, width):
        for _ in range(height):
            ends = self.word(ends, " ")
            for _ in range(width):
                ends = self.words(ends, "+", "-")
        return self.word(ends, "]")

    def saying(self, starts):
        if not starts:
            return set()
        found = self.word(starts, "silent") | self.table(self.word(starts, "["))
        for kind in KINDS:
            found |= self.word(starts, f"sure {kind}")
            found |= {end for end, _ in self.number(self.word(starts, f"{kind} >= "), 0)}
            for end, period in self.number(self.word(starts, f"{kind} by "), 1):
                for leaves in self.word({end}, " leaves "):
                    found |= self.rest(leaves, period)
        inside = self.words(starts, "knows marked (", "knows plain (", "common (", "~(")
        found |= self.word(self.saying(inside), ")")
        firsts = self.saying(self.word(starts, "("))
        seconds = self.words(firsts, *[f") {sign} (" for sign in SIGNS])
        return found | self.word(self.saying(seconds), ")")


def begins(text):
    """Whether the text of some saying begins so."""
    ends = Ends(text)
    return len(text) in ends.saying({0}) or ends.goes_over


def is_text(text):
    return len(text) in Ends(text).saying({0})


def longest_beginning(text):
    return max(many for many in range(len(text) + 1) if begins(text[:many]))


def drawn_terms(many, layers, seed):
    chance = random.Random(seed)
    return [drawn_saying(chance, layers, chance.choice((1, 3, 12, 9999))) for _ in range(many)]


class Reading(unittest.TestCase):
    def wrong(self, text):
        with self.assertRaises(InvalidText) as caught:
            read_saying(text)
        return caught.exception.at

    def check(self, text):
        """Holds any text against the second way."""
        if is_text(text):
            return read_saying(text)
        self.assertEqual(self.wrong(text), longest_beginning(text), text)
        return None

    def test_example(self):
        self.assertEqual(read_saying("(silent) | (plain by 3 leaves 1)").depth, 1)

    def test_examples_of_errors(self):
        self.assertEqual(read_saying("plain by 3 leaves 2"), Rest("plain", 2, 3))
        self.assertEqual(self.wrong("plain by 3 leaves 5"), 18)
        self.assertEqual(self.wrong("marked >= 12345"), 14)
        self.assertEqual(self.wrong("[0 0 1 1: ++"), 11)

    def test_by_name(self):
        self.assertEqual(read_saying(text="silent"), Silent())

    def test_sayings_of_all_sorts(self):
        for term in drawn_terms(600, 4, 11):
            text, saying = text_of(term), saying_of(term)
            found = read_saying(text)
            self.assertEqual(str(found), text_of(term, least=True))
            self.assertEqual(found, saying)
            self.assertEqual((found.depth, found.commons), (depth_of(term), commons_of(term)))
            self.assertEqual(str(read_saying(str(saying))), str(saying))

    def test_classes_and_attributes(self):
        found = read_saying("knows plain (marked by 12 leaves 10)")
        self.assertEqual((found.kind, found.saying.kind, found.saying.rest, found.saying.period),
                         ("plain", "marked", 10, 12))
        self.assertIs(type(found.saying.rest), int)
        self.assertEqual(read_saying("plain >= 120").number, 120)
        self.assertEqual(read_saying("common (sure marked)").saying.kind, "marked")
        self.assertEqual(read_saying("[1 0 1 1: - +]").crowds, Crowds.at_least("marked", 1))

    def test_everybody_and_somebody(self):
        for term in drawn_terms(80, 2, 18):
            saying, text = saying_of(term), text_of(term, least=True)
            self.assertEqual(everybody(saying), read_saying(f"(knows marked ({text})) & (knows plain ({text}))"))
            self.assertEqual(somebody(saying), read_saying(f"((marked >= 1) & (knows marked ({text}))) | "
                                                           f"((plain >= 1) & (knows plain ({text})))"))
            for made in (everybody(saying), somebody(saying)):
                found = read_saying(str(made))
                self.assertEqual((found, str(found), found.depth, found.commons),
                                 (made, str(made), made.depth, made.commons))

    def test_tables_that_are_not_the_least(self):
        chance = random.Random(12)
        for _ in range(100):
            table = drawn_table(chance, 4, 4)
            text = text_of(("fact", *table))
            self.assertEqual(read_saying(text), Fact(Crowds(*table)))
            self.assertEqual(str(read_saying(text)), str(Crowds(*table)))
        self.assertEqual(str(read_saying("[2 1 2 2: --- +++ +++ +++]")), "[1 0 1 1: - +]")

    def test_numbers(self):
        for number in (0, 1, 9, 10, 99, 100, 999, 1000, 9999):
            self.assertEqual(read_saying(f"marked >= {number}"), AtLeast("marked", number))
            self.assertEqual(read_saying(f"plain by 9999 leaves {number - (number == 9999)}").rest,
                             number - (number == 9999))
            if number:
                self.assertEqual(read_saying(f"plain by {number} leaves {number - 1}"), Rest("plain", number - 1, number))
                self.assertEqual(self.wrong(f"plain by {number} leaves {number}"),
                                 longest_beginning(f"plain by {number} leaves {number}"))
                for wrong in (f"marked >= 0{number}", f"plain by 0{number} leaves 0"):
                    self.assertEqual(self.wrong(wrong), wrong.index("0") + wrong.startswith("marked"))
        self.assertEqual(self.wrong("marked >= 00"), 11)
        self.assertEqual(self.wrong("marked >= 10000"), 14)
        self.assertEqual(self.wrong("plain by 12345 leaves 1"), 13)
        self.assertEqual(self.wrong("plain by 9999 leaves 9999"), 24)
        self.assertEqual(self.wrong("plain by 120 leaves 121"), 22)
        self.assertEqual(self.wrong("plain by 120 leaves 1199"), 23)
        self.assertEqual(self.wrong("plain by 2 leaves 10"), 19)
        self.assertEqual(self.wrong("plain by 1 leaves 1"), 18)
        self.assertEqual(self.wrong("plain by 0 leaves 0"), 9)
        self.assertEqual(self.wrong("marked >= -1"), 10)
        self.assertEqual(self.wrong("marked >= +1"), 10)
        self.assertEqual(self.wrong("marked >= 1_0"), 11)
        self.assertEqual(self.wrong("marked >= 1 "), 11)

    def test_inside_tables(self):
        good = "[1 1 1 2: +-+ --+]"
        self.assertEqual(str(read_saying(good)), good)
        for text, at in (("[1 1 1 2: +-", 12), ("[1 1 1 2: +- --+]", 12), ("[1 1 1 2: +-+- --+]", 13),
                         ("[1 1 1 2: +-+]", 13), ("[1 1 1 2: +-+ --+ +++]", 17), ("[1 1 1 2: +-+ --]", 16),
                         ("[1 1 0 2: +-+ --+]", 5), ("[1 1 1 0: +-+ --+]", 7), ("[0 0 1 1:+]", 9), ("[0 0 1 1 +]", 8),
                         ("[00 0 1 1: +]", 2), ("[0 01 1 1: +]", 4), ("[0 0 01 1: +]", 5), ("[0 0 1 1: x]", 10),
                         ("[0 0 1 1:  +]", 10), ("[ 0 0 1 1: +]", 1), ("[0 0 1: +]", 6), ("[0 0 1 1: + ]", 11),
                         ("[-1 0 1 1: +]", 1), ("[0 0 12345 1: +]", 9), ("[0 0 1 1: +] ", 12), ("[0 9999 1 12345: +", 14),
                         ("[0 9999 1 9999: +-", 18), ("[9999 0 9999 1: + -", 19), ("[0 0 1 1]", 8), ("[]", 1)):
            self.assertEqual(self.wrong(text), at, text)
            self.assertEqual(longest_beginning(text), at, text)

    def test_empty_text(self):
        self.assertEqual(self.wrong(""), 0)

    def test_cut_off(self):
        for term in drawn_terms(80, 4, 13):
            text = text_of(term)
            for many in range(len(text)):
                if not is_text(text[:many]):
                    self.assertEqual(self.wrong(text[:many]), many, text[:many])

    def test_behind_a_whole_saying(self):
        for text in ("silent", "sure marked", "(silent) & (silent)", "~(silent)", "[0 0 1 1: +]", "common (silent)",
                     "knows plain (sure plain)"):
            for more in (" ", ")", "(", " & (silent)", "x", "]", "\n", "silent", ") & (silent)", "\\", "'", "0"):
                self.assertEqual(self.wrong(text + more), len(text), text + more)
        self.assertEqual(self.wrong("marked >= 12 "), 12)
        self.assertEqual(self.wrong("plain by 12 leaves 1)"), 20)

    def test_wrong_texts(self):
        for text, at in (("Silent", 0), (" silent", 0), ("sile nt", 4), ("sure", 4), ("sure  plain", 5), ("sure both", 5),
                         ("marked > 1", 8), ("marked>= 1", 6), ("knows (silent)", 6), ("knows plain silent", 12),
                         ("knows plain ()", 13), ("common silent", 7), ("common ((silent)", 16), ("~silent", 1),
                         ("~ (silent)", 1), ("(silent)", 8), ("(silent) & silent", 11), ("(silent) and (silent)", 9),
                         ("(silent) & (silent) & (silent)", 19), ("(silent)& (silent)", 8), ("silent & silent", 6),
                         ("(silent) + (silent)", 9), ("\n", 0), ("plain by 3", 10), ("plain by 3 leave 1", 16),
                         ("plain", 5), ("plainly", 5), ("mark", 4), ("pm", 1), ("()", 1), ("((silent)) & (silent)", 9)):
            self.assertEqual(self.wrong(text), at, text)
            self.assertEqual(longest_beginning(text), at, text)

    def test_changed_texts(self):
        chance = random.Random(14)
        pieces = list("0123456789()[]~&|^-+:> =") + ["marked", "plain", "silent", "knows ", " leaves ", "sure ", "common ",
                                                     "\n", "x", " by ", " >= ", ") & (", "(silent)"]
        for term in drawn_terms(260, 3, 15):
            text = text_of(term)
            for _ in range(chance.randint(1, 3)):
                at = chance.randint(0, len(text))
                end = at + chance.choice((0, 0, 1, 1, 2, 6))
                text = text[:at] + chance.choice([*pieces, "", "", ""]) + text[end:]
            found = self.check(text)
            if found is not None:
                self.assertEqual(found, read_saying(str(found)))

    def test_words_left_out_and_exchanged(self):
        chance = random.Random(16)
        for term in drawn_terms(150, 3, 17):
            words = text_of(term).split(" ")
            for _ in range(chance.randint(1, 2)):
                at = chance.randrange(len(words)) if words else 0
                words[at:at + chance.randint(0, 1)] = chance.sample([*words, "plain", "by", "silent"], chance.randint(0, 1))
            self.check(" ".join(words))

    def test_every_sign_everywhere(self):
        for text in ("knows plain (marked by 3 leaves 1)", "([0 1 1 1: +-]) - (marked >= 20)"):
            for at, sign in itertools.product(range(len(text)), "0+-() p2]\n"):
                self.check(text[:at] + sign + text[at:])
                self.check(text[:at] + sign + text[at + 1:])
                self.check(text[:at] + text[at + 1:])

    def test_twenty_open_parentheses(self):
        for opener, closer in (("~(", ")"), ("common (", ")"), ("knows plain (", ")"), ("(", ") & (silent)"),
                               ("(silent) | (", ")")):
            text = opener * 20 + "silent" + closer * 20
            self.assertEqual(str(read_saying(text)), text)
            self.assertEqual(self.wrong(opener * 20), len(opener) * 20)
            self.assertEqual(self.wrong(text[:-1]), len(text) - 1)
            self.assertEqual(self.wrong(text + ")"), len(text))
            self.assertEqual(self.wrong(opener * 20 + "x"), len(opener) * 20)

    def test_two_thousand_signs(self):
        part = "(marked by 1000 leaves 999) ^ (silent)"
        while len(part) < 900:
            part = f"({part}) - (~(sure plain))"
        text = f"({part}) & ({part})"
        self.assertLessEqual(len(text), 2000)
        self.assertGreater(len(text), 1800)
        self.assertEqual(str(read_saying(text)), text)
        self.assertEqual(self.wrong(text[:-30] + "!"), len(text) - 30)
        table = "[30 40 6 6: " + " ".join(["+" + "-" * 45] * 36) + "]"
        self.assertEqual(str(read_saying(table)), "[0 1 1 1: +-]")
        self.assertEqual(self.wrong(table[:-1] + "+]"), len(table) - 1)
        self.assertEqual(self.wrong("x" * 2000), 0)
        self.assertEqual(self.wrong("1" * 2000), 0)
        self.assertEqual(self.wrong("marked >= " + "1" * 1990), 14)


if __name__ == "__main__":
    unittest.main()
