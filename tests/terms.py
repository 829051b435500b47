"""Sayings, rows and talks as plain tuples: what they are made of, their texts, and drawn ones.

A saying is ("least", kind, number), ("rest", kind, rest, period), ("fact", starts, periods, rows), ("sure", kind),
("silent",), ("knows", kind, saying), ("common", saying), ("not", saying), or (sign, saying, saying). A row is
("say", saying), ("ask", saying), ("hands", saying), ("step",), ("if", saying, rows, others) or ("times", many, rows).
"""

import math
import operator
import random

from foreheads.crowds import Crowds
from foreheads.sayings import AtLeast, Common, Fact, Knows, Rest, Silent, Sure
from foreheads.talks import Ask, Hands, If, Say, Step, Times

KINDS = ("marked", "plain")
SIGNS = {"&": operator.and_, "|": operator.or_, "^": operator.xor, "-": operator.sub}


def saying_of(term):
    """The saying, made by the interface of `sayings`."""
    head = term[0]
    if head == "least":
        return AtLeast(term[1], term[2])
    if head == "rest":
        return Rest(term[1], term[2], term[3])
    if head == "fact":
        return Fact(Crowds(*term[1:]))
    if head == "sure":
        return Sure(term[1])
    if head == "silent":
        return Silent()
    if head == "knows":
        return Knows(term[1], saying_of(term[2]))
    if head == "common":
        return Common(saying_of(term[1]))
    if head == "not":
        return ~saying_of(term[1])
    return SIGNS[head](saying_of(term[1]), saying_of(term[2]))


def text_of(term, least=False):
    """The text by the words of [11]; each fact by its very table, or by the least one."""
    head = term[0]
    if head == "least":
        return f"{term[1]} >= {term[2]}"
    if head == "rest":
        return f"{term[1]} by {term[3]} leaves {term[2]}"
    if head == "fact":
        if least:
            return str(Crowds(*term[1:]))
        return f"[{term[1][0]} {term[1][1]} {term[2][0]} {term[2][1]}: {' '.join(term[3])}]"
    if head == "sure":
        return f"sure {term[1]}"
    if head == "silent":
        return "silent"
    if head == "knows":
        return f"knows {term[1]} ({text_of(term[2], least)})"
    if head == "common":
        return f"common ({text_of(term[1], least)})"
    if head == "not":
        return f"~({text_of(term[1], least)})"
    return f"({text_of(term[1], least)}) {head} ({text_of(term[2], least)})"


def inner(term):
    """The sayings of which a saying is made."""
    return [part for part in term[1:] if isinstance(part, tuple) and isinstance(part[0], str)
            and term[0] in ("knows", "common", "not", *SIGNS)]


def depth_of(term):
    deepest = max([depth_of(part) for part in inner(term)], default=0)
    return deepest + (term[0] in ("sure", "silent", "knows", "common"))


def commons_of(term):
    return (term[0] == "common") + sum(commons_of(part) for part in inner(term))


def drawn_table(chance, start=3, period=3):
    """A table, seldom the least one."""
    starts = (chance.randint(0, start), chance.randint(0, start))
    periods = (chance.randint(1, period), chance.randint(1, period))
    share = chance.choice((0.2, 0.5, 0.8, 1))
    rows = tuple("".join("+" if chance.random() < share else "-" for _ in range(starts[1] + periods[1]))
                 for _ in range(starts[0] + periods[0]))
    return starts, periods, rows


def drawn_simple(chance, number=3):
    head = chance.choice(("least", "least", "rest", "fact", "sure", "silent"))
    kind = chance.choice(KINDS)
    if head == "least":
        return (head, kind, chance.randint(0, number))
    if head == "rest":
        period = chance.randint(1, max(number, 1))
        return (head, kind, chance.randint(0, period - 1), period)
    if head == "fact":
        return (head, *drawn_table(chance))
    return (head, kind) if head == "sure" else (head,)


def drawn_saying(chance, layers, number=3):
    """A saying with at most so many layers around simple ones."""
    if layers == 0 or chance.random() < 0.15:
        return drawn_simple(chance, number)
    head = chance.choice(("knows", "knows", "knows", "common", "not", *SIGNS))
    if head == "knows":
        return (head, chance.choice(KINDS), drawn_saying(chance, layers - 1, number))
    if head in ("common", "not"):
        return (head, drawn_saying(chance, layers - 1, number))
    return (head, drawn_saying(chance, layers - 1, number), drawn_saying(chance, layers - 1, number))


def parts_of(term):
    """Of how many sayings a saying consists."""
    return 1 + sum(parts_of(part) for part in inner(term))


def drawn_great_saying(chance, commons=0):
    """A saying as great as [3] allows: about 30 parts, of depth 4, with at most so many `Common`."""
    term = ("knows", chance.choice(KINDS), ("knows", chance.choice(KINDS), ("knows", chance.choice(KINDS), ("silent",))))
    while True:
        more = drawn_saying(chance, 3, 6)
        longer = (chance.choice(tuple(SIGNS)), *chance.sample([term, more], 2))
        if parts_of(longer) > 30:
            return term
        if depth_of(longer) <= 4 and commons_of(longer) <= commons:
            term = longer


def row_of(term):
    """The row, made by the interface of `talks`."""
    head = term[0]
    if head == "step":
        return Step()
    if head == "times":
        return Times(term[1], rows_of(term[2]))
    if head == "if":
        return If(saying_of(term[1]), rows_of(term[2]), rows_of(term[3]))
    return {"say": Say, "ask": Ask, "hands": Hands}[head](saying_of(term[1]))


def rows_of(terms):
    return [row_of(term) for term in terms]


def lines_of(term, least=False):
    """The lines by the words of [14]."""
    head = term[0]
    if head == "step":
        return ["step"]
    if head == "times":
        return [f"times {term[1]}", *all_lines(term[2], least), "end"]
    first = f"{head} {text_of(term[1], least)}"
    if head != "if":
        return [first]
    others = ["else", *all_lines(term[3], least)] if term[3] else []
    return [first, *all_lines(term[2], least), *others, "end"]


def all_lines(terms, least=False):
    return [line for term in terms for line in lines_of(term, least)]


def numbered(terms):
    """All rows in the order of their lines."""
    found = []
    for term in terms:
        found.append(term)
        if term[0] == "times":
            found += numbered(term[2])
        if term[0] == "if":
            found += numbered(term[2]) + numbered(term[3])
    return found


def drawn_row(chance, blocks, layers=2, number=3):
    """A row with blocks that are at most so deep."""
    if blocks > 0 and chance.random() < 0.4:
        rows = drawn_rows(chance, blocks - 1, chance.randint(0, 3), layers, number)
        if chance.random() < 0.35:
            return ("times", chance.randint(1, 3), rows)
        others = drawn_rows(chance, blocks - 1, chance.randint(0, 2), layers, number)
        return ("if", drawn_saying(chance, layers, number), rows, others)
    head = chance.choice(("say", "ask", "hands", "step"))
    return (head,) if head == "step" else (head, drawn_saying(chance, layers, number))


def drawn_rows(chance, blocks, many, layers=2, number=3):
    return tuple(drawn_row(chance, blocks, layers, number) for _ in range(many))


def sayings_in(terms):
    """The sayings of all rows, with those in blocks."""
    return [term[1] for term in numbered(terms) if term[0] not in ("step", "times")]


def common_period(term):
    """The common multiple of all periods in a saying."""
    if term[0] == "rest":
        return term[3]
    if term[0] == "fact":
        return math.lcm(*term[2])
    return math.lcm(*[common_period(part) for part in inner(term)])


def rows_done(terms):
    """How many rows are done at most in a crowd."""
    many = 0
    for term in terms:
        if term[0] == "times":
            many += 1 + term[1] * rows_done(term[2])
        elif term[0] == "if":
            many += 1 + max(rows_done(term[2]), rows_done(term[3]))
        else:
            many += 1
    return many


def commons_met(terms):
    """How often `Common` is met; both ways of an `If` count."""
    many = 0
    for term in terms:
        if term[0] == "times":
            many += term[1] * commons_met(term[2])
        elif term[0] != "step":
            many += commons_of(term[1]) + (commons_met(term[2]) + commons_met(term[3]) if term[0] == "if" else 0)
    return many


def is_question(terms, sayings=()):
    """Whether a talk, with the sayings passed beside, is within the limits of [3]."""
    everything = sayings_in(terms) + list(sayings)
    return (len(numbered(terms)) <= 12 and rows_done(terms) <= 12
            and all(depth_of(term) <= 4 and parts_of(term) <= 30 for term in everything)
            and math.lcm(*[common_period(term) for term in everything]) <= 6
            and commons_met(terms) + sum(commons_of(term) for term in sayings) <= 2)


def drawn_question(chance, blocks=2, rows=3, layers=2, number=3):
    """Rows and a saying within the limits of [3]."""
    while True:
        terms = drawn_rows(chance, blocks, chance.randint(0, rows), layers, number)
        term = drawn_saying(chance, layers, number)
        if is_question(terms, [term]):
            return terms, term


def drawn_questions(many, seed, **sizes):
    """So many of them, the same ones for the same seed."""
    chance = random.Random(seed)
    return [drawn_question(chance, **sizes) for _ in range(many)]
