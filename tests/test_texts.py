import re
from fractions import Fraction

from loopsbeside.errors import BadLine, TooMuch
from loopsbeside.flat import flat
from loopsbeside.forms import is_alike
from loopsbeside.leastnest import least_nest
from loopsbeside.nests import is_nest, nest_depth
from loopsbeside.programs import is_quest
from loopsbeside.rows import is_row
from loopsbeside.texts import least_text, nest_by, quest_by, row_by, text_of_nest, text_of_quest, text_of_row
from tests.helper import (Case, formula_value, light_formula, light_row, plain_run, plain_within, random_formula,
                          random_quest, random_row, random_worth, ratio, rng_of, row_value)
from tests.quests import (DEEP, LINE, MIXED, NAMED, NONE, ODD, ONE, OVER_I, STARTED, TWO, UNIT, ZERO, asks, own_value,
                          plain_chain)

QUEST = "h = 0\ns = -1/2\nfor i to n\n  s += 1/i*h\n  h += 1/i\ngive 1*s\ngive 2*n*h^2 - 1"
NEST = ("for i1 to n\n  for i2 to i1\n    a += 1/i2\n    b += 1/i2^2\n  for i2 to i1-1\n    for i3 to i2\n"
        "      c += 1\n    d += 1*c\n  e += 1/i1*a*d - 2*b\n  f += 1\ngive 1*e\ngive 1*n*f^2")


def text_value(text, counter, i, names):
    """The value of a sum, as Python reckons it."""
    told = re.sub(r"[a-z][a-z0-9]*|[0-9]+", lambda word: f"V[{word.group()!r}]", text).replace("^", "**")
    values = {word: Fraction(int(word)) for word in re.findall(r"(?<![a-z0-9])[0-9]+", text)}
    # Powers are whole: Python keeps a quotient to a whole power exact.
    values.update({counter: Fraction(i)}, **names)
    return eval(told, {"V": values})


def plain_text_values(text, n):
    """The values of the text of a QUEST, worked from top to bottom."""
    lines = text.split("\n")
    at = lines.index("for i to n")
    held = {}
    for line in lines[:at]:
        name, start = line.split(" = ")
        held[name] = Fraction(start)
    steps = [line for line in lines[at + 1:] if line.startswith("  ")]
    for i in range(1, n + 1):
        for line in steps:
            name, told = line[2:].split(" += ")
            held[name] += text_value(told, "i", i, held)
    return [text_value(line[5:], "n", n, held) for line in lines[at + 1 + len(steps):]]


def plain_loop(lines, at, number, rounds, held):
    """Works the loop whose line is at this place; returns the place of the first line behind it."""
    blanks = "  " * number
    end = at + 1
    while end < len(lines) and lines[end].startswith(blanks):
        end += 1
    body = range(at + 1, end)
    for line in body:
        if lines[line].startswith(blanks) and lines[line][len(blanks)] != " " and " += " in lines[line]:
            held[lines[line].split(" += ")[0].strip()] = Fraction(0)
    for i in range(1, rounds + 1):
        line = at + 1
        while line < end:
            if lines[line].strip().startswith("for "):
                line = plain_loop(lines, line, number + 1, i - 1 if lines[line].endswith("-1") else i, held)
            else:
                name, told = lines[line].strip().split(" += ")
                held[name] += text_value(told, f"i{number}", i, held)
                line += 1
    return end


def plain_nest_values(text, n):
    """The values of the text of a NEST, worked loop by loop."""
    lines = text.split("\n")
    held = {}
    end = plain_loop(lines, 0, 1, n, held)
    return [text_value(line[5:], "n", n, held) for line in lines[end:]]


class Texts(Case):
    def bad(self, function, text, line):
        self.fails(BadLine, {"line": line}, function, text)

    def test_text_of_row(self):
        told = [((), "0"), (UNIT, "1"), (OVER_I, "1/i"), (ODD, "1/2/(i-1/2)"), (LINE, "1*i"),
                (((ONE, ZERO, 0, (-2, 3)), (ONE, ZERO, 2, (-5, 1))), "-2/3 - 5*i^2"),
                (((ONE, (-1, 2), -2, ONE), (ONE, (1, 2), -1, (-1, 3)), (ONE, (3, 1), -12, (7, 1))),
                 "1/(i-1/2)^2 - 1/3/(i+1/2) + 7/(i+3)^12"),
                ((((1, 2), ZERO, 0, ONE), ((2, 1), ZERO, -1, (-1, 9)), ((3, 1), ZERO, 1, ONE)),
                 "1*(1/2)^i - 1/9*2^i/i + 1*3^i*i"),
                ((((2, 3), (1, 3), -2, (-1, 1)),), "-1*(2/3)^i/(i+1/3)^2"), (((ONE, ZERO, 100, ONE),), "1*i^100")]
        for row, text in told:
            self.assertEqual(self.call(text_of_row, row), text)
        rng = rng_of(1)
        for _ in range(60):
            row = random_row(rng)
            text = self.call(text_of_row, row)
            self.assertEqual(self.call(row_by, text), row)
            for i in (1, 2, 7):
                self.assertEqual(text_value(text, "i", i, {}), row_value(row, i))

    def test_long_numbers(self):
        row = ((ONE, ZERO, 0, (10 ** 299 + 1, 10 ** 299)),)
        self.assertEqual(row_by(text_of_row(row)), row)
        # More digits than Python writes at once, with zeros in the middle.
        for number in (10 ** 5000, 10 ** 4999 + 7 * 10 ** 999 + 1, 3 ** 20000, 10 ** 1000, 10 ** 1000 - 1):
            text = text_of_row(((ONE, ZERO, 0, (-number, 1)),))
            value = 0
            for at in range(1, len(text), 400):
                part = text[at:at + 400]
                value = value * 10 ** len(part) + int(part)
            self.assertEqual((text[0], text[1] != "0", value), ("-", True, number))

    def test_row_by(self):
        told = [("0", ()), ("-0", ()), ("00/7", ()), ("1", UNIT), ("007/014", ((ONE, ZERO, 0, (1, 2)),)),
                ("1/i^1", OVER_I), ("1/i^01*i^0", OVER_I), ("1 - 1", ()), ("1*(i-1/2)*(i+1/2)",
                                                                        ((ONE, ZERO, 0, (-1, 4)), (ONE, ZERO, 2, ONE))),
                ("1*2^i*(1/2)^i", UNIT), ("1*(4)^i", (((4, 1), ZERO, 0, ONE),)), ("1*02^i", (((2, 1), ZERO, 0, ONE),)),
                ("1/(i-0)", OVER_I), ("1/(i+2/4)", ((ONE, (1, 2), -1, ONE),)), ("3/2/i/i", ((ONE, ZERO, -2, (3, 2)),)),
                ("-1*i + 1*i - 1/(i-1/2)^0", ((ONE, ZERO, 0, (-1, 1)),)), ("0/i*5^i", ()),
                ("1*i^10", ((ONE, ZERO, 10, ONE),)), ("1*(4/6)^i", (((2, 3), ZERO, 0, ONE),))]
        for text, row in told:
            self.assertEqual(self.call(row_by, text), row)
        rng = rng_of(2)
        for _ in range(60):
            text = self.random_sum(rng, "i", [])
            row = self.call(row_by, text)
            self.assertIs(is_row(row), True)
            for i in (1, 2, 5):
                self.assertEqual(text_value(text, "i", i, {}), row_value(row, i))
        digits = "9" * 300
        self.assertEqual(row_by(digits + "/" + digits), UNIT)

    def random_sum(self, rng, counter, names):
        """A random sum of any kind of factors; of n with places greater than 0 behind each /."""
        pieces = []
        for _ in range(rng.randint(1, 3)):
            text = rng.choice(["0", "1", "2", "07", "1/2", "6/4", "10/5"])
            for _ in range(rng.randint(0, 3)):
                power = rng.choice(["", "", "^2", "^1", "^03", "^0"])
                place = rng.choice(["+1", "+1/2", "+6/4", "+3"] + ([] if counter == "n" else ["-1/2", "-1/3", "+0"]))
                kinds = ["*" + counter + power, f"*({counter}{place}){power}", f"/({counter}{place}){power}",
                         "*2^" + counter, "*(2/3)^" + counter, "*(3)^" + counter]
                kinds += [] if counter == "n" else ["/" + counter + power]
                kinds += ["*" + name + rng.choice(["", "^2", "^1", "^0"]) for name in names] * 2
                text += rng.choice(kinds)
            pieces.append(text)
        told = rng.choice(["", "-"]) + pieces[0]
        for piece in pieces[1:]:
            told += rng.choice([" + ", " - "]) + piece
        return told

    def test_bad_sums(self):
        digits = "9" * 301
        for text in ("", " ", "-", "i", "1 ", " 1", "1+1", "1 +1", "1+ 1", "1 + ", "1 + -1", "--1", "+1", "1 * i",
                     "1*", "1/",
                     "1/0", "1/00", "1//i", "1*n", "1/n", "1*x", "1*x0", "1i", "1*i^", "1*i^-1", "1*i^123", "1*i^i",
                     "1/(i-1)", "1/(i-3/2)", "1*(i-1)", "1*(i-2/2)", "1/(i+1", "1/i+1)", "1/(i)", "1/(1+i)", "1/(i+-1)",
                     "1/(i+1/0)", "1*0^i", "1*(0)^i", "1*(0/3)^i", "1*(1/0)^i", "1*2^n", "1*2^2", "1*(2)^2", "1*2",
                     "1*(2)",
                     "1/2^i", "1/(2)^i", "1*2/3^i", "1*2^i^2", "1.5", "1/2/3", "1*i1", "1*ii", "1*I", digits,
                     "1/" + digits,
                     "1*" + digits + "^i", "1/(i+" + digits + ")", "\u0661", "1*i\u00b2", "1\r", "1\t", "1/i;",
                     "1*(-1)^i",
                     "1*(i +1)", "1/i/", "1**i", "1*i2", "- 1", "1*2^i1"):
            self.bad(row_by, text, 1)
            if "n" not in text:
                self.bad(quest_by, "for i to n\ngive " + text.replace("i", "n"), 2)
        self.bad(row_by, "1\n", 2)
        self.bad(row_by, "1\n1", 2)
        self.bad(row_by, "x\n1", 1)
        self.bad(row_by, "\n", 1)

    def test_sums_of_n(self):
        for text in ("1/n", "1/(n-1/2)", "1/(n+0)", "1/(n+0/5)", "1/n^0", "1*n/n", "1/(n-1/2)^0", "1*i", "1/(i+1)"):
            self.bad(quest_by, "for i to n\ngive " + text, 2)
        told = quest_by("for i to n\ngive 1*(n-1/2)/(n+1/3)\ngive 0")
        self.assertEqual(told[:2], ((), ()))
        self.assertEqual([formula_value(told[2][0], [], n) for n in (0, 3)], [Fraction(-3, 2), Fraction(3, 4)])
        self.assertEqual(told[2][1], ())

    def test_quest_by(self):
        quest = self.call(quest_by, QUEST)
        self.assertEqual(quest[1], (ZERO, (-1, 2)))
        self.assertEqual(quest[0], plain_chain(OVER_I, OVER_I))
        self.assertEqual(quest_by("for i to n"), NONE)
        self.assertEqual(quest_by("a = 7\nfor i to n\n  a += 0"), (((),), ((7, 1),), ()))
        # From top to bottom: s has the new value of h.
        text = "h = 0\ns = 0\nfor i to n\n  h += 1/i\n  s += 1/i*h\ngive 1*s"
        self.assertEqual(quest_by(text)[0][1], (((0,), ((ONE, ZERO, -2, ONE),)), ((1,), OVER_I)))
        # Names of all kinds; a power 0 of a name, and a name whose product is 0.
        names = ["abcdefghijkl", "i0a", "ii", "fo", "nn", "x", "a2", "forto"]
        text = "\n".join([name + " = 2/4" for name in names] + ["for i to n"] +
                         [f"  {name} += 1*{names[0]}^0 - 0*{names[at - 1]}" if at else f"  {name} += 1"
                          for at, name in enumerate(names)] + ["give 1*forto*abcdefghijkl^02"])
        quest = quest_by(text)
        self.assertEqual(quest[1], ((1, 2),) * 8)
        self.assertEqual(quest[0][7], (((0,) * 7, UNIT),))
        self.assertEqual(quest[2], ((((2, 0, 0, 0, 0, 0, 0, 1), UNIT),),))

    def test_quests_top_to_bottom(self):
        rng = rng_of(3)
        for _ in range(40):
            many = rng.randint(0, 3)
            names = rng.sample(["a", "b", "x0", "x1", "ix", "h2o"], many)
            lines = [f"{name} = {rng.choice(['0', '1', '-3/6', '7/2', '-0'])}" for name in names] + ["for i to n"]
            for name in rng.sample(names, many):
                lines.append(f"  {name} += {self.random_sum(rng, 'i', names[:names.index(name)])}")
            lines += ["give " + self.random_sum(rng, "n", names) for _ in range(rng.randint(0, 2))]
            text = "\n".join(lines)
            quest = self.call(quest_by, text)
            self.assertIs(is_quest(quest), True)
            for n in (0, 1, 2, 4):
                state = plain_run(*quest[:2], n)[n]
                values = [formula_value(formula, state, n) for formula in quest[2]]
                self.assertEqual(values, plain_text_values(text, n))

    def check_beginnings(self, function, text, whole_ones):
        """Checks that each beginning of a text is one, or that more lines are missing."""
        lines = text.split("\n")
        for many in range(1, len(lines) + 1):
            beginning = "\n".join(lines[:many])
            if many in whole_ones:
                function(beginning)
            else:
                self.bad(function, beginning, many + 1)
        self.bad(function, text + "\n", len(lines) + 1)
        self.bad(function, "", 1)
        # No line may be empty, have a blank more, or stand in the place of the first one.
        for at in range(len(lines)):
            for line in ("", " ", lines[at] + " ", " " + lines[at], "  " + lines[at], "give", "x", "for i to i"):
                self.bad(function, "\n".join([*lines[:at], line, *lines[at + 1:]]), at + 1)

    def test_bad_quests(self):
        self.check_beginnings(quest_by, QUEST, (5, 6, 7))
        self.bad(quest_by, "h = 0\nfor i to n\ngive 1*h", 3)
        begin = "h = 0\ns = 0\nfor i to n\n"
        for line in ("  h += 1*s", "  h += 1*h", "  t += 1", "  h += 1*n", "  h+= 1", "  h += ", "   h += 1", " h += 1",
                     "h += 1", "  h = 1", "give 1*h", "for i to n", "  h += 1\t", "  s += 1*t", "  h += 1/(i-1)"):
            self.bad(quest_by, begin + line, 4)
            self.bad(quest_by, begin + line + "\n  s += 1", 4)
        self.bad(quest_by, begin + "  h += 1\n  h += 1", 5)
        self.bad(quest_by, begin + "  h += 1", 5)
        self.bad(quest_by, begin + "  h += 1\n  s += 1\n  s += 1", 6)
        self.bad(quest_by, begin + "  h += 1\n  s += 1\ngive 1*t", 6)
        self.bad(quest_by, begin + "  h += 1\n  s += 1\ngive 1\n  s += 1", 7)
        for line in ("h =0", "h= 0", "h = ", "h = --1", "h = +1", "h = 1/0", "h = 1/2/3", "h = x", "h = 1*2", "1h = 0",
                     "H = 0", "i = 0", "n = 0", "for = 0", "to = 0", "give = 0", "i1 = 0", "i07 = 0",
                     "abcdefghijklm = 0",
                     "h_ = 0", " = 0", "h 0", "s = 0", "\u00e9 = 0", "h\u0661 = 0", "h = " + "1" * 301, "x-1 = 0",
                     "h = 1 "):
            self.bad(quest_by, "s = 0\n" + line + "\nfor i to n", 2)
        for line in ("for i to i", "for i1 to n", "for i to n ", " for i to n", "For i to n"):
            self.bad(quest_by, "s = 0\n" + line, 2)

    def test_text_of_quest(self):
        self.assertEqual(self.call(text_of_quest, NONE), "for i to n")
        self.assertEqual(text_of_quest(STARTED), "x0 = 1/2\nx1 = -3\nfor i to n\n  x1 += 1/2/(i-1/2)*x0\n  x0 += 1/i\n"
                                                 "give 1*x1\ngive 1*x0")
        two = ((), (((2,), LINE + ((ONE, ONE, -1, (-1, 2)),)),))
        quest = (two, (ZERO, ZERO), ((), (((0, 3), UNIT), ((1, 2), ((ONE, (1, 2), -2, (-7, 3)),)))))
        self.assertEqual(text_of_quest(quest),
                         "x0 = 0\nx1 = 0\nfor i to n\n  x1 += 1*i*x0^2 - 1/2/(i+1)*x0^2\n  x0 += 0\n"
                                               "give 0\ngive 1*x1^3 - 7/3/(n+1/2)^2*x0*x1^2")
        rng = rng_of(4)
        for quest in NAMED + [random_quest(rng, 4, 3) for _ in range(30)]:
            text = self.call(text_of_quest, quest)
            self.assertEqual(self.call(quest_by, text), quest)
            self.assertEqual(len(text.split("\n")), 2 * len(quest[0]) + 1 + len(quest[2]))
        for _ in range(20):
            program = tuple(random_formula(rng, place, 3, False, 9) for place in range(3))
            quest = (program, tuple(random_worth(rng) for _ in range(3)), (random_formula(rng, 3, 3, True),))
            self.assertEqual(quest_by(text_of_quest(quest)), quest)
        many = (((),) * 12, (ZERO,) * 12, (own_value(11, 12), own_value(10, 12)))
        self.assertEqual(text_of_quest(many).split("\n")[-2:], ["give 1*x11", "give 1*x10"])
        self.assertEqual(quest_by(text_of_quest(many)), many)

    def test_nest_by(self):
        nest, asked = self.call(nest_by, NEST)
        self.assertIs(is_nest(nest), True)
        inner, steps = nest
        self.assertEqual([late for _, late in inner], [True, False])
        self.assertEqual([len(one[1]) for one, _ in inner], [2, 1])
        self.assertEqual(inner[1][0][0][0][1], True)
        self.assertEqual(len(steps), 2)
        self.assertEqual(asked, (own_value(0, 2), (((0, 2), LINE),)))
        for n in (0, 1, 2, 5):
            state = plain_run(*flat(nest, asked)[:2], n)[n]
            values = [formula_value(formula, state, n) for formula in flat(nest, asked)[2]]
            self.assertEqual(values, plain_nest_values(NEST, n))
        self.assertEqual(nest_by("for i1 to n"), (((), ()), ()))
        self.assertEqual(nest_by("for i1 to n\ngive 1*n\ngive 0"), (((), ()), ((((), LINE),), ())))
        self.assertEqual(nest_by("for i1 to n\n  x += 0"), (((), ((),)), ()))

    def test_bad_nests(self):
        self.check_beginnings(nest_by, NEST, (1, 9, 10, 11, 12))
        begin = "for i1 to n\n  for i2 to i1\n    a += 1\n"
        for line in ("  for i2 to i2", "  for i3 to i1", "  for i02 to i1", "  for i2 to i1-2", "  for i2 to i1 -1",
                     "for i2 to i1",
                     "    for i3 to i2", "      b += 1", "  a += 1", "    a += 1", "  b += 1*c", "  b += 1*b",
                     "  b += 1*i2",
                     "  b += 1*i", "  b += 1/(i1-1)", "    b += 1*a", "   b += 1", "b += 1", "give 1", "  i7 += 1",
                     "  n += 1",
                     "    b += 1*i1", "  for i2 to n", "  for i2 to i1-1 ", "  give 1", "  for i2 to i1--1"):
            self.bad(nest_by, begin + line, 4)
            self.bad(nest_by, begin + line + "\n  z += 1\ngive 1", 4)
        done = begin + "  b += 1*a\n"
        for line in ("  for i2 to i1", "    c += 1", "  b += 1", "give 1*a", "give 1/n", "give 1*b*i1", "for i1 to n",
                     "  c += 1*b"):
            self.bad(nest_by, done + line, 5)
        self.bad(nest_by, done + "give 1*b\n  c += 1", 6)
        self.bad(nest_by, begin.rstrip("\n"), 4)
        self.bad(nest_by, "for i1 to n\n  for i2 to i1", 3)
        self.bad(nest_by, "for i1 to n\n  for i2 to i1\n  b += 1", 3)
        for line in ("for i to n", "for i1 to n ", "for i2 to n", "", "x = 0", "  x += 1", "give 1"):
            self.bad(nest_by, line, 1)
        self.bad(nest_by, "for i1 to n\n x += 1", 2)
        # Two levels are never closed at once: the loop between has no += line yet.
        deep = "for i1 to n\n  for i2 to i1\n    for i3 to i2-1\n      a += 1\n"
        self.bad(nest_by, deep + "  b += 1", 5)
        self.assertEqual(nest_depth(nest_by(deep + "    b += 1*a\n  c += 1*b")[0]), 3)

    def random_nest_text(self, rng):
        lines = ["for i1 to n"]
        names = []

        def body(number):
            known = []
            if number < 3:
                for _ in range(rng.choice([0, 1, 1, 2])):
                    late = rng.choice(["", "-1"])
                    lines.append("  " * number + f"for i{number + 1} to i{number}{late}")
                    known += body(number + 1)
            own = []
            for _ in range(rng.choice([1, 1, 2])):
                name = f"c{len(names)}"
                names.append(name)
                own.append(name)
                lines.append("  " * number + f"{name} += {self.random_sum(rng, f'i{number}', known)}")
            return own

        own = body(1) if rng.random() < 0.9 else []
        return "\n".join(lines + ["give " + self.random_sum(rng, "n", own) for _ in range(rng.randint(0, 2))])

    def test_random_nests(self):
        rng = rng_of(5)
        for _ in range(30):
            text = self.random_nest_text(rng)
            nest, asked = self.call(nest_by, text)
            self.assertIs(is_nest(nest), True)
            written = self.call(text_of_nest, nest, asked)
            self.assertEqual(nest_by(written), (nest, asked))
            for n in (0, 1, 3):
                self.assertEqual(plain_nest_values(written, n), plain_nest_values(text, n))
            self.assertEqual(len(written.split("\n")), len(text.split("\n")))
            names = re.findall(r"(x\d+) \+=", written)
            self.assertEqual(names, [f"x{at}" for at in range(len(names))])

    def test_text_of_nest(self):
        self.assertEqual(self.call(text_of_nest, ((), ()), ()), "for i1 to n")
        self.assertEqual(text_of_nest(((), ()), ((((), LINE),), ())), "for i1 to n\ngive 1*n\ngive 0")
        nest, asked = nest_by(NEST)
        expected = NEST
        for at, name in enumerate("abcdef"):
            expected = re.sub(rf"\b{name}\b", f"x{at}", expected)
        self.assertEqual(text_of_nest(nest, asked), expected.replace("1/i1*x0*x3 - 2*x1", "-2*x1 + 1/i1*x0*x3"))
        text = "for i1 to n\n  for i2 to i1\n    x0 += 1/i2\n  x1 += 1/i1*x0\ngive 1*x1"
        self.assertEqual(text_of_nest(*nest_by(text)), text)

    def test_least_text(self):
        text = "for i1 to n\n  for i2 to i1\n    x0 += 1/i2\n  x1 += 1/i1*x0\ngive 1*x1"
        found = self.call(least_text, text)
        self.assertEqual(found, text_of_nest(*least_nest(flat(*nest_by(text)))))
        self.assertEqual(nest_depth(nest_by(found)[0]), 1)
        self.assertIs(is_alike(flat(*nest_by(found)), flat(*nest_by(text))), True)
        for quest in (TWO, DEEP, MIXED, asks(plain_chain(OVER_I, OVER_I, UNIT), 2)):
            text = text_of_nest(*least_nest(quest, True))
            self.assertIs(is_alike(flat(*nest_by(least_text(text))), quest), True)
        self.assertEqual(least_text("for i1 to n"), "for i1 to n")
        self.bad(least_text, text + "\n", len(text.split("\n")) + 1)
        heavy = "for i1 to n\n  x += 1/i1^5\ngive 1*x"
        self.assertFalse(plain_within(flat_unchecked(heavy)))
        self.fails(TooMuch, {}, least_text, heavy)
        self.bad(least_text, heavy + "/", 3)
        self.fails(TooMuch, {}, least_text, "for i1 to n\n  x += 1/i1^3\ngive 1*x^2")

    def test_light_rows(self):
        rng = rng_of(6)
        for _ in range(20):
            row = light_row(rng)
            self.assertEqual(row_by(text_of_row(row)), row)
            formula = light_formula(rng, 2)
            quest = (((), ()), (ZERO, ZERO), ())
            quest = (quest[0] + (formula,), quest[1] + (ONE,), ())
            self.assertEqual(quest_by(text_of_quest(quest)), quest)
            self.assertEqual(ratio(quest[1][2]), 1)


def flat_unchecked(text):
    """The QUEST of a NEST of one loop."""
    (_, steps), asked = nest_by(text)
    return (tuple(steps), (ZERO,) * len(steps), asked)
