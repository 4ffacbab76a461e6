"""Point [31]: rules as text."""

import unittest

from knotsorts.errors import InvalidRule, InvalidText
from knotsorts.text import format_rule, parse_rule
from helpers import ODD_THINGS, RING, caught, random_rule, some_rules, telling_rules

FOUR = "4\n0 < 1\n0 = 2\n0 > 3\n1 = 2\n1 < 3\n2 > 3"


def written(rule):
    """The text of a rule by the words of the document."""
    lines = [str(len(rule))]
    for x in range(len(rule)):
        for y in range(x + 1, len(rule)):
            lines.append(str(x) + " " + {-1: "<", 0: "=", 1: ">"}[rule[x][y]] + " " + str(y))
    return "\n".join(lines)


class Format(unittest.TestCase):
    def test_the_example(self):
        self.assertEqual(format_rule(RING), "3\n0 < 1\n0 > 2\n1 < 2")

    def test_few_items(self):
        self.assertEqual(format_rule([]), "0")
        self.assertEqual(format_rule([[0]]), "1")
        self.assertEqual(format_rule([[0, 0], [0, 0]]), "2\n0 = 1")

    def test_twelve_items(self):
        text = format_rule(random_rule(12, 3))
        self.assertEqual(text, written(random_rule(12, 3)))
        self.assertEqual(text.count("\n"), 66)
        self.assertEqual([text.split("\n")[0], text.split("\n")[66][-2:]], ["12", "11"])
        self.assertLess(len(text), 1000)

    def test_many(self):
        for rule in some_rules() + telling_rules():
            self.assertEqual(format_rule(rule), written(rule))

    def test_invalid_rules(self):
        for rule, item in ((None, None), ("0", None), ([[1]], 0), ([[0, 0], [0, 2]], 1), ([[0, 1], [1, 0]], 0)):
            self.assertEqual(caught(InvalidRule, format_rule, rule).item, item)


class Parse(unittest.TestCase):
    def check(self, text, line):
        error = caught(InvalidText, parse_rule, text)
        self.assertEqual(error.line, line, text)
        self.assertIs(error.line.__class__, int)

    def test_few_items(self):
        self.assertEqual(parse_rule("0"), [])
        self.assertEqual(parse_rule("1"), [[0]])
        self.assertEqual(parse_rule("2\n0 < 1"), [[0, -1], [1, 0]])
        self.assertEqual(parse_rule("2\n0 = 1"), [[0, 0], [0, 0]])
        self.assertEqual(parse_rule("2\n0 > 1"), [[0, 1], [-1, 0]])
        self.assertEqual(parse_rule(FOUR), [[0, -1, 0, 1], [1, 0, 0, -1], [0, 0, 0, 1], [-1, 1, -1, 0]])

    def test_it_leads_back(self):
        for rule in some_rules() + telling_rules():
            back = parse_rule(format_rule(rule))
            self.assertEqual(back, rule)
            self.assertEqual(len({id(answers) for answers in back}), len(rule))
            self.assertTrue(all(answer.__class__ is int for answers in back for answer in answers))

    def test_lists_are_new(self):
        first, second = parse_rule(FOUR), parse_rule(FOUR)
        self.assertEqual(len({id(answers) for answers in first + second}), 8)
        first[0][1] = 5
        self.assertEqual(parse_rule(FOUR), second)

    def test_by_name(self):
        self.assertEqual(parse_rule(text="1"), [[0]])

    def test_first_lines(self):
        lines = ["", "13", "01", "00", "+1", "-1", "-0", " 1", "1 ", "1.0", "one", "x", " ", "1_0", "1 2", "012", "99",
                 "1" * 20, "0x1", "1,", "\t1", "0 < 1"]
        for line in lines:
            self.check(line, 0)
            self.check(line + "\n0 < 1", 0)
            self.check(line + "\n", 0)
        self.check("\n2\n0 < 1", 0)
        self.check("13\n" + "\n".join(written(random_rule(13, 1)).split("\n")[1:]), 0)

    def test_lines_left_out(self):
        lines = FOUR.split("\n")
        for number in range(1, 7):
            self.check("\n".join(lines[:number]), number)
            # Then the next line stands where it does not belong; without the last one a line is missing.
            self.check("\n".join(lines[:number] + lines[number + 1:]), number)
        self.check("2", 1)
        self.check("12", 1)

    def test_lines_exchanged(self):
        for number in range(1, 6):
            lines = FOUR.split("\n")
            lines[number:number + 2] = lines[number + 1], lines[number]
            self.check("\n".join(lines), number)

    def test_lines_put_in_twice(self):
        lines = FOUR.split("\n")
        for number in range(1, 7):
            self.check("\n".join(lines[:number] + lines[number - 1:]), number)
        self.check("\n".join(lines + lines[-1:]), 7)

    def test_lines_too_many(self):
        for text, line in (("0\n", 1), ("1\n", 1), ("0\n0", 1), ("1\n0 = 0", 1), ("2\n0 < 1\n", 2), ("0\n\n", 1)):
            self.check(text, line)
        self.check(FOUR + "\n", 7)
        self.check(FOUR + "\n\n\n", 7)
        self.check(FOUR + "\n3 < 4\n3 < 5", 7)
        self.check(format_rule(random_rule(12, 1)) + "\n", 67)

    def test_lines_that_are_not_written_in_this_way(self):
        for line in ["", " ", "0", "0 <", "< 1", "0 < ", " < 1", "0<1", "0 <1", "0< 1", "0  < 1", "0 <  1", " 0 < 1",
                     "0 < 1 ", "0 ! 1", "0 << 1", "0 <= 1", "0 == 1", "0 - 1", "00 < 1", "0 < 01", "+0 < 1", "0 < +1",
                     "-0 < 1", "1 > 0", "1 < 0", "0 < 2", "0 < 0", "1 < 1", "a < b", "0 < 1 2", "0 , 1", "0 -1 1",
                     "0 < 1.", "0 < 1 < 2", "0 0 1", "0\t<\t1", "0 < 1;", "0 &lt; 1", "(0 < 1)"]:
            self.check("2\n" + line, 1)
            self.check("4\n" + line + FOUR[FOUR.index("\n0 = 2"):], 1)
        for number in range(1, 7):
            lines = FOUR.split("\n")
            for old, new in ((" ", "  "), (" ", ""), ("<", "~"), ("=", "~"), (">", "~")):
                changed = lines[number].replace(old, new)
                if changed != lines[number]:
                    self.check("\n".join(lines[:number] + [changed] + lines[number + 1:]), number)

    def test_numbers_with_two_digits(self):
        text = format_rule(random_rule(12, 4))
        for old, new in (("10", "010"), ("11", "1 1"), ("11", "12"), ("10", "10 ")):
            lines = text.split("\n")
            lines[66] = lines[66].replace(old, new)
            self.check("\n".join(lines), 66)

    def test_the_first_of_several(self):
        self.check("3\n0 ! 1\n0 ! 2\n1 ! 2", 1)
        self.check("3\n0 < 1\n0 ! 2\n1 ! 2\n", 2)
        self.check("x\n0 ! 1", 0)
        self.check("3\n0 < 1\n\n1 < 2", 2)

    def test_other_line_ends(self):
        self.check("2\r\n0 < 1", 0)
        self.check("2\r0 < 1", 0)
        self.check("2\n0 < 1\r", 1)

    def test_what_is_no_string(self):
        for thing in ODD_THINGS + [0, 1, [], ["1"], b"1"]:
            if not isinstance(thing, str):
                self.check(thing, 0)


if __name__ == "__main__":
    unittest.main()
