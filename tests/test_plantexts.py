"""Promise [15]: texts of plans."""

import random
import re
import unittest

from tests.plansamples import least_sample, many_parts, random_parts, right_plans, sums_sample
from tests.samples import FIELDS
from wishunseen.errors import InvalidText
from wishunseen.plans import Plan
from wishunseen.plantexts import read_plan, write_plan

SAMPLE = Plan.made(3, 1, 2, 2, ((12, ((((1, 2), (0, 0)), ()), (((2, 1),), ((0, 1),)))), (7, (((), ()), ((), ())))))
SAMPLE_TEXT = """plan 3 1 2 2
house 0
ask -
ask 1,2;0,0
ask 2,1
house 1
ask -
ask 0,1
draw 12 1,0 2,1
draw 7 0,0 0,0"""
NUMBER = r"(?:0|[1-9][0-9]{0,199})"
LIST = NUMBER + "(?:," + NUMBER + ")*"


def numbers(text):
    return tuple(int(part) for part in text.split(","))


def written(plan):
    """The text by the words of the document."""
    rows = ["plan " + " ".join(str(n) for n in (plan.p, plan.book_length, plan.book_count, plan.house_count))]
    for n in range(plan.house_count):
        rows += ["house " + str(n)]
        for question in plan.questions[n]:
            rows += ["ask " + (";".join(",".join(map(str, row)) for row in question) or "-")]
    for weight, asks in plan.draws:
        rows += ["draw " + str(weight) + "".join(" " + ",".join(map(str, asked)) for asked in asks)]
    return "\n".join(rows)


def wrong_place(text):
    """The place that the document tells, or None if the text is a plan's; by forms, apart from the program."""
    lines = text.split("\n")
    head = re.fullmatch(rf"plan ({NUMBER}) ({NUMBER}) ({NUMBER}) ({NUMBER})", lines[0])
    if not head or int(head[1]) not in FIELDS or "0" in head.groups():
        return 0
    p, length, count, houses = (int(part) for part in head.groups())
    told, draws, last = [], 0, "plan"
    for k, line in enumerate(lines[1:], 1):
        word = line.split(" ")[0]
        allowed = {
            "house": last in ("plan", "ask") and len(told) < houses and line == f"house {len(told)}",
            "ask": last in ("house", "ask") and ask_fits(line, p, length * count, told),
            "draw": (last == "draw" or last == "ask" and len(told) == houses) and draw_fits(line, count, told),
        }
        if not allowed.get(word, False):
            return sum(len(row) + 1 for row in lines[:k])
        if word == "house":
            told.append([])
        elif word == "ask":
            told[-1].append(question_of(line))
        draws += word == "draw"
        last = word
    return None if draws else len(text)


def question_of(line):
    return () if line == "ask -" else tuple(numbers(row) for row in line[4:].split(";"))


def ask_fits(line, p, columns, told):
    if not re.fullmatch(rf"ask (?:-|{LIST}(?:;{LIST})*)", line):
        return False
    question = question_of(line)
    if any(len(row) != columns or max(row) >= p for row in question):
        return False
    return not told[-1] or told[-1][-1] < question


def draw_fits(line, count, told):
    if not re.fullmatch(rf"draw [1-9][0-9]{{0,199}}(?: {LIST})+", line):
        return False
    words = [numbers(word) for word in line.split(" ")[2:]]
    return len(words) == count and all(
        len(asked) == len(told) and all(n < len(known) for n, known in zip(asked, told)) for asked in words
    )


def small_texts():
    rng = random.Random(14)
    plans = [SAMPLE, sums_sample(2, 2, 1), least_sample(2, 2, 2)] + [
        Plan(*random_parts(rng, p, houses, count, length, most=3, draws=2))
        for p, houses, count, length in ((2, 1, 1, 1), (3, 2, 1, 2), (11, 1, 2, 1), (13, 2, 2, 1), (31, 3, 1, 1))
    ]
    return [write_plan(plan) for plan in plans]


class Writing(unittest.TestCase):
    def test_the_words_of_the_document(self):
        self.assertEqual(write_plan(SAMPLE), SAMPLE_TEXT)
        self.assertEqual(read_plan(SAMPLE_TEXT), SAMPLE)
        self.assertEqual(
            write_plan(Plan(2, 1, 1, ((((1,),),),), ((1, ((0,),)),))), "plan 2 1 1 1\nhouse 0\nask 1\ndraw 1 0",
        )

    def test_many_plans_there_and_back(self):
        for plan in [Plan(*parts) for parts in many_parts()] + right_plans():
            text = write_plan(plan=plan)
            self.assertEqual(text, written(plan))
            self.assertIsNone(wrong_place(text))
            back = read_plan(text=text)
            self.assertIs(type(back), Plan)
            self.assertEqual(back, plan)
            self.assertEqual((back.questions, back.draws, back.weight), (plan.questions, plan.draws, plan.weight))
            self.assertEqual(write_plan(back), text)

    def test_great_weights(self):
        for weight in (10 ** 199, 10 ** 200 - 1, 10 ** 60, 10 ** 61 + 1):
            plan = Plan(2, 1, 1, (((),),), ((weight, ((0,),)), (1, ((0,),))))
            self.assertIn(f"\ndraw {weight} 0\n", write_plan(plan))
            self.assertEqual(read_plan(write_plan(plan)), plan)
        plan = Plan(2, 1, 1, (((),),), ((10 ** 5000, ((0,),)),))
        self.assertTrue(write_plan(plan).endswith("\ndraw 1" + "0" * 5000 + " 0"))

    def test_great_lengths(self):
        text = "plan 2 1" + "0" * 199 + " 1 1\nhouse 0\nask -\ndraw 1 0"
        plan = read_plan(text)
        self.assertEqual((plan.book_length, plan.questions), (10 ** 199, (((),),)))
        self.assertEqual(write_plan(plan), text)


class Wrong(unittest.TestCase):
    def check(self, text, at):
        with self.assertRaises(InvalidText, msg=text) as caught:
            read_plan(text)
        self.assertEqual(caught.exception.text, text)
        self.assertEqual(caught.exception.at, at, text)

    def check_told(self, text):
        """As the forms above tell; whether the text is wrong."""
        at = wrong_place(text)
        if at is None:
            self.assertEqual(write_plan(read_plan(text)), text)
        else:
            self.check(text, at)
        return at is not None

    def test_cut_behind_any_sign(self):
        for text in small_texts():
            for end in range(len(text)):
                self.check_told(text[:end])
                self.check_told(text[end:])

    def test_signs_left_out_put_in_and_replaced(self):
        for text in small_texts():
            wrong = 0
            for at in range(len(text) + 1):
                wrong += self.check_told(text[:at] + text[at + 1:])
                for sign in " \n,;-019ax\u0661\t\r":
                    wrong += self.check_told(text[:at] + sign + text[at:])
                    wrong += self.check_told(text[:at] + sign + text[at + 1:])
            self.assertGreater(wrong, 10 * len(text))

    def test_lines_left_out_doubled_put_in_and_exchanged(self):
        extra = (
            "", " ", "house 0", "house 1", "house 2", "house", "ask -", "ask 0,0", "ask", "ask ", "draw 1 0,0 0,0",
            "draw 1", "draw", "plan 3 1 2 2", "plan", "house 0 ", " house 0", "HOUSE 0", "asks -", "ask  -", "ask -\r",
        )
        for text in small_texts():
            lines = text.split("\n")
            for at in range(len(lines) + 1):
                others = [lines[:at] + lines[at + 1:], lines[:at] + lines[at:at + 1] * 2 + lines[at + 1:]]
                others += [lines[:at] + [line] + lines[at:] for line in extra]
                for other in range(at + 1, len(lines)):
                    others.append(lines[:at] + [lines[other]] + lines[at + 1:other] + [lines[at]] + lines[other + 1:])
                for rows in others:
                    self.check_told("\n".join(rows))

    def test_numbers_changed(self):
        others = ("1" + "0" * 199, "1" + "0" * 200, "9" * 200, "9" * 201, "0" * 200, "00", "", "1_0", "\u00b2")
        for text in small_texts():
            for found in re.finditer("[0-9]+", text):
                near = ("0" + found[0], found[0] + "0", "-" + found[0], "+" + found[0])
                for number in others + near + ("0", "1", "2", "3", "4", "31", "37"):
                    self.check_told(text[:found.start()] + number + text[found.end():])

    def test_blanks_and_line_feeds_too_many(self):
        for text in small_texts():
            self.check(text + "\n", len(text) + 1)
            self.check("\n" + text, 0)
            self.check(" " + text, 0)
            self.check(text + " ", text.rfind("\n") + 1)
            self.check(text.replace("house 0", "house 0 "), text.find("house 0"))
            self.check(text.replace("house 0", "house  0"), text.find("house 0"))
            self.check(text.replace("\n", "\n\n", 1), text.find("\n") + 1)
            self.check(text.replace("\n", "\r\n", 1), 0)

    def test_named_places(self):
        end = len("plan 3 1 2 2\nhouse 0\n")
        for text, at in (
            ("", 0), ("\n", 0), ("plan", 0), ("plan 4 1 2 2", 0), ("plan 3 0 2 2", 0), ("plan 3 1 0 2", 0),
            ("plan 3 1 2 0", 0), ("plan 3 1 2 2 ", 0), ("plan 3 1 2 2 2", 0), ("plan 3 1 2", 0), ("plan 37 1 2 2", 0),
            ("plan 3 1 2 2", 12), ("plan 3 1 2 2\nhouse 0", 20), ("plan 3 1 2 2\n", 13), ("plan 3 1 2 2\nhouse 1", 13),
            ("plan 3 1 2 2\nask -", 13), ("plan 3 1 2 2\ndraw 1 0,0 0,0", 13), ("plan 3 1 2 2\nhouse 0\nhouse 1", end),
            ("plan 3 1 2 2\nhouse 0\nask 3,0", end), ("plan 3 1 2 2\nhouse 0\nask 0", end),
            ("plan 3 1 2 2\nhouse 0\nask 0,0,0", end), ("plan 3 1 2 2\nhouse 0\nask 00,0", end),
            ("plan 3 1 2 2\nhouse 0\nask 0,0;1", end), ("plan 3 1 2 2\nhouse 0\nask 0,0;", end),
            ("plan 3 1 2 2\nhouse 0\nask 0,0\nask -", end + 8), ("plan 3 1 2 2\nhouse 0\nask -\nask -", end + 6),
            ("plan 3 1 2 2\nhouse 0\nask -\ndraw 1 0,0 0,0", end + 6), ("plan 3 1 2 2\nhouse 0\nask -", end + 5),
        ):
            self.check(text, at)
            self.assertEqual(wrong_place(text), at)
        head = "plan 2 1 1 1\nhouse 0\nask -\n"
        for line in (
            "draw 0 0", "draw 1", "draw 1 ", "draw 1 1", "draw 1 0,0", "draw 1 0 0", "draw 01 0", "draw 1 00",
            "draw " + "1" * 201 + " 0", "draw  1 0", "draw 1 -", "draw -1 0", "house 1", "house 0", "plan 2 1 1 1",
        ):
            self.check(head + line, len(head))
            self.check(head + "draw 1 0\n" + line, len(head) + 9)
        self.check(head + "draw 1 0\nask 1", len(head) + 9)
        self.check(head[:-1], len(head) - 1)

    def test_numbers_that_are_great_in_the_first_line(self):
        great = "9" * 200
        for text in (
            f"plan 2 {great} {great} {great}", f"plan 2 1 {great} 1\nhouse 0\nask -",
            f"plan 2 1 1 {great}\nhouse 0\nask 0\nask 1",
        ):
            self.check(text, len(text))
        self.check(f"plan 2 {great} 1 1\nhouse 0\nask 0", len(f"plan 2 {great} 1 1\nhouse 0\n"))
        self.check(f"plan 2 1 {great} 1\nhouse 0\nask -\ndraw 1 0", len(f"plan 2 1 {great} 1\nhouse 0\nask -\n"))
        self.check(f"plan 2 1 1 {great}\nhouse 0\nask -\ndraw 1 0", len(f"plan 2 1 1 {great}\nhouse 0\nask -\n"))


if __name__ == "__main__":
    unittest.main()
