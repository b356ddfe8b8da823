"""A desk led by the words: the functions are called one by one, and what is undone is run anew."""

import random

from wishunseen.accounts import spent_by, wastes_of
from wishunseen.hidden import first_seen, guess_chance
from wishunseen.leastplan import least_plan
from wishunseen.libraries import Library
from wishunseen.making import mixed_plans, rehoused_plan, reordered_plan, turned_plan
from wishunseen.right import read_book
from wishunseen.sums import sums_plan, whole_plan


def joined(parts):
    return ",".join(str(part) for part in parts) or "-"


def numbers(word):
    return tuple(int(part) for part in word.split(","))


class DeskByWords:
    """Only for lines that do not raise."""

    def __init__(self, library, house_count):
        self.first, self.house_count = library, house_count
        self.done, self.undone = [], []
        self.renew()

    def renew(self):
        self.library, self.edition = self.first, 0
        self.plan = self.whole(0)
        for line in self.done:
            self.change(line.split(" "))

    def whole(self, house):
        return whole_plan(self.library.p, self.house_count, self.library.book_count, self.library.book_length, house)

    def run(self, line):
        words = line.split(" ")
        if line == "undo":
            self.undone.append(self.done.pop())
            self.renew()
            return ""
        if line == "redo":
            self.done.append(self.undone.pop())
            self.renew()
            return ""
        if words[0] in ("book", "plan", "make"):
            self.done.append(line)
            self.undone = []
            return self.change(words)
        return self.tell(words)

    def change(self, words):
        if words[0] == "book":
            self.library = self.library.changed(int(words[1]), numbers(words[2]))
            self.edition += 1
            return str(self.edition)
        library, plan = self.library, self.plan
        if words[1] == "least":
            blocks = library.book_length // (self.house_count - 1)
            self.plan = least_plan(library.p, self.house_count, library.book_count, blocks)
        elif words[1] == "sums":
            self.plan = sums_plan(library.p, self.house_count, library.book_count)
        elif words[1] == "whole":
            self.plan = self.whole(int(words[2]))
        elif words[1] == "turned":
            self.plan = turned_plan(plan)
        elif words[1] == "mixed":
            self.plan = mixed_plans(plan, turned_plan(plan), int(words[2]), int(words[3]))
        else:
            self.plan = {"reordered": reordered_plan, "rehoused": rehoused_plan}[words[1]](plan, numbers(words[2]))
        return str(len(self.plan.draws))

    def tell(self, words):
        plan = self.plan
        if words[0] == "ask":
            wish, draw = int(words[1]), int(words[2])
            return joined(read_book(plan, wish, draw, plan.answers(wish, draw, self.library)))
        if words[0] == "spent":
            return str(spent_by(plan, int(words[1])))
        if words[0] == "guess":
            return str(guess_chance(plan, numbers(words[1])))
        if words[0] == "wastes":
            vain, beyond, twice = wastes_of(plan, numbers(words[1]))
            return f"{vain} {joined(beyond)} {joined(twice)}"
        found = first_seen(plan, int(words[1]))
        if found is None:
            return "hidden"
        lot, row, wish, weight, other = found
        return f"{joined(lot)} {joined(row)} {wish} {weight} {other}"


def libraries():
    """Libraries and numbers of houses of desks, with the plans that can be made there."""
    rng = random.Random(42)

    def library(p, books, length):
        return Library(p, [[rng.randrange(p) for _ in range(length)] for _ in range(books)])

    return [
        (library(2, 2, 1), 2, ("least", "sums")), (library(3, 2, 2), 3, ("least",)), (library(5, 1, 3), 2, ("least",)),
        (library(2, 3, 1), 3, ("sums",)), (library(31, 4, 6), 4, ("least",)), (library(2, 2, 3), 1, ()),
        (library(7, 3, 5), 6, ("least",)), (library(3, 2, 1), 3, ("sums",)), (library(2, 4, 1), 2, ("least", "sums")),
        (library(13, 2, 5), 3, ()),
    ]


def some_line(rng, desk, plans):
    """Some line that does not raise, of all kinds, on a desk of these plans."""
    plan = desk.plan
    books, houses, draws = plan.book_count, plan.house_count, len(plan.draws)
    wish = rng.randrange(books)
    lot = sorted(rng.sample(range(houses), rng.randint(1, houses)))
    order = rng.sample(range(books), books)
    lines = [
        f"ask {wish} {rng.randrange(draws)}", f"spent {wish}", f"seen {rng.randint(1, houses)}",
        f"guess {joined(lot)}", f"book {wish} {joined(rng.randrange(plan.p) for _ in range(plan.book_length))}",
        f"plan whole {rng.randrange(houses)}", f"make reordered {joined(order)}",
        f"make rehoused {joined(rng.sample(range(houses), houses))}", *[f"plan {word}" for word in plans],
    ]
    if draws <= 60:
        lines.append(f"wastes {joined(order)}")
    if draws * (houses + 1) <= 120:
        lines += ["make turned", f"make mixed {rng.randint(1, 999)} {rng.randint(1, 999)}"]
    if desk.done:
        lines += ["undo", "undo", "undo"]
    if desk.undone:
        lines += ["redo", "redo", "redo", "redo"]
    return rng.choice(lines)
