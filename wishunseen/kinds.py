"""Which kind a value is of, for any value at all, numbers told by figures, and rows of numbers."""


def is_integer(value):
    """Whether value is an integer: Python counts True and False as such, the document does not."""
    return isinstance(value, int) and not isinstance(value, bool)


def is_number(value):
    """Whether value is an integer from 0 on."""
    return is_integer(value) and value >= 0


def is_below(value, limit):
    """Whether value is a number below limit: a letter, or the number of one of so many things."""
    return is_number(value) and value < limit


def is_positive(value):
    """Whether value is an integer above 0."""
    return is_integer(value) and value > 0


def is_between(value, low, high):
    """Whether value is an integer from low to high."""
    return is_integer(value) and low <= value <= high


def is_sequence(value):
    """Whether value is a list or a tuple."""
    return isinstance(value, (list, tuple))


def is_rising(numbers):
    """Whether each number is greater than the one ahead of it."""
    return all([one < other for one, other in zip(numbers, numbers[1:])])


def is_choice(value, limit):
    """Whether value is a rising sequence of numbers below limit."""
    return is_sequence(value) and all([is_below(number, limit) for number in value]) and is_rising(value)


def is_order(value, limit):
    """Whether value is a sequence of all numbers below limit, each once."""
    return are_letters(limit, limit, value) and len(set(value)) == limit


def are_letters(p, count, value):
    """Whether value is a sequence of so many letters for p."""
    return is_sequence(value) and len(value) == count and all([is_below(letter, p) for letter in value])


def is_figures(text):
    """Whether text tells a number by figures, without a needless 0."""
    if text == "" or not all([sign in "0123456789" for sign in text]):
        return False
    return text == "0" or text[0] != "0"


def figures_of(number):
    """The figures of a number, part by part: at once, Python refuses more than 4300 of them."""
    parts = []
    rest = number
    while rest >= 10 ** 60:
        rest, part = divmod(rest, 10 ** 60)
        parts.append(str(part).zfill(60))
    parts.append(str(rest))
    return "".join(parts[::-1])


def number_told(figures):
    """The number that is told by these figures, part by part as in figures_of."""
    number = 0
    ahead = len(figures) % 60
    if ahead > 0:
        number = int(figures[:ahead])
    for at in range(ahead, len(figures), 60):
        number = number * 10 ** 60 + int(figures[at:at + 60])
    return number


def number_or_none(word, most):
    """The number that a word tells by figures, at most so many, or None."""
    return number_told(word) if is_figures(word) and len(word) <= most else None


def numbers_told(words, most):
    """The numbers that words tell, with None in the place of each word that tells none."""
    return tuple([number_or_none(word, most) for word in words])


def list_text(numbers):
    """The numbers by figures, joined by commas."""
    return ",".join([figures_of(number) for number in numbers])


def rows_below(limit, length):
    """All rows of so many numbers below limit, ascending."""
    rows = [()]
    for _ in range(length):
        rows = [(*row, number) for row in rows for number in range(limit)]
    return rows


def number_of_digits(base, digits):
    """The number that has these digits to the base, the greatest first."""
    number = 0
    for digit in digits:
        number = number * base + digit
    return number


def power_up_to(base, exponent, limit):
    """The base (2 or more) to the power exponent; if that is above limit, some number above limit."""
    reach = 1
    done = 0
    while done < exponent and reach <= limit:
        reach = reach * base
        done += 1
    return reach
