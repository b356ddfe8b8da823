"""Pages: texts written as books of letters, and read again."""

from wishunseen.errors import InvalidText, Undefined
from wishunseen.fields import check_field
from wishunseen.kinds import is_sequence, number_of_digits
from wishunseen.libraries import are_books, cut_in_books, letters_of

# The sign numbered n stands at n - 1; the percent sign is none.
SIGNS = " !\"#$&'()*+,-./0123456789:;<=>?@ABCDEFGHIJKLMNOPQRSTUVWXYZ[\\]^_`abcdefghijklmnopqrstuvwxyz{|}~"


def width_of(p):
    """How many letters tell a sign: so many that p to this power is at least 95."""
    check_field(p)
    width = 1
    reach = p
    while reach < len(SIGNS) + 1:
        width += 1
        reach = reach * p
    return width


def pages_of(p, book_length, text):
    """The books that tell the text, the last one filled up with letters 0."""
    check_field(p)
    _check_signs(text)
    digits = _digits_of_signs(p)
    letters = [letter for sign in text for letter in digits[sign]]
    filling = [0] * (-len(letters) % book_length)
    return cut_in_books(book_length, letters + filling)


def text_of(p, pages):
    """The text that the books tell."""
    check_field(p)
    if is_sequence(pages) and len(pages) == 0:
        return ""
    if not are_books(p, pages):
        raise Undefined("text")
    books = tuple([tuple(book) for book in pages])
    text = _signs_ahead(p, letters_of(books))
    # The signs may have ended early: only what is written again as it stands is a text's.
    if pages_of(p, len(books[0]), text) != books:
        raise Undefined("text")
    return text


def _check_signs(text):
    for at, sign in enumerate(text):
        if sign not in SIGNS:
            raise InvalidText(text, at)


def _digits_of_signs(p):
    width = width_of(p)
    return {sign: _digits(p, width, at + 1) for at, sign in enumerate(SIGNS)}


def _digits(p, width, number):
    """The so many digits of a number to the base p, the greatest first."""
    digits = []
    rest = number
    for _ in range(width):
        digits.append(rest % p)
        rest = rest // p
    return digits[::-1]


def _signs_ahead(p, letters):
    """The signs that letters begin with, up to the first number that is no sign's."""
    width = width_of(p)
    signs = []
    for at in range(0, len(letters) - width + 1, width):
        number = number_of_digits(p, letters[at:at + width])
        if number < 1 or number > len(SIGNS):
            break
        signs.append(SIGNS[number - 1])
    return "".join(signs)
