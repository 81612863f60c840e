"""Patterns: letters, series, choices and repeats, with one limit that is left open."""

from openlimit.errors import (
    InvalidNumber, InvalidOperation, InvalidPattern, InvalidWord, LimitError, ParseError, TooLarge,
)
from openlimit.machines.machines import LETTERS, MAX_LETTERS, steps_by_letter
from openlimit.machines.needs import MAX_WORD, need_with
from openlimit.patterns.codes import EITHER, EMPTY, SERIES, STAR, UPTO, coded_machine

MAX_PLACES = 7
MAX_NODES = 40
MAX_DEPTH = 10


def check_pattern(value):
    """Raise InvalidPattern if this is not a pattern."""
    if not isinstance(value, Pattern):
        raise InvalidPattern("this is not a pattern")


def check_text(text):
    """Raise InvalidWord if this is not a string of at most 200 letters."""
    if not isinstance(text, str) or len(text) > MAX_WORD or text.strip(LETTERS) != "":
        raise InvalidWord("this is not a text of at most 200 letters")


def letters_of(code):
    """Return the list of the letters of the pattern with this code, one for each place."""
    return [sign for sign in code if "a" <= sign <= "z"]


def check_parts(code, letters, depth):
    """Raise the first error that applies to a pattern with this code, these letters and this depth."""
    if code[0] == UPTO and UPTO in code[1:]:
        raise InvalidOperation("a limit would stand within a limit")
    if len(letters) > MAX_LETTERS:
        raise InvalidOperation("a pattern has at most four different letters")
    if len(letters_of(code)) > MAX_PLACES:
        raise TooLarge(MAX_PLACES)
    if len(code) > MAX_NODES:
        raise TooLarge(MAX_NODES)
    if depth > MAX_DEPTH:
        raise TooLarge(MAX_DEPTH)


class Pattern:
    """What all patterns have; a pattern is an object of one of the six classes below."""

    def __init__(self, sign, text, *parts):
        code = "".join([sign, *[part._code for part in parts]])
        letters = "".join(sorted(set(letters_of(code))))
        depth = max([part._depth for part in parts], default=0) + 1
        check_parts(code, letters, depth)
        self._code = code
        self._text = text
        self._parts = parts
        self._letters = letters
        self._depth = depth
        # The machine for its own letters and the steps of each letter, as soon as a need is asked for.
        self._machine = None
        self._moves = None

    @classmethod
    def read(cls, text):
        """Return the pattern with this text."""
        # Each of the patterns of which one consists adds at most three signs.
        if not isinstance(text, str) or len(text) > 3 * MAX_NODES:
            raise ParseError("this is not the text of a pattern")
        try:
            found, behind = read_pattern(text, 0, 1)
        except (LimitError, TooLarge):
            raise ParseError("this is not the text of a pattern") from None
        if behind != len(text):
            raise ParseError("there is something behind the text of a pattern")
        return found

    @property
    def letters(self):
        """The string of the letters, ascending."""
        return self._letters

    @property
    def places(self):
        """The number of the places, the letters counted with repeats."""
        return len(letters_of(self._code))

    @property
    def is_open(self):
        """Whether there is a limit."""
        return UPTO in self._code

    @property
    def pieces(self):
        """The tuple of the patterns of which it is made."""
        return self._parts

    def kind(self):
        """Return the first sign of its code: the letter, or one of the five other signs."""
        return self._code[0]

    def machine_for(self, alphabet):
        """Return the machine for the alphabet, which has all letters of the pattern."""
        return coded_machine(self._code, alphabet)

    def upto(self):
        """Return the pattern repeated within the limit."""
        return Upto(self)

    def at(self, number, text):
        """Return whether the text matches with this number."""
        if type(number) != int or number < 0:
            raise InvalidNumber(number)
        least = self._need_of(text)
        return least is not None and least <= number

    def _need_of(self, text):
        """Return the need of the text, or None."""
        check_text(text)
        if text.strip(self._letters) != "":
            return None
        if self._machine is None:
            self._machine = self.machine_for(self._letters or "a")
            self._moves = steps_by_letter(self._machine)
        return need_with(self._machine, self._moves, text)

    def __call__(self, text):
        return self._need_of(text)

    def __add__(self, other):
        return Series(self, other)

    def __or__(self, other):
        return Either(self, other)

    def __invert__(self):
        return Star(self)

    def __len__(self):
        return len(self._code)

    def __str__(self):
        return str(self._text)

    def __eq__(self, other):
        return isinstance(other, Pattern) and self._text == other._text


class Letter(Pattern):
    """Matches this letter."""

    def __init__(self, sign):
        if sign not in list(LETTERS):
            raise InvalidPattern("this is not a letter")
        super().__init__(sign, sign)


class Empty(Pattern):
    """Matches the empty text."""

    def __init__(self):
        super().__init__(EMPTY, "()")


class Series(Pattern):
    """Matches a text of the first pattern, followed by one of the second pattern."""

    def __init__(self, first, second):
        check_pattern(first)
        check_pattern(second)
        super().__init__(SERIES, f"({first}{second})", first, second)


class Either(Pattern):
    """Matches the texts of both patterns."""

    def __init__(self, first, second):
        check_pattern(first)
        check_pattern(second)
        super().__init__(EITHER, f"({first}|{second})", first, second)


class Star(Pattern):
    """Matches any number of texts of the part one after another, or none."""

    def __init__(self, part):
        check_pattern(part)
        super().__init__(STAR, f"{part}*", part)


class Upto(Pattern):
    """Matches at most n texts of the part one after another, or none."""

    def __init__(self, part):
        check_pattern(part)
        super().__init__(UPTO, "".join([str(part), "{n}"]), part)


def pattern_of(kind, pieces):
    """Return the pattern of this kind, which is no letter, that is made of these pieces."""
    if kind == SERIES:
        return Series(pieces[0], pieces[1])
    if kind == EITHER:
        return Either(pieces[0], pieces[1])
    if kind == STAR:
        return Star(pieces[0])
    if kind == UPTO:
        return Upto(pieces[0])
    return Empty()


def read_pattern(text, at, depth):
    """Return the pattern that begins at this place of the text, and the place behind it."""
    if depth > MAX_DEPTH:
        raise TooLarge(MAX_DEPTH)
    if text[at:at + 2] == "()":
        found, at = Empty(), at + 2
    elif text[at:at + 1] == "(":
        found, at = read_pair(text, at + 1, depth + 1)
    else:
        found, at = Letter(text[at:at + 1]), at + 1
    while text[at:at + 1] == "*" or text[at:at + 3] == "{n}":
        if text[at] == "*":
            found, at = Star(found), at + 1
        else:
            found, at = Upto(found), at + 3
    return (found, at)


def read_pair(text, at, depth):
    """Return the series or the choice whose text goes on at this place, and the place behind it."""
    first, at = read_pattern(text, at, depth)
    is_choice = text[at:at + 1] == "|"
    second, at = read_pattern(text, at + 1 if is_choice else at, depth)
    if text[at:at + 1] != ")":
        raise ParseError("a bracket is missing")
    return (Either(first, second) if is_choice else Series(first, second), at + 1)
