"""Programs and wishes as texts of words with single spaces between."""

from hoursmeant.errors import InvalidWords
from hoursmeant.programs import (
    KINDS, MOST_STEPS, STEP_ROLES, check_program, fits_step_role, kinds_of_values,
)
from hoursmeant.questions import WISH_ROLES, check_wish, fits_wish_role
from hoursmeant.zones import check_zones

NO_STEPS = "-"
DIGITS = "0123456789"
# No number in a text or a command has more digits, and those of programs have fewer.
MOST_DIGITS = 12


def write_program(zones, program):
    """The text of the program."""
    check_zones(zones)
    check_program(zones, program)
    if not program:
        return NO_STEPS
    return " then ".join([_text_of(step) for step in program])


def read_program(zones, words):
    """The program with this text."""
    check_zones(zones)
    row = words.split(" ")
    if row[0] == NO_STEPS:
        _check_end(row, 1)
        return ()
    program = (_step_from(zones, (), row, 0),)
    place = len(program[0])
    while place < len(row):
        if row[place] != "then" or len(program) == MOST_STEPS:
            raise InvalidWords(place)
        step = _step_from(zones, program, row, place + 1)
        program = program + (step,)
        place += 1 + len(step)
    return program


def write_wish(zones, program, wish):
    """The text of the wish."""
    check_zones(zones)
    check_program(zones, program)
    check_wish(program, wish)
    return _text_of(wish)


def read_wish(zones, program, words):
    """The wish about the program with this text."""
    check_zones(zones)
    check_program(zones, program)
    row = words.split(" ")
    known = kinds_of_values(program)
    if row[0] not in WISH_ROLES:
        raise InvalidWords(0)
    wish = (row[0],)
    for role in WISH_ROLES[row[0]]:
        item = number_from(_word_at(row, len(wish)))
        if not fits_wish_role(known, role, item):
            raise InvalidWords(len(wish))
        wish = wish + (item,)
    _check_end(row, len(wish))
    return wish


def number_from(word):
    """The integer that the word is the text of, None if it is none of at most twelve digits."""
    digits = word[1:] if word.startswith("-") else word
    if not 1 <= len(digits) <= MOST_DIGITS or not all([mark in DIGITS for mark in digits]):
        return None
    if digits.startswith("0") and word != "0":
        return None
    return int(word)


def _text_of(row):
    return " ".join([str(item) for item in row])


def _step_from(zones, program, row, place):
    # The words of the step behind the program begin at this place of the row.
    known = kinds_of_values(program)
    word = _word_at(row, place)
    if not _can_begin(known, program, word):
        raise InvalidWords(place)
    step = (word,)
    for role in STEP_ROLES[word]:
        further = place + len(step)
        item = _item_from(role, _word_at(row, further))
        if not fits_step_role(zones, known, role, item):
            raise InvalidWords(further)
        step = step + (item,)
    return step


def _can_begin(known, program, word):
    # All but a second edition can be ended if there are values of the kinds it asks for.
    if word not in STEP_ROLES:
        return False
    if word == "edition" and word in [step[0] for step in program]:
        return False
    return all([role in known for role in STEP_ROLES[word] if role in KINDS])


def _item_from(role, word):
    if role in ("fold", "gap"):
        return word
    return number_from(word)


def _word_at(row, place):
    if place >= len(row):
        raise InvalidWords(len(row))
    return row[place]


def _check_end(row, place):
    if place < len(row):
        raise InvalidWords(place)
