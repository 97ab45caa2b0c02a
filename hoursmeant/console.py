"""A console: commands in words, to sightings of each place and about programs."""

from hoursmeant.cases import cases
from hoursmeant.errors import HourError, InvalidCommand, InvalidWords, Refused
from hoursmeant.programs import is_time, kinds_of_values, run
from hoursmeant.questions import differences, keeps
from hoursmeant.sightings import Sightings
from hoursmeant.words import number_from, read_program, read_wish
from hoursmeant.zones import check_zones, is_place

MOST_TRIES = 8
# What stands behind the words of the commands to the sightings of a place.
PLACE_COMMANDS = {
    "see": ("place", "number", "number"), "options": ("place", "number"), "looks": ("place",),
    "undo": ("place",),
}


class Console:
    """Sightings for each place of the zones, and the commands to them and about programs."""

    def __init__(self, zones):
        check_zones(zones)
        self._zones = zones
        self._sightings = [Sightings(zone) for zone in zones]

    def execute(self, command):
        """Do what the command says and return what it puts out."""
        tries, word, items = _read_command(self._zones, command)
        self._begin_blocks(tries)
        try:
            told = self._do(word, items)
        except HourError:
            self._finish_blocks(tries)
            raise
        self._finish_blocks(tries)
        return told

    def _begin_blocks(self, tries):
        for _ in range(tries):
            for seen in self._sightings:
                seen.begin()

    def _finish_blocks(self, tries):
        for _ in range(tries):
            for seen in self._sightings:
                seen.finish()

    def _do(self, word, items):
        if word in PLACE_COMMANDS:
            place, *numbers = items
            return _do_at_place(self._sightings[place], word, numbers)
        if word == "cases":
            return str(len(cases(self._zones, *items)))
        if word == "keeps":
            return "yes" if keeps(self._zones, *items) else "no"
        if word == "differences":
            return _row_of(differences(self._zones, *items))
        return self._run(*items)

    def _run(self, start, program):
        tables = tuple([seen.table() for seen in self._sightings])
        try:
            return _row_of(run(self._zones, program, (tables, tables), start))
        except Refused as refusal:
            return f"refused {refusal.step}"


def _do_at_place(seen, word, numbers):
    if word == "see":
        return "new" if seen.see(*numbers) else "known"
    if word == "options":
        return _row_of(seen.options(*numbers))
    if word == "undo":
        return str(seen.undo())
    return " ".join([f"{moment}:{offset}" for moment, offset in seen.looks]) or "-"


def _row_of(numbers):
    return " ".join([str(number) for number in numbers])


def _read_command(zones, command):
    # The number of words "try" ahead, the word of the command behind them, and its items.
    if not isinstance(command, str):
        raise InvalidCommand("not a string")
    words = command.split(" ")
    tries = 0
    while tries < len(words) and words[tries] == "try":
        tries += 1
    if tries == len(words) or tries > MOST_TRIES:
        raise InvalidCommand("no command behind the words try, or too many of them")
    word = words[tries]
    rest = words[tries + 1:]
    if word in PLACE_COMMANDS:
        return tries, word, _place_items(zones, PLACE_COMMANDS[word], rest)
    try:
        return tries, word, _program_items(zones, word, rest)
    except InvalidWords:
        raise InvalidCommand("not a program, or not a wish about it") from None


def _place_items(zones, roles, words):
    if len(words) != len(roles):
        raise InvalidCommand("too few or too many words")
    items = []
    for role, word in zip(roles, words):
        number = _number_from(word)
        if role == "place" and not is_place(zones, number):
            raise InvalidCommand("not a place")
        items.append(number)
    return items


def _program_items(zones, word, words):
    # They stand in the sequence of the parameters of what they are for.
    if word == "cases":
        return [_program_from(zones, words)]
    if word == "run" and words:
        return [_number_from(words[0]), _program_from(zones, words[1:])]
    if word not in ("keeps", "differences") or "of" not in words:
        raise InvalidCommand("no such command")
    behind = words.index("of") + 1
    program = _program_from(zones, words[behind:])
    asked = words[:behind - 1]
    if word == "keeps":
        return [program, read_wish(zones, program, " ".join(asked))]
    return [program] + _indexes_from(program, asked)


def _program_from(zones, words):
    return read_program(zones, " ".join(words))


def _indexes_from(program, words):
    known = kinds_of_values(program)
    indexes = [_number_from(word) for word in words]
    if len(indexes) != 2 or not all([is_time(known, index) for index in indexes]):
        raise InvalidCommand("not two values that are no spans")
    return indexes


def _number_from(word):
    number = number_from(word)
    if number is None:
        raise InvalidCommand("not a number")
    return number
