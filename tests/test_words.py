"""[19]: programs and wishes as words, and the place of the first word that cannot stand."""

import random
import re
import unittest
from functools import lru_cache

from hoursmeant.errors import InvalidProgram, InvalidWish, InvalidWords, InvalidZones
from hoursmeant.programs import is_program
from hoursmeant.questions import is_wish
from hoursmeant.words import read_program, read_wish, write_program, write_wish
from tests.helpers import ODD_VALUES, next_steps, programs_of, slow_kinds, times_of

ZONE = ((0, 60), 100)
ONE = (ZONE,)
TWO = (ZONE, ((-30, 30), 200))
RULES = [(fold, gap) for fold in ("early", "late", "refuse") for gap in ("ahead", "behind", "refuse")]
ALL_STEPS = (
    ("read", 0, 0), ("offset", 0, 1), ("find", 1, 0, "early", "refuse"), ("edition", 3, 1), ("plus", 4, 2),
    ("less", 5, 2), ("add", 6, -100000), ("read", 7, 1),
)
ALL_TEXT = (
    "read 0 0 then offset 0 1 then find 1 0 early refuse then edition 3 1 then plus 4 2 then less 5 2"
    " then add 6 -100000 then read 7 1"
)
MINUTES = (0, 1, -1, 9, 10, -10, 60, -99999, 99999, -100000, 100000)
# What can be missing behind a word, so that a program or a wish ends there.
ENDINGS = [text.split() for text in (
    "", "0", "0 0", "0 0 0", "0 early ahead", "early ahead", "ahead", "read 0 0",
    *[str(v) for v in range(1, 9)], *[f"{v} 0 early ahead" for v in range(9)],
    *[f"{v} {s}" for v in range(9) for s in range(9) if v + s > 0],
)]
WORDS = (
    "read find offset edition plus less add then - found same order near of try early late refuse ahead behind"
    " 0 1 2 3 4 5 6 7 8 9 10 -1 -0 00 07 01 60 -60 100000 100001 -100000 -100001 1000000 1000001 +1 1.0 1e1 _1 1_0"
    " Read READ then, start 0x1 -- 5- 1-1"
).split() + ["", "\n", "0\n", "read\n", "\n0", "1" * 3000, "0" * 3000, "-" * 20]


def item_of(word):
    """The integer for a word of digits, else the word."""
    return int(word) if re.fullmatch(r"-?[0-9]{1,20}", word) else word


def is_program_text(zones, words):
    """Whether the words are the text of a program, as [19] says, by taking them apart at each "then"."""
    if words == ["-"]:
        return True
    steps, step = [], []
    for word in words + ["then"]:
        if word == "then":
            steps.append(tuple(step))
            step = []
        else:
            step.append(item_of(word))
    program = tuple(steps)
    if not is_program(zones, program) or () in program:
        return False
    return " then ".join(" ".join(str(item) for item in step) for step in program) == " ".join(words)


def is_wish_text(zones, program, words):
    """Whether the words are the text of a wish about the program."""
    wish = tuple(item_of(word) for word in words)
    return is_wish(zones, program, wish) and " ".join(str(item) for item in wish) == " ".join(words)


@lru_cache(maxsize=None)
def begins_a_program(zones, words):
    """Whether the text of some program begins with these words."""
    return any(is_program_text(zones, [*words, *ending]) for ending in ENDINGS)


@lru_cache(maxsize=None)
def begins_a_wish(zones, program, words):
    """Whether the text of some wish about the program begins with these words."""
    return any(is_wish_text(zones, program, [*words, *ending]) for ending in ENDINGS)


def slow_place(begins, words):
    """The number of the first word that cannot stand, the number of words if all can."""
    return next((k for k in range(len(words)) if not begins(tuple(words[:k + 1]))), len(words))


def drawn_program(draw, zones, length):
    """A program of so many steps."""
    program = ()
    for _ in range(length):
        steps = list(next_steps(zones, slow_kinds(program), MINUTES, RULES))
        if "edition" in [step[0] for step in program]:
            steps = [step for step in steps if step[0] != "edition"]
        word = draw.choice(sorted({step[0] for step in steps}))
        program += (draw.choice([step for step in steps if step[0] == word]),)
    return program


def drawn_programs(number):
    draw = random.Random(19)
    for k in range(number):
        zones = (ONE, TWO)[k % 2]
        yield zones, drawn_program(draw, zones, k % 9)


def wishes_of(program):
    yield ("found",)
    for i in times_of(program):
        for j in times_of(program):
            yield from (("same", i, j), ("order", i, j), ("near", i, j, 0), ("near", i, j, 1000000), ("near", i, j, 60))


def changed(words):
    """The words with one left out, put in, doubled, changed, or swapped with the next one."""
    for k in range(len(words) + 1):
        yield words[:k]
        yield words[:k] + words[k + 1:]
        yield words[:k] + words[k:k + 1] + words[k:]
        yield words[:k] + words[k + 1:k + 2] + words[k:k + 1] + words[k + 2:]
        for word in WORDS:
            yield words[:k] + [word] + words[k:]
            yield words[:k] + [word] + words[k + 1:]


class TestWriteProgram(unittest.TestCase):
    def test_each_step(self):
        self.assertEqual(write_program(TWO, ALL_STEPS), ALL_TEXT)
        self.assertEqual(write_program(ONE, ()), "-")
        for step, text in (
            (("read", 0, 0), "read 0 0"), (("offset", 0, 1), "offset 0 1"), (("edition", 0, 1), "edition 0 1"),
            (("add", 0, -7), "add 0 -7"), (("add", 0, 0), "add 0 0"), (("add", 0, 100000), "add 0 100000"),
        ):
            self.assertEqual(write_program(TWO, (step,)), text)
            self.assertEqual(write_program(TWO, (step, ("read", 0, 0))), text + " then read 0 0")

    def test_rules(self):
        for fold, gap in RULES:
            program = (("read", 0, 0), ("find", 1, 0, fold, gap))
            self.assertEqual(write_program(ONE, program), f"read 0 0 then find 1 0 {fold} {gap}")

    def test_errors(self):
        for odd in (*ODD_VALUES, 0, ALL_TEXT, list(ALL_STEPS), ALL_STEPS[1:]):
            self.assertRaises(InvalidProgram, write_program, ONE, odd)
            self.assertRaises(InvalidZones, write_program, ZONE, odd)
        self.assertRaises(InvalidProgram, write_program, ONE, ALL_STEPS)


class TestReadProgram(unittest.TestCase):
    def refused(self, zones, words, place):
        with self.assertRaises(InvalidWords) as caught:
            read_program(zones, words)
        self.assertEqual(caught.exception.place, place, words)

    def test_each_step(self):
        self.assertEqual(read_program(TWO, ALL_TEXT), ALL_STEPS)
        self.assertEqual(read_program(ONE, "-"), ())
        self.assertEqual(read_program(ONE, "add 0 -5"), (("add", 0, -5),))
        found = read_program(TWO, ALL_TEXT)
        self.assertIs(type(found), tuple)
        self.assertEqual({type(step) for step in found}, {tuple})
        self.assertEqual({type(item) for step in found for item in step}, {str, int})

    def test_places_by_hand(self):
        for words, place in (
            ("", 0), (" ", 0), ("x", 0), ("then", 0), ("--", 0), ("- -", 1), ("- ", 1), ("- then read 0 0", 1),
            (" -", 0), ("read", 1), ("read 0", 2), ("read 1 0", 1), ("read 0 1", 2), ("read 0 0 ", 3), ("read 0 0 0", 3),
            (" read 0 0", 0), ("read  0 0", 1), ("read 0  0", 2), ("read 0 0 then", 4), ("read 0 0 then ", 4),
            ("read 0 0 read 0 0", 3), ("read 0 0 then -", 4), ("read 0 0 then then", 4), ("read 0 0\n", 2), ("READ 0 0", 0),
            ("read 00 0", 1), ("read -0 0", 1), ("read 0 -0", 2), ("read 0 00", 2), ("read 0 0 then read 1 0", 5),
            ("add 0 07", 2), ("add 0 -0", 2), ("add 0 +7", 2), ("add 0 100001", 2), ("add 0 -100001", 2), ("add 0 7.", 2),
            ("add 0 " + "1" * 3900, 2), ("add 0 " + "0" * 3900, 2), ("add 0 -", 2), ("add 0 --1", 2), ("add 0 1-", 2),
            ("add 1 5", 1), ("add 0", 2), ("found", 0), ("same 0 0", 0),
        ):
            self.refused(ONE, words, place)

    def test_find_not_ahead_of_the_first_reading(self):
        for ahead in ("", "offset 0 0 then ", "add 0 5 then ", "edition 0 0 then offset 1 0 then "):
            self.refused(ONE, ahead + "find 0 0 early ahead", len(ahead.split()))
        self.refused(ONE, "read 0 0 then find 0 0 early ahead", 5)
        self.refused(ONE, "read 0 0 then find 1 0 ahead early", 7)
        self.refused(ONE, "read 0 0 then find 1 0 early late", 8)
        self.refused(ONE, "read 0 0 then find 1 0 early", 8)
        self.refused(ONE, "read 0 0 then find 1 0 early ahead find", 9)
        self.assertEqual(
            read_program(ONE, "read 0 0 then find 1 0 early ahead"), (("read", 0, 0), ("find", 1, 0, "early", "ahead")),
        )

    def test_plus_and_less_not_ahead_of_what_they_need(self):
        self.refused(ONE, "plus 0 0", 0)
        self.refused(ONE, "read 0 0 then plus 0 0", 4)
        self.refused(ONE, "less 0 0", 0)
        self.refused(ONE, "read 0 0 then less 1 1", 4)
        self.refused(ONE, "offset 0 0 then less 0 1", 4)
        self.refused(ONE, "offset 0 0 then plus 1 1", 5)
        self.refused(ONE, "offset 0 0 then plus 0 0", 6)
        self.refused(ONE, "offset 0 0 then read 0 0 then less 0 1", 9)
        self.refused(ONE, "offset 0 0 then read 0 0 then less 2 2", 10)
        self.assertEqual(read_program(ONE, "offset 0 0 then plus 0 1 then less 2 1")[2], ("less", 2, 1))

    def test_edition_not_a_second_time(self):
        self.refused(TWO, "edition 0 0 then edition 0 0", 4)
        self.refused(TWO, "edition 0 0 then read 0 0 then edition 0 1", 8)
        self.refused(TWO, "edition 0 0 then edition", 4)

    def test_then_not_behind_the_eighth_step(self):
        eight = " then ".join(["add 0 1"] * 8)
        self.assertEqual(read_program(ONE, eight), (("add", 0, 1),) * 8)
        self.refused(ONE, eight + " then", 31)
        self.refused(ONE, eight + " then add 0 1", 31)
        self.refused(ONE, " then ".join(["add 0 1"] * 7) + " then", 28)

    def test_span_as_a_time(self):
        self.refused(ONE, "offset 0 0 then add 1 5", 5)
        self.refused(ONE, "offset 0 0 then read 1 0", 5)

    def test_zones(self):
        self.refused(ONE, "read 0 1", 2)
        self.assertEqual(read_program(TWO, "read 0 1"), (("read", 0, 1),))
        self.refused(TWO, "read 0 2", 2)
        for odd in (*ODD_VALUES, ZONE):
            self.assertRaises(InvalidZones, read_program, odd, "read 0 0")
            self.assertRaises(InvalidZones, read_program, odd, "")

    def test_read_what_was_written(self):
        for zones in (ONE, TWO):
            for length in range(3):
                for program in programs_of(zones, length, MINUTES, RULES)[::3]:
                    self.assertEqual(read_program(zones, write_program(zones, program)), program)
        for zones, program in drawn_programs(1500):
            text = write_program(zones, program)
            self.assertTrue(is_program_text(zones, text.split(" ")))
            self.assertEqual(read_program(zones, text), program)

    def test_changed_texts(self):
        places = {}
        samples = [(TWO, ALL_TEXT.split(" ")), (ONE, ["-"]), (ONE, [""])]
        samples += [(zones, write_program(zones, program).split(" ")) for zones, program in drawn_programs(36)]
        for zones, words in samples:
            for k, row in enumerate(changed(words)):
                # Longer texts are changed in some of the ways, for there are many.
                if len(words) == 1 or k % 29 == len(words) % 29:
                    self.compare(zones, row, places)
        self.assertGreater(len(places), 30)

    def compare(self, zones, row, places):
        text = " ".join(row)
        if not row:
            row = [""]
        place = slow_place(lambda words: begins_a_program(zones, words), row)
        if place == len(row) and is_program_text(zones, row):
            self.assertEqual(write_program(zones, read_program(zones, text)), text)
        else:
            self.refused(zones, text, place)
            places[place] = text


class TestWishes(unittest.TestCase):
    def refused(self, zones, program, words, place):
        with self.assertRaises(InvalidWords) as caught:
            read_wish(zones, program, words)
        self.assertEqual(caught.exception.place, place, words)

    def test_write(self):
        program = ALL_STEPS[:2]
        for wish, text in (
            (("found",), "found"), (("same", 0, 1), "same 0 1"), (("order", 1, 0), "order 1 0"),
            (("near", 0, 1, 0), "near 0 1 0"), (("near", 1, 1, 1000000), "near 1 1 1000000"),
        ):
            self.assertEqual(write_wish(TWO, program, wish), text)
            self.assertEqual(read_wish(TWO, program, text), wish)
        self.assertIs(type(read_wish(TWO, program, "near 0 1 5")), tuple)

    def test_places_by_hand(self):
        program = ALL_STEPS[:2]
        for words, place in (
            ("", 0), (" ", 0), ("-", 0), ("read 0 0", 0), ("found ", 1), ("found found", 1), (" found", 0), ("Found", 0),
            ("same", 1), ("same 0", 2), ("same 0 1 ", 3), ("same 0 1 0", 3), ("same 2 0", 1), ("same 0 2", 2), ("same 0 3", 2),
            ("same -1 0", 1), ("same 00 0", 1), ("same -0 0", 1), ("order 0", 2), ("order 0 2", 2), ("near 0 1", 3),
            ("near 0 1 -1", 3), ("near 0 1 -0", 3), ("near 0 1 07", 3), ("near 0 1 1000001", 3), ("near 0 1 ", 3),
            ("near 0 1 5 5", 4), ("near 0  1 5", 2), ("near 0 1 " + "9" * 3900, 3), ("same 0 1 of", 3), ("found\n", 0),
        ):
            self.refused(TWO, program, words, place)

    def test_index_of_a_span(self):
        known = slow_kinds(ALL_STEPS)
        for k, kind in enumerate(known):
            for words, place in ((f"same {k} 0", 1), (f"order 0 {k}", 2), (f"near {k} {k} 5", 1)):
                if kind == "span":
                    self.refused(TWO, ALL_STEPS, words, place)
                else:
                    self.assertEqual(write_wish(TWO, ALL_STEPS, read_wish(TWO, ALL_STEPS, words)), words)

    def test_empty_program(self):
        self.assertEqual(read_wish(ONE, (), "same 0 0"), ("same", 0, 0))
        self.refused(ONE, (), "same 0 1", 2)

    def test_read_what_was_written(self):
        for zones, program in drawn_programs(60):
            for wish in wishes_of(program):
                text = write_wish(zones, program, wish)
                self.assertTrue(is_wish_text(zones, program, text.split(" ")))
                self.assertEqual(read_wish(zones, program, text), wish)

    def test_changed_texts(self):
        for zones, program in [(TWO, ALL_STEPS), (ONE, ()), (ONE, (("offset", 0, 0),)), *drawn_programs(6)]:
            times = times_of(program)
            for words in (
                ["found"], ["same", "0", str(times[-1])], ["order", str(times[-1]), "0"], ["near", "0", "0", "60"], [""],
            ):
                for row in list(changed(words))[::3]:
                    self.compare(zones, program, row or [""])

    def compare(self, zones, program, row):
        text = " ".join(row)
        place = slow_place(lambda words: begins_a_wish(zones, program, words), row)
        if place == len(row) and is_wish_text(zones, program, row):
            self.assertEqual(write_wish(zones, program, read_wish(zones, program, text)), text)
        else:
            self.refused(zones, program, text, place)

    def test_errors(self):
        for odd in (*ODD_VALUES, 0, "found", ["found"], ("same", 0, 2), ("near", 0, 1, -1)):
            self.assertRaises(InvalidWish, write_wish, TWO, ALL_STEPS[:2], odd)
        for odd in (*ODD_VALUES, 0, ALL_STEPS[1:], "read 0 0"):
            self.assertRaises(InvalidProgram, write_wish, TWO, odd, odd)
            self.assertRaises(InvalidProgram, read_wish, TWO, odd, "")
            self.assertRaises(InvalidZones, write_wish, ZONE, odd, odd)
            self.assertRaises(InvalidZones, read_wish, ZONE, odd, "")
