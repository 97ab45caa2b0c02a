"""[6], [7], [14]: programs, worlds, the kinds of values, and runs in worlds written out by hand."""

import unittest

from hoursmeant.errors import InvalidZones, Refused, Unsuited
from hoursmeant.programs import is_program, is_world, kinds, run
from tests.helpers import (
    ODD_VALUES, is_odd_copy, moved, nested, next_steps, odd_at_each_depth, slow_kinds,
)

ZONE = ((0, 60), 100)
ONE = (ZONE,)
TWO = (ZONE, ((-30, 0, 30), 200))
FOLD = (60, ((600, 0),))
GAP = (0, ((600, 60),))
RULES = [(fold, gap) for fold in ("early", "late", "refuse") for gap in ("ahead", "behind", "refuse")]
THERE_AND_BACK = (("read", 0, 0), ("find", 1, 0, "early", "refuse"))
# A reading, a span, and each step that can stand behind them.
ALL_STEPS = (
    ("read", 0, 0), ("offset", 0, 0), ("find", 1, 0, "late", "behind"), ("edition", 3, 0), ("plus", 4, 2),
    ("less", 5, 2), ("add", 6, -100000), ("add", 5, 100000),
)


def alone(table, later=None):
    """A world of one place."""
    return (table,), (later or table,)


class TestIsProgram(unittest.TestCase):
    def yes(self, zones, *values):
        for value in values:
            with self.subTest(value=value):
                self.assertIs(is_program(zones, value), True)

    def no(self, zones, *values):
        for value in values:
            with self.subTest(value=value):
                self.assertIs(is_program(zones, value), False)

    def test_ordinary(self):
        self.yes(ONE, (), THERE_AND_BACK, ALL_STEPS, (("edition", 0, 0),))
        self.yes(TWO, THERE_AND_BACK, (("read", 0, 1), ("find", 1, 0, "refuse", "ahead"), ("edition", 2, 1)))

    def test_at_most_eight_steps(self):
        for step in (("add", 0, 1), ("read", 0, 0), ("offset", 0, 0)):
            self.yes(ONE, (step,) * 7, (step,) * 8)
            self.no(ONE, (step,) * 9, (step,) * 10, (step,) * 2000)

    def test_more_than_four_conversions(self):
        self.yes(ONE, (("read", 0, 0),) + (("find", 1, 0, "early", "ahead"),) * 7)

    def test_at_most_one_edition(self):
        self.yes(TWO, (("edition", 0, 0),), (("edition", 0, 1), ("read", 1, 1)))
        self.no(TWO, (("edition", 0, 0),) * 2, (("edition", 0, 0), ("edition", 0, 1)))
        self.no(TWO, (("edition", 0, 0), ("read", 0, 0), ("edition", 1, 1)))

    def test_values_that_are_there_already(self):
        for step in (("read", 1, 0), ("read", -1, 0), ("add", 1, 5), ("offset", 2, 0), ("edition", 1, 0)):
            self.no(ONE, (step,))
        self.yes(ONE, (("add", 0, 5), ("read", 1, 0)))
        self.no(ONE, (("add", 0, 5), ("read", 2, 0)), (("read", 1, 0), ("add", 0, 5)))
        self.no(ONE, (("offset", 0, 0), ("plus", 0, 2)), (("offset", 0, 0), ("plus", 0, -1)))

    def test_places(self):
        for step in (("read", 0), ("offset", 0), ("edition", 0)):
            self.yes(TWO, (step + (0,),), (step + (1,),))
            self.no(TWO, (step + (2,),), (step + (-1,),), (step + (True,),))
            self.no(ONE, (step + (1,),))
        self.no(ONE, (("read", 0, 0), ("find", 1, 1, "early", "ahead")))

    def test_each_index_against_the_kind(self):
        # Values 0 and 4 are moments, 1 a reading, 2 a span, 3 a reading.
        ahead = (("read", 0, 0), ("offset", 0, 0), ("add", 1, 3), ("add", 0, 3))
        asked = {
            ("read", 0): (0, 4), ("offset", 0): (0, 4), ("edition", 0): (0, 4), ("add", -3): (0, 1, 3, 4),
            ("find", 0, "early", "ahead"): (1, 3),
        }
        for (word, *rest), right in asked.items():
            for v in range(-2, 8):
                self.assertIs(is_program(ONE, ahead + ((word, v, *rest),)), v in right)
        for v in range(-2, 8):
            for s in range(-2, 8):
                self.assertIs(is_program(ONE, ahead + (("plus", v, s),)), v in (0, 4) and s == 2)
                self.assertIs(is_program(ONE, ahead + (("less", v, s),)), v in (1, 3) and s == 2)

    def test_rules(self):
        read = ("read", 0, 0)
        self.yes(ONE, *[(read, ("find", 1, 0, *rules)) for rules in RULES])
        self.no(ONE, *[(read, ("find", 1, 0, gap, fold)) for fold, gap in RULES if fold != gap])
        for odd in (*ODD_VALUES, 0, "early ", "Early", "earlylate", ("early",)):
            self.no(ONE, (read, ("find", 1, 0, odd, "ahead")), (read, ("find", 1, 0, "early", odd)))

    def test_bounds_of_minutes(self):
        self.yes(ONE, *[(("add", 0, minutes),) for minutes in (-100000, -1, 0, 1, 100000)])
        self.no(ONE, *[(("add", 0, odd),) for odd in (-100001, 100001, 10 ** 30, -10 ** 30, True, "1", None)])

    def test_words_and_lengths(self):
        for step in ALL_STEPS[:6]:
            at = ALL_STEPS.index(step)
            self.no(ONE, ALL_STEPS[:at] + (step[:-1],), ALL_STEPS[:at] + (step + (0,),))
            self.no(ONE, ALL_STEPS[:at] + (step[1:],), ALL_STEPS[:at] + (step[:1],))
            self.no(ONE, ALL_STEPS[:at] + ((step[0].upper(),) + step[1:],))
        for word in ("", "start", "read ", "sub", "x" * 4000, None, 0, True, ("read",), ["read"], nested(28)):
            self.no(ONE, ((word, 0, 0),))
        self.no(ONE, ((),), ((), ()), THERE_AND_BACK + ((),), ("read", 0, 0), "read")

    def test_other_kinds(self):
        self.no(ONE, *ODD_VALUES, 0, list(THERE_AND_BACK), (list(THERE_AND_BACK[0]),), (THERE_AND_BACK,))
        for program in (THERE_AND_BACK, ALL_STEPS):
            self.no(ONE, *[odd for odd in odd_at_each_depth(program) if is_odd_copy(odd, program)])

    def test_zones_are_asked_for(self):
        for odd in (*ODD_VALUES, ZONE, (), [ZONE], (ZONE, ZONE, ZONE)):
            self.assertRaises(InvalidZones, is_program, odd, THERE_AND_BACK)
            self.assertRaises(InvalidZones, is_program, odd, None)


class TestIsWorld(unittest.TestCase):
    def yes(self, zones, *values):
        for value in values:
            self.assertIs(is_world(zones, value), True, value)

    def no(self, zones, *values):
        for value in values:
            self.assertIs(is_world(zones, value), False, value)

    def test_ordinary(self):
        self.yes(ONE, alone(FOLD), alone(FOLD, GAP), alone((0, ())))
        self.yes(TWO, ((FOLD, (-30, ())), (GAP, (30, ((5, -30),)))))
        self.yes(ONE, alone((0, ((-10 ** 30, 60), (10 ** 30, 0)))))

    def test_a_table_for_each_place_in_both(self):
        self.no(ONE, (), (FOLD,), ((FOLD,),), (FOLD, FOLD), ((FOLD,), ()), ((), (FOLD,)), ((), ()))
        self.no(ONE, ((FOLD,),) * 3, ((FOLD, FOLD), (FOLD, FOLD)), ((FOLD,), (FOLD, FOLD)))
        self.no(TWO, alone(FOLD), ((FOLD, (0, ())), (FOLD,)), ((FOLD,), (FOLD, (0, ()))))

    def test_each_of_its_own_zone(self):
        other = (30, ((600, -30),))
        self.yes(TWO, ((FOLD, other), (FOLD, other)))
        self.no(TWO, ((other, FOLD), (other, FOLD)), ((FOLD, other), (other, FOLD)))
        self.no(TWO, ((FOLD, FOLD), (FOLD, other)), ((FOLD, other), (FOLD, FOLD)))
        self.no(ONE, alone((0, ((0, 60), (99, 0)))), alone(FOLD, (0, ((0, 60), (99, 0)))), alone((30, ())))

    def test_other_kinds(self):
        world = alone(FOLD, GAP)
        self.no(ONE, *ODD_VALUES, 0, list(world), ([FOLD], (FOLD,)), ((FOLD,), [FOLD]), (((60, []),),) * 2)
        self.no(ONE, *odd_at_each_depth(world))
        for odd in (*ODD_VALUES, ZONE, ()):
            self.assertRaises(InvalidZones, is_world, odd, world)
            self.assertRaises(InvalidZones, is_world, odd, None)


class TestKinds(unittest.TestCase):
    def test_each_step(self):
        self.assertEqual(kinds(ONE, ()), ["moment"])
        self.assertEqual(kinds(ONE, THERE_AND_BACK), ["moment", "reading", "moment"])
        self.assertEqual(kinds(ONE, ALL_STEPS), [
            "moment", "reading", "span", "moment", "moment", "reading", "moment", "moment", "reading",
        ])

    def test_against_the_definition(self):
        for ahead in ((), ALL_STEPS[:2], ALL_STEPS[:3], ALL_STEPS[:5], ALL_STEPS[:7]):
            for step in next_steps(TWO, slow_kinds(ahead), (-7, 0), RULES):
                program = ahead + (step,)
                expected = "edition" not in [one[0] for one in ahead] or step[0] != "edition"
                self.assertIs(is_program(TWO, program), expected)
                if expected:
                    self.assertEqual(kinds(TWO, program), slow_kinds(program))


class TestRun(unittest.TestCase):
    def test_no_steps(self):
        for start in (0, -5, 10 ** 12):
            self.assertEqual(run(ONE, (), alone(FOLD), start), [start])
        self.assertEqual(run(ONE, (), alone(FOLD)), [0])

    def test_start_is_0_unless_told(self):
        self.assertEqual(run(ONE, THERE_AND_BACK, alone((0, ((0, 60),)))), [0, 60, 0])
        self.assertEqual(run(ONE, THERE_AND_BACK, alone((0, ((1, 60),)))), [0, 0, 0])
        self.assertEqual(run(ONE, THERE_AND_BACK, alone((0, ((0, 60),))), start=-1), [-1, -1, -1])

    def test_steps_without_looks(self):
        program = (("add", 0, 7), ("add", 1, -100000), ("add", 0, 0))
        self.assertEqual(run(ONE, program, alone(FOLD), 100), [100, 107, -99893, 100])

    def test_read_and_offset_around_a_jump(self):
        program = (("read", 0, 0), ("offset", 0, 0), ("plus", 0, 2), ("less", 1, 2), ("add", 1, 5))
        self.assertEqual(run(ONE, program, alone(FOLD), 599), [599, 659, 60, 659, 599, 664])
        self.assertEqual(run(ONE, program, alone(FOLD), 600), [600, 600, 0, 600, 600, 605])
        self.assertEqual(run(ONE, program, alone(GAP), 599), [599, 599, 0, 599, 599, 604])
        self.assertEqual(run(ONE, program, alone(GAP), 600), [600, 660, 60, 660, 600, 665])

    def test_spans_below_zero(self):
        zones = (((-300, -240), 1000),)
        program = (("offset", 0, 0), ("plus", 0, 1), ("less", 2, 1))
        self.assertEqual(run(zones, program, alone((-300, ((50, -240),))), 49), [49, -300, -251, 49])
        self.assertEqual(run(zones, program, alone((-300, ((50, -240),))), 50), [50, -240, -190, 50])

    def test_plus_and_less_of_another_moment(self):
        # The offset is taken at the start, the reading an hour later, behind the jump.
        program = (("offset", 0, 0), ("add", 0, 60), ("plus", 2, 1), ("read", 2, 0), ("less", 4, 1))
        self.assertEqual(run(ONE, program, alone(FOLD), 570), [570, 60, 630, 690, 630, 570])

    def test_fold_by_each_rule(self):
        for gap in ("ahead", "behind", "refuse"):
            for start in (570, 630):
                for fold, found in (("early", 570), ("late", 630)):
                    program = (("read", 0, 0), ("find", 1, 0, fold, gap), ("read", 2, 0))
                    self.assertEqual(run(ONE, program, alone(FOLD), start), [start, 630, found, 630])
                program = (("read", 0, 0), ("find", 1, 0, "refuse", gap), ("read", 2, 0))
                with self.assertRaises(Refused) as caught:
                    run(ONE, program, alone(FOLD), start)
                self.assertEqual(caught.exception.step, 1)
            for start, reading in ((539, 599), (660, 660)):
                program = (("read", 0, 0), ("find", 1, 0, "refuse", gap))
                self.assertEqual(run(ONE, program, alone(FOLD), start), [start, reading, start])

    def test_gap_by_each_rule(self):
        for fold in ("early", "late", "refuse"):
            for gap, found, seen in (("ahead", 630, 690), ("behind", 570, 570)):
                program = (("read", 0, 0), ("add", 1, 90), ("find", 2, 0, fold, gap), ("read", 3, 0))
                self.assertEqual(run(ONE, program, alone(GAP), 540), [540, 540, 630, found, seen])
            program = (("read", 0, 0), ("add", 1, 90), ("find", 2, 0, fold, "refuse"), ("read", 3, 0))
            for start in (510, 540, 569):
                with self.assertRaises(Refused) as caught:
                    run(ONE, program, alone(GAP), start)
                self.assertEqual(caught.exception.step, 2)
            for start, found in ((509, 599), (570, 600)):
                self.assertEqual(run(ONE, program, alone(GAP), start)[3], found)

    def test_first_refused_step(self):
        program = (
            ("read", 0, 0), ("find", 1, 0, "early", "refuse"), ("find", 1, 0, "refuse", "ahead"),
            ("find", 1, 0, "refuse", "refuse"),
        )
        with self.assertRaises(Refused) as caught:
            run(ONE, program, alone(FOLD), 630)
        self.assertEqual(caught.exception.step, 2)

    def test_three_offsets(self):
        zones = (((0, 30, 60), 100),)
        program = (("read", 0, 0), ("add", 1, 25), ("find", 2, 0, "late", "behind"))
        self.assertEqual(run(zones, program, alone((0, ((600, 30),))), 580), [580, 580, 605, 575])
        self.assertEqual(run(zones, program, alone((0, ((600, 60),))), 599), [599, 599, 624, 564])
        self.assertEqual(run(zones, program, alone((60, ((600, 30),))), 550), [550, 610, 635, 605])
        self.assertEqual(run(zones, program, alone((60, ((600, 30),))), 540), [540, 600, 625, 565])

    def test_two_places(self):
        # Out at the one place, back at the other; a reading does not remember its place.
        program = (("read", 0, 0), ("find", 1, 1, "early", "ahead"), ("read", 2, 1), ("offset", 2, 0))
        world = ((FOLD, (-30, ((620, 30),))),) * 2
        self.assertEqual(run(TWO, program, world, 599), [599, 659, 629, 659, 0])
        self.assertEqual(run(TWO, program, world, 500), [500, 560, 590, 560, 60])
        self.assertEqual(run(TWO, program, world, 620), [620, 620, 650, 680, 0])
        swapped = ((FOLD, (30, ())),) * 2
        self.assertEqual(run(TWO, program, swapped, 599), [599, 659, 629, 659, 0])
        self.assertEqual(run(TWO, program, swapped, 620), [620, 620, 590, 620, 60])

    def test_far_starts_and_far_jumps(self):
        far = 10 ** 30
        program = (("read", 0, 0), ("find", 1, 0, "late", "ahead"))
        for by in (-10 ** 12, 10 ** 12 - 570, far - 1000, 1000 - far):
            self.assertEqual(run(ONE, program, moved(alone(FOLD), by), 570 + by), [570 + by, 630 + by, 630 + by])
        world = alone((60, ((-far, 0), (far, 60))))
        self.assertEqual(run(ONE, program, world, 12), [12, 12, 12])

    def test_more_steps_than_four_conversions(self):
        program = (("read", 0, 0), ("find", 1, 0, "late", "ahead")) * 4
        self.assertEqual(run(ONE, program, alone(FOLD), 570), [570, 630, 630] + [630, 630] * 3)
        program = tuple(step for k in range(4) for step in (
            ("read", 2 * k, 0), ("find", 2 * k + 1, 0, "late", "ahead"),
        ))
        self.assertEqual(run(ONE, program, alone(FOLD), 570), [570] + [630] * 8)


class TestEditions(unittest.TestCase):
    PROGRAM = (("read", 0, 0), ("edition", 0, 0), ("read", 0, 0), ("read", 2, 0))

    def test_later_table_holds_from_there_on(self):
        world = alone((60, ((600, 0),)), (60, ((700, 0),)))
        self.assertEqual(run(ONE, self.PROGRAM, world, 600), [600, 600, 600, 660, 660])
        world = alone((60, ()), (60, ((600, 0), (700, 60))))
        self.assertEqual(run(ONE, self.PROGRAM, world, 600), [600, 660, 600, 600, 600])

    def test_tables_unlike_ahead_of_the_edition(self):
        # The two tables are unlike from 600 on, so an edition at 600 suits, one at 601 does not.
        for later in ((60, ()), (60, ((700, 0),)), (60, ((599 + 2, 0),))):
            for world in (alone(FOLD, later), alone(later, FOLD)):
                for start in (-10 ** 12, 0, 599, 600):
                    self.assertEqual(run(ONE, self.PROGRAM, world, start)[2], start)
                for start in (601, 602, 10 ** 12):
                    self.assertRaises(Unsuited, run, ONE, self.PROGRAM, world, start)

    def test_tables_unlike_for_a_while_alone(self):
        world = alone((0, ((500, 60), (600, 0))), (0, ()))
        self.assertEqual(run(ONE, self.PROGRAM, world, 500)[1:], [560, 500, 500, 500])
        for start in (501, 600, 601, 5000):
            self.assertRaises(Unsuited, run, ONE, self.PROGRAM, world, start)

    def test_tables_unlike_ahead_of_all_jumps(self):
        for one, other in (((0, ()), (60, ())), ((0, ((500, 60),)), (60, ())), (FOLD, (0, ()))):
            for start in (-10 ** 12, 0, 499, 500, 501, 10 ** 12):
                self.assertRaises(Unsuited, run, ONE, self.PROGRAM, alone(one, other), start)

    def test_tables_that_are_alike(self):
        for start in (0, 600, 10 ** 12):
            values = run(ONE, self.PROGRAM, alone(FOLD), start)
            self.assertEqual(values, [start, values[1], start, values[1], values[1]])
        zones = (((0, 30, 60), 100),)
        world = alone((0, ((500, 30), (600, 60))), (0, ((500, 30), (600, 0))))
        self.assertEqual(run(zones, self.PROGRAM, world, 600), [600, 660, 600, 600, 600])
        self.assertRaises(Unsuited, run, zones, self.PROGRAM, world, 601)
        world = alone((0, ((500, 30), (600, 60))), (0, ((500, 60), (600, 0))))
        self.assertRaises(Unsuited, run, zones, self.PROGRAM, world, 550)

    def test_moment_of_the_edition_is_that_of_its_value(self):
        program = (("add", 0, -50), ("edition", 1, 0), ("offset", 0, 0))
        world = alone(FOLD, (60, ((700, 0),)))
        self.assertEqual(run(ONE, program, world, 650), [650, 600, 600, 60])
        self.assertRaises(Unsuited, run, ONE, program, world, 651)

    def test_what_is_ahead_of_the_edition_stays(self):
        program = (("edition", 0, 0), ("add", 0, -60), ("read", 2, 0), ("add", 0, 60), ("read", 4, 0))
        world = alone((0, ((550, 60),)), (0, ((550, 60), (650, 0))))
        self.assertEqual(run(ONE, program, world, 600), [600, 600, 540, 540, 660, 660])

    def test_find_looks_on_both_sides_of_the_edition(self):
        program = (("edition", 0, 0), ("read", 0, 0), ("add", 2, 30), ("find", 3, 0, "late", "behind"))
        world = alone((0, ()), (0, ((600, 60),)))
        self.assertEqual(run(ONE, program, world, 600), [600, 600, 660, 690, 630])
        self.assertEqual(run(ONE, program, world, 580), [580, 580, 580, 610, 550])
        world = alone((60, ()), (60, ((600, 0),)))
        self.assertEqual(run(ONE, program, world, 600), [600, 600, 600, 630, 630])

    def test_edition_of_the_other_place(self):
        program = (("edition", 0, 1), ("read", 0, 0), ("read", 0, 1))
        world = ((FOLD, (-30, ())), (GAP, (-30, ((600, 30),))))
        self.assertEqual(run(TWO, program, world, 600), [600, 600, 600, 630])
        self.assertEqual(run(TWO, program, world, 599), [599, 599, 659, 569])
        self.assertRaises(Unsuited, run, TWO, program, world, 601)

    def test_no_edition_of_the_place(self):
        program = (("read", 0, 0), ("find", 1, 0, "late", "ahead"))
        for later in (FOLD, GAP, (0, ()), (60, ())):
            self.assertEqual(run(ONE, program, alone(FOLD, later), 570), [570, 630, 630])

    def test_refused_or_unsuited_whichever_comes_first(self):
        refused = (("read", 0, 0), ("find", 1, 0, "refuse", "refuse"), ("edition", 0, 0))
        with self.assertRaises(Refused) as caught:
            run(ONE, refused, alone(FOLD, (0, ())), 630)
        self.assertEqual(caught.exception.step, 1)
        unsuited = (("edition", 0, 0), ("read", 0, 0), ("find", 2, 0, "refuse", "refuse"))
        self.assertRaises(Unsuited, run, ONE, unsuited, alone(FOLD, (0, ())), 630)
        with self.assertRaises(Refused) as caught:
            run(ONE, unsuited, alone(FOLD), 630)
        self.assertEqual(caught.exception.step, 2)
