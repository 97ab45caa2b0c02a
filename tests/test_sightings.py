"""[18]: sightings; small ones told by hand, and long rows of drawn deeds beside a plain list of looks."""

import inspect
import random
import unittest

from hoursmeant.errors import (
    Crowded, HourError, InvalidNumber, InvalidOffset, InvalidSightings, InvalidZone, NoBlock, NothingToDrop,
    NothingToUndo, Refused, Seen,
)
from hoursmeant.sightings import Sightings, SureSightings
from hoursmeant.spacing import crowded, early_table, offsets_left
from hoursmeant.zones import is_table
from tests.helpers import ODD_VALUES, has, nested, odd_at_each_depth, slow_crowded, slow_early, slow_named

ZONE = ((0, 60), 100)
OTHER = ((0, 60), 101)
LOOKS = ((0, 0), (50, 60), (101, 0))
CLASSES = (Sightings, SureSightings)
NEAR = ((0, 1), 2)
ZONES = (ZONE, NEAR, ((-1, 1), 4), ((-1, 0, 1), 3), ((0, 2), 5), ((7,), 3))


class Mine(Sightings):
    """A subclass of a caller's own."""


def gathered(looks, kind=Sightings, zone=ZONE):
    """Sightings with these looks, seen one by one."""
    made = kind(zone)
    for moment, offset in looks:
        made.see(moment, offset)
    return made


def state(sightings):
    """All that sightings tell."""
    return (
        sightings.zone, sightings.looks, sightings.table(), len(sightings),
        [sightings.options(moment) for moment in range(-5, 6)],
    )


def all_taken_back(sightings):
    """The moments that undo tells until there is nothing to take back, by a copy."""
    copied, moments = sightings.twin(), []
    while True:
        try:
            moments.append(copied.undo())
        except NothingToUndo:
            return moments, copied.looks


class TestByHand(unittest.TestCase):
    def test_new(self):
        for kind in CLASSES:
            made = kind(ZONE)
            self.assertEqual(made.zone, ZONE)
            self.assertEqual(made.looks, ())
            self.assertIs(type(made.looks), tuple)
            self.assertEqual(len(made), 0)
            self.assertEqual(made.table(), (0, ()))
            self.assertEqual(made.options(5), [0, 60])
            self.assertIsNone(made[5])
            self.assertNotIn((5, 0), made)
            self.assertRaises(NothingToUndo, made.undo)
            self.assertRaises(NoBlock, made.finish)

    def test_see(self):
        made = Sightings(ZONE)
        self.assertIs(made.see(101, 0), True)
        self.assertIs(made.see(0, 0), True)
        self.assertIs(made.see(50, 60), True)
        self.assertEqual(made.looks, LOOKS)
        self.assertEqual(made.table(), (0, ((1, 60), (101, 0))))
        self.assertEqual(len(made), 3)
        self.assertIs(made.see(50, 60), False)
        self.assertEqual(len(made), 3)
        # What was there already was no deed.
        self.assertEqual([made.undo(), made.undo(), made.undo()], [50, 0, 101])
        self.assertRaises(NothingToUndo, made.undo)

    def test_seen(self):
        made = gathered(LOOKS)
        for moment, offset in LOOKS:
            with self.assertRaises(Seen) as caught:
                made.see(moment, 60 - offset)
            self.assertEqual(caught.exception.offset, offset)
            self.assertEqual(made.looks, LOOKS)
        self.assertEqual(made.undo(), 101)

    def test_crowded(self):
        made = gathered(LOOKS[:2])
        for moment in (100, 51):
            with self.assertRaises(Crowded) as caught:
                made.see(moment, 0)
            self.assertEqual((caught.exception.first, caught.exception.last), (0, moment))
        with self.assertRaises(Crowded) as caught:
            made.see(-50, 60)
        self.assertEqual((caught.exception.first, caught.exception.last), (-50, 50))
        self.assertEqual(made.looks, LOOKS[:2])
        self.assertIs(made.see(-51, 60), True)
        self.assertEqual(made.undo(), -51)
        self.assertEqual(made.undo(), 50)

    def test_crowded_names_the_least_last_and_the_greatest_first_moment(self):
        made = gathered(((0, 0), (10, 0), (90, 0), (95, 0)))
        with self.assertRaises(Crowded) as caught:
            made.see(50, 60)
        self.assertEqual((caught.exception.first, caught.exception.last), (10, 90))

    def test_seen_ahead_of_crowded(self):
        made = gathered(((0, 0), (10, 0), (20, 0)))
        self.assertRaises(Seen, made.see, 10, 60)
        self.assertRaises(Crowded, made.see, 11, 60)

    def test_drop(self):
        made = gathered(LOOKS)
        self.assertEqual(made.drop(50), 60)
        self.assertEqual(made.looks, ((0, 0), (101, 0)))
        self.assertRaises(NothingToDrop, made.drop, 50)
        self.assertRaises(NothingToDrop, made.drop, 51)
        self.assertEqual(made.drop(0), 0)
        self.assertEqual(made.drop(101), 0)
        self.assertEqual(made.looks, ())
        self.assertRaises(NothingToDrop, made.drop, 0)
        self.assertEqual([made.undo() for _ in range(6)], [101, 0, 50, 101, 50, 0])

    def test_undo_of_see_and_of_drop(self):
        made = gathered(LOOKS)
        made.drop(0)
        self.assertEqual(made.undo(), 0)
        self.assertEqual(made.looks, LOOKS)
        self.assertEqual(made.undo(), 101)
        self.assertEqual(made.looks, LOOKS[:2])
        made.see(200, 60)
        self.assertEqual(made.undo(), 200)
        self.assertEqual(made.undo(), 50)
        self.assertEqual(made.undo(), 0)
        self.assertEqual(made.looks, ())
        self.assertRaises(NothingToUndo, made.undo)

    def test_options(self):
        made = gathered(LOOKS)
        self.assertEqual(made.options(200), [0])
        self.assertEqual(made.options(201), [0, 60])
        self.assertEqual(made.options(50), [60])
        for moment in (1, 49, 51, 100):
            self.assertEqual(made.options(moment), [60])
        self.assertEqual(made.options(-99), [0])
        self.assertEqual(made.options(-100), [0, 60])
        self.assertEqual(made.options(10 ** 12), [0, 60])
        given = made.options(201)
        given.append(7)
        self.assertEqual(made.options(201), [0, 60])

    def test_item(self):
        made = gathered(LOOKS)
        self.assertEqual([made[moment] for moment in (0, 50, 101)], [0, 60, 0])
        for moment in (-1, 1, 49, 51, 100, 102, 10 ** 30, -10 ** 30):
            self.assertIsNone(made[moment])

    def test_in(self):
        made = gathered(((0, 0), (1, 0), (150, 60)))
        for look in ((0, 0), (1, 0), (150, 60)):
            self.assertIs(look in made, True)
        for odd in (
            (0, 60), (150, 0), (2, 0), [0, 0], (0, 0, 0), (0,), ((0, 0),), 0, "0", (0, False), (False, 0),
            (True, 0), (1, False), ("0", 0), (None, 0), (0, None), 10 ** 30, nested(30), *ODD_VALUES, made, (made, made),
        ):
            self.assertIs(odd in made, False, odd)

    def test_blocks(self):
        made = gathered(LOOKS[:2])
        self.assertIsNone(made.begin())
        self.assertRaises(NothingToUndo, made.undo)
        made.see(200, 60)
        made.drop(0)
        self.assertEqual(made.looks, ((50, 60), (200, 60)))
        self.assertEqual(made.undo(), 0)
        self.assertEqual(made.undo(), 200)
        self.assertRaises(NothingToUndo, made.undo)
        made.see(101, 0)
        made.drop(50)
        self.assertIsNone(made.finish())
        self.assertEqual(made.looks, LOOKS[:2])
        self.assertEqual([made.undo(), made.undo()], [50, 0])
        self.assertRaises(NoBlock, made.finish)

    def test_blocks_in_blocks(self):
        made = gathered(LOOKS[:1])
        for k in range(1, 21):
            made.begin()
            self.assertRaises(NothingToUndo, made.undo)
            made.see(k, 0)
        self.assertEqual(len(made), 21)
        for k in range(20, 0, -1):
            self.assertEqual(len(made), k + 1)
            self.assertEqual(made.undo(), k)
            self.assertRaises(NothingToUndo, made.undo)
            made.see(1000 + k, 60)
            made.finish()
            self.assertEqual(len(made), k)
        self.assertEqual(made.looks, LOOKS[:1])
        self.assertRaises(NoBlock, made.finish)
        self.assertEqual(made.undo(), 0)

    def test_finish_of_an_empty_block(self):
        made = gathered(LOOKS)
        made.begin()
        made.finish()
        self.assertEqual(made.looks, LOOKS)
        self.assertRaises(NoBlock, made.finish)
        self.assertEqual(made.undo(), 101)

    def test_finish_puts_back_what_was_taken_back(self):
        made = gathered(LOOKS)
        made.begin()
        made.drop(50)
        made.begin()
        made.see(20, 0)
        made.see(30, 0)
        made.undo()
        made.finish()
        self.assertEqual(made.looks, ((0, 0), (101, 0)))
        self.assertEqual(made.undo(), 50)
        self.assertEqual(made.looks, LOOKS)
        made.see(201, 60)
        made.finish()
        self.assertEqual(made.looks, LOOKS)

    def test_not_iterated_over_and_no_keys(self):
        made = gathered(LOOKS)
        self.assertRaises(TypeError, iter, made)
        self.assertRaises(TypeError, list, made)
        self.assertRaises(TypeError, hash, made)
        self.assertRaises(TypeError, lambda: {made: 1})

    def test_properties_are_read_alone(self):
        made = gathered(LOOKS)
        for name in ("zone", "looks"):
            self.assertIsInstance(inspect.getattr_static(Sightings, name), property)
            self.assertRaises(AttributeError, setattr, made, name, ())


class TestBoth(unittest.TestCase):
    def test_looks_of_both(self):
        one = gathered(((0, 0), (101, 0)))
        other = gathered(((50, 60), (101, 0)))
        both = one | other
        self.assertEqual(both.looks, LOOKS)
        self.assertEqual(both.zone, ZONE)
        self.assertEqual((other | one).looks, LOOKS)
        self.assertEqual(one.looks, ((0, 0), (101, 0)))
        self.assertEqual(other.looks, ((50, 60), (101, 0)))
        self.assertRaises(NothingToUndo, both.undo)
        self.assertRaises(NoBlock, both.finish)

    def test_no_subclass(self):
        for kind in (*CLASSES, Mine):
            for another in (*CLASSES, Mine):
                both = gathered(LOOKS[:1], kind) | gathered(LOOKS[2:], another)
                self.assertIs(type(both), Sightings)
                self.assertEqual(both.looks, ((0, 0), (101, 0)))

    def test_independent(self):
        one, other = gathered(LOOKS[:1]), gathered(LOOKS[1:2])
        one.begin()
        both = one | other
        self.assertRaises(NoBlock, both.finish)
        both.see(101, 0)
        self.assertEqual(both.drop(0), 0)
        self.assertEqual((one.looks, other.looks), (LOOKS[:1], LOOKS[1:2]))
        one.finish()
        self.assertEqual(one.undo(), 0)
        self.assertEqual(both.looks, LOOKS[1:])
        self.assertEqual([both.undo(), both.undo()], [0, 101])

    def test_with_itself_and_with_none_seen(self):
        one = gathered(LOOKS)
        for both in (one | one, one | Sightings(ZONE), Sightings(ZONE) | one):
            self.assertEqual(both.looks, LOOKS)
            self.assertIsNot(both, one)
            self.assertRaises(NothingToUndo, both.undo)

    def test_seen(self):
        one = gathered(((0, 0), (50, 60), (500, 60), (600, 60)))
        other = gathered(((1, 0), (50, 60), (500, 0), (600, 0)))
        for first, second, offset in ((one, other, 60), (other, one, 0)):
            with self.assertRaises(Seen) as caught:
                first | second
            self.assertEqual(caught.exception.offset, offset)
        # Seen is raised ahead of Crowded.
        crowding = gathered(((49, 0), (500, 0)))
        with self.assertRaises(Seen) as caught:
            one | crowding
        self.assertEqual(caught.exception.offset, 60)
        self.assertEqual(len(one), 4)

    def test_crowded(self):
        one, other = gathered(((0, 0), (100, 0), (300, 0))), gathered(((50, 60), (301, 60), (302, 60)))
        for first, second in ((one, other), (other, one)):
            with self.assertRaises(Crowded) as caught:
                first | second
            self.assertEqual((caught.exception.first, caught.exception.last), (0, 100))
            self.assertEqual(len(first), 3)

    def test_other_values(self):
        one = gathered(LOOKS)
        for odd in (*ODD_VALUES, 0, LOOKS, one.looks, ZONE, Sightings(OTHER), SureSightings(OTHER), gathered((), zone=NEAR)):
            self.assertRaises(InvalidSightings, lambda: one | odd)
            self.assertRaises(InvalidSightings, lambda: SureSightings(ZONE) | odd)
        self.assertEqual(one.looks, LOOKS)


class TestEqual(unittest.TestCase):
    def test_same_zone_and_looks(self):
        for kind in (*CLASSES, Mine):
            for another in (*CLASSES, Mine):
                one, other = gathered(LOOKS, kind), gathered(LOOKS[::-1], another)
                self.assertIs(one == other, True)
                self.assertIs(one != other, False)
                one.drop(0)
                self.assertIs(one == other, False)
                self.assertIs(one != other, True)
                one.begin()
                other.drop(0)
                self.assertIs(one == other, True)

    def test_other_zone(self):
        self.assertIs(Sightings(ZONE) == Sightings(OTHER), False)
        self.assertIs(gathered(LOOKS[:2]) == gathered(LOOKS[:2], zone=OTHER), False)

    def test_other_values(self):
        one = gathered(LOOKS)
        for odd in (*ODD_VALUES, 0, LOOKS, (ZONE, LOOKS), ZONE):
            self.assertIs(one == odd, False)
            self.assertIs(odd == one, False)
            self.assertIs(one != odd, True)


class TestTwin(unittest.TestCase):
    def test_same_class(self):
        for kind in (*CLASSES, Mine):
            made = gathered(LOOKS, kind)
            copied = made.twin()
            self.assertIs(type(copied), kind)
            self.assertEqual(copied, made)
            self.assertIsNot(copied, made)
            self.assertEqual([copied.undo() for _ in LOOKS], [made.undo() for _ in LOOKS])

    def test_independent(self):
        made = gathered(LOOKS)
        copied = made.twin()
        copied.drop(0)
        made.see(102, 0)
        self.assertEqual(made.looks, LOOKS + ((102, 0),))
        self.assertEqual(copied.looks, LOOKS[1:])
        self.assertEqual(made.undo(), 102)
        self.assertEqual(copied.undo(), 0)
        self.assertEqual(made, copied)

    def test_outside_of_all_blocks(self):
        made = gathered(LOOKS[:1])
        made.begin()
        made.see(*LOOKS[1])
        made.begin()
        made.see(*LOOKS[2])
        copied = made.twin()
        self.assertRaises(NoBlock, copied.finish)
        self.assertEqual([copied.undo() for _ in LOOKS], [101, 50, 0])
        self.assertRaises(NothingToUndo, copied.undo)
        self.assertEqual(made.looks, LOOKS)
        made.finish()
        self.assertEqual(made.looks, LOOKS[:2])
        self.assertEqual(made.undo(), 50)
        self.assertRaises(NothingToUndo, made.undo)

    def test_what_was_taken_back_stays_so(self):
        made = gathered(LOOKS)
        made.undo()
        copied = made.twin()
        self.assertEqual(copied.undo(), 50)
        self.assertEqual(made.looks, LOOKS[:2])


class TestSure(unittest.TestCase):
    def test_offset_that_is_certain(self):
        made = gathered(LOOKS[:1], SureSightings)
        made.see(300, 0)
        # From 0 to 300 there is room for two jumps, from 0 to 90 there is not.
        self.assertEqual(made.options(50), [0, 60])
        made.see(90, 0)
        self.assertEqual(made.options(50), [0])
        self.assertIs(made.see(50, 0), False)
        self.assertEqual(made.looks, ((0, 0), (90, 0), (300, 0)))
        self.assertEqual(made.undo(), 90)

    def test_as_before_but_for_that(self):
        made = gathered(LOOKS, SureSightings)
        self.assertEqual(made.looks, LOOKS)
        self.assertIs(made.see(50, 60), False)
        with self.assertRaises(Seen) as caught:
            made.see(50, 0)
        self.assertEqual(caught.exception.offset, 60)
        with self.assertRaises(Crowded) as caught:
            made.see(200, 60)
        self.assertEqual((caught.exception.first, caught.exception.last), (0, 200))
        self.assertIs(made.see(200, 0), False)
        self.assertIs(made.see(201, 0), True)
        self.assertEqual(len(made), 4)
        self.assertEqual(made.drop(201), 0)
        self.assertEqual(made.undo(), 201)
        self.assertIs(made.see(202, 0), True)

    def test_one_offset(self):
        made = SureSightings(((7,), 3))
        self.assertIs(made.see(0, 7), False)
        self.assertEqual(made.looks, ())
        self.assertIs(Sightings(((7,), 3)).see(0, 7), True)
        self.assertRaises(NothingToUndo, made.undo)
        self.assertRaises(InvalidOffset, made.see, 0, 0)

    def test_wrong_arguments_ahead_of_it(self):
        made = gathered(LOOKS, SureSightings)
        self.assertRaises(InvalidNumber, made.see, "50", 7)
        self.assertRaises(InvalidOffset, made.see, 50, 7)
        self.assertRaises(InvalidOffset, made.see, 200, False)

    def test_see_stands_in_the_subclass(self):
        self.assertIn("see", vars(SureSightings))
        self.assertTrue(issubclass(SureSightings, Sightings))


class TestArguments(unittest.TestCase):
    def test_by_position_and_by_name(self):
        for kind in CLASSES:
            made = kind(zone=ZONE)
            self.assertEqual(made, kind(ZONE))
            self.assertIs(made.see(moment=0, offset=0), True)
            self.assertIs(made.see(offset=60, moment=150), True)
            self.assertEqual(made.options(moment=150), made.options(150))
            self.assertEqual(made.drop(moment=150), 60)
            self.assertEqual(made.looks, ((0, 0),))

    def test_names(self):
        for kind in CLASSES:
            for method, names in (
                ("__init__", ["zone"]), ("see", ["moment", "offset"]), ("drop", ["moment"]), ("undo", []),
                ("options", ["moment"]), ("table", []), ("begin", []), ("finish", []), ("twin", []),
            ):
                signature = inspect.signature(getattr(kind, method))
                self.assertEqual(list(signature.parameters)[1:], names)
                self.assertTrue(all(one.default is one.empty for one in signature.parameters.values()))

    def test_wrong_zones(self):
        for kind in CLASSES:
            for odd in (*ODD_VALUES, 0, (), (ZONE,), ((0, 60), 60), *odd_at_each_depth(ZONE)):
                self.assertRaises(InvalidZone, kind, odd)

    def test_wrong_numbers_and_offsets(self):
        for kind in CLASSES:
            made = gathered(LOOKS, kind)
            for odd in (*ODD_VALUES, (), "0", [0], made):
                self.assertRaises(InvalidNumber, made.see, odd, 60)
                self.assertRaises(InvalidNumber, made.see, odd, odd)
                self.assertRaises(InvalidOffset, made.see, 0, odd)
                self.assertRaises(InvalidOffset, made.see, 7, odd)
                self.assertRaises(InvalidNumber, made.drop, odd)
                self.assertRaises(InvalidNumber, made.options, odd)
                self.assertRaises(InvalidNumber, lambda: made[odd])
            for odd in (1, 30, -60, 61, 10 ** 30):
                self.assertRaises(InvalidOffset, made.see, 0, odd)
            self.assertEqual(made.looks, LOOKS)
            self.assertEqual([made.undo() for _ in LOOKS], [101, 50, 0])

    def test_far_moments(self):
        made = gathered(((-10 ** 12, 60), (10 ** 12, 0)))
        self.assertEqual(made.table(), (60, ((1 - 10 ** 12, 0),)))
        self.assertEqual(made.options(0), [0, 60])


class Plain:
    """Looks in a plain list, beside the row of what was done and not taken back."""

    def __init__(self, zone):
        self.zone, self.done = zone, []

    def looks(self):
        found = {}
        for deed in self.done:
            if deed[0] == "see":
                found[deed[1]] = deed[2]
            elif deed[0] == "drop":
                del found[deed[1]]
        return tuple(sorted(found.items()))

    def see(self, moment, offset, sure):
        looks = self.looks()
        if dict(looks).get(moment) == offset or (sure and self.options(moment) == [offset]):
            return False
        if moment in dict(looks):
            raise Seen(dict(looks)[moment])
        self.refuse_crowded(tuple(sorted(looks + ((moment, offset),))))
        self.done.append(("see", moment, offset))
        return True

    def refuse_crowded(self, looks):
        stretch = slow_named(self.zone, looks)
        if stretch:
            raise Crowded(looks[stretch[0]][0], looks[stretch[1]][0])

    def drop(self, moment):
        offset = dict(self.looks()).get(moment)
        if offset is None:
            raise NothingToDrop("")
        self.done.append(("drop", moment))
        return offset

    def undo(self):
        if not self.done or self.done[-1] == ("begin",):
            raise NothingToUndo("")
        return self.done.pop()[1]

    def begin(self):
        self.done.append(("begin",))

    def finish(self):
        if ("begin",) not in self.done:
            raise NoBlock("")
        while self.done.pop() != ("begin",):
            pass

    def options(self, moment):
        looks = dict(self.looks())
        tried = [looks[moment]] if moment in looks else self.zone[0]
        return [
            offset for offset in tried if not slow_crowded(self.zone, sorted({**looks, moment: offset}.items()))
        ]

    def table(self):
        return slow_early(self.zone, self.looks())

    def both(self, other):
        looks, others = dict(self.looks()), dict(other.looks())
        for moment in sorted(looks):
            if others.get(moment, looks[moment]) != looks[moment]:
                raise Seen(looks[moment])
        joined = tuple(sorted({**looks, **others}.items()))
        self.refuse_crowded(joined)
        return joined

    def twin(self):
        copied = Plain(self.zone)
        copied.done = [deed for deed in self.done if deed != ("begin",)]
        return copied


def told(function, *arguments):
    """What a call returns, or its error with what that keeps."""
    try:
        return function(*arguments)
    except HourError as error:
        return type(error), vars(error)


class TestDrawnDeeds(unittest.TestCase):
    DEEDS = ("see",) * 8 + ("drop",) * 3 + ("undo",) * 2 + ("begin", "finish", "options", "twin", "both", "equal")

    def test_long_rows(self):
        self.counts = {}
        for seed, zone in enumerate(ZONES * 4):
            for kind in CLASSES:
                self.row(random.Random(seed), zone, kind, 150)
        # Each deed was done, and each one that can be refused was refused in each way.
        for deed in ("see", "drop", "undo", "finish", "both"):
            self.assertGreater(self.counts[deed, "done"], 50)
        for refused, number in (
            (("see", Seen), 50), (("see", Crowded), 50), (("see", "already"), 50), (("drop", NothingToDrop), 50),
            (("undo", NothingToUndo), 20), (("finish", NoBlock), 20), (("both", Seen), 5), (("both", Crowded), 5),
        ):
            self.assertGreater(self.counts[refused], number, refused)

    def row(self, draw, zone, kind, length):
        # Two sightings by turns, each with a plain one beside it.
        pairs = [(kind(zone), Plain(zone)), (Sightings(zone), Plain(zone))]
        for _ in range(length):
            k = draw.randrange(2)
            deed = draw.choice(self.DEEDS)
            before = [made.looks for made, _ in pairs]
            result = self.do(draw, deed, pairs, k)
            for at, (made, plain) in enumerate(pairs):
                self.assertEqual(made.looks, plain.looks())
                self.assertEqual(len(made), len(plain.looks()))
                self.assertEqual(made.table(), plain.table())
                self.assertTrue(at == k or made.looks == before[at])
            if isinstance(result, tuple) and isinstance(result[0], type):
                self.assertEqual([made.looks for made, _ in pairs], before)
                self.counts[deed, result[0]] = self.counts.get((deed, result[0]), 0) + 1
            else:
                key = "already" if result is False else "done"
                self.counts[deed, key] = self.counts.get((deed, key), 0) + 1
        for made, plain in pairs:
            self.end(made, plain)

    def do(self, draw, deed, pairs, k):
        made, plain = pairs[k]
        moment = draw.randrange(-6, 12)
        if deed == "see":
            offset = draw.choice(made.zone[0])
            result = told(made.see, moment, offset)
            self.assertEqual(result, told(plain.see, moment, offset, isinstance(made, SureSightings)))
            return result
        if deed == "both":
            other, plain_other = pairs[1 - k]
            result = told(lambda: made | other)
            expected = told(plain.both, plain_other)
            if isinstance(result, Sightings):
                self.assertEqual((type(result), result.looks), (Sightings, expected))
                self.assertEqual(all_taken_back(result), ([], expected))
            else:
                self.assertEqual(result, expected)
            return result
        if deed == "equal":
            self.assertIs(made == pairs[1 - k][0], plain.looks() == pairs[1 - k][1].looks())
            return None
        if deed == "twin":
            # The copy goes on in the place of the first one, now and then.
            copied, plain_copied = made.twin(), plain.twin()
            self.end(copied, plain_copied)
            if moment < 0:
                pairs[k] = (made.twin(), plain_copied)
            return None
        if deed == "begin" and plain.done.count(("begin",)) >= 20:
            return None
        arguments = [moment] if deed in ("drop", "options") else []
        result = told(getattr(made, deed), *arguments)
        self.assertEqual(result, told(getattr(plain, deed), *arguments), deed)
        return result

    def end(self, made, plain):
        """Each moment, and what undo tells until nothing is left, by a copy."""
        looks = dict(plain.looks())
        for moment in range(-7, 13):
            self.assertEqual(made[moment], looks.get(moment))
            self.assertEqual(made.options(moment), plain.options(moment))
            for offset in made.zone[0]:
                self.assertIs((moment, offset) in made, looks.get(moment) == offset)
        moments, left = all_taken_back(made)
        self.assertEqual((moments[::-1], left), ([deed[1] for deed in plain.done if deed != ("begin",)], ()))


class TestBesideTheFunctions(unittest.TestCase):
    def test_same_as_the_functions_of_spacing(self):
        draw = random.Random(7)
        for zone in ZONES:
            made = Sightings(zone)
            for _ in range(60):
                moment, offset = draw.randrange(-20, 40), draw.choice(zone[0])
                with_it = tuple(sorted({**dict(made.looks), moment: offset}.items()))
                stretch = crowded(zone, with_it)
                if made[moment] is None and stretch is not None:
                    with self.assertRaises(Crowded) as caught:
                        made.see(moment, offset)
                    ends = tuple(with_it[at][0] for at in stretch)
                    self.assertEqual((caught.exception.first, caught.exception.last), ends)
                elif made[moment] in (None, offset):
                    known = made[moment] == offset
                    self.assertIs(made.see(moment, offset), not known)
                    self.assertEqual(made.looks, with_it)
                self.assertEqual(made.options(moment), offsets_left(zone, made.looks, moment))
                self.assertEqual(made.table(), early_table(zone, made.looks))
                self.assertIs(is_table(zone, made.table()), True)
                self.assertTrue(has(made.table(), made.looks))

    def test_equal_calls_have_equal_results(self):
        for kind in CLASSES:
            self.assertEqual(state(gathered(LOOKS, kind)), state(gathered(LOOKS, kind)))
            made = gathered(LOOKS, kind)
            self.assertEqual(state(made), state(made))

    def test_two_by_turns(self):
        one, other = Sightings(ZONE), Sightings(ZONE)
        one.begin()
        other.see(0, 60)
        one.see(0, 0)
        self.assertRaises(NoBlock, other.finish)
        one.finish()
        self.assertEqual((one.looks, other.looks), ((), ((0, 60),)))
        self.assertRaises(NothingToUndo, one.undo)
        self.assertEqual(other.undo(), 0)

    def test_errors_keep_no_more_than_told(self):
        self.assertEqual(told(gathered(LOOKS).see, 50, 0), (Seen, {"offset": 60}))
        self.assertEqual(told(gathered(LOOKS).see, 51, 7), (InvalidOffset, {}))
        self.assertEqual(told(gathered(LOOKS).drop, 51), (NothingToDrop, {}))
        self.assertNotEqual(told(gathered(LOOKS).see, 49, 0), (Refused, {"step": 0}))
