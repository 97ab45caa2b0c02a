"""The tests of hoursmeant."""
