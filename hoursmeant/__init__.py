"""Hoursmeant: programs that carry times between moments and clock readings."""
