"""Slotgaps: errands whose steps have open times and waits."""
