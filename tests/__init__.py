"""The tests of breakback."""
