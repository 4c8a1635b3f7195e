"""The tests of onejumps."""
