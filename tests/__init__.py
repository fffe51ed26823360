"""The tests of termsonwires, and what they share."""
