"""Linegrow: rows in which every letter is turned into a word at once."""
