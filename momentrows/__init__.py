"""Momentrows: the points and weights that a row of power sums allows on a half line, a segment or the line."""
