"""Wovenframes: one table read as a cloth, a floor of squares, and loads."""
