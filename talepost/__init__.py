"""Talepost: texts that travel along rows of stations."""
