"""Vasttypes: types of programs whose texts nobody can print."""
