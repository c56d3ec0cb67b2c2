"""Evensieve: rows kept by chance, and when two ways of sampling are one.

Import each name from the file that defines it, as README.md shows.
"""
