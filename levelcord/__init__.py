"""Levelcord: the most level row between two bounds."""
