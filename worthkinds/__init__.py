"""Worthkinds: kinds of worths, counted."""
