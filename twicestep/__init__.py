"""Twicestep: which rules of two steps have a formula."""
