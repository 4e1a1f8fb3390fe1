"""Winbytwo: matches of nested races."""
