"""Toldwhat: a keeper who is told what, never where."""
