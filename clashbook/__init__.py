"""Clashbook: what follows where things are known by what they clash with."""
