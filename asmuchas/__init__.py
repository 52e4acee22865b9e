"""Asmuchas: sums of things that nobody measured."""
