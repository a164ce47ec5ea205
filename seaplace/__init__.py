"""Seaplace: nodes placed among the deeds of a program."""
