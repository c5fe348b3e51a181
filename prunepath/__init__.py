"""Prunepath: a tree of questions and the row of its best prunings."""
