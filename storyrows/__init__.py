"""Answers questions about a tree and a row of steps on it."""
