"""Rows of signs laid on one whole number by their shares, and taken off again."""
