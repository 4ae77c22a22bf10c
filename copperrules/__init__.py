"""Copper and holes of a board, held to rules."""
