"""Pressluck: games against dice, played best."""
