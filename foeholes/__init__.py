"""Foeholes: texts with holes that a foe fills."""
