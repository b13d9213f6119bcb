"""Whistleboard: the watch room of a fire brigade."""
