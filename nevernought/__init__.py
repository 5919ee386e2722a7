"""Reckonings whose products hang on their order, with undoings."""
