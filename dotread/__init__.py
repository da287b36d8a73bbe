"""Dotread: a reading works, from dots to searched and corrected texts."""
