"""Grades told from samples, exactly."""
