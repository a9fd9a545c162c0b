"""Skewhouse: dealings woven together, and a judge beside."""
