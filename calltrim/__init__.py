"""Calltrim: makes programs with procedures short and answers questions about them, with papers."""
