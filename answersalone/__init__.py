"""Answersalone: many requests answered at once, each as if it were alone."""
