"""Answerskept: changes made apart, judged by answers in all worlds."""
