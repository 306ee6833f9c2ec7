"""Fewserve: short lists that answer every later question as the whole stream does."""
