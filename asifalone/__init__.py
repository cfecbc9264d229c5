"""Asifalone: the least level at which each dealing is as if alone."""
