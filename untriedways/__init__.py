"""Untriedways: how many lives it takes to come home on arrows that nobody has tried."""
