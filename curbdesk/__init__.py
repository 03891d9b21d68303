"""Curbdesk: a desk for finite puzzles in which every conclusion is a join of boxes."""
