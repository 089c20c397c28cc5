"""Latestart: material requirements planning that starts every lot as late as can be."""
