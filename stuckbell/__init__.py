"""Stuckbell: who can never go on, and a bell that rings when that is known."""
