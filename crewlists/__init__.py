"""Crewlists: which jobs explain the crews."""
