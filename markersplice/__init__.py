"""Markersplice: joining strips at paired markers."""
