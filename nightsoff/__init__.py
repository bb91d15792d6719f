"""Nightsoff: what people tell about the nights they kept."""
