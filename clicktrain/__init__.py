"""Clicktrain: trains of wheels, clicks, rockers and springs, and what pushes leave."""
