"""Triangles on a grid of samples, each sample owned once."""
