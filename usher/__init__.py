"""Usher: askers led to servers, and nobody moved without need."""
