"""Machines and translations whose letters stand under conditions."""
