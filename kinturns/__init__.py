"""Peoples whose marriages go by classes, walks of kin, and books of kin."""
