"""Peoples whose marriages go by classes: tables of classes and walks of kin."""
