"""Recipelayers: file trees that are built in layers."""
