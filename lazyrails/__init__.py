"""Lazyrails: a toy railway whose only memory is its points."""
