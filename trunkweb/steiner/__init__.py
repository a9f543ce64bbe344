"""Steiner trees and Steiner arborescences."""
