"""Texts of deeds, trees and cuts, and a shell that is run by lines."""
