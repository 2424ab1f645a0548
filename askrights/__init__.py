"""Askrights: an archive that keeps exactly what may still be asked."""
