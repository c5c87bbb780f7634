"""Formstead: a language whose run can be halted anywhere and handed back as a text."""
