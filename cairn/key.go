package cairn

import "cairn/api"

// isKey asks for the length first, so that a huge text costs no more than a short one.
func isKey(text string) bool {
	if len(text) < 1 || len(text) > api.MaxKey {
		return false
	}
	// By bytes, not by runes: bytes that are no text must be refused too.
	for i := range len(text) {
		if !isKeyByte(text[i]) {
			return false
		}
	}
	return true
}

func isKeyByte(c byte) bool {
	switch {
	case 'a' <= c && c <= 'z', '0' <= c && c <= '9', c == '-', c == '/':
		return true
	}
	return false
}
