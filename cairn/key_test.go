package cairn_test

import (
	"strings"
	"testing"

	"cairn/api"
	"cairn/cairn"
)

// keyBytes is written out byte by byte, so that it shares no rule with the program.
const keyBytes = "abcdefghijklmnopqrstuvwxyz0123456789-/"

func wantKey(t *testing.T, text string, want api.Errno) {
	t.Helper()
	if got := cairn.Key(text); got != want {
		t.Errorf("P3: Key(%.40q), of %d bytes, is %d, not %d", text, len(text), got, want)
	}
}

func TestKeyOrdinary(t *testing.T) {
	for _, text := range []string{"a", "9", "-", "/", "a/b-c/d0", "b", "aa", "key", "x-1", "0/0", "/a/", "--", "//", "a-", "-a"} {
		wantKey(t, text, api.OK)
	}
}

func TestKeyLengths(t *testing.T) {
	for _, c := range []string{"a", "z", "0", "9", "-", "/"} {
		for n := range 3 * api.MaxKey {
			want := api.ErrKey
			if 1 <= n && n <= api.MaxKey {
				want = api.OK
			}
			wantKey(t, strings.Repeat(c, n), want)
		}
	}
}

func TestKeyEveryByteAtEveryPlace(t *testing.T) {
	for n := 1; n <= api.MaxKey; n++ {
		for place := range n {
			for c := range 256 {
				text := []byte(strings.Repeat("k", n))
				text[place] = byte(c)
				want := api.ErrKey
				if strings.IndexByte(keyBytes, byte(c)) >= 0 {
					want = api.OK
				}
				wantKey(t, string(text), want)
			}
		}
	}
}

// '/' goes right ahead of '0', so the two have their outer neighbours in common: '.' below, ':' above '9'.
func TestKeyNeighbours(t *testing.T) {
	for _, c := range []byte{'a' - 1, 'z' + 1, '-' - 1, '-' + 1, '/' - 1, '9' + 1} {
		wantKey(t, string([]byte{c}), api.ErrKey)
		wantKey(t, string([]byte{'a', c}), api.ErrKey)
		wantKey(t, string([]byte{c, 'a'}), api.ErrKey)
	}
}

func TestKeyWrong(t *testing.T) {
	for _, text := range []string{
		"", "A", "Z", "aB", "a b", " a", "a ", " ", "a.b", "a_b", "a\\b", "a\n", "\t",
		"\x00", "a\x00", "\x00a", "\x7f",
		"é", "aé", "ａ", "日本", "\u0430", "\U0001f600",
		"\xff", "a\xff", "\xffa", "\xc3", "\xc3a", "\xa9", "\xed\xa0\x80", "\xe1", "\xad",
		"123456789", "a/b-c/d01", "aaaaaaaaA", "AAAAAAAAA",
	} {
		wantKey(t, text, api.ErrKey)
	}
}

func TestKeyHugeText(t *testing.T) {
	wantKey(t, strings.Repeat("a", 1<<24), api.ErrKey)
	wantKey(t, strings.Repeat("\xff", 1<<24), api.ErrKey)
}

// A length that is a whole number of 256 or 65536 more than that of a key would slip through a narrowed length.
func TestKeyLengthIsNotNarrowed(t *testing.T) {
	for n := 1; n <= api.MaxKey; n++ {
		wantKey(t, strings.Repeat("a", 256+n), api.ErrKey)
		wantKey(t, strings.Repeat("a", 65536+n), api.ErrKey)
	}
}
