package cairn_test

import (
	"math"
	"testing"

	"cairn/api"
)

func TestGetNewest(t *testing.T) {
	m := newModel(t, 500)
	keys := []string{"b", "a", "b/", "aa", "c", "b0", "b-"}
	for i := range 70 {
		key := keys[i*i%len(keys)]
		m.put(key, filled(i, i))
		m.get(key, filled(i, i), i+1, api.OK)
	}
	m.check()
}

// Keys beside ones that there are: a walk finds something there, but it is another key's.
func TestGetNone(t *testing.T) {
	m := newModel(t, 500)
	for i := range 40 {
		m.put([]string{"b", "bbb", "bb-", "b/b"}[i%4], filled(i, i))
	}
	for _, key := range []string{"a", "bb", "b/", "b-", "b0", "bbbb", "bb-a", "c", "-", "zzzzzzzz", "/"} {
		m.get(key, nil, 0, api.ErrNone)
		for n := -1; n <= 42; n++ {
			m.at(key, n, nil, api.ErrNone)
		}
	}
}

func TestGetRefusals(t *testing.T) {
	m := newModel(t, 64)
	m.put("b", []byte("x"))
	for _, key := range []string{"", "B", "b ", " b", "b\x00", "b\x00\x00\x00\x00\x00\x00\x00", "123456789", "a.b", "\xff", "é"} {
		m.get(key, nil, 0, api.ErrKey)
		for _, n := range []int{1, 0, -1, math.MaxInt} {
			m.at(key, n, nil, api.ErrKey)
		}
	}
	m.check()
}

func TestAtNumbers(t *testing.T) {
	m := newModel(t, 300)
	for i := range 30 {
		m.put([]string{"a", "b", "c"}[i%3], filled(i, i))
	}
	for _, key := range []string{"a", "b", "c"} {
		for _, n := range []int{0, -1, -2, 31, 32, 1 << 8, 1 << 16, 1 << 32, 1<<32 + 1, 1<<32 + 2, 1<<32 + 3, math.MaxInt, math.MaxInt - 1, math.MinInt, math.MinInt + 1, math.MinInt + 2, math.MinInt + 3} {
			m.at(key, n, nil, api.ErrNone)
		}
	}
	m.check()
}

func TestMarkersAreNothing(t *testing.T) {
	m := newModel(t, 64)
	m.put("a", []byte("one"))
	m.put("b", []byte("two"))
	m.delete("b")
	m.get("b", nil, 0, api.ErrNone)
	m.at("b", 3, nil, api.ErrNone)
	m.at("b", 2, []byte("two"), api.OK)
	m.get("a", []byte("one"), 1, api.OK)
	m.put("b", []byte("four"))
	m.get("b", []byte("four"), 4, api.OK)
	m.at("b", 3, nil, api.ErrNone)
	m.check()
}
