package shape_test

import (
	"hash/fnv"
	"strings"
	"testing"

	"recompile/shape"
)

func TestFingerprintsThatAreKnown(t *testing.T) {
	for s, want := range map[string]uint64{
		"": 14695981039346656037, "a": 0xaf63dc4c8601ec8c, "b": 0xaf63df4c8601f1a5, "foo": 0xdcb27518fed9d577, "foobar": 0x85944171f73967e8,
	} {
		if got := shape.Fingerprint(s); got != want {
			t.Errorf("Fingerprint(%q) = %d, expected %d", s, got, want)
		}
	}
}

// fingerprint is the number as another library computes it.
func fingerprint(s string) uint64 {
	h := fnv.New64a()
	h.Write([]byte(s))
	return h.Sum64()
}

func TestFingerprint(t *testing.T) {
	l := []string{"", strings.Repeat("\x00", 1000), strings.Repeat("a", 100000), strings.Repeat("\xff", 1<<20), strings.Repeat("21:0:4:true()", 1<<16), "é", "\xff\xfe"}
	for a := range 256 {
		l = append(l, string([]byte{byte(a)}))
		for b := range 256 {
			l = append(l, string([]byte{byte(a), byte(b)}))
		}
	}
	d := &dice{4}
	for range 1000 {
		l = append(l, strings.Repeat(d.text(), 1+d.roll(20)))
	}
	for _, s := range l {
		if got, want := shape.Fingerprint(s), fingerprint(s); got != want {
			t.Errorf("Fingerprint(%.40q) of %d bytes = %d, expected %d", s, len(s), got, want)
		}
	}
}
