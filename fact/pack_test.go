package fact_test

import (
	"slices"
	"strings"
	"testing"

	"recompile/fact"
)

// checkPack tests that a text is the pack of strings, and of no others.
func checkPack(t *testing.T, l []string, want string) {
	t.Helper()
	if got := fact.Pack(l); got != want {
		t.Errorf("Pack(%.200q) = %.200q, expected %.200q", l, got, want)
	}
	if got, ok := fact.Unpack(want); !ok || !slices.Equal(got, l) {
		t.Errorf("Unpack(%.200q) = %.200q, %v, expected %.200q", want, got, ok, l)
	}
}

func TestPacks(t *testing.T) {
	for want, l := range map[string][]string{
		"":                         nil,
		"0:":                       {""},
		"0:0:0:":                   {"", "", ""},
		"1:a0:":                    {"a", ""},
		"0:1:a":                    {"", "a"},
		"1:a2:bc3:def":             {"a", "bc", "def"},
		"1::":                      {":"},
		"2:::1::":                  {"::", ":"},
		"1:7":                      {"7"},
		"2:1:":                     {"1:"},
		"3:1:a":                    {"1:a"},
		"5:1:a0:":                  {"1:a0:"},
		"2:0:0:2:0:":               {"0:", "", "0:"},
		"2:12":                     {"12"},
		"4:-1:a":                   {"-1:a"},
		"1:\x00":                   {"\x00"},
		"1:\xff":                   {"\xff"},
		"2:\u00e4":                 {"\u00e4"},
		"3:\n\t ":                  {"\n\t "},
		"9:123456789":              {"123456789"},
		"10:1234567890":            {"1234567890"},
		"10:1234567890" + "1:a":    {"1234567890", "a"},
		"11:          :0:":         {"          :", ""},
		"12:((((((((((((1:)2:)(0:": {"((((((((((((", ")", ")(", ""},
	} {
		checkPack(t, l, want)
	}
	if got := fact.Pack([]string{}); got != "" {
		t.Errorf("Pack of no strings = %q", got)
	}
}

func TestNumbersOfSeveralDigits(t *testing.T) {
	for _, c := range []struct {
		n      int
		digits string
	}{{9, "9"}, {10, "10"}, {11, "11"}, {99, "99"}, {100, "100"}, {101, "101"}, {999, "999"}, {1000, "1000"}, {1010, "1010"}, {9999, "9999"}, {10000, "10000"}, {65536, "65536"}, {1234567, "1234567"}} {
		x := strings.Repeat("x", c.n)
		checkPack(t, []string{x}, c.digits+":"+x)
		checkPack(t, []string{"1:", x, "", x + "y"[:0], "z"}, "2:1:"+c.digits+":"+x+"0:"+c.digits+":"+x+"1:z")
		digits := strings.Repeat("1", c.n)
		checkPack(t, []string{digits, digits}, c.digits+":"+digits+c.digits+":"+digits)
	}
}

func TestAllBytes(t *testing.T) {
	var all strings.Builder
	for b := range 256 {
		one := string([]byte{byte(b)})
		checkPack(t, []string{one}, "1:"+one)
		checkPack(t, []string{one, "", one + one}, "1:"+one+"0:2:"+one+one)
		all.WriteString(one)
	}
	checkPack(t, []string{all.String(), all.String()}, "256:"+all.String()+"256:"+all.String())
}

func TestNoPacks(t *testing.T) {
	for _, s := range []string{
		// no colon, no digits
		"0", "1", "12", "a", "1a", " ", ":", "::", ":a", ":1:a", "a:", "a:b", "a1:b", "1a:b", "x:0:", "1;a", "\x00", "\x00:", "1\x00:a",
		// the number is too great for what follows
		"1:", "2:a", "2:", "3:ab", "10:a", "10:123456789", "4:a0:", "999999:abc", "1:a1:", "0:1:", "1:a2:b",
		// and for an int
		"2147483648:a", "4294967296:", "4294967297:a", "9223372036854775807:", "9223372036854775807:a", "9223372036854775808:", "9223372036854775808:a", "18446744073709551615:a", "18446744073709551616:", "18446744073709551617:a", "36893488147419103233:a", "340282366920938463463374607431768211457:a", strings.Repeat("9", 400) + ":a",
		// leading zeros and signs
		"00:", "01:a", "001:a", "010:1234567890", "1:a00:", "1:a01:b", "0:00:", "-1:", "-1:a", "-0:", "+0:", "+1:a", "-9223372036854775808:", "-9223372036854775809:", "-:", "+:", "--1:a", "1-:a", "- 1:a", "-18446744073709551615:a",
		// other ways to write a number
		" 1:a", "1 :a", "\n1:a", "1_0:1234567890", "1.0:a", "1e0:a", "0x1:a", "0b1:a", "0o1:a", "1,0:1234567890", "\u0661:a", "\uff11:a", "0_0:",
		// something behind the end
		"1:ab", "0:a", "0::", "1:a:", "1:a0", "1:a0:b", "0:0:0", "1:a ", "3:abcd", "1:a1:bc", "0:-", "0:\n", "1:a1",
	} {
		if got, ok := fact.Unpack(s); ok || len(got) != 0 {
			t.Errorf("Unpack(%.200q) = %.200q, %v", s, got, ok)
		}
	}
}

// packs puts all lists of strings of some bytes whose packs have at most n bytes into a map.
func packs(into map[string][]string, bytes string, begin string, l []string, n int) {
	into[begin] = slices.Clone(l)
	var with func(s string)
	with = func(s string) {
		pack := begin + show(len(s)) + ":" + s
		if len(pack) > n {
			return
		}
		packs(into, bytes, pack, append(slices.Clone(l), s), n)
		for _, b := range []byte(bytes) {
			with(s + string([]byte{b}))
		}
	}
	with("")
}

// Each small text is a pack only of the strings of which it is the pack.
func TestEverySmallText(t *testing.T) {
	const bytes, most = "012345:-", 7
	known := map[string][]string{}
	packs(known, bytes, "", nil, most)
	found := 0
	var try func(s string)
	try = func(s string) {
		l, is := known[s]
		got, ok := fact.Unpack(s)
		if ok != is || !slices.Equal(got, l) {
			t.Fatalf("Unpack(%q) = %q, %v, expected %q, %v", s, got, ok, l, is)
		}
		if is {
			found++
			if fact.Pack(l) != s {
				t.Fatalf("Pack(%q) = %q, expected %q", l, fact.Pack(l), s)
			}
		}
		if len(s) < most {
			for _, b := range []byte(bytes) {
				try(s + string([]byte{b}))
			}
		}
	}
	try("")
	if found != len(known) || found < 1000 {
		t.Errorf("%d of %d packs were found", found, len(known))
	}
}

// Packs that begin with accidental numbers, signs and blanks are read like the pattern that describes them.
func TestAccidentalTexts(t *testing.T) {
	d := &dice{7}
	read := 0
	for range 200000 {
		var s string
		for range 1 + d.roll(4) {
			s += d.pick("", "", "", "", "", "0", "+", "-", " ", "1") + d.pick("0", "1", "2", "3", "10", "11", "") + d.pick(":", ":", ":", ":", ":", "") + d.pick("", "a", ":b", "abc", "1:ab", "0:0:0:0:0:", "0:0:0:0:0:a")
		}
		l, ok := loosePack(s)
		ok = ok && pk(l...) == s
		if !ok {
			l = nil
		} else {
			read++
		}
		if got, is := fact.Unpack(s); is != ok || !slices.Equal(got, l) {
			t.Fatalf("Unpack(%q) = %q, %v, expected %q, %v", s, got, is, l, ok)
		}
	}
	if read < 2000 {
		t.Errorf("%d texts were packs", read)
	}
}
