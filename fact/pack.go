package fact

import (
	"strconv"
	"strings"
)

// Pack returns the pack of strings.
func Pack(l []string) string {
	var out strings.Builder
	for _, s := range l {
		out.WriteString(strconv.Itoa(len(s)))
		out.WriteByte(':')
		out.WriteString(s)
	}
	return out.String()
}

// Unpack returns the strings with a pack, and whether there are such strings.
func Unpack(s string) ([]string, bool) {
	var out []string
	for s != "" {
		digits, behind, found := strings.Cut(s, ":")
		n, ok := readNumber(digits)
		if !found || !ok || n < 0 || n > len(behind) {
			return nil, false
		}
		out = append(out, behind[:n])
		s = behind[n:]
	}
	return out, true
}

// readNumber returns the number that stands in a string.
func readNumber(s string) (int, bool) {
	n, err := strconv.Atoi(s)
	// Atoi reads "+1", "01" and "-0", too, which no number is written as.
	if err != nil || strconv.Itoa(n) != s {
		return 0, false
	}
	return n, true
}
