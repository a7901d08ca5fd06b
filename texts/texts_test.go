package texts

import "testing"

func TestIsName(t *testing.T) {
	for _, s := range []string{"a", "z", "A", "Z", "a0", "a9", "a-", "a9-B", "abcdefghijkl"} {
		if !IsName(s) {
			t.Errorf("%q is a name", s)
		}
	}
	for _, s := range []string{"", "abcdefghijklm", "9", "-a", "a_", "a b", " a", "ä", "aä", "a\n", "[", "@", "`", "{", "a/", "a:", "a\x00"} {
		if IsName(s) {
			t.Errorf("%q is no name", s)
		}
	}
}

func TestNumbers(t *testing.T) {
	for _, x := range []struct {
		s      string
		digits int
		n      int
	}{
		{"0", 1, 0}, {"7", 1, 7}, {"10", 2, 10}, {"999999999", 9, 999999999}, {"999999999999999999", 18, 999999999999999999},
	} {
		if n, ok := Number(x.s, x.digits); !ok || n != x.n {
			t.Errorf("Number %q: %d, %v", x.s, n, ok)
		}
		if n, ok := Signed(x.s, x.digits); !ok || n != x.n {
			t.Errorf("Signed %q: %d, %v", x.s, n, ok)
		}
		n, ok := Signed("-"+x.s, x.digits)
		if ok != (x.n != 0) || ok && n != -x.n {
			t.Errorf("Signed -%q: %d, %v", x.s, n, ok)
		}
		if _, ok := Number("-"+x.s, x.digits+1); ok {
			t.Errorf("Number -%q", x.s)
		}
	}
	for _, s := range []string{"", "-", "--1", "-01", "00", "01", "+1", "1 ", " 1", "1x", "x", "1/", "1:", "١", "1000", "-1000"} {
		if n, ok := Number(s, 3); ok {
			t.Errorf("Number %q: %d", s, n)
		}
		if n, ok := Signed(s, 3); ok {
			t.Errorf("Signed %q: %d", s, n)
		}
	}
}
