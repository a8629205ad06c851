package parts

import "testing"

func TestPartsFromTheFront(t *testing.T) {
	r := Of("\x01\x02abc\x05rest")
	if n := r.Number(2); n != 258 {
		t.Error(n)
	}
	if s := r.Text(0); s != "" {
		t.Error(s)
	}
	if s := r.Text(3); s != "abc" {
		t.Error(s)
	}
	if n := r.Number(1); n != 5 || r.Short() || r.Rest() != "rest" {
		t.Error(n, r.Short(), r.Rest())
	}
	if s := r.Text(4); s != "rest" || r.Short() || r.Rest() != "" {
		t.Error(s, r.Short(), r.Rest())
	}
	if s := r.Text(0); s != "" || r.Short() {
		t.Error(s, r.Short())
	}
}

func TestPartsThatAreNotThere(t *testing.T) {
	for _, s := range []string{"", "a", "ab"} {
		r := Of(s)
		if n := r.Number(3); n != 0 || !r.Short() {
			t.Errorf("Number of %q: %d %v", s, n, r.Short())
		}
	}
	r := Of("abc")
	if s := r.Text(4); s != "" || !r.Short() {
		t.Error(s, r.Short())
	}
	// Behind one that wasn't there none is, even one for which there are bytes.
	if s, n := r.Text(1), r.Number(1); s != "" || n != 0 || !r.Short() || r.Rest() != "abc" {
		t.Error(s, n, r.Short(), r.Rest())
	}
}
