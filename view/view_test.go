package view

import (
	"testing"

	"concordance/api"
	"concordance/device"
	"concordance/mini"
	"concordance/page"
)

func begun(t *testing.T, frames int) *mini.Store {
	t.Helper()
	p := mini.Plan{Half: 20, Slots: 1, Pages: 6, Frames: frames}
	d, _ := device.New(p.Sectors())
	mini.Format(d, p)
	s, _, e := mini.Open(d, p)
	if e != api.OK || s.Checkpoint("") != api.OK {
		t.Fatal(e)
	}
	return s
}

func asked(m *mini.Mini, n int) bool {
	return m.Set(n, page.Page{}) != api.ErrState
}

func answers(t *testing.T, e, want api.Errno) {
	t.Helper()
	if e != want {
		t.Errorf("%d, not %d", e, want)
	}
}

func asks(t *testing.T, v *View, n int, want string) {
	t.Helper()
	if p, e := v.Page(n); p.High != want || e != api.OK {
		t.Errorf("%d: %v %d", n, p, e)
	}
}

func TestWhatWasOnlyReadIsLetGo(t *testing.T) {
	s := begun(t, 4)
	m := s.Begin()
	m.Page(1) // the caller's own
	v := Of(m)
	for range 2 {
		for n := range 4 {
			asks(t, v, n, "")
		}
	}
	answers(t, v.Set(2, page.Page{Kind: 3, High: "set"}), api.OK)
	asks(t, v, 2, "set")
	answers(t, v.Set(3, page.Page{}), api.ErrArg) // it isn't Set then
	answers(t, v.Set(5, page.Page{Kind: 3}), api.ErrState)
	v.Leave()
	v.Leave()
	for n, want := range []bool{false, true, true, false, false, false} {
		if asked(m, n) != want {
			t.Error(n)
		}
	}
	if s.Evict(0) == api.ErrPins || s.Evict(3) == api.ErrPins || s.Evict(1) != api.ErrPins || s.Evict(2) != api.ErrPins {
		t.Error("pins")
	}
	again := Of(m)
	asks(t, again, 2, "set") // Set by another one
	asks(t, again, 4, "")
	again.Leave()
	if !asked(m, 2) || asked(m, 4) {
		t.Error("again")
	}
}

func TestErrorsOfTheChanges(t *testing.T) {
	v := Of(nil)
	_, e := v.Page(0)
	answers(t, e, api.ErrArg)
	answers(t, v.Set(0, page.Page{Kind: 3}), api.ErrArg)
	v.Leave()
	s := begun(t, 1)
	m := s.Begin()
	v = Of(m)
	for _, n := range []int{-1, 6} {
		_, e = v.Page(n)
		answers(t, e, api.ErrArg)
	}
	asks(t, v, 0, "")
	_, e = v.Page(1)
	answers(t, e, api.ErrPins)
	v.Leave()
	asks(t, v, 1, "")
	v.Leave()
	m.Abort()
	p, e := v.Page(0)
	answers(t, e, api.ErrState)
	if p.Kind != 0 {
		t.Error(p)
	}
	v.Leave()
}
