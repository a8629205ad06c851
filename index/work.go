package index

import (
	"slices"

	"concordance/api"
	"concordance/blink"
	"concordance/buffer"
	"concordance/mini"
	"concordance/node"
	"concordance/page"
	"concordance/view"
)

// Progress of some work.
type Progress struct {
	Applied, Over, Again bool
}

// Work on an index: a change of one entry, page by page.
type Work struct {
	index  Index
	change buffer.Op
	value  string
	most   int

	at      int  // the page that it visits next
	direct  bool // whatever is held, it goes on to the leaf
	applied bool
	posts   []blink.Post // that are still to be settled
}

// Start some work; most: how many changes may wait in all.
func Start(x Index, c buffer.Op, value string, most int) *Work {
	return &Work{index: x, change: c, value: value, most: most, at: x.Root}
}

// Applied: was the change made?
func (w *Work) Applied() bool {
	return w != nil && w.applied
}

// Step: one page more.
func (w *Work) Step(m *mini.Mini, held func(int) bool) (Progress, api.Errno) {
	switch {
	case w == nil || !w.isRight():
		return Progress{}, api.ErrArg
	case !w.applied:
		return w.walk(m, held)
	case len(w.posts) > 0:
		return w.settle(m)
	}
	return Progress{Over: true}, api.OK
}

// isRight: is it a change that the index can have?
func (w *Work) isRight() bool {
	if len(w.change.Key) > api.MaxKey {
		return false
	}
	switch w.change.Kind {
	case buffer.Insert:
		// What waits has no value: with one it would matter what is held.
		return !w.index.Waits || w.value == ""
	case buffer.Mark, buffer.Unmark, buffer.Purge:
		return true
	}
	return false
}

// walk on by one page.
func (w *Work) walk(m *mini.Mini, held func(int) bool) (Progress, api.Errno) {
	s, err := blink.Visit(m, w.at, w.change.Key, leafLevel)
	if err != api.OK {
		return Progress{}, err
	}
	if s.Here {
		return w.apply(m)
	}
	waits, err := w.mayWait(m, s, held)
	if err != api.OK {
		return Progress{}, err
	}
	if waits {
		return w.wait(m, s.Next)
	}
	w.at = s.Next
	w.posts = append(w.posts, s.Missed...)
	return Progress{}, api.OK
}

// mayWait: is it at the page above its leaf, which isn't held?
func (w *Work) mayWait(m *mini.Mini, s blink.Step, held func(int) bool) (bool, api.Errno) {
	if !w.index.Waits || w.direct || len(s.Missed) > 0 {
		return false, api.OK
	}
	v := view.Of(m)
	defer v.Leave()
	p, err := v.Page(w.at)
	if err != api.OK || p.Level != aboveLeafs {
		return false, err
	}
	return held == nil || !held(s.Next), api.OK
}

// wait for a leaf, where there is room for that.
func (w *Work) wait(m *mini.Mini, leaf int) (Progress, api.Errno) {
	switch err := buffer.Add(m, w.index.ID, leaf, w.change, w.most); err {
	case api.OK:
		return w.isApplied(nil), api.OK
	case api.ErrFull, api.ErrState:
		w.direct = true
		return Progress{Again: true}, api.OK
	default:
		return Progress{}, err
	}
}

// isApplied from now on; what is to be posted is kept.
func (w *Work) isApplied(posts []blink.Post) Progress {
	w.applied = true
	w.posts = append(w.posts, posts...)
	return Progress{Applied: true, Over: len(w.posts) == 0}
}

// apply the change to the leaf where it is.
func (w *Work) apply(m *mini.Mini) (Progress, api.Errno) {
	var posts []blink.Post
	var err api.Errno
	if w.change.Kind == buffer.Insert {
		posts, err = w.insert(m)
	} else {
		err = w.alter(m)
	}
	if err != api.OK {
		return Progress{}, err
	}
	return w.isApplied(posts), api.OK
}

// insert the entry: what is to be posted.
func (w *Work) insert(m *mini.Mini) ([]blink.Post, api.Errno) {
	if err := w.ready(m); err != api.OK {
		return nil, err
	}
	e := page.Entry{Key: w.change.Key, Value: w.value}
	posts, err := blink.Put(m, w.index.Root, w.at, e)
	if err != api.OK {
		return nil, err
	}
	return posts, w.index.flagAll(m, w.at, posts)
}

// ready makes the leaf ready for an Insert. Whether its entry is there already is
// looked for ahead of that, since nothing may be changed behind ErrExists.
func (w *Work) ready(m *mini.Mini) api.Errno {
	if !w.index.Waits {
		return api.OK
	}
	p, err := w.index.Whole(m, w.at)
	if err != api.OK {
		return err
	}
	if _, there := node.Find(p, w.change.Key); there {
		return api.ErrExists
	}
	return w.index.Ready(m, w.at)
}

// alter the entry, where it is there.
func (w *Work) alter(m *mini.Mini) api.Errno {
	if err := w.index.Ready(m, w.at); err != api.OK {
		return err
	}
	v := view.Of(m)
	defer v.Leave()
	p, err := v.Page(w.at)
	if err != api.OK {
		return err
	}
	p, err = buffer.Apply(p, w.change)
	if err != api.OK {
		return err
	}
	if err := v.Set(w.at, p); err != api.OK {
		return err
	}
	return w.index.flagAll(m, w.at, nil)
}

// settle the first one that is to be posted.
func (w *Work) settle(m *mini.Mini) (Progress, api.Errno) {
	post := w.posts[0]
	more, err := blink.Settle(m, w.index.Root, post)
	if err != api.OK {
		return Progress{}, err
	}
	if w.index.Waits && post.Level == aboveLeafs {
		if err := w.index.open(m, post); err != api.OK {
			return Progress{}, err
		}
	}
	w.posts = slices.Concat(w.posts[1:], more)
	return Progress{Over: len(w.posts) == 0}, api.OK
}
