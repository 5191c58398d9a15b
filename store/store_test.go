package store

import (
	"strings"
	"testing"

	"coffer/api"
	"coffer/code"
	"coffer/record"
)

// standing is a store whose chain 2 has that one version alone.
func standing(version int, text string) *Store {
	s := &Store{}
	s.Replay(string(record.Bytes(record.Beginning(2, version, text))))
	return s
}

// gaveUp runs a reading and tells whether it gave up.
func gaveUp(read func()) (given bool) {
	defer func() { _, given = recover().(code.Fault) }()
	read()
	return false
}

func TestNoVersionBehindTheGreatestNumber(t *testing.T) {
	s := standing(1<<31-2, "a")
	if got, e := s.Backup(2, "b"); got != 1<<31-1 || e != api.OK {
		t.Errorf("P7: Backup behind 2^31 - 2 = %d, %d", got, e)
	}
	log := s.Log()
	for _, text := range []string{"", "c", strings.Repeat("x", api.MaxText)} {
		if got, e := s.Backup(2, text); got != 0 || e != api.ErrFull {
			t.Errorf("P7: Backup behind 2^31 - 1 = %d, %d", got, e)
		}
	}
	if got, e := s.Backup(2, strings.Repeat("x", api.MaxText+1)); got != 0 || e != api.ErrLong {
		t.Errorf("P7: Backup of a long text behind 2^31 - 1 = %d, %d", got, e)
	}
	if first, last, e := s.Versions(2); first != 1<<31-2 || last != 1<<31-1 || e != api.OK {
		t.Errorf("P7: Versions = %d, %d, %d", first, last, e)
	}
	if s.Log() != log {
		t.Errorf("P7: the log became %x, was %x", s.Log(), log)
	}
	if got, e := s.Backup(1, "other"); got != 1 || e != api.OK {
		t.Errorf("P7: Backup to another chain = %d, %d", got, e)
	}
}

func TestPruneAtTheGreatestNumber(t *testing.T) {
	s := standing(1<<31-2, "a")
	s.Backup(2, "b")
	s.log = nil
	if e := s.Prune(2, 1<<31-1); e != api.OK || !strings.HasPrefix(s.Log(), "\x07P\x02\xff\xff\xff\xff\x07") {
		t.Errorf("P7: Prune = %d, the log is %x", e, s.Log())
	}
	if first, last, e := s.Versions(2); first != 1<<31-1 || last != 1<<31-1 || e != api.OK {
		t.Errorf("P7: Versions = %d, %d, %d", first, last, e)
	}
	if text, e := s.Restore(2, 1<<31-1); text != "b" || e != api.OK {
		t.Errorf("P7: Restore = %q, %d", text, e)
	}
	if text, e := s.Restore(2, 1<<31-2); text != "" || e != api.ErrNone {
		t.Errorf("P7: Restore of what is gone = %q, %d", text, e)
	}
}

func TestShorter(t *testing.T) {
	for _, c := range [][3]string{{"full", "dif", "dif"}, {"full", "diff", "full"}, {"full", "differs", "full"}} {
		if got := string(shorter([]byte(c[0]), []byte(c[1]))); got != c[2] {
			t.Errorf("P8: the shorter of %q and %q = %q", c[0], c[1], got)
		}
	}
}

func TestReplayGivesUpAndLeavesWhatWasDone(t *testing.T) {
	one, other := string(record.Bytes(record.Full(1, "one"))), string(record.Bytes(record.Full(1, "other")))
	// one that can't be read, and one that can't be done
	for _, none := range []string{one[:len(one)-1], string(record.Bytes(record.Prune(0, 1)))} {
		s := &Store{}
		if !gaveUp(func() { s.Replay(one + other + none) }) {
			t.Errorf("P9: a log with %x at its end is read to the end", none)
		}
		if s.Log() != one+other {
			t.Errorf("P9: the log is %x, want %x", s.Log(), one+other)
		}
		if first, last, _ := s.Versions(1); first != 1 || last != 2 {
			t.Errorf("P9: Versions = %d, %d", first, last)
		}
	}
	s := &Store{}
	if gaveUp(func() { s.Replay(one + other) }) || s.Log() != one+other {
		t.Errorf("P9: a whole log gives up, and became %x", s.Log())
	}
}

func TestSquashUpToTheGreatestNumber(t *testing.T) {
	s := standing(1<<31-3, "gone")
	s.Backup(2, "a")
	s.Backup(2, "b")
	s.Prune(2, 1<<31-2)
	s.Squash()
	want := string(record.Bytes(record.Beginning(2, 1<<31-2, "a"))) + string(record.Bytes(record.Full(2, "b")))
	if s.Log() != want {
		t.Errorf("P10: the log is %x, want %x", s.Log(), want)
	}
}
