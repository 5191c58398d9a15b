package store

import (
	"slices"
	"strings"
	"testing"

	"coffer/api"
)

// standing is a store whose chain 2 has that one version alone.
func standing(version int, text string) *Store {
	s := &Store{}
	s.chains[2] = versions{gone: version - 1, texts: []string{text}}
	return s
}

func TestNoVersionBehindTheGreatestNumber(t *testing.T) {
	s := standing(1<<31-2, "a")
	if got, e := s.Backup(2, "b"); got != 1<<31-1 || e != api.OK {
		t.Errorf("P7: Backup behind 2^31 - 2 = %d, %d", got, e)
	}
	log := s.Log()
	for _, text := range []string{"", "c", strings.Repeat("x", api.MaxText)} {
		if got, e := s.Backup(2, text); got != 0 || e != api.ErrFull {
			t.Errorf("P7: Backup behind 2^31 - 1 = %d, %d", got, e)
		}
	}
	if got, e := s.Backup(2, strings.Repeat("x", api.MaxText+1)); got != 0 || e != api.ErrLong {
		t.Errorf("P7: Backup of a long text behind 2^31 - 1 = %d, %d", got, e)
	}
	if first, last, e := s.Versions(2); first != 1<<31-2 || last != 1<<31-1 || e != api.OK {
		t.Errorf("P7: Versions = %d, %d, %d", first, last, e)
	}
	if s.Log() != log {
		t.Errorf("P7: the log became %x, was %x", s.Log(), log)
	}
	if got, e := s.Backup(1, "other"); got != 1 || e != api.OK {
		t.Errorf("P7: Backup to another chain = %d, %d", got, e)
	}
}

func TestPruneAtTheGreatestNumber(t *testing.T) {
	s := standing(1<<31-2, "a")
	s.Backup(2, "b")
	s.log = nil
	if e := s.Prune(2, 1<<31-1); e != api.OK || !strings.HasPrefix(s.Log(), "\x07P\x02\xff\xff\xff\xff\x07") {
		t.Errorf("P7: Prune = %d, the log is %x", e, s.Log())
	}
	if first, last, e := s.Versions(2); first != 1<<31-1 || last != 1<<31-1 || e != api.OK {
		t.Errorf("P7: Versions = %d, %d, %d", first, last, e)
	}
	if text, e := s.Restore(2, 1<<31-1); text != "b" || e != api.OK {
		t.Errorf("P7: Restore = %q, %d", text, e)
	}
	if text, e := s.Restore(2, 1<<31-2); text != "" || e != api.ErrNone {
		t.Errorf("P7: Restore of what is gone = %q, %d", text, e)
	}
}

func TestNothingOfWhatIsGoneIsKept(t *testing.T) {
	s := &Store{}
	for _, text := range []string{"a", "b", "c", "d"} {
		s.Backup(0, text)
	}
	whole := s.chains[0].texts
	s.Prune(0, 3)
	// if the memory in which the first ones stand were still held, this would show
	whole[2] = "other"
	if texts := s.chains[0].texts; !slices.Equal(texts, []string{"c", "d"}) {
		t.Errorf("P7: kept are %q", texts)
	}
}

func TestShorter(t *testing.T) {
	for _, c := range [][3]string{{"full", "dif", "dif"}, {"full", "diff", "full"}, {"full", "differs", "full"}} {
		if got := string(shorter([]byte(c[0]), []byte(c[1]))); got != c[2] {
			t.Errorf("P8: the shorter of %q and %q = %q", c[0], c[1], got)
		}
	}
}
