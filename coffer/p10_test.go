package coffer_test

import (
	"math/rand"
	"strings"
	"testing"

	"coffer/api"
	"coffer/coffer"
)

// plainFurther is the record that Backup would add of a text behind the one ahead.
func plainFurther(chain int, before, s string) string {
	whole, by := plainFull(chain, s), plainDifference(chain, plainDiff(before, s))
	if len(by) < len(whole) {
		return by
	}
	return whole
}

// plainSquashed is the log that Squash would have of what a Vault tells, be it longer or not.
func plainSquashed(v *coffer.Vault) string {
	log := ""
	for chain := range api.MaxChains {
		first, last, _ := v.Versions(chain)
		if last == 0 {
			continue
		}
		before, _ := v.Restore(chain, first)
		log += plainBeginning(chain, first, before)
		for version := first + 1; version <= last; version++ {
			s, _ := v.Restore(chain, version)
			log += plainFurther(chain, before, s)
			before = s
		}
	}
	return log
}

// checkSquash squashes a Vault, which must have that log then, and tells nothing else that is new.
func checkSquash(t *testing.T, v *coffer.Vault, want string) {
	t.Helper()
	expected := allTold(v)
	expected.log = want
	v.Squash()
	checkLog(t, v, want)
	if allTold(v) != expected {
		t.Error("P10: something that is told changed")
	}
}

// checkSquashTwice squashes a Vault as the document's words say, and once more, which changes nothing.
func checkSquashTwice(t *testing.T, v *coffer.Vault) {
	t.Helper()
	want := plainSquashed(v)
	if len(want) > len(v.Log()) {
		want = v.Log()
	}
	checkSquash(t, v, want)
	checkSquash(t, v, want)
	w := checkOpen(t, want, len(want))
	if allTold(w) != allTold(v) {
		t.Error("P10: of the squashed log another Vault is opened")
	}
	checkSquash(t, w, want)
}

func TestP10NothingToSquash(t *testing.T) {
	checkSquash(t, coffer.New(), "")
	checkSquash(t, checkOpen(t, "", 0), "")
}

func TestP10PrunedVersionsLeaveTheLog(t *testing.T) {
	v := coffer.New()
	v.Backup(2, "the first text")
	v.Backup(2, "the first text, and more")
	v.Backup(2, "the first text, and more")
	v.Backup(2, "something else")
	v.Prune(2, 2)
	checkSquash(t, v, plainBeginning(2, 2, "the first text, and more")+
		plainDifference(2, []api.Op{part(0, 24)})+plainFull(2, "something else"))
	v.Prune(2, 4)
	checkSquash(t, v, plainBeginning(2, 4, "something else"))
	checkSquashTwice(t, v)
}

func TestP10TheChainsInTheirOrder(t *testing.T) {
	v := coffer.New()
	for _, chain := range []int{3, 1, 0} {
		v.Backup(chain, "gone")
		v.Backup(chain, "")
		v.Prune(chain, 2)
	}
	v.Backup(1, "b")
	v.Backup(3, "c")
	v.Backup(0, "a")
	checkSquash(t, v, plainBeginning(0, 2, "")+plainFull(0, "a")+plainBeginning(1, 2, "")+plainFull(1, "b")+plainBeginning(3, 2, "")+plainFull(3, "c"))
}

func TestP10OfTheFirstVersionToo(t *testing.T) {
	v := coffer.New()
	v.Backup(0, "one")
	v.Backup(1, "x")
	v.Backup(1, "y")
	v.Prune(1, 2)
	checkSquash(t, v, plainBeginning(0, 1, "one")+plainBeginning(1, 2, "y"))
}

func TestP10ALongerLogIsNotTaken(t *testing.T) {
	v := coffer.New()
	for i := range 5 {
		v.Backup(1, strings.Repeat("a text ", 3+i))
		checkSquash(t, v, v.Log())
	}
	for chain := range api.MaxChains {
		v.Backup(chain, "x")
	}
	checkSquash(t, v, v.Log())
	// by one byte: the number of the first version
	one := coffer.New()
	one.Backup(0, "a")
	if got := len(plainSquashed(one)) - len(one.Log()); got != 1 {
		t.Fatalf("the log would become longer by %d", got)
	}
	checkSquash(t, one, plainFull(0, "a"))
}

func TestP10ALogThatIsAsLongIsTaken(t *testing.T) {
	// a difference that makes nothing is longer by one than the text, as a beginning is than a text
	log := plainFull(0, "") + plainDifference(0, nil)
	want := plainBeginning(0, 1, "") + plainFull(0, "")
	if len(log) != len(want) {
		t.Fatal("the two logs are not of one length")
	}
	checkSquash(t, checkOpen(t, log, len(log)), want)
	turned := plainBeginning(3, 7, "c") + plainBeginning(1, 1, "a") + plainFull(3, "d")
	checkSquash(t, checkOpen(t, turned, len(turned)), plainBeginning(1, 1, "a")+plainBeginning(3, 7, "c")+plainFull(3, "d"))
}

func TestP10DifferencesThatBackupWouldNotAdd(t *testing.T) {
	base := "0123456789abcdefghij"
	log := plainBeginning(1, 9, base) + plainDifference(1, []api.Op{text(base)}) + plainDifference(1, []api.Op{part(0, 5), text("5"), part(6, 14)})
	checkSquash(t, checkOpen(t, log, len(log)), plainBeginning(1, 9, base)+plainDifference(1, []api.Op{part(0, 20)})+plainDifference(1, []api.Op{part(0, 20)}))
	// a COPY of fewer than MinCopy bytes is shorter than anything that Backup would add
	for _, ops := range [][]api.Op{{part(3, 7)}, {part(3, 7), part(3, 7)}} {
		log = plainBeginning(1, 9, base) + plainDifference(1, ops)
		checkSquash(t, checkOpen(t, log, len(log)), log)
	}
}

func TestP10GreatNumbers(t *testing.T) {
	for _, first := range []int{127, 128, 1<<31 - 3, 1<<31 - 2} {
		log := plainBeginning(2, first-1, "gone") + plainFull(2, "a text of bytes") + plainPrune(2, first)
		v := checkOpen(t, log, len(log))
		checkBackup(t, v, 2, "a text of bytes, and more", first+1, api.OK)
		checkSquash(t, v, plainBeginning(2, first, "a text of bytes")+plainDifference(2, []api.Op{part(0, 15), text(", and more")}))
		checkSquashTwice(t, v)
		if first == 1<<31-2 {
			checkBackup(t, v, 2, "", 0, api.ErrFull)
		} else {
			checkBackup(t, v, 2, "", first+2, api.OK)
		}
	}
}

func TestP10GoesOnBehindIt(t *testing.T) {
	v := coffer.New()
	v.Backup(0, "gone")
	v.Backup(0, "a text of bytes")
	v.Prune(0, 2)
	v.Squash()
	log := plainBeginning(0, 2, "a text of bytes")
	checkBackup(t, v, 0, "a text of bytes!", 3, api.OK)
	log += plainDifference(0, []api.Op{part(0, 15), text("!")})
	checkLog(t, v, log)
	checkPrune(t, v, 0, 1, api.ErrNone)
	checkPrune(t, v, 0, 3, api.OK)
	log += plainPrune(0, 3)
	checkLog(t, v, log)
	checkBackup(t, v, 1, "b", 1, api.OK)
	log += plainFull(1, "b")
	checkLog(t, v, log)
	checkSquash(t, v, plainBeginning(0, 3, "a text of bytes!")+plainBeginning(1, 1, "b"))
}

func TestP10MakesRoom(t *testing.T) {
	v := filled(t, 8)
	checkPrune(t, v, 1, 2, api.OK)
	checkBackup(t, v, 0, "", 0, api.ErrFull)
	if len(v.Log()) != api.MaxLog {
		t.Fatalf("the log has %d bytes", len(v.Log()))
	}
	checkSquashTwice(t, v)
	// 12 bytes of the text that is gone, 8 of the prune; one each for the numbers of two chains
	if got := len(v.Log()); got != api.MaxLog-12-8+2 {
		t.Errorf("P10: the log has %d bytes", got)
	}
	checkBackup(t, v, 0, "", 1, api.OK)
}

func TestP10NeedsNoRoomOnTheWay(t *testing.T) {
	v := coffer.New()
	v.Backup(0, "first")
	v.Backup(0, "second")
	v.Prune(0, 2)
	full := strings.Repeat("z", api.MaxText)
	v.Backup(3, full)
	for range 5 {
		v.Backup(3, full)
	}
	// what is backed up now stands ahead of chain 3 in the squashed log, and leaves no room for a full text behind it
	letter := 'a'
	for ; api.MaxLog-len(v.Log()) > api.MaxText; letter++ {
		v.Backup(1, strings.Repeat(string(letter), 1000))
	}
	v.Backup(1, strings.Repeat(string(letter), 900))
	want := plainSquashed(v)
	whole, by := len(plainFull(3, full)), len(plainDifference(3, []api.Op{part(0, api.MaxText)}))
	if len(want) > len(v.Log()) || len(want)-by+whole <= api.MaxLog {
		t.Fatalf("the log has %d bytes, the squashed one %d", len(v.Log()), len(want))
	}
	checkSquash(t, v, want)
}

func TestP10SquashIsWhatTheWordsSay(t *testing.T) {
	r := rand.New(rand.NewSource(10))
	taken, left := 0, 0
	for range 300 {
		log := someLog(r)
		v, _, _ := coffer.Open(log)
		someCalls(r, v, r.Intn(15))
		was := v.Log()
		checkSquashTwice(t, v)
		if v.Log() == was {
			left++
		} else {
			taken++
		}
	}
	if taken < 30 || left < 30 {
		t.Errorf("P10: %d logs were squashed, %d were left", taken, left)
	}
}
