package repo

import (
	"slices"
	"testing"

	"variorum/api"
	"variorum/disk"
)

// R7: of two byte strings with one sum (which no test can hand in) both are told, what was to be put first, with the id; of another error nothing is.
func TestCollision(t *testing.T) {
	r, e := Open(disk.New(1000))
	if e != api.OK {
		t.Fatal(e)
	}
	for _, want := range []api.Errno{api.OK, api.ErrCollision, api.ErrNoSpace, api.ErrDown, api.ErrLong} {
		a := r.attempt(func(*call) api.Answer {
			mustPut(want, api.Id{7}, []byte("mine"), []byte("other"))
			return api.Answer{}
		})
		var id api.Id
		var lines []string
		if want == api.ErrCollision {
			id, lines = api.Id{7}, []string{"mine", "other"}
		}
		if a.Error != want || a.Id != id || !slices.Equal(a.Lines, lines) || len(a.Files)+len(a.Runs) > 0 {
			t.Errorf("%d: %+v", want, a)
		}
	}
}
