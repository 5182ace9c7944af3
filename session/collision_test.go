package session

import (
	"slices"
	"testing"

	"variorum/api"
)

// R4, R7: both byte strings with one sum (which no test can hand in) are told, in new memory each time.
func TestEndedCollision(t *testing.T) {
	c := &Client{}
	c.end(api.Answer{Error: api.ErrCollision, Id: api.Id{7}, Lines: []string{"mine", "other"}})
	for range 2 {
		a, over := c.Ended()
		if !over || a.Error != api.ErrCollision || a.Id != (api.Id{7}) || !slices.Equal(a.Lines, []string{"mine", "other"}) || len(a.Files)+len(a.Runs) > 0 {
			t.Fatalf("%+v, %t", a, over)
		}
		clear(a.Lines)
	}
	if c.Say() != nil {
		t.Error("it says something")
	}
}
