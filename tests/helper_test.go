package tests

import (
	"reflect"
	"testing"
)

func want(t *testing.T, name string, got, wanted any) {
	t.Helper()
	if !reflect.DeepEqual(got, wanted) {
		t.Errorf("%s: got %#v, want %#v", name, got, wanted)
	}
}

// all makes one list of the results of a call, so that a call with several ones can be an argument.
func all(results ...any) []any { return results }

// wantZero checks a code, and that every other result is a zero value (a slice may be nil or empty).
func wantZero(t *testing.T, name string, code int64, results []any) {
	t.Helper()
	last := len(results) - 1
	want(t, name+", code", results[last], any(code))
	for i, result := range results[:last] {
		v := reflect.ValueOf(result)
		if v.Kind() == reflect.Slice && v.Len() == 0 {
			continue
		}
		if !v.IsZero() {
			t.Errorf("%s: result %d is %#v beside the code %d", name, i, result, code)
		}
	}
}

// spare copies a list into the middle of a longer one whose other elements are told by mark.
func spare[T any](list []T, mark T) (whole, part []T) {
	whole = append(whole, mark, mark)
	whole = append(whole, list...)
	for range 4 {
		whole = append(whole, mark)
	}
	return whole, whole[2 : 2+len(list)]
}
