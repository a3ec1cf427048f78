package keys_test

import (
	"errors"
	"fmt"
	"math"
	"slices"
	"testing"

	"shutter/api"
	"shutter/keys"
)

// refusals is the errors by which keys are refused, by their numbers.
var refusals = []api.Errno{7, 8, 9, 10}

// wrapped is an error that wraps another one, many one that wraps some, own one that says by itself which it is, another a number that isn't api's.
type (
	wrapped struct{ inner error }
	many    []error
	own     struct{ number api.Errno }
	another int
)

func (w wrapped) Error() string    { return "wrapped" }
func (w wrapped) Unwrap() error    { return w.inner }
func (m many) Error() string       { return "many" }
func (m many) Unwrap() []error     { return m }
func (o own) Error() string        { return "own" }
func (o own) Is(target error) bool { return target == o.number }
func (a another) Error() string    { return api.Errno(a).Error() }

// checkRefused holds Refused of an error against this.
func checkRefused(t *testing.T, e error, want bool) {
	t.Helper()
	if keys.Refused(e) != want {
		t.Errorf("%T %v: not %t", e, e, want)
	}
}

// P17.2: Refused of each error's number, and of others: of ErrLocked, ErrGuard, ErrDigit and ErrFull, and of no other.
func TestRefused(t *testing.T) {
	for n := api.Errno(-300); n <= 300; n++ {
		checkRefused(t, n, slices.Contains(refusals, n))
	}
	for _, n := range []api.Errno{math.MaxInt, math.MinInt, half + 7, half + 8, math.MinInt + 9, math.MinInt + 10} {
		checkRefused(t, n, false)
	}
	for _, x := range []struct {
		e    api.Errno
		want bool
	}{
		{api.ErrArg, false}, {api.ErrCut, false}, {api.ErrByte, false}, {api.ErrAddr, false}, {api.ErrOrder, false}, {api.ErrLong, false}, {api.ErrLocked, true}, {api.ErrGuard, true},
		{api.ErrDigit, true}, {api.ErrFull, true}, {api.ErrTag, false}, {api.ErrOld, false}, {api.ErrSide, false}, {api.ErrPiece, false}, {api.ErrNone, false},
	} {
		checkRefused(t, x.e, x.want)
	}
}

// P17.2: Refused of each number, wrapped in a Spot, in an error of another kind, in some at once, and in several of these, once and many times.
func TestRefusedOfWrapped(t *testing.T) {
	for n := api.Errno(-1); n <= 17; n++ {
		want := slices.Contains(refusals, n)
		for _, wrap := range []func(error) error{
			func(e error) error { return &api.Spot{At: 3, Err: e} },
			func(e error) error { return &api.Spot{At: 8, Err: wrapped{e}} },
			func(e error) error { return wrapped{e} },
			func(e error) error { return &wrapped{e} },
			func(e error) error { return fmt.Errorf("at some cell: %w", e) },
			func(e error) error { return fmt.Errorf("%w, %w", api.ErrNone, e) },
			func(e error) error { return errors.Join(errors.New("ahead"), nil, e, api.ErrTag) },
			func(e error) error { return many{api.ErrArg, e} },
			func(e error) error { return many{nil, wrapped{nil}, e} },
		} {
			e := error(n)
			for range 100 {
				e = wrap(e)
				checkRefused(t, wrapped{&api.Spot{At: int(n), Err: e}}, want)
				checkRefused(t, e, want)
			}
		}
	}
}

// P17.2: Refused of no error, of errors of other kinds that have no number, or wrap none, and of such as only look like one: a text, a place, another type's number.
func TestRefusedOfOthers(t *testing.T) {
	for _, e := range []error{
		nil, errors.New("x"), errors.New(""), errors.New(api.ErrLocked.Error()), errors.ErrUnsupported, fmt.Errorf("%v", api.ErrFull),
		another(7), another(8), another(9), another(10), &api.Spot{}, &api.Spot{At: 7}, &api.Spot{At: 8, Err: api.ErrByte}, &api.Spot{At: 10, Err: errors.New("x")},
		wrapped{}, wrapped{another(9)}, many{}, many(nil), many{nil, nil}, many{api.ErrArg, errors.New("x"), wrapped{}}, own{}, own{api.ErrOld}, errors.Join(api.ErrByte, api.ErrArg),
	} {
		checkRefused(t, e, false)
		checkRefused(t, wrapped{e}, false)
		checkRefused(t, &api.Spot{At: 9, Err: e}, false)
	}
}

// P17.2: errors are asked by errors.Is: one that says by itself that it is such an error is one.
func TestRefusedOfOwn(t *testing.T) {
	for n := api.Errno(0); n <= 17; n++ {
		want := slices.Contains(refusals, n)
		checkRefused(t, own{n}, want)
		checkRefused(t, wrapped{own{n}}, want)
		checkRefused(t, &api.Spot{At: 1, Err: own{n}}, want)
		checkRefused(t, many{errors.New("x"), own{n}}, want)
	}
}

// P1: Refused doesn't panic at errors that can't be unwrapped, of which nothing is promised: a Spot that is nil, an error without what it wraps.
func TestRefusedOfNoErrors(t *testing.T) {
	var spot *api.Spot
	var inner *wrapped
	for _, e := range []error{spot, inner, wrapped{spot}, wrapped{inner}, &api.Spot{Err: spot}, many{spot}, errors.Join(inner, spot)} {
		checkRefused(t, e, false)
	}
}

// P17.2: Refused of what Do answers: true of the four numbers, alone and in their Spots, false of others and of none.
func TestRefusedOfAnswers(t *testing.T) {
	seen := map[int]int{}
	everyDesk(func(s api.Screen) {
		for _, k := range press {
			_, _, err := keys.Do(s, k)
			code := api.Code(err)
			seen[code]++
			if keys.Refused(err) != slices.Contains(refusals, api.Errno(code)) {
				t.Fatalf("%v, %v: %v", s, k, err)
			}
		}
	})
	if len(seen) != 7 {
		t.Errorf("%v", seen)
	}
}
