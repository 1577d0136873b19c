package chart_test

import (
	"fmt"
	"math"
	"strings"
	"testing"

	"chart/api"
)

func TestServiceExample(t *testing.T) {
	play(t, open(t, kl, 2),
		"0 send ab -1", "stands",
		"1 read -1", "stands",
		"0", "goes",
		"0", "goes",
		"1", "goes",
		"0", "done, version 1, index 2, text kl",
		"1", "goes",
		"1", "done, version 0, state RA",
		"1 poll 0", "stands",
		"1", "done, version 1, next 2, text kl",
	)
}

func TestStepErrors(t *testing.T) {
	x := open(t, kl, 3)
	for _, u := range []int{-1, 3, 6, 1 << 32, math.MaxInt, math.MinInt} {
		play(t, x, fmt.Sprint(u), "error 10")
	}
	play(t, x, "0", "error 13", "2 poll 0", "stands", "1", "error 13", "3", "error 10", "2", "done, version 0", "2", "error 13")
}

// A Send takes a ticket and then a step for each event.
func TestStepsOfSend(t *testing.T) {
	events, text := "", ""
	for n := 1; n <= api.MaxBatch; n++ {
		events += "ab"[(n-1)%2 : (n-1)%2+1]
		text += "kl"[(n-1)%2 : (n-1)%2+1]
		x := open(t, kl, 1)
		play(t, x, "0 send "+events+" -1", "stands")
		for i := 0; i < n; i++ {
			play(t, x, "0", "goes", "kept", "0")
		}
		play(t, x, "0", fmt.Sprintf("done, version 1, index %d, text %s", n, text), "kept", "0 1")
	}
}

// A Send or a Tick that moves nothing makes a version all the same.
func TestVersionsWithoutAChange(t *testing.T) {
	x := open(t, kl, 1)
	alone(t, x, 0, "send q -1", "done, version 1, index 1")
	alone(t, x, 0, "tick", "done, version 2")
	alone(t, x, 0, "send qq 2", "done, version 3, index 2")
	alone(t, x, 0, "read 3", "done, version 3, state RA")
	alone(t, x, 0, "poll 0", "done, version 3")
}

// Each event is fired on what the one before gave.
func TestSendFiresInOrder(t *testing.T) {
	x := open(t, "(R(A:a+x1#k>B)(B:b+y2#l>C:a=z9>-)(C:a@c2#m>A))", 1)
	alone(t, x, 0, "send aba -1", "done, version 1, index 3, text klm")
	alone(t, x, 0, "read -1", "done, version 1, state RA timers c2 x1 y2")
	alone(t, x, 0, "send aa 1", "done, version 2, index 2, text k")
	alone(t, x, 0, "read 2", "done, version 2, state RB timers c2 x2 y2 z9")
	alone(t, x, 0, "read 1", "done, version 1, state RA timers c2 x1 y2")
}

func TestSendToAVersion(t *testing.T) {
	x := open(t, kl, 1)
	alone(t, x, 0, "send a 1", "refused 14, version 0")
	alone(t, x, 0, "send a 0", "done, version 1, index 1, text k")
	alone(t, x, 0, "send b 0", "refused 14, version 1")
	alone(t, x, 0, "send bbbb 2", "refused 14, version 1")
	alone(t, x, 0, fmt.Sprintf("send b %d", math.MaxInt), "refused 14, version 1")
	alone(t, x, 0, "send b 1", "done, version 2, index 1, text l")
	alone(t, x, 0, "send a -1", "done, version 3, index 1, text k")
	play(t, x, "kept", "0 1 2 3")
	alone(t, x, 0, "poll 0", "done, version 3, next 3, text klk")
}

// The version is looked at ahead of the first event, not when the ticket is drawn,
// and not when the request is laid down.
func TestWhenAVersionIsLookedAt(t *testing.T) {
	play(t, open(t, kl, 2),
		"1 send ab 1", "stands",
		"0 tick", "stands",
		"0", "goes",
		"1", "goes",
		"1", "goes",
		"0", "done, version 1",
		"1", "goes",
		"0 tick", "stands",
		"0", "goes",
		"0", "goes",
		"1", "done, version 2, index 2, text kl",
		"0", "done, version 3",
	)
	play(t, open(t, kl, 2),
		"1 send ab 0", "stands",
		"0 tick", "stands",
		"0", "goes",
		"1", "goes",
		"0", "done, version 1",
		"1", "refused 14, version 1",
		"1", "error 13",
		"kept", "0 1",
	)
}

// With ErrFuel nothing of the Send is seen, whichever event it was.
func TestSendWithoutFuel(t *testing.T) {
	const text = "(R*H(A:a#k+x1@c1>B)(B:b#l>A:a#m>B):f!f>-)"
	for _, c := range []struct {
		events string
		index  int
	}{{"f", 0}, {"fa", 0}, {"af", 1}, {"afa", 1}, {"abf", 2}, {"abaf", 3}, {"ffff", 0}} {
		x := open(t, text, 2)
		alone(t, x, 0, "send a -1", "done, version 1, index 1, text k")
		play(t, x, "1 send "+c.events+" 1", "stands", "1", "goes")
		for i := 0; i < c.index; i++ {
			play(t, x, "1", "goes")
		}
		want := "refused 9, version 1"
		if c.index > 0 {
			want += fmt.Sprintf(", index %d", c.index)
		}
		play(t, x, "1", want, "1", "error 13", "kept", "0 1")
		alone(t, x, 1, "read -1", "done, version 1, state RB past - timers c1 x1")
		alone(t, x, 1, "poll 0", "done, version 1, next 1, text k")
		alone(t, x, 1, "send b 1", "done, version 2, index 1, text l")
	}
}

func TestTickOfAService(t *testing.T) {
	x := open(t, "(R:a@b2>-:b#k@c1>-:c#l+x1>-:d@e1>-:e!e#m>-)", 2)
	play(t, x, "0 tick", "stands", "0", "goes", "kept", "0", "0", "done, version 1", "kept", "0 1")
	alone(t, x, 0, "send a -1", "done, version 2, index 1")
	alone(t, x, 1, "tick", "done, version 3")
	alone(t, x, 1, "read 3", "done, version 3, state R timers b1")
	alone(t, x, 1, "tick", "done, version 4, text k")
	alone(t, x, 1, "tick", "done, version 5, text l")
	alone(t, x, 1, "read -1", "done, version 5, state R x1")
	alone(t, x, 1, "poll 0", "done, version 5, next 2, text kl")
	alone(t, x, 0, "send d -1", "done, version 6, index 1")
	alone(t, x, 0, "tick", "done, version 7")
	alone(t, x, 0, "read -1", "done, version 7, state R x1")
	alone(t, x, 0, "poll 2", "done, version 7, next 2")
}

// Tickets are drawn with the first step, not with Ask, and say who is first.
func TestTickets(t *testing.T) {
	play(t, open(t, kl, 4),
		"0 send a -1", "stands",
		"1 send ba -1", "stands",
		"2 tick", "stands",
		"3 send b -1", "stands",
		"3", "goes", "1", "goes", "0", "goes", "2", "goes",
		"2", "goes", "0", "goes", "1", "goes", "1", "goes", "2", "goes", "0", "goes",
		"kept", "0",
		"3", "done, version 1, index 1",
		"3 tick", "stands",
		"3", "goes", "3", "goes",
		"0", "goes", "2", "goes",
		"1", "goes",
		"0", "goes", "2", "goes", "3", "goes",
		"1", "done, version 2, index 2, text k",
		"2", "goes", "3", "goes",
		"0", "done, version 3, index 1",
		"3", "goes",
		"2", "done, version 4",
		"3", "done, version 5",
	)
}

// A request that has begun and stands still holds up all that have later tickets, and
// nobody sees what it has done so far.
func TestNobodySeesTheMiddle(t *testing.T) {
	play(t, open(t, kl, 5),
		"0 send aba -1", "stands",
		"0", "goes", "0", "goes", "0", "goes",
		"1 tick", "stands", "1", "goes", "1", "goes", "1", "goes",
		"2 send b 0", "stands", "2", "goes", "2", "goes",
		"3 poll 0", "stands", "3", "done, version 0",
		"3 poll 1", "stands", "3", "refused 14, version 0",
		"3 read 1", "stands", "3", "refused 14, version 0",
		"4 read -1", "stands", "4", "goes", "4", "goes", "4", "done, version 0, state RA",
		"kept", "0",
		"0", "done, version 1, index 3, text klk",
		"3 poll 0", "stands", "3", "done, version 1, next 3, text klk",
		"2", "goes",
		"1", "done, version 2",
		"2", "refused 14, version 2",
	)
}

// One that ends with an error lets the next one go on.
func TestRefusedSendsGiveWay(t *testing.T) {
	play(t, open(t, "(R:a#k>-:f!f>-)", 4),
		"0 send a 5", "stands", "1 send af -1", "stands", "2 send a 0", "stands", "3 tick", "stands",
		"0", "goes", "1", "goes", "2", "goes", "3", "goes",
		"3", "goes", "2", "goes", "1", "goes",
		"0", "refused 14, version 0",
		"3", "goes", "2", "goes",
		"1", "goes",
		"2", "goes",
		"1", "refused 9, version 0, index 1",
		"3", "goes",
		"2", "done, version 1, index 1, text k",
		"3", "done, version 2",
	)
}

// Reads and Polls wait for nobody, and nobody waits for them.
func TestReadsHoldUpNobody(t *testing.T) {
	play(t, open(t, kl, 3),
		"0 read -1", "stands", "0", "goes",
		"1 send a 0", "stands", "1", "goes",
		"2 poll 0", "stands",
		"1", "done, version 1, index 1, text k",
		"2", "done, version 1, next 1, text k",
		"0", "goes", "0", "done, version 0, state RA",
	)
}

// The first step of a Read says which version it is, the latest one or one by number.
func TestReadTakesWithItsFirstStep(t *testing.T) {
	x := open(t, kl, 3)
	play(t, x, "1 read -1", "stands", "2 read 1", "stands")
	alone(t, x, 0, "send a -1", "done, version 1, index 1, text k")
	play(t, x, "1", "goes", "2", "goes")
	alone(t, x, 0, "send b -1", "done, version 2, index 1, text l")
	play(t, x, "1", "goes", "2", "goes")
	alone(t, x, 0, "send a -1", "done, version 3, index 1, text k")
	play(t, x, "1", "done, version 1, state RB", "2", "done, version 1, state RB", "kept", "0 1 2 3")
}

func TestReadErrors(t *testing.T) {
	x := open(t, kl, 1)
	alone(t, x, 0, "read 1", "refused 14, version 0")
	alone(t, x, 0, fmt.Sprintf("read %d", math.MaxInt), "refused 14, version 0")
	for i := 1; i <= 5; i++ {
		alone(t, x, 0, "tick", fmt.Sprintf("done, version %d", i))
	}
	for at, want := range []string{"refused 15, version 5", "refused 15, version 5", "done, version 2, state RA", "done, version 3, state RA", "done, version 4, state RA", "done, version 5, state RA", "refused 14, version 5"} {
		alone(t, x, 0, fmt.Sprintf("read %d", at), want)
		play(t, x, "kept", "2 3 4 5")
	}
}

// ticks are rows with which client 0 makes versions of a chart that puts nothing out.
func ticks(from, to int) []string {
	var rows []string
	for i := from; i <= to; i++ {
		rows = append(rows, "0 tick", "stands", "0", "goes", "0", fmt.Sprintf("done, version %d", i))
	}
	return rows
}

func TestPins(t *testing.T) {
	x := open(t, "(R^+x5;(A:a>B)(B))", 4)
	play(t, x, "1 read 0", "stands", "1", "goes")
	alone(t, x, 0, "send a -1", "done, version 1, index 1")
	play(t, x, "2 read -1", "stands", "2", "goes")
	play(t, x, ticks(2, 6)...)
	play(t, x, "kept", "0 1 3 4 5 6")
	alone(t, x, 3, "read 2", "refused 15, version 6")
	alone(t, x, 3, "read 0", "done, version 0, state RA x5")
	play(t, x, "kept", "0 1 3 4 5 6", "1", "goes", "kept", "0 1 3 4 5 6")
	play(t, x, "3 read 0", "stands", "3", "goes")
	play(t, x, "1", "done, version 0, state RA x5", "kept", "0 1 3 4 5 6")
	play(t, x, ticks(7, 9)...)
	play(t, x, "kept", "0 1 6 7 8 9", "3", "goes", "2", "goes")
	play(t, x, "2", "done, version 1, state RB x5", "kept", "0 6 7 8 9")
	play(t, x, "3", "done, version 0, state RA x5", "kept", "6 7 8 9")
	alone(t, x, 3, "read 0", "refused 15, version 9")
	alone(t, x, 3, "read 1", "refused 15, version 9")
}

// A version that was pinned is gone when nobody has it pinned, if Window newer ones are there.
func TestPinsAtTheWindow(t *testing.T) {
	for made := 1; made <= 5; made++ {
		x := open(t, kl, 2)
		play(t, x, "1 read 0", "stands", "1", "goes", "1", "goes")
		play(t, x, ticks(1, made)...)
		play(t, x, "1", "done, version 0, state RA")
		want := fmt.Sprintf("refused 15, version %d", made)
		if made < api.Window {
			want = "done, version 0, state RA"
		}
		alone(t, x, 1, "read 0", want)
	}
}

// All clients may pin, one version or several.
func TestAllClientsPin(t *testing.T) {
	x := open(t, kl, api.MaxClients)
	for u := 1; u < api.MaxClients; u++ {
		play(t, x, fmt.Sprintf("%d read -1", u), "stands", fmt.Sprint(u), "goes")
		play(t, x, ticks(u, u)...)
	}
	play(t, x, ticks(6, 20)...)
	play(t, x, "kept", "0 1 2 3 4 17 18 19 20")
	play(t, x, "0 read 2", "stands", "0", "goes", "kept", "0 1 2 3 4 17 18 19 20")
	for u := 1; u < api.MaxClients; u++ {
		play(t, x, fmt.Sprint(u), "goes", fmt.Sprint(u), fmt.Sprintf("done, version %d, state RA", u-1))
	}
	play(t, x, "kept", "2 17 18 19 20", "0", "goes", "0", "done, version 2, state RA", "kept", "17 18 19 20")
}

// A Read that is refused pins nothing.
func TestRefusedReadsPinNothing(t *testing.T) {
	x := open(t, kl, 2)
	play(t, x, "1 read 1", "stands", "1", "refused 14, version 0")
	play(t, x, ticks(1, 5)...)
	play(t, x, "1 read 1", "stands", "1", "refused 15, version 5", "kept", "2 3 4 5")
}

func TestPollBounds(t *testing.T) {
	const letters = "abcdefghijklmnopqrstuvwxyz"
	text := "(R^#" + strings.Join(strings.Split(letters[:20], ""), "#") + ";:a#u#v#w#x>-:b#y>-:c#z>-)"
	x := open(t, text, 1)
	hold := func(joined, version int) {
		t.Helper()
		first := max(0, joined-24)
		for at := 0; at <= joined+2; at++ {
			end := min(at+8, joined)
			want := fmt.Sprintf("done, version %d", version)
			switch {
			case at > joined:
				want = fmt.Sprintf("refused 14, version %d", version)
			case at < first:
				want = fmt.Sprintf("refused 15, version %d", version)
			case at == joined:
				want += fmt.Sprintf(", next %d", at)
			default:
				want += fmt.Sprintf(", next %d, text %s", end, letters[at:end])
			}
			alone(t, x, 0, fmt.Sprintf("poll %d", at), want)
		}
		alone(t, x, 0, fmt.Sprintf("poll %d", math.MaxInt), fmt.Sprintf("refused 14, version %d", version))
	}
	hold(20, 0)
	alone(t, x, 0, "send a -1", "done, version 1, index 1, text uvwx")
	hold(24, 1)
	alone(t, x, 0, "send b -1", "done, version 2, index 1, text y")
	hold(25, 2)
	alone(t, x, 0, "send c -1", "done, version 3, index 1, text z")
	hold(26, 3)
}

// A reply has all that was put out, though the log keeps the end of it alone.
func TestMoreThanTheLogKeeps(t *testing.T) {
	batch := strings.Repeat("#k#l#m#n#o#p#q#r", 3)
	x := open(t, "(R:a"+batch+"#s>-)", 1)
	put := strings.Repeat("klmnopqr", 3) + "s"
	alone(t, x, 0, "send aaaa -1", "done, version 1, index 4, text "+strings.Repeat(put, 4))
	alone(t, x, 0, "poll 75", "refused 15, version 1")
	alone(t, x, 0, "poll 76", "done, version 1, next 84, text lmnopqrk")
	alone(t, x, 0, "poll 99", "done, version 1, next 100, text s")
}

// A Poll is done where it is stepped, not where it was asked.
func TestPollTellsWhatIsThereNow(t *testing.T) {
	x := open(t, kl, 2)
	play(t, x, "1 poll 0", "stands")
	alone(t, x, 0, "send ab -1", "done, version 1, index 2, text kl")
	play(t, x, "1", "done, version 1, next 2, text kl")
}

// Services of one text know nothing of each other.
func TestServicesStandApart(t *testing.T) {
	x, y := open(t, kl, 2), open(t, kl, 2)
	play(t, x, "0 send ab -1", "stands", "0", "goes", "0", "goes", "1 read -1", "stands", "1", "goes")
	play(t, y, "0", "error 13", "1", "error 13", "0 send a -1", "stands", "0", "goes", "0", "done, version 1, index 1, text k")
	play(t, x, "kept", "0", "0", "done, version 1, index 2, text kl", "1", "goes", "1", "done, version 0, state RA")
	play(t, y, "kept", "0 1", "0 read -1", "stands", "0", "goes", "0", "goes", "0", "done, version 1, state RB")
}
