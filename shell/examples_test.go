package shell_test

// example is a text, and what it tells.
type example struct {
	what, text, tells string
}

// examples are those of the document.
func examples() []example {
	return []example{
		{"Files, a link, and what is left when a name is gone.",
			`make a mirror 2 2048 3
a create tank/d
a mkdir tank/d /m 448
a file tank/d /m/f 420
a write tank/d /m/f 3 abc
a link tank/d /m/f /g
a remove tank/d /m/f
a list tank/d /
a stat tank/d /g
a read tank/d /g 0 99`,
			`ok 29696
ok
ok
ok
ok
ok
ok
ok [g 3, m 2]
ok 6 [3, 2, 420, 1]
ok 000000616263
`},
		{"A snapshot keeps what was there, and a rollback leads back to it.",
			`make a mirror 2 2048 1
a create tank/d
a file tank/d /f 0
a write tank/d /f 0 old
a snapshot tank/d s
a write tank/d /f 0 new
a read tank/d /f 0 3
a read tank/d /f 0 3 s
a rollback tank/d s
a read tank/d /f 0 3`,
			`ok 29696
ok
ok
ok
ok
ok
ok 6e6577
ok 6f6c64
ok
ok 6f6c64
`},
		{"A clone hangs on its snapshot, until it is promoted.",
			`make a mirror 2 2048 1
a create tank/d
a snapshot tank/d s
a clone tank/d s tank/e
a release tank/d s
a promote tank/e
a snaps tank/e
a release tank/d s
a destroy tank/d
a datasets`,
			`ok 29696
ok
ok
ok
error 174
ok
ok [s 1048577 2]
error 171
ok
ok [tank, tank/e]
`},
		{"Properties are inherited; a quota refuses what does not fit.",
			`make a mirror 2 2048 1
a set tank zip on
a create tank/d
a get tank/d zip
a set tank/d zip off
a get tank/d zip
a used tank/d
a quota tank/d 320
a quota tank/d 340
a file tank/d /f 0
a quota tank/d 400
a file tank/d /f 0`,
			`ok 29696
ok
ok
ok "on" [tank]
ok
ok "off" [tank/d]
ok 329 [329]
error 176
ok
error 176
ok
ok
`},
		{"What was flushed stays behind a crash; of the rest the first requests may.",
			`make a mirror 2 2048 3
a create tank/d
a file tank/d /f 420
a write tank/d /f 0 one sync
a write tank/d /f 0 two
crash a
a read tank/d /f 0 3
a write tank/d /f 0 two
keep a
a read tank/d /f 0 3
state a`,
			`ok 29696
ok
ok
ok
ok
ok 3
ok 6f6e65
ok
ok 4
ok 74776f
tank tank/d; logged 4; flushed 4
`},
		{"One disk of three fails, is replaced, and then another one fails.",
			`make a parity 3 1024 5
a create tank/d
a file tank/d /f 420
a write tank/d /f 0 safe sync
fail a 1
a read tank/d /f 0 9
fail a 2
new a 1
fail a 2
crash a
a read tank/d /f 0 9`,
			`ok 22784
ok
ok
ok
ok
ok 73616665
error 250
ok
ok
ok 3
ok 73616665
`},
		{"A volume: bytes, and what is discarded.",
			`make a mirror 2 2048 1
a create tank/v 1024
a put tank/v 500 abcd
a view tank/v 498 8
a discard tank/v 0 502
a view tank/v 498 8
a put tank/v 1023 xy
a read tank/v /f 0 1`,
			`ok 29696
ok
ok
ok 0000616263640000
ok
ok 0000000063640000
error 186
error 175
`},
		{"A snapshot goes from one appliance to the other; then only what has changed.",
			`make a mirror 2 2048 1
make b parity 3 2048 2
a create tank/d
a file tank/d /f 420
a write tank/d /f 0 first
a snapshot tank/d s
replicate a tank/d s - tank/c
b read tank/c /f 0 9
a write tank/d /f 0 other
a snapshot tank/d t
replicate a tank/d t @s tank/c
b read tank/c /f 0 9
b read tank/c /f 0 9 s
b write tank/c /f 0 own
a snapshot tank/d u
replicate a tank/d u @t tank/c`,
			`ok 29696
ok 71936
ok
ok
ok
ok
done
ok 6669727374
ok
ok
done
ok 6f74686572
ok 6669727374
ok
ok
failed 221
`},
		{"What is refused.",
			`make a mirror 2 2048 1
a create tank/d/e
a create tank
a destroy tank
a mkdir tank/d /x 0
a create tank/d
a mkdir tank/d x 0
a mkdir tank/d /x/y 0
a rename tank/d tank/d/e
a snapshot tank/d -
make b mirror 2 600 1`,
			`ok 29696
error 171
error 172
error 1
error 171
ok
error 180
error 181
error 1
error 170
error 3
`},
		{"Lines that are passed over; an appliance made anew.",
			`# nothing
make a mirror 2 2048 1

a create tank/d
make a parity 4 700 2
a datasets
state a`,
			`ok 29696
ok
ok 16640
ok [tank]
tank; logged 0; flushed 0
`},
		{"The chapter.",
			`make a mirror 2 2048 3
a create tank/d
a file tank/d /f 420
a write tank/d /f 0 hello sync
a read tank/d /f 0 9
a snapshot tank/d s
a mkdir tank/d /x 0
crash a
a read tank/d /f 1 3 s
fail a 1
a file tank/d /g 0
state a`,
			`ok 29696
ok
ok
ok
ok 68656c6c6f
ok
ok
ok 4
ok 656c6c
ok
ok
tank tank/d; logged 5; flushed 4
`},
	}
}
