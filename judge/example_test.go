package judge_test

import (
	"fmt"

	"toponym/judge"
	"toponym/load"
	"toponym/text"
)

// The example of README.md.
func ExampleAnalyze() {
	files := []load.File{
		{Path: "root", Text: "$TTL 60\n@ SOA ns. x. 1 1 1 1 1\n@ NS ns.\nns A 10.0.0.1\nloop CNAME loop\n"},
	}
	config := "bound 4 4\nserver ns. 10.0.0.1\nzone . root\nroot ns.\n"
	fmt.Print(text.Text(judge.Analyze(files, config)))
	// Output:
	// seen loop loop. A 0,0,0,0,0,0
}
