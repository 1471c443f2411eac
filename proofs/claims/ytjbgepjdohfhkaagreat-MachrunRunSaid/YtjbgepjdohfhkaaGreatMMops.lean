/- The contract of mach.operandsOf: the kinds of an operation's operands. Condition: the operation is one of the 25. -/
import Derived.Test.YtjbgepjdohfhkaaGreatMEpow
set_option linter.unusedVariables false
set_option linter.unusedSimpArgs false
set_option maxHeartbeats 4000000
namespace Go.Proofs.YtjbgepjdohfhkaaGreat
open Go.RowKit
abbrev mkv (k:Int×Int×Int×Bool):Value:=.agg #[.int .i64 k.1,.int .i64 k.2.1,.int .i64 k.2.2.1,.bool k.2.2.2]
theorem tS (op:Int) (w:World) (h0:0<=op) (h1:op<25) :
  Calls Tryz.prog 120 #[.int .i64 op] w fun e w'=>e=.returned (mkv (ap op))/\Below w.heap.size w w':=by
 have hc:op=0\/op=1\/op=2\/op=3\/op=4\/op=5\/op=6\/op=7\/op=8\/op=9\/op=10\/op=11\/op=12\/op=13\/op=14\/op=15\/op=16\/op=17\/op=18\/op=19\/op=20\/op=21\/op=22\/op=23\/op=24:=by omega
 clear h0 h1
 rcases hc with rfl|rfl|rfl|rfl|rfl|rfl|rfl|rfl|rfl|rfl|rfl|rfl|rfl|rfl|rfl|rfl|rfl|rfl|rfl|rfl|rfl|rfl|rfl|rfl|rfl
 all_goals
  go_enter Tryz.func120,Tryz.ntmps120
  go_wp2
  refine bodyPost_ret (v:=mkv _) (by simp[results,Tryz.results120,go_sem];decide) rfl ⟨rfl,by first|exact ag _ _|exact(ag _ _).setCell (p:=⟨w.heap.size,_,none⟩) (Nat.le_refl _) _⟩
end Go.Proofs.YtjbgepjdohfhkaaGreat
