/-
  The statements' book: the kinds of which it keeps no list.
-/
import Derived.Test.YtpfifmjcmpankaaGreatMg32
namespace Go.Proofs.YtpfifmjcmpankaaGreat
open Go.RowKit

set_option maxRecDepth 100000 in
theorem stillTexts_none {w : World} {p : Nat} {cs : Array Value} (hp : Has w p 40 cs) (h0 : cs[0]? = some (.slice none 0 0)) :
    Calls Tryz.prog 73 #[.pointer (some ⟨p, 0, none⟩)] w fun e w' => e = .returned (.bool true) ∧ Below w.heap.size w w' := by
  have hq : w.cell? ⟨p, 0, none⟩ = some (.slice none 0 0) := (hp.cell 0).trans h0
  have HB := Lib.hid (Below.refl w.heap.size w)
  clear hp h0
  go_enter Tryz.func73, Tryz.ntmps73
  go_wp2_with fail
  go_loopg [3] 0 (fun g i wr => i = .int .i64 0 ∧ wr = w)
  case atStart => exact ⟨rfl, rfl⟩
  case round =>
    obtain ⟨rfl, rfl⟩ := hrel
    go_wp2_with fail
    go_ret
    exact ⟨rfl, HB.out⟩

set_option maxRecDepth 100000 in
theorem putTexts_none {w : World} {p : Nat} {cs : Array Value} (hp : Has w p 40 cs) (h0 : cs[0]? = some (.slice none 0 0)) :
    Calls Tryz.prog 86 #[.pointer (some ⟨p, 0, none⟩)] w fun e w' => e = .returned (.tuple #[]) ∧ Below w.heap.size w w' := by
  have hq : w.cell? ⟨p, 0, none⟩ = some (.slice none 0 0) := (hp.cell 0).trans h0
  have HB := Lib.hid (Below.refl w.heap.size w)
  clear hp h0
  go_enter Tryz.func86, Tryz.ntmps86
  go_wp2_with fail
  go_loopg [2] 0 (fun g i wr => i = .int .i64 0 ∧ wr = w)
  case atStart => exact ⟨rfl, rfl⟩
  case round =>
    obtain ⟨rfl, rfl⟩ := hrel
    go_wp2_with fail
    go_end0
    exact ⟨rfl, HB.out⟩

set_option maxRecDepth 100000 in
theorem growTexts_none {w : World} {p : Nat} {cs : Array Value} (hp : Has w p 40 cs) (h0 : cs[0]? = some (.slice none 0 0)) :
    Calls Tryz.prog 95 #[.pointer (some ⟨p, 0, none⟩)] w fun e w' => e = .returned (.slice none 0 0) ∧ Below w.heap.size w w' := by
  have hq : w.cell? ⟨p, 0, none⟩ = some (.slice none 0 0) := (hp.cell 0).trans h0
  have HB := Lib.hid (Below.refl w.heap.size w)
  clear hp h0
  go_enter Tryz.func95, Tryz.ntmps95
  go_wp2_with fail
  go_loopg [3, 4] 0 (fun g o i wr => o = .slice none 0 0 ∧ i = .int .i64 0 ∧ wr = w)
  case atStart => exact ⟨rfl, rfl, rfl⟩
  case round =>
    obtain ⟨rfl, rfl, rfl⟩ := hrel
    go_wp2_with fail
    go_ret
    exact ⟨rfl, HB.out⟩

set_option maxRecDepth 100000 in
theorem markedTexts_none {w : World} :
    Calls Tryz.prog 106 #[.slice none 0 0] w fun e w' => e = .returned (.bool true) ∧ Below w.heap.size w w' := by
  have HB := Lib.hid (Below.refl w.heap.size w)
  go_enter Tryz.func106, Tryz.ntmps106
  go_wp2_with fail
  go_loopg [3] 0 (fun g i wr => i = .int .i64 0 ∧ wr = w)
  case atStart => exact ⟨rfl, rfl⟩
  case round =>
    obtain ⟨rfl, rfl⟩ := hrel
    go_wp2_with fail
    go_ret
    exact ⟨rfl, HB.out⟩

set_option maxRecDepth 100000 in
theorem stillItems_none {w : World} {p : Nat} {cs : Array Value} (hp : Has w p 40 cs) (h0 : cs[4]? = some (.slice none 0 0)) :
    Calls Tryz.prog 75 #[.pointer (some ⟨p, 0, none⟩)] w fun e w' => e = .returned (.bool true) ∧ Below w.heap.size w w' := by
  have hq : w.cell? ⟨p, 4, none⟩ = some (.slice none 0 0) := (hp.cell 4).trans h0
  have HB := Lib.hid (Below.refl w.heap.size w)
  clear hp h0
  go_enter Tryz.func75, Tryz.ntmps75
  go_wp2_with fail
  go_loopg [3] 0 (fun g i wr => i = .int .i64 0 ∧ wr = w)
  case atStart => exact ⟨rfl, rfl⟩
  case round =>
    obtain ⟨rfl, rfl⟩ := hrel
    go_wp2_with fail
    go_ret
    exact ⟨rfl, HB.out⟩

set_option maxRecDepth 100000 in
theorem putItems_none {w : World} {p : Nat} {cs : Array Value} (hp : Has w p 40 cs) (h0 : cs[4]? = some (.slice none 0 0)) :
    Calls Tryz.prog 88 #[.pointer (some ⟨p, 0, none⟩)] w fun e w' => e = .returned (.tuple #[]) ∧ Below w.heap.size w w' := by
  have hq : w.cell? ⟨p, 4, none⟩ = some (.slice none 0 0) := (hp.cell 4).trans h0
  have HB := Lib.hid (Below.refl w.heap.size w)
  clear hp h0
  go_enter Tryz.func88, Tryz.ntmps88
  go_wp2_with fail
  go_loopg [2] 0 (fun g i wr => i = .int .i64 0 ∧ wr = w)
  case atStart => exact ⟨rfl, rfl⟩
  case round =>
    obtain ⟨rfl, rfl⟩ := hrel
    go_wp2_with fail
    go_end0
    exact ⟨rfl, HB.out⟩

set_option maxRecDepth 100000 in
theorem growItems_none {w : World} {p : Nat} {cs : Array Value} (hp : Has w p 40 cs) (h0 : cs[4]? = some (.slice none 0 0)) :
    Calls Tryz.prog 97 #[.pointer (some ⟨p, 0, none⟩)] w fun e w' => e = .returned (.slice none 0 0) ∧ Below w.heap.size w w' := by
  have hq : w.cell? ⟨p, 4, none⟩ = some (.slice none 0 0) := (hp.cell 4).trans h0
  have HB := Lib.hid (Below.refl w.heap.size w)
  clear hp h0
  go_enter Tryz.func97, Tryz.ntmps97
  go_wp2_with fail
  go_loopg [3, 4] 0 (fun g o i wr => o = .slice none 0 0 ∧ i = .int .i64 0 ∧ wr = w)
  case atStart => exact ⟨rfl, rfl, rfl⟩
  case round =>
    obtain ⟨rfl, rfl, rfl⟩ := hrel
    go_wp2_with fail
    go_ret
    exact ⟨rfl, HB.out⟩

set_option maxRecDepth 100000 in
theorem markedItems_none {w : World} :
    Calls Tryz.prog 108 #[.slice none 0 0] w fun e w' => e = .returned (.bool true) ∧ Below w.heap.size w w' := by
  have HB := Lib.hid (Below.refl w.heap.size w)
  go_enter Tryz.func108, Tryz.ntmps108
  go_wp2_with fail
  go_loopg [3] 0 (fun g i wr => i = .int .i64 0 ∧ wr = w)
  case atStart => exact ⟨rfl, rfl⟩
  case round =>
    obtain ⟨rfl, rfl⟩ := hrel
    go_wp2_with fail
    go_ret
    exact ⟨rfl, HB.out⟩

set_option maxRecDepth 100000 in
theorem stillChildren_none {w : World} {p : Nat} {cs : Array Value} (hp : Has w p 40 cs) (h0 : cs[6]? = some (.slice none 0 0)) :
    Calls Tryz.prog 76 #[.pointer (some ⟨p, 0, none⟩)] w fun e w' => e = .returned (.bool true) ∧ Below w.heap.size w w' := by
  have hq : w.cell? ⟨p, 6, none⟩ = some (.slice none 0 0) := (hp.cell 6).trans h0
  have HB := Lib.hid (Below.refl w.heap.size w)
  clear hp h0
  go_enter Tryz.func76, Tryz.ntmps76
  go_wp2_with fail
  go_loopg [3] 0 (fun g i wr => i = .int .i64 0 ∧ wr = w)
  case atStart => exact ⟨rfl, rfl⟩
  case round =>
    obtain ⟨rfl, rfl⟩ := hrel
    go_wp2_with fail
    go_ret
    exact ⟨rfl, HB.out⟩

set_option maxRecDepth 100000 in
theorem putChildren_none {w : World} {p : Nat} {cs : Array Value} (hp : Has w p 40 cs) (h0 : cs[6]? = some (.slice none 0 0)) :
    Calls Tryz.prog 89 #[.pointer (some ⟨p, 0, none⟩)] w fun e w' => e = .returned (.tuple #[]) ∧ Below w.heap.size w w' := by
  have hq : w.cell? ⟨p, 6, none⟩ = some (.slice none 0 0) := (hp.cell 6).trans h0
  have HB := Lib.hid (Below.refl w.heap.size w)
  clear hp h0
  go_enter Tryz.func89, Tryz.ntmps89
  go_wp2_with fail
  go_loopg [2] 0 (fun g i wr => i = .int .i64 0 ∧ wr = w)
  case atStart => exact ⟨rfl, rfl⟩
  case round =>
    obtain ⟨rfl, rfl⟩ := hrel
    go_wp2_with fail
    go_end0
    exact ⟨rfl, HB.out⟩

set_option maxRecDepth 100000 in
theorem growChildren_none {w : World} {p : Nat} {cs : Array Value} (hp : Has w p 40 cs) (h0 : cs[6]? = some (.slice none 0 0)) :
    Calls Tryz.prog 98 #[.pointer (some ⟨p, 0, none⟩)] w fun e w' => e = .returned (.slice none 0 0) ∧ Below w.heap.size w w' := by
  have hq : w.cell? ⟨p, 6, none⟩ = some (.slice none 0 0) := (hp.cell 6).trans h0
  have HB := Lib.hid (Below.refl w.heap.size w)
  clear hp h0
  go_enter Tryz.func98, Tryz.ntmps98
  go_wp2_with fail
  go_loopg [3, 4] 0 (fun g o i wr => o = .slice none 0 0 ∧ i = .int .i64 0 ∧ wr = w)
  case atStart => exact ⟨rfl, rfl, rfl⟩
  case round =>
    obtain ⟨rfl, rfl, rfl⟩ := hrel
    go_wp2_with fail
    go_ret
    exact ⟨rfl, HB.out⟩

set_option maxRecDepth 100000 in
theorem markedChildren_none {w : World} :
    Calls Tryz.prog 109 #[.slice none 0 0] w fun e w' => e = .returned (.bool true) ∧ Below w.heap.size w w' := by
  have HB := Lib.hid (Below.refl w.heap.size w)
  go_enter Tryz.func109, Tryz.ntmps109
  go_wp2_with fail
  go_loopg [3] 0 (fun g i wr => i = .int .i64 0 ∧ wr = w)
  case atStart => exact ⟨rfl, rfl⟩
  case round =>
    obtain ⟨rfl, rfl⟩ := hrel
    go_wp2_with fail
    go_ret
    exact ⟨rfl, HB.out⟩

set_option maxRecDepth 100000 in
theorem stillPairs_none {w : World} {p : Nat} {cs : Array Value} (hp : Has w p 40 cs) (h0 : cs[8]? = some (.slice none 0 0)) :
    Calls Tryz.prog 77 #[.pointer (some ⟨p, 0, none⟩)] w fun e w' => e = .returned (.bool true) ∧ Below w.heap.size w w' := by
  have hq : w.cell? ⟨p, 8, none⟩ = some (.slice none 0 0) := (hp.cell 8).trans h0
  have HB := Lib.hid (Below.refl w.heap.size w)
  clear hp h0
  go_enter Tryz.func77, Tryz.ntmps77
  go_wp2_with fail
  go_loopg [3] 0 (fun g i wr => i = .int .i64 0 ∧ wr = w)
  case atStart => exact ⟨rfl, rfl⟩
  case round =>
    obtain ⟨rfl, rfl⟩ := hrel
    go_wp2_with fail
    go_ret
    exact ⟨rfl, HB.out⟩

set_option maxRecDepth 100000 in
theorem putPairs_none {w : World} {p : Nat} {cs : Array Value} (hp : Has w p 40 cs) (h0 : cs[8]? = some (.slice none 0 0)) :
    Calls Tryz.prog 90 #[.pointer (some ⟨p, 0, none⟩)] w fun e w' => e = .returned (.tuple #[]) ∧ Below w.heap.size w w' := by
  have hq : w.cell? ⟨p, 8, none⟩ = some (.slice none 0 0) := (hp.cell 8).trans h0
  have HB := Lib.hid (Below.refl w.heap.size w)
  clear hp h0
  go_enter Tryz.func90, Tryz.ntmps90
  go_wp2_with fail
  go_loopg [2] 0 (fun g i wr => i = .int .i64 0 ∧ wr = w)
  case atStart => exact ⟨rfl, rfl⟩
  case round =>
    obtain ⟨rfl, rfl⟩ := hrel
    go_wp2_with fail
    go_end0
    exact ⟨rfl, HB.out⟩

set_option maxRecDepth 100000 in
theorem growPairs_none {w : World} {p : Nat} {cs : Array Value} (hp : Has w p 40 cs) (h0 : cs[8]? = some (.slice none 0 0)) :
    Calls Tryz.prog 99 #[.pointer (some ⟨p, 0, none⟩)] w fun e w' => e = .returned (.slice none 0 0) ∧ Below w.heap.size w w' := by
  have hq : w.cell? ⟨p, 8, none⟩ = some (.slice none 0 0) := (hp.cell 8).trans h0
  have HB := Lib.hid (Below.refl w.heap.size w)
  clear hp h0
  go_enter Tryz.func99, Tryz.ntmps99
  go_wp2_with fail
  go_loopg [3, 4] 0 (fun g o i wr => o = .slice none 0 0 ∧ i = .int .i64 0 ∧ wr = w)
  case atStart => exact ⟨rfl, rfl, rfl⟩
  case round =>
    obtain ⟨rfl, rfl, rfl⟩ := hrel
    go_wp2_with fail
    go_ret
    exact ⟨rfl, HB.out⟩

set_option maxRecDepth 100000 in
theorem markedPairs_none {w : World} :
    Calls Tryz.prog 110 #[.slice none 0 0] w fun e w' => e = .returned (.bool true) ∧ Below w.heap.size w w' := by
  have HB := Lib.hid (Below.refl w.heap.size w)
  go_enter Tryz.func110, Tryz.ntmps110
  go_wp2_with fail
  go_loopg [3] 0 (fun g i wr => i = .int .i64 0 ∧ wr = w)
  case atStart => exact ⟨rfl, rfl⟩
  case round =>
    obtain ⟨rfl, rfl⟩ := hrel
    go_wp2_with fail
    go_ret
    exact ⟨rfl, HB.out⟩

set_option maxRecDepth 100000 in
theorem stillEntries_none {w : World} {p : Nat} {cs : Array Value} (hp : Has w p 40 cs) (h0 : cs[10]? = some (.slice none 0 0)) :
    Calls Tryz.prog 78 #[.pointer (some ⟨p, 0, none⟩)] w fun e w' => e = .returned (.bool true) ∧ Below w.heap.size w w' := by
  have hq : w.cell? ⟨p, 10, none⟩ = some (.slice none 0 0) := (hp.cell 10).trans h0
  have HB := Lib.hid (Below.refl w.heap.size w)
  clear hp h0
  go_enter Tryz.func78, Tryz.ntmps78
  go_wp2_with fail
  go_loopg [3] 0 (fun g i wr => i = .int .i64 0 ∧ wr = w)
  case atStart => exact ⟨rfl, rfl⟩
  case round =>
    obtain ⟨rfl, rfl⟩ := hrel
    go_wp2_with fail
    go_ret
    exact ⟨rfl, HB.out⟩

set_option maxRecDepth 100000 in
theorem putEntries_none {w : World} {p : Nat} {cs : Array Value} (hp : Has w p 40 cs) (h0 : cs[10]? = some (.slice none 0 0)) :
    Calls Tryz.prog 91 #[.pointer (some ⟨p, 0, none⟩)] w fun e w' => e = .returned (.tuple #[]) ∧ Below w.heap.size w w' := by
  have hq : w.cell? ⟨p, 10, none⟩ = some (.slice none 0 0) := (hp.cell 10).trans h0
  have HB := Lib.hid (Below.refl w.heap.size w)
  clear hp h0
  go_enter Tryz.func91, Tryz.ntmps91
  go_wp2_with fail
  go_loopg [2] 0 (fun g i wr => i = .int .i64 0 ∧ wr = w)
  case atStart => exact ⟨rfl, rfl⟩
  case round =>
    obtain ⟨rfl, rfl⟩ := hrel
    go_wp2_with fail
    go_end0
    exact ⟨rfl, HB.out⟩

set_option maxRecDepth 100000 in
theorem growEntries_none {w : World} {p : Nat} {cs : Array Value} (hp : Has w p 40 cs) (h0 : cs[10]? = some (.slice none 0 0)) :
    Calls Tryz.prog 100 #[.pointer (some ⟨p, 0, none⟩)] w fun e w' => e = .returned (.slice none 0 0) ∧ Below w.heap.size w w' := by
  have hq : w.cell? ⟨p, 10, none⟩ = some (.slice none 0 0) := (hp.cell 10).trans h0
  have HB := Lib.hid (Below.refl w.heap.size w)
  clear hp h0
  go_enter Tryz.func100, Tryz.ntmps100
  go_wp2_with fail
  go_loopg [3, 4] 0 (fun g o i wr => o = .slice none 0 0 ∧ i = .int .i64 0 ∧ wr = w)
  case atStart => exact ⟨rfl, rfl, rfl⟩
  case round =>
    obtain ⟨rfl, rfl, rfl⟩ := hrel
    go_wp2_with fail
    go_ret
    exact ⟨rfl, HB.out⟩

set_option maxRecDepth 100000 in
theorem markedEntries_none {w : World} :
    Calls Tryz.prog 111 #[.slice none 0 0] w fun e w' => e = .returned (.bool true) ∧ Below w.heap.size w w' := by
  have HB := Lib.hid (Below.refl w.heap.size w)
  go_enter Tryz.func111, Tryz.ntmps111
  go_wp2_with fail
  go_loopg [3] 0 (fun g i wr => i = .int .i64 0 ∧ wr = w)
  case atStart => exact ⟨rfl, rfl⟩
  case round =>
    obtain ⟨rfl, rfl⟩ := hrel
    go_wp2_with fail
    go_ret
    exact ⟨rfl, HB.out⟩

set_option maxRecDepth 100000 in
theorem stillMsgs_none {w : World} {p : Nat} {cs : Array Value} (hp : Has w p 40 cs) (h0 : cs[12]? = some (.slice none 0 0)) :
    Calls Tryz.prog 79 #[.pointer (some ⟨p, 0, none⟩)] w fun e w' => e = .returned (.bool true) ∧ Below w.heap.size w w' := by
  have hq : w.cell? ⟨p, 12, none⟩ = some (.slice none 0 0) := (hp.cell 12).trans h0
  have HB := Lib.hid (Below.refl w.heap.size w)
  clear hp h0
  go_enter Tryz.func79, Tryz.ntmps79
  go_wp2_with fail
  go_loopg [3] 0 (fun g i wr => i = .int .i64 0 ∧ wr = w)
  case atStart => exact ⟨rfl, rfl⟩
  case round =>
    obtain ⟨rfl, rfl⟩ := hrel
    go_wp2_with fail
    go_ret
    exact ⟨rfl, HB.out⟩

set_option maxRecDepth 100000 in
theorem putMsgs_none {w : World} {p : Nat} {cs : Array Value} (hp : Has w p 40 cs) (h0 : cs[12]? = some (.slice none 0 0)) :
    Calls Tryz.prog 84 #[.pointer (some ⟨p, 0, none⟩)] w fun e w' => e = .returned (.tuple #[]) ∧ Below w.heap.size w w' := by
  have hq : w.cell? ⟨p, 12, none⟩ = some (.slice none 0 0) := (hp.cell 12).trans h0
  have HB := Lib.hid (Below.refl w.heap.size w)
  clear hp h0
  go_enter Tryz.func84, Tryz.ntmps84
  go_wp2_with fail
  go_loopg [2] 0 (fun g i wr => i = .int .i64 0 ∧ wr = w)
  case atStart => exact ⟨rfl, rfl⟩
  case round =>
    obtain ⟨rfl, rfl⟩ := hrel
    go_wp2_with fail
    go_end0
    exact ⟨rfl, HB.out⟩

set_option maxRecDepth 100000 in
theorem growMsgs_none {w : World} {p : Nat} {cs : Array Value} (hp : Has w p 40 cs) (h0 : cs[12]? = some (.slice none 0 0)) :
    Calls Tryz.prog 101 #[.pointer (some ⟨p, 0, none⟩)] w fun e w' => e = .returned (.slice none 0 0) ∧ Below w.heap.size w w' := by
  have hq : w.cell? ⟨p, 12, none⟩ = some (.slice none 0 0) := (hp.cell 12).trans h0
  have HB := Lib.hid (Below.refl w.heap.size w)
  clear hp h0
  go_enter Tryz.func101, Tryz.ntmps101
  go_wp2_with fail
  go_loopg [3, 4] 0 (fun g o i wr => o = .slice none 0 0 ∧ i = .int .i64 0 ∧ wr = w)
  case atStart => exact ⟨rfl, rfl, rfl⟩
  case round =>
    obtain ⟨rfl, rfl, rfl⟩ := hrel
    go_wp2_with fail
    go_ret
    exact ⟨rfl, HB.out⟩

set_option maxRecDepth 100000 in
theorem markedMsgs_none {w : World} :
    Calls Tryz.prog 112 #[.slice none 0 0] w fun e w' => e = .returned (.bool true) ∧ Below w.heap.size w w' := by
  have HB := Lib.hid (Below.refl w.heap.size w)
  go_enter Tryz.func112, Tryz.ntmps112
  go_wp2_with fail
  go_loopg [3] 0 (fun g i wr => i = .int .i64 0 ∧ wr = w)
  case atStart => exact ⟨rfl, rfl⟩
  case round =>
    obtain ⟨rfl, rfl⟩ := hrel
    go_wp2_with fail
    go_ret
    exact ⟨rfl, HB.out⟩

set_option maxRecDepth 100000 in
theorem stillPackets_none {w : World} {p : Nat} {cs : Array Value} (hp : Has w p 40 cs) (h0 : cs[16]? = some (.slice none 0 0)) :
    Calls Tryz.prog 81 #[.pointer (some ⟨p, 0, none⟩)] w fun e w' => e = .returned (.bool true) ∧ Below w.heap.size w w' := by
  have hq : w.cell? ⟨p, 16, none⟩ = some (.slice none 0 0) := (hp.cell 16).trans h0
  have HB := Lib.hid (Below.refl w.heap.size w)
  clear hp h0
  go_enter Tryz.func81, Tryz.ntmps81
  go_wp2_with fail
  go_loopg [3] 0 (fun g i wr => i = .int .i64 0 ∧ wr = w)
  case atStart => exact ⟨rfl, rfl⟩
  case round =>
    obtain ⟨rfl, rfl⟩ := hrel
    go_wp2_with fail
    go_ret
    exact ⟨rfl, HB.out⟩

set_option maxRecDepth 100000 in
theorem putPackets_none {w : World} {p : Nat} {cs : Array Value} (hp : Has w p 40 cs) (h0 : cs[16]? = some (.slice none 0 0)) :
    Calls Tryz.prog 93 #[.pointer (some ⟨p, 0, none⟩)] w fun e w' => e = .returned (.tuple #[]) ∧ Below w.heap.size w w' := by
  have hq : w.cell? ⟨p, 16, none⟩ = some (.slice none 0 0) := (hp.cell 16).trans h0
  have HB := Lib.hid (Below.refl w.heap.size w)
  clear hp h0
  go_enter Tryz.func93, Tryz.ntmps93
  go_wp2_with fail
  go_loopg [2] 0 (fun g i wr => i = .int .i64 0 ∧ wr = w)
  case atStart => exact ⟨rfl, rfl⟩
  case round =>
    obtain ⟨rfl, rfl⟩ := hrel
    go_wp2_with fail
    go_end0
    exact ⟨rfl, HB.out⟩

set_option maxRecDepth 100000 in
theorem growPackets_none {w : World} {p : Nat} {cs : Array Value} (hp : Has w p 40 cs) (h0 : cs[16]? = some (.slice none 0 0)) :
    Calls Tryz.prog 103 #[.pointer (some ⟨p, 0, none⟩)] w fun e w' => e = .returned (.slice none 0 0) ∧ Below w.heap.size w w' := by
  have hq : w.cell? ⟨p, 16, none⟩ = some (.slice none 0 0) := (hp.cell 16).trans h0
  have HB := Lib.hid (Below.refl w.heap.size w)
  clear hp h0
  go_enter Tryz.func103, Tryz.ntmps103
  go_wp2_with fail
  go_loopg [3, 4] 0 (fun g o i wr => o = .slice none 0 0 ∧ i = .int .i64 0 ∧ wr = w)
  case atStart => exact ⟨rfl, rfl, rfl⟩
  case round =>
    obtain ⟨rfl, rfl, rfl⟩ := hrel
    go_wp2_with fail
    go_ret
    exact ⟨rfl, HB.out⟩

set_option maxRecDepth 100000 in
theorem markedPackets_none {w : World} :
    Calls Tryz.prog 114 #[.slice none 0 0] w fun e w' => e = .returned (.bool true) ∧ Below w.heap.size w w' := by
  have HB := Lib.hid (Below.refl w.heap.size w)
  go_enter Tryz.func114, Tryz.ntmps114
  go_wp2_with fail
  go_loopg [3] 0 (fun g i wr => i = .int .i64 0 ∧ wr = w)
  case atStart => exact ⟨rfl, rfl⟩
  case round =>
    obtain ⟨rfl, rfl⟩ := hrel
    go_wp2_with fail
    go_ret
    exact ⟨rfl, HB.out⟩

set_option maxRecDepth 100000 in
theorem stillEvents_none {w : World} {p : Nat} {cs : Array Value} (hp : Has w p 40 cs) (h0 : cs[18]? = some (.slice none 0 0)) :
    Calls Tryz.prog 82 #[.pointer (some ⟨p, 0, none⟩)] w fun e w' => e = .returned (.bool true) ∧ Below w.heap.size w w' := by
  have hq : w.cell? ⟨p, 18, none⟩ = some (.slice none 0 0) := (hp.cell 18).trans h0
  have HB := Lib.hid (Below.refl w.heap.size w)
  clear hp h0
  go_enter Tryz.func82, Tryz.ntmps82
  go_wp2_with fail
  go_loopg [3] 0 (fun g i wr => i = .int .i64 0 ∧ wr = w)
  case atStart => exact ⟨rfl, rfl⟩
  case round =>
    obtain ⟨rfl, rfl⟩ := hrel
    go_wp2_with fail
    go_ret
    exact ⟨rfl, HB.out⟩

set_option maxRecDepth 100000 in
theorem putEvents_none {w : World} {p : Nat} {cs : Array Value} (hp : Has w p 40 cs) (h0 : cs[18]? = some (.slice none 0 0)) :
    Calls Tryz.prog 94 #[.pointer (some ⟨p, 0, none⟩)] w fun e w' => e = .returned (.tuple #[]) ∧ Below w.heap.size w w' := by
  have hq : w.cell? ⟨p, 18, none⟩ = some (.slice none 0 0) := (hp.cell 18).trans h0
  have HB := Lib.hid (Below.refl w.heap.size w)
  clear hp h0
  go_enter Tryz.func94, Tryz.ntmps94
  go_wp2_with fail
  go_loopg [2] 0 (fun g i wr => i = .int .i64 0 ∧ wr = w)
  case atStart => exact ⟨rfl, rfl⟩
  case round =>
    obtain ⟨rfl, rfl⟩ := hrel
    go_wp2_with fail
    go_end0
    exact ⟨rfl, HB.out⟩

set_option maxRecDepth 100000 in
theorem growEvents_none {w : World} {p : Nat} {cs : Array Value} (hp : Has w p 40 cs) (h0 : cs[18]? = some (.slice none 0 0)) :
    Calls Tryz.prog 104 #[.pointer (some ⟨p, 0, none⟩)] w fun e w' => e = .returned (.slice none 0 0) ∧ Below w.heap.size w w' := by
  have hq : w.cell? ⟨p, 18, none⟩ = some (.slice none 0 0) := (hp.cell 18).trans h0
  have HB := Lib.hid (Below.refl w.heap.size w)
  clear hp h0
  go_enter Tryz.func104, Tryz.ntmps104
  go_wp2_with fail
  go_loopg [3, 4] 0 (fun g o i wr => o = .slice none 0 0 ∧ i = .int .i64 0 ∧ wr = w)
  case atStart => exact ⟨rfl, rfl, rfl⟩
  case round =>
    obtain ⟨rfl, rfl, rfl⟩ := hrel
    go_wp2_with fail
    go_ret
    exact ⟨rfl, HB.out⟩

set_option maxRecDepth 100000 in
theorem markedEvents_none {w : World} :
    Calls Tryz.prog 115 #[.slice none 0 0] w fun e w' => e = .returned (.bool true) ∧ Below w.heap.size w w' := by
  have HB := Lib.hid (Below.refl w.heap.size w)
  go_enter Tryz.func115, Tryz.ntmps115
  go_wp2_with fail
  go_loopg [3] 0 (fun g i wr => i = .int .i64 0 ∧ wr = w)
  case atStart => exact ⟨rfl, rfl⟩
  case round =>
    obtain ⟨rfl, rfl⟩ := hrel
    go_wp2_with fail
    go_ret
    exact ⟨rfl, HB.out⟩

set_option maxRecDepth 100000 in
theorem stillSteps_none {w : World} {p : Nat} {cs : Array Value} (hp : Has w p 40 cs) (h0 : cs[20]? = some (.slice none 0 0)) :
    Calls Tryz.prog 83 #[.pointer (some ⟨p, 0, none⟩)] w fun e w' => e = .returned (.bool true) ∧ Below w.heap.size w w' := by
  have hq : w.cell? ⟨p, 20, none⟩ = some (.slice none 0 0) := (hp.cell 20).trans h0
  have HB := Lib.hid (Below.refl w.heap.size w)
  clear hp h0
  go_enter Tryz.func83, Tryz.ntmps83
  go_wp2_with fail
  go_loopg [3] 0 (fun g i wr => i = .int .i64 0 ∧ wr = w)
  case atStart => exact ⟨rfl, rfl⟩
  case round =>
    obtain ⟨rfl, rfl⟩ := hrel
    go_wp2_with fail
    go_ret
    exact ⟨rfl, HB.out⟩

set_option maxRecDepth 100000 in
theorem putSteps_none {w : World} {p : Nat} {cs : Array Value} (hp : Has w p 40 cs) (h0 : cs[20]? = some (.slice none 0 0)) :
    Calls Tryz.prog 85 #[.pointer (some ⟨p, 0, none⟩)] w fun e w' => e = .returned (.tuple #[]) ∧ Below w.heap.size w w' := by
  have hq : w.cell? ⟨p, 20, none⟩ = some (.slice none 0 0) := (hp.cell 20).trans h0
  have HB := Lib.hid (Below.refl w.heap.size w)
  clear hp h0
  go_enter Tryz.func85, Tryz.ntmps85
  go_wp2_with fail
  go_loopg [2] 0 (fun g i wr => i = .int .i64 0 ∧ wr = w)
  case atStart => exact ⟨rfl, rfl⟩
  case round =>
    obtain ⟨rfl, rfl⟩ := hrel
    go_wp2_with fail
    go_end0
    exact ⟨rfl, HB.out⟩

set_option maxRecDepth 100000 in
theorem growSteps_none {w : World} {p : Nat} {cs : Array Value} (hp : Has w p 40 cs) (h0 : cs[20]? = some (.slice none 0 0)) :
    Calls Tryz.prog 105 #[.pointer (some ⟨p, 0, none⟩)] w fun e w' => e = .returned (.slice none 0 0) ∧ Below w.heap.size w w' := by
  have hq : w.cell? ⟨p, 20, none⟩ = some (.slice none 0 0) := (hp.cell 20).trans h0
  have HB := Lib.hid (Below.refl w.heap.size w)
  clear hp h0
  go_enter Tryz.func105, Tryz.ntmps105
  go_wp2_with fail
  go_loopg [3, 4] 0 (fun g o i wr => o = .slice none 0 0 ∧ i = .int .i64 0 ∧ wr = w)
  case atStart => exact ⟨rfl, rfl, rfl⟩
  case round =>
    obtain ⟨rfl, rfl, rfl⟩ := hrel
    go_wp2_with fail
    go_ret
    exact ⟨rfl, HB.out⟩

set_option maxRecDepth 100000 in
theorem markedSteps_none {w : World} :
    Calls Tryz.prog 116 #[.slice none 0 0] w fun e w' => e = .returned (.bool true) ∧ Below w.heap.size w w' := by
  have HB := Lib.hid (Below.refl w.heap.size w)
  go_enter Tryz.func116, Tryz.ntmps116
  go_wp2_with fail
  go_loopg [3] 0 (fun g i wr => i = .int .i64 0 ∧ wr = w)
  case atStart => exact ⟨rfl, rfl⟩
  case round =>
    obtain ⟨rfl, rfl⟩ := hrel
    go_wp2_with fail
    go_ret
    exact ⟨rfl, HB.out⟩
end Go.Proofs.YtpfifmjcmpankaaGreat
