/-
  The statements' book: the kinds of which it keeps no list.
-/
import Derived.Test.YtjimjemogbphaaaGreatMg9
namespace Go.Proofs.YtjimjemogbphaaaGreat
open Go.RowKit

set_option maxRecDepth 100000 in
theorem stillTexts_none {w : World} {p : Nat} {cs : Array Value} (hp : Has w p 61 cs) (h0 : cs[0]? = some (.slice none 0 0)) :
    Calls Tryz.prog 52 #[.pointer (some ⟨p, 0, none⟩)] w fun e w' => e = .returned (.bool true) ∧ Below w.heap.size w w' := by
  have hq : w.cell? ⟨p, 0, none⟩ = some (.slice none 0 0) := (hp.cell 0).trans h0
  have HB := Lib.hid (Below.refl w.heap.size w)
  clear hp h0
  go_enter Tryz.func52, Tryz.ntmps52
  go_wp2_with fail
  go_loopg [3] 0 (fun g i wr => i = .int .i64 0 ∧ wr = w)
  case atStart => exact ⟨rfl, rfl⟩
  case round =>
    obtain ⟨rfl, rfl⟩ := hrel
    go_wp2_with fail
    go_ret
    exact ⟨rfl, HB.out⟩

set_option maxRecDepth 100000 in
theorem putTexts_none {w : World} {p : Nat} {cs : Array Value} (hp : Has w p 61 cs) (h0 : cs[0]? = some (.slice none 0 0)) :
    Calls Tryz.prog 65 #[.pointer (some ⟨p, 0, none⟩)] w fun e w' => e = .returned (.tuple #[]) ∧ Below w.heap.size w w' := by
  have hq : w.cell? ⟨p, 0, none⟩ = some (.slice none 0 0) := (hp.cell 0).trans h0
  have HB := Lib.hid (Below.refl w.heap.size w)
  clear hp h0
  go_enter Tryz.func65, Tryz.ntmps65
  go_wp2_with fail
  go_loopg [2] 0 (fun g i wr => i = .int .i64 0 ∧ wr = w)
  case atStart => exact ⟨rfl, rfl⟩
  case round =>
    obtain ⟨rfl, rfl⟩ := hrel
    go_wp2_with fail
    go_end0
    exact ⟨rfl, HB.out⟩

set_option maxRecDepth 100000 in
theorem growTexts_none {w : World} {p : Nat} {cs : Array Value} (hp : Has w p 61 cs) (h0 : cs[0]? = some (.slice none 0 0)) :
    Calls Tryz.prog 74 #[.pointer (some ⟨p, 0, none⟩)] w fun e w' => e = .returned (.slice none 0 0) ∧ Below w.heap.size w w' := by
  have hq : w.cell? ⟨p, 0, none⟩ = some (.slice none 0 0) := (hp.cell 0).trans h0
  have HB := Lib.hid (Below.refl w.heap.size w)
  clear hp h0
  go_enter Tryz.func74, Tryz.ntmps74
  go_wp2_with fail
  go_loopg [3, 4] 0 (fun g o i wr => o = .slice none 0 0 ∧ i = .int .i64 0 ∧ wr = w)
  case atStart => exact ⟨rfl, rfl, rfl⟩
  case round =>
    obtain ⟨rfl, rfl, rfl⟩ := hrel
    go_wp2_with fail
    go_ret
    exact ⟨rfl, HB.out⟩

set_option maxRecDepth 100000 in
theorem markedTexts_none {w : World} :
    Calls Tryz.prog 85 #[.slice none 0 0] w fun e w' => e = .returned (.bool true) ∧ Below w.heap.size w w' := by
  have HB := Lib.hid (Below.refl w.heap.size w)
  go_enter Tryz.func85, Tryz.ntmps85
  go_wp2_with fail
  go_loopg [3] 0 (fun g i wr => i = .int .i64 0 ∧ wr = w)
  case atStart => exact ⟨rfl, rfl⟩
  case round =>
    obtain ⟨rfl, rfl⟩ := hrel
    go_wp2_with fail
    go_ret
    exact ⟨rfl, HB.out⟩

set_option maxRecDepth 100000 in
theorem stillItems_none {w : World} {p : Nat} {cs : Array Value} (hp : Has w p 61 cs) (h0 : cs[4]? = some (.slice none 0 0)) :
    Calls Tryz.prog 54 #[.pointer (some ⟨p, 0, none⟩)] w fun e w' => e = .returned (.bool true) ∧ Below w.heap.size w w' := by
  have hq : w.cell? ⟨p, 4, none⟩ = some (.slice none 0 0) := (hp.cell 4).trans h0
  have HB := Lib.hid (Below.refl w.heap.size w)
  clear hp h0
  go_enter Tryz.func54, Tryz.ntmps54
  go_wp2_with fail
  go_loopg [3] 0 (fun g i wr => i = .int .i64 0 ∧ wr = w)
  case atStart => exact ⟨rfl, rfl⟩
  case round =>
    obtain ⟨rfl, rfl⟩ := hrel
    go_wp2_with fail
    go_ret
    exact ⟨rfl, HB.out⟩

set_option maxRecDepth 100000 in
theorem putItems_none {w : World} {p : Nat} {cs : Array Value} (hp : Has w p 61 cs) (h0 : cs[4]? = some (.slice none 0 0)) :
    Calls Tryz.prog 67 #[.pointer (some ⟨p, 0, none⟩)] w fun e w' => e = .returned (.tuple #[]) ∧ Below w.heap.size w w' := by
  have hq : w.cell? ⟨p, 4, none⟩ = some (.slice none 0 0) := (hp.cell 4).trans h0
  have HB := Lib.hid (Below.refl w.heap.size w)
  clear hp h0
  go_enter Tryz.func67, Tryz.ntmps67
  go_wp2_with fail
  go_loopg [2] 0 (fun g i wr => i = .int .i64 0 ∧ wr = w)
  case atStart => exact ⟨rfl, rfl⟩
  case round =>
    obtain ⟨rfl, rfl⟩ := hrel
    go_wp2_with fail
    go_end0
    exact ⟨rfl, HB.out⟩

set_option maxRecDepth 100000 in
theorem growItems_none {w : World} {p : Nat} {cs : Array Value} (hp : Has w p 61 cs) (h0 : cs[4]? = some (.slice none 0 0)) :
    Calls Tryz.prog 76 #[.pointer (some ⟨p, 0, none⟩)] w fun e w' => e = .returned (.slice none 0 0) ∧ Below w.heap.size w w' := by
  have hq : w.cell? ⟨p, 4, none⟩ = some (.slice none 0 0) := (hp.cell 4).trans h0
  have HB := Lib.hid (Below.refl w.heap.size w)
  clear hp h0
  go_enter Tryz.func76, Tryz.ntmps76
  go_wp2_with fail
  go_loopg [3, 4] 0 (fun g o i wr => o = .slice none 0 0 ∧ i = .int .i64 0 ∧ wr = w)
  case atStart => exact ⟨rfl, rfl, rfl⟩
  case round =>
    obtain ⟨rfl, rfl, rfl⟩ := hrel
    go_wp2_with fail
    go_ret
    exact ⟨rfl, HB.out⟩

set_option maxRecDepth 100000 in
theorem markedItems_none {w : World} :
    Calls Tryz.prog 87 #[.slice none 0 0] w fun e w' => e = .returned (.bool true) ∧ Below w.heap.size w w' := by
  have HB := Lib.hid (Below.refl w.heap.size w)
  go_enter Tryz.func87, Tryz.ntmps87
  go_wp2_with fail
  go_loopg [3] 0 (fun g i wr => i = .int .i64 0 ∧ wr = w)
  case atStart => exact ⟨rfl, rfl⟩
  case round =>
    obtain ⟨rfl, rfl⟩ := hrel
    go_wp2_with fail
    go_ret
    exact ⟨rfl, HB.out⟩

set_option maxRecDepth 100000 in
theorem stillChildren_none {w : World} {p : Nat} {cs : Array Value} (hp : Has w p 61 cs) (h0 : cs[6]? = some (.slice none 0 0)) :
    Calls Tryz.prog 55 #[.pointer (some ⟨p, 0, none⟩)] w fun e w' => e = .returned (.bool true) ∧ Below w.heap.size w w' := by
  have hq : w.cell? ⟨p, 6, none⟩ = some (.slice none 0 0) := (hp.cell 6).trans h0
  have HB := Lib.hid (Below.refl w.heap.size w)
  clear hp h0
  go_enter Tryz.func55, Tryz.ntmps55
  go_wp2_with fail
  go_loopg [3] 0 (fun g i wr => i = .int .i64 0 ∧ wr = w)
  case atStart => exact ⟨rfl, rfl⟩
  case round =>
    obtain ⟨rfl, rfl⟩ := hrel
    go_wp2_with fail
    go_ret
    exact ⟨rfl, HB.out⟩

set_option maxRecDepth 100000 in
theorem putChildren_none {w : World} {p : Nat} {cs : Array Value} (hp : Has w p 61 cs) (h0 : cs[6]? = some (.slice none 0 0)) :
    Calls Tryz.prog 68 #[.pointer (some ⟨p, 0, none⟩)] w fun e w' => e = .returned (.tuple #[]) ∧ Below w.heap.size w w' := by
  have hq : w.cell? ⟨p, 6, none⟩ = some (.slice none 0 0) := (hp.cell 6).trans h0
  have HB := Lib.hid (Below.refl w.heap.size w)
  clear hp h0
  go_enter Tryz.func68, Tryz.ntmps68
  go_wp2_with fail
  go_loopg [2] 0 (fun g i wr => i = .int .i64 0 ∧ wr = w)
  case atStart => exact ⟨rfl, rfl⟩
  case round =>
    obtain ⟨rfl, rfl⟩ := hrel
    go_wp2_with fail
    go_end0
    exact ⟨rfl, HB.out⟩

set_option maxRecDepth 100000 in
theorem growChildren_none {w : World} {p : Nat} {cs : Array Value} (hp : Has w p 61 cs) (h0 : cs[6]? = some (.slice none 0 0)) :
    Calls Tryz.prog 77 #[.pointer (some ⟨p, 0, none⟩)] w fun e w' => e = .returned (.slice none 0 0) ∧ Below w.heap.size w w' := by
  have hq : w.cell? ⟨p, 6, none⟩ = some (.slice none 0 0) := (hp.cell 6).trans h0
  have HB := Lib.hid (Below.refl w.heap.size w)
  clear hp h0
  go_enter Tryz.func77, Tryz.ntmps77
  go_wp2_with fail
  go_loopg [3, 4] 0 (fun g o i wr => o = .slice none 0 0 ∧ i = .int .i64 0 ∧ wr = w)
  case atStart => exact ⟨rfl, rfl, rfl⟩
  case round =>
    obtain ⟨rfl, rfl, rfl⟩ := hrel
    go_wp2_with fail
    go_ret
    exact ⟨rfl, HB.out⟩

set_option maxRecDepth 100000 in
theorem markedChildren_none {w : World} :
    Calls Tryz.prog 88 #[.slice none 0 0] w fun e w' => e = .returned (.bool true) ∧ Below w.heap.size w w' := by
  have HB := Lib.hid (Below.refl w.heap.size w)
  go_enter Tryz.func88, Tryz.ntmps88
  go_wp2_with fail
  go_loopg [3] 0 (fun g i wr => i = .int .i64 0 ∧ wr = w)
  case atStart => exact ⟨rfl, rfl⟩
  case round =>
    obtain ⟨rfl, rfl⟩ := hrel
    go_wp2_with fail
    go_ret
    exact ⟨rfl, HB.out⟩

set_option maxRecDepth 100000 in
theorem stillPairs_none {w : World} {p : Nat} {cs : Array Value} (hp : Has w p 61 cs) (h0 : cs[8]? = some (.slice none 0 0)) :
    Calls Tryz.prog 56 #[.pointer (some ⟨p, 0, none⟩)] w fun e w' => e = .returned (.bool true) ∧ Below w.heap.size w w' := by
  have hq : w.cell? ⟨p, 8, none⟩ = some (.slice none 0 0) := (hp.cell 8).trans h0
  have HB := Lib.hid (Below.refl w.heap.size w)
  clear hp h0
  go_enter Tryz.func56, Tryz.ntmps56
  go_wp2_with fail
  go_loopg [3] 0 (fun g i wr => i = .int .i64 0 ∧ wr = w)
  case atStart => exact ⟨rfl, rfl⟩
  case round =>
    obtain ⟨rfl, rfl⟩ := hrel
    go_wp2_with fail
    go_ret
    exact ⟨rfl, HB.out⟩

set_option maxRecDepth 100000 in
theorem putPairs_none {w : World} {p : Nat} {cs : Array Value} (hp : Has w p 61 cs) (h0 : cs[8]? = some (.slice none 0 0)) :
    Calls Tryz.prog 69 #[.pointer (some ⟨p, 0, none⟩)] w fun e w' => e = .returned (.tuple #[]) ∧ Below w.heap.size w w' := by
  have hq : w.cell? ⟨p, 8, none⟩ = some (.slice none 0 0) := (hp.cell 8).trans h0
  have HB := Lib.hid (Below.refl w.heap.size w)
  clear hp h0
  go_enter Tryz.func69, Tryz.ntmps69
  go_wp2_with fail
  go_loopg [2] 0 (fun g i wr => i = .int .i64 0 ∧ wr = w)
  case atStart => exact ⟨rfl, rfl⟩
  case round =>
    obtain ⟨rfl, rfl⟩ := hrel
    go_wp2_with fail
    go_end0
    exact ⟨rfl, HB.out⟩

set_option maxRecDepth 100000 in
theorem growPairs_none {w : World} {p : Nat} {cs : Array Value} (hp : Has w p 61 cs) (h0 : cs[8]? = some (.slice none 0 0)) :
    Calls Tryz.prog 78 #[.pointer (some ⟨p, 0, none⟩)] w fun e w' => e = .returned (.slice none 0 0) ∧ Below w.heap.size w w' := by
  have hq : w.cell? ⟨p, 8, none⟩ = some (.slice none 0 0) := (hp.cell 8).trans h0
  have HB := Lib.hid (Below.refl w.heap.size w)
  clear hp h0
  go_enter Tryz.func78, Tryz.ntmps78
  go_wp2_with fail
  go_loopg [3, 4] 0 (fun g o i wr => o = .slice none 0 0 ∧ i = .int .i64 0 ∧ wr = w)
  case atStart => exact ⟨rfl, rfl, rfl⟩
  case round =>
    obtain ⟨rfl, rfl, rfl⟩ := hrel
    go_wp2_with fail
    go_ret
    exact ⟨rfl, HB.out⟩

set_option maxRecDepth 100000 in
theorem markedPairs_none {w : World} :
    Calls Tryz.prog 89 #[.slice none 0 0] w fun e w' => e = .returned (.bool true) ∧ Below w.heap.size w w' := by
  have HB := Lib.hid (Below.refl w.heap.size w)
  go_enter Tryz.func89, Tryz.ntmps89
  go_wp2_with fail
  go_loopg [3] 0 (fun g i wr => i = .int .i64 0 ∧ wr = w)
  case atStart => exact ⟨rfl, rfl⟩
  case round =>
    obtain ⟨rfl, rfl⟩ := hrel
    go_wp2_with fail
    go_ret
    exact ⟨rfl, HB.out⟩

set_option maxRecDepth 100000 in
theorem stillEntries_none {w : World} {p : Nat} {cs : Array Value} (hp : Has w p 61 cs) (h0 : cs[10]? = some (.slice none 0 0)) :
    Calls Tryz.prog 57 #[.pointer (some ⟨p, 0, none⟩)] w fun e w' => e = .returned (.bool true) ∧ Below w.heap.size w w' := by
  have hq : w.cell? ⟨p, 10, none⟩ = some (.slice none 0 0) := (hp.cell 10).trans h0
  have HB := Lib.hid (Below.refl w.heap.size w)
  clear hp h0
  go_enter Tryz.func57, Tryz.ntmps57
  go_wp2_with fail
  go_loopg [3] 0 (fun g i wr => i = .int .i64 0 ∧ wr = w)
  case atStart => exact ⟨rfl, rfl⟩
  case round =>
    obtain ⟨rfl, rfl⟩ := hrel
    go_wp2_with fail
    go_ret
    exact ⟨rfl, HB.out⟩

set_option maxRecDepth 100000 in
theorem putEntries_none {w : World} {p : Nat} {cs : Array Value} (hp : Has w p 61 cs) (h0 : cs[10]? = some (.slice none 0 0)) :
    Calls Tryz.prog 70 #[.pointer (some ⟨p, 0, none⟩)] w fun e w' => e = .returned (.tuple #[]) ∧ Below w.heap.size w w' := by
  have hq : w.cell? ⟨p, 10, none⟩ = some (.slice none 0 0) := (hp.cell 10).trans h0
  have HB := Lib.hid (Below.refl w.heap.size w)
  clear hp h0
  go_enter Tryz.func70, Tryz.ntmps70
  go_wp2_with fail
  go_loopg [2] 0 (fun g i wr => i = .int .i64 0 ∧ wr = w)
  case atStart => exact ⟨rfl, rfl⟩
  case round =>
    obtain ⟨rfl, rfl⟩ := hrel
    go_wp2_with fail
    go_end0
    exact ⟨rfl, HB.out⟩

set_option maxRecDepth 100000 in
theorem growEntries_none {w : World} {p : Nat} {cs : Array Value} (hp : Has w p 61 cs) (h0 : cs[10]? = some (.slice none 0 0)) :
    Calls Tryz.prog 79 #[.pointer (some ⟨p, 0, none⟩)] w fun e w' => e = .returned (.slice none 0 0) ∧ Below w.heap.size w w' := by
  have hq : w.cell? ⟨p, 10, none⟩ = some (.slice none 0 0) := (hp.cell 10).trans h0
  have HB := Lib.hid (Below.refl w.heap.size w)
  clear hp h0
  go_enter Tryz.func79, Tryz.ntmps79
  go_wp2_with fail
  go_loopg [3, 4] 0 (fun g o i wr => o = .slice none 0 0 ∧ i = .int .i64 0 ∧ wr = w)
  case atStart => exact ⟨rfl, rfl, rfl⟩
  case round =>
    obtain ⟨rfl, rfl, rfl⟩ := hrel
    go_wp2_with fail
    go_ret
    exact ⟨rfl, HB.out⟩

set_option maxRecDepth 100000 in
theorem markedEntries_none {w : World} :
    Calls Tryz.prog 90 #[.slice none 0 0] w fun e w' => e = .returned (.bool true) ∧ Below w.heap.size w w' := by
  have HB := Lib.hid (Below.refl w.heap.size w)
  go_enter Tryz.func90, Tryz.ntmps90
  go_wp2_with fail
  go_loopg [3] 0 (fun g i wr => i = .int .i64 0 ∧ wr = w)
  case atStart => exact ⟨rfl, rfl⟩
  case round =>
    obtain ⟨rfl, rfl⟩ := hrel
    go_wp2_with fail
    go_ret
    exact ⟨rfl, HB.out⟩

set_option maxRecDepth 100000 in
theorem stillMsgs_none {w : World} {p : Nat} {cs : Array Value} (hp : Has w p 61 cs) (h0 : cs[12]? = some (.slice none 0 0)) :
    Calls Tryz.prog 58 #[.pointer (some ⟨p, 0, none⟩)] w fun e w' => e = .returned (.bool true) ∧ Below w.heap.size w w' := by
  have hq : w.cell? ⟨p, 12, none⟩ = some (.slice none 0 0) := (hp.cell 12).trans h0
  have HB := Lib.hid (Below.refl w.heap.size w)
  clear hp h0
  go_enter Tryz.func58, Tryz.ntmps58
  go_wp2_with fail
  go_loopg [3] 0 (fun g i wr => i = .int .i64 0 ∧ wr = w)
  case atStart => exact ⟨rfl, rfl⟩
  case round =>
    obtain ⟨rfl, rfl⟩ := hrel
    go_wp2_with fail
    go_ret
    exact ⟨rfl, HB.out⟩

set_option maxRecDepth 100000 in
theorem putMsgs_none {w : World} {p : Nat} {cs : Array Value} (hp : Has w p 61 cs) (h0 : cs[12]? = some (.slice none 0 0)) :
    Calls Tryz.prog 63 #[.pointer (some ⟨p, 0, none⟩)] w fun e w' => e = .returned (.tuple #[]) ∧ Below w.heap.size w w' := by
  have hq : w.cell? ⟨p, 12, none⟩ = some (.slice none 0 0) := (hp.cell 12).trans h0
  have HB := Lib.hid (Below.refl w.heap.size w)
  clear hp h0
  go_enter Tryz.func63, Tryz.ntmps63
  go_wp2_with fail
  go_loopg [2] 0 (fun g i wr => i = .int .i64 0 ∧ wr = w)
  case atStart => exact ⟨rfl, rfl⟩
  case round =>
    obtain ⟨rfl, rfl⟩ := hrel
    go_wp2_with fail
    go_end0
    exact ⟨rfl, HB.out⟩

set_option maxRecDepth 100000 in
theorem growMsgs_none {w : World} {p : Nat} {cs : Array Value} (hp : Has w p 61 cs) (h0 : cs[12]? = some (.slice none 0 0)) :
    Calls Tryz.prog 80 #[.pointer (some ⟨p, 0, none⟩)] w fun e w' => e = .returned (.slice none 0 0) ∧ Below w.heap.size w w' := by
  have hq : w.cell? ⟨p, 12, none⟩ = some (.slice none 0 0) := (hp.cell 12).trans h0
  have HB := Lib.hid (Below.refl w.heap.size w)
  clear hp h0
  go_enter Tryz.func80, Tryz.ntmps80
  go_wp2_with fail
  go_loopg [3, 4] 0 (fun g o i wr => o = .slice none 0 0 ∧ i = .int .i64 0 ∧ wr = w)
  case atStart => exact ⟨rfl, rfl, rfl⟩
  case round =>
    obtain ⟨rfl, rfl, rfl⟩ := hrel
    go_wp2_with fail
    go_ret
    exact ⟨rfl, HB.out⟩

set_option maxRecDepth 100000 in
theorem markedMsgs_none {w : World} :
    Calls Tryz.prog 91 #[.slice none 0 0] w fun e w' => e = .returned (.bool true) ∧ Below w.heap.size w w' := by
  have HB := Lib.hid (Below.refl w.heap.size w)
  go_enter Tryz.func91, Tryz.ntmps91
  go_wp2_with fail
  go_loopg [3] 0 (fun g i wr => i = .int .i64 0 ∧ wr = w)
  case atStart => exact ⟨rfl, rfl⟩
  case round =>
    obtain ⟨rfl, rfl⟩ := hrel
    go_wp2_with fail
    go_ret
    exact ⟨rfl, HB.out⟩

set_option maxRecDepth 100000 in
theorem stillPackets_none {w : World} {p : Nat} {cs : Array Value} (hp : Has w p 61 cs) (h0 : cs[16]? = some (.slice none 0 0)) :
    Calls Tryz.prog 60 #[.pointer (some ⟨p, 0, none⟩)] w fun e w' => e = .returned (.bool true) ∧ Below w.heap.size w w' := by
  have hq : w.cell? ⟨p, 16, none⟩ = some (.slice none 0 0) := (hp.cell 16).trans h0
  have HB := Lib.hid (Below.refl w.heap.size w)
  clear hp h0
  go_enter Tryz.func60, Tryz.ntmps60
  go_wp2_with fail
  go_loopg [3] 0 (fun g i wr => i = .int .i64 0 ∧ wr = w)
  case atStart => exact ⟨rfl, rfl⟩
  case round =>
    obtain ⟨rfl, rfl⟩ := hrel
    go_wp2_with fail
    go_ret
    exact ⟨rfl, HB.out⟩

set_option maxRecDepth 100000 in
theorem putPackets_none {w : World} {p : Nat} {cs : Array Value} (hp : Has w p 61 cs) (h0 : cs[16]? = some (.slice none 0 0)) :
    Calls Tryz.prog 72 #[.pointer (some ⟨p, 0, none⟩)] w fun e w' => e = .returned (.tuple #[]) ∧ Below w.heap.size w w' := by
  have hq : w.cell? ⟨p, 16, none⟩ = some (.slice none 0 0) := (hp.cell 16).trans h0
  have HB := Lib.hid (Below.refl w.heap.size w)
  clear hp h0
  go_enter Tryz.func72, Tryz.ntmps72
  go_wp2_with fail
  go_loopg [2] 0 (fun g i wr => i = .int .i64 0 ∧ wr = w)
  case atStart => exact ⟨rfl, rfl⟩
  case round =>
    obtain ⟨rfl, rfl⟩ := hrel
    go_wp2_with fail
    go_end0
    exact ⟨rfl, HB.out⟩

set_option maxRecDepth 100000 in
theorem growPackets_none {w : World} {p : Nat} {cs : Array Value} (hp : Has w p 61 cs) (h0 : cs[16]? = some (.slice none 0 0)) :
    Calls Tryz.prog 82 #[.pointer (some ⟨p, 0, none⟩)] w fun e w' => e = .returned (.slice none 0 0) ∧ Below w.heap.size w w' := by
  have hq : w.cell? ⟨p, 16, none⟩ = some (.slice none 0 0) := (hp.cell 16).trans h0
  have HB := Lib.hid (Below.refl w.heap.size w)
  clear hp h0
  go_enter Tryz.func82, Tryz.ntmps82
  go_wp2_with fail
  go_loopg [3, 4] 0 (fun g o i wr => o = .slice none 0 0 ∧ i = .int .i64 0 ∧ wr = w)
  case atStart => exact ⟨rfl, rfl, rfl⟩
  case round =>
    obtain ⟨rfl, rfl, rfl⟩ := hrel
    go_wp2_with fail
    go_ret
    exact ⟨rfl, HB.out⟩

set_option maxRecDepth 100000 in
theorem markedPackets_none {w : World} :
    Calls Tryz.prog 93 #[.slice none 0 0] w fun e w' => e = .returned (.bool true) ∧ Below w.heap.size w w' := by
  have HB := Lib.hid (Below.refl w.heap.size w)
  go_enter Tryz.func93, Tryz.ntmps93
  go_wp2_with fail
  go_loopg [3] 0 (fun g i wr => i = .int .i64 0 ∧ wr = w)
  case atStart => exact ⟨rfl, rfl⟩
  case round =>
    obtain ⟨rfl, rfl⟩ := hrel
    go_wp2_with fail
    go_ret
    exact ⟨rfl, HB.out⟩

set_option maxRecDepth 100000 in
theorem stillEvents_none {w : World} {p : Nat} {cs : Array Value} (hp : Has w p 61 cs) (h0 : cs[18]? = some (.slice none 0 0)) :
    Calls Tryz.prog 61 #[.pointer (some ⟨p, 0, none⟩)] w fun e w' => e = .returned (.bool true) ∧ Below w.heap.size w w' := by
  have hq : w.cell? ⟨p, 18, none⟩ = some (.slice none 0 0) := (hp.cell 18).trans h0
  have HB := Lib.hid (Below.refl w.heap.size w)
  clear hp h0
  go_enter Tryz.func61, Tryz.ntmps61
  go_wp2_with fail
  go_loopg [3] 0 (fun g i wr => i = .int .i64 0 ∧ wr = w)
  case atStart => exact ⟨rfl, rfl⟩
  case round =>
    obtain ⟨rfl, rfl⟩ := hrel
    go_wp2_with fail
    go_ret
    exact ⟨rfl, HB.out⟩

set_option maxRecDepth 100000 in
theorem putEvents_none {w : World} {p : Nat} {cs : Array Value} (hp : Has w p 61 cs) (h0 : cs[18]? = some (.slice none 0 0)) :
    Calls Tryz.prog 73 #[.pointer (some ⟨p, 0, none⟩)] w fun e w' => e = .returned (.tuple #[]) ∧ Below w.heap.size w w' := by
  have hq : w.cell? ⟨p, 18, none⟩ = some (.slice none 0 0) := (hp.cell 18).trans h0
  have HB := Lib.hid (Below.refl w.heap.size w)
  clear hp h0
  go_enter Tryz.func73, Tryz.ntmps73
  go_wp2_with fail
  go_loopg [2] 0 (fun g i wr => i = .int .i64 0 ∧ wr = w)
  case atStart => exact ⟨rfl, rfl⟩
  case round =>
    obtain ⟨rfl, rfl⟩ := hrel
    go_wp2_with fail
    go_end0
    exact ⟨rfl, HB.out⟩

set_option maxRecDepth 100000 in
theorem growEvents_none {w : World} {p : Nat} {cs : Array Value} (hp : Has w p 61 cs) (h0 : cs[18]? = some (.slice none 0 0)) :
    Calls Tryz.prog 83 #[.pointer (some ⟨p, 0, none⟩)] w fun e w' => e = .returned (.slice none 0 0) ∧ Below w.heap.size w w' := by
  have hq : w.cell? ⟨p, 18, none⟩ = some (.slice none 0 0) := (hp.cell 18).trans h0
  have HB := Lib.hid (Below.refl w.heap.size w)
  clear hp h0
  go_enter Tryz.func83, Tryz.ntmps83
  go_wp2_with fail
  go_loopg [3, 4] 0 (fun g o i wr => o = .slice none 0 0 ∧ i = .int .i64 0 ∧ wr = w)
  case atStart => exact ⟨rfl, rfl, rfl⟩
  case round =>
    obtain ⟨rfl, rfl, rfl⟩ := hrel
    go_wp2_with fail
    go_ret
    exact ⟨rfl, HB.out⟩

set_option maxRecDepth 100000 in
theorem markedEvents_none {w : World} :
    Calls Tryz.prog 94 #[.slice none 0 0] w fun e w' => e = .returned (.bool true) ∧ Below w.heap.size w w' := by
  have HB := Lib.hid (Below.refl w.heap.size w)
  go_enter Tryz.func94, Tryz.ntmps94
  go_wp2_with fail
  go_loopg [3] 0 (fun g i wr => i = .int .i64 0 ∧ wr = w)
  case atStart => exact ⟨rfl, rfl⟩
  case round =>
    obtain ⟨rfl, rfl⟩ := hrel
    go_wp2_with fail
    go_ret
    exact ⟨rfl, HB.out⟩

set_option maxRecDepth 100000 in
theorem stillSteps_none {w : World} {p : Nat} {cs : Array Value} (hp : Has w p 61 cs) (h0 : cs[20]? = some (.slice none 0 0)) :
    Calls Tryz.prog 62 #[.pointer (some ⟨p, 0, none⟩)] w fun e w' => e = .returned (.bool true) ∧ Below w.heap.size w w' := by
  have hq : w.cell? ⟨p, 20, none⟩ = some (.slice none 0 0) := (hp.cell 20).trans h0
  have HB := Lib.hid (Below.refl w.heap.size w)
  clear hp h0
  go_enter Tryz.func62, Tryz.ntmps62
  go_wp2_with fail
  go_loopg [3] 0 (fun g i wr => i = .int .i64 0 ∧ wr = w)
  case atStart => exact ⟨rfl, rfl⟩
  case round =>
    obtain ⟨rfl, rfl⟩ := hrel
    go_wp2_with fail
    go_ret
    exact ⟨rfl, HB.out⟩

set_option maxRecDepth 100000 in
theorem putSteps_none {w : World} {p : Nat} {cs : Array Value} (hp : Has w p 61 cs) (h0 : cs[20]? = some (.slice none 0 0)) :
    Calls Tryz.prog 64 #[.pointer (some ⟨p, 0, none⟩)] w fun e w' => e = .returned (.tuple #[]) ∧ Below w.heap.size w w' := by
  have hq : w.cell? ⟨p, 20, none⟩ = some (.slice none 0 0) := (hp.cell 20).trans h0
  have HB := Lib.hid (Below.refl w.heap.size w)
  clear hp h0
  go_enter Tryz.func64, Tryz.ntmps64
  go_wp2_with fail
  go_loopg [2] 0 (fun g i wr => i = .int .i64 0 ∧ wr = w)
  case atStart => exact ⟨rfl, rfl⟩
  case round =>
    obtain ⟨rfl, rfl⟩ := hrel
    go_wp2_with fail
    go_end0
    exact ⟨rfl, HB.out⟩

set_option maxRecDepth 100000 in
theorem growSteps_none {w : World} {p : Nat} {cs : Array Value} (hp : Has w p 61 cs) (h0 : cs[20]? = some (.slice none 0 0)) :
    Calls Tryz.prog 84 #[.pointer (some ⟨p, 0, none⟩)] w fun e w' => e = .returned (.slice none 0 0) ∧ Below w.heap.size w w' := by
  have hq : w.cell? ⟨p, 20, none⟩ = some (.slice none 0 0) := (hp.cell 20).trans h0
  have HB := Lib.hid (Below.refl w.heap.size w)
  clear hp h0
  go_enter Tryz.func84, Tryz.ntmps84
  go_wp2_with fail
  go_loopg [3, 4] 0 (fun g o i wr => o = .slice none 0 0 ∧ i = .int .i64 0 ∧ wr = w)
  case atStart => exact ⟨rfl, rfl, rfl⟩
  case round =>
    obtain ⟨rfl, rfl, rfl⟩ := hrel
    go_wp2_with fail
    go_ret
    exact ⟨rfl, HB.out⟩

set_option maxRecDepth 100000 in
theorem markedSteps_none {w : World} :
    Calls Tryz.prog 95 #[.slice none 0 0] w fun e w' => e = .returned (.bool true) ∧ Below w.heap.size w w' := by
  have HB := Lib.hid (Below.refl w.heap.size w)
  go_enter Tryz.func95, Tryz.ntmps95
  go_wp2_with fail
  go_loopg [3] 0 (fun g i wr => i = .int .i64 0 ∧ wr = w)
  case atStart => exact ⟨rfl, rfl⟩
  case round =>
    obtain ⟨rfl, rfl⟩ := hrel
    go_wp2_with fail
    go_ret
    exact ⟨rfl, HB.out⟩
end Go.Proofs.YtjimjemogbphaaaGreat
