/-
  What the document writes of a byte with Opost: walked. No conditions.
-/
import Derived.Test.YtjpdlnifbinloaaD0
namespace Go.Proofs.Ytjpdlnifbinloaa
open Go.RowKit

theorem rbyte_hi (o col : Int) (c : Int) (w : World) (h0 : 0 ≤ col) (h1 : col ≤ 1073741824) (h1f : has o 1 = true) (hc : (Lit.int .u8 c).wf = true) (hr : 192 ≤ c) : Calls Try.prog 15 #[.int .i64 o, .int .i64 col, .int .u8 c] w (Posts [c] (col + 1) w) := by
  obtain ⟨B, hB⟩ : ∃ B, B = w.heap.size := ⟨_, rfl⟩
  obtain ⟨W, hW⟩ : ∃ W, W = w.alloc (.cells #[.slice none 0 0, .int .i64 0] 27) := ⟨_, rfl⟩
  have HD1 : Hid (PBox W B ⟨.slice none 0 0, 0⟩) := by rw [hW, hB]; exact PBox.new ⟨.slice none 0 0, 0⟩ rfl
  have HA0 : Hid (Stay (fun _ => False) w W) := by rw [hW]; exact (Stay.refl _ _).alloc _
  have HBW : Hid (B = w.heap.size ∧ W = w.alloc (.cells #[.slice none 0 0, .int .i64 0] 27)) := ⟨hB, hW⟩
  have HF1 := hide' (flag16 o 1)
  rw [h1f] at HF1
  have HW0 := hide' hc
  have d0 : (c == 13) = false := beq_f (by omega)
  have d1 : (c == 10) = false := beq_f (by omega)
  have d2 : (c == 9) = false := beq_f (by omega)
  have d3 : (c == 8) = false := beq_f (by omega)
  have wc : IntKind.i64.wrap (col + 1) = col + 1 := by rw [IntKind.wrap_i64]; omega
  clear hB hW h1f hc
  go_enter Try.func15, Try.ntmps15
  go_upto_region 1 with fail
  obtain ⟨hB, hW⟩ := HBW.out
  rw [← hW, ← hB]
  clear hB hW
  go_wp2_with fail
  refine (HF1.out _).mono ?_
  rintro e w1 ⟨rfl, hs⟩
  have HA1 := hide' (HA0.out.trans hs)
  have HD2 := hide' (HD1.out.keep hs)
  clear hs HF1 HD1 HA0
  obtain ⟨c0, c1, f0, f1⟩ := HD2.out
  simp only at c0 c1
  have c0' : ∀ o : Obj, (w1.alloc o).cell? ⟨B, 0, none⟩ = some (.slice none 0 0) := fun o => keep_cell ((Stay.refl _ _).alloc o) c0
  have c1' : ∀ o : Obj, (w1.alloc o).cell? ⟨B, 1, none⟩ = some (.int .i64 0) := fun o => keep_cell ((Stay.refl _ _).alloc o) c1
  have f0' : ∀ o : Obj, (w1.alloc o).frozen? ⟨B, 0, none⟩ = false := fun o => keep_frozen ((Stay.refl _ _).alloc o) c0 f0
  have f1' : ∀ o : Obj, (w1.alloc o).frozen? ⟨B, 1, none⟩ = false := fun o => keep_frozen ((Stay.refl _ _).alloc o) c1 f1
  go_wp2
  have hlt := HD2.out.lt
  have hA0 : Acc w1 (w1.alloc (.cells #[.int .u8 c] 5)) (.slice (some ⟨w1.heap.size, 0, none⟩) 1 1) [c] := Acc.new w1 #[.int .u8 c] [c] 1 rfl rfl (by intro x hx; simp at hx; subst hx; exact HW0.out) (by omega)
  have hA := (hA0.older HA1.out).put (B := B) HBW.out.1.symm (fun e => by simp [Value.ownBlock] at e; omega) (.slice (some ⟨w1.heap.size, 0, none⟩) 1 1) (.int .i64 (col + 1))
  have hbox := (HD2.out.alloc (.cells #[.int .u8 c] 5)).put ⟨(.slice (some ⟨w1.heap.size, 0, none⟩) 1 1), (col + 1)⟩
  exact bodyPost_ret (results_PBox rfl _ _ B ⟨(.slice (some ⟨w1.heap.size, 0, none⟩) 1 1), (col + 1)⟩ rfl hbox) rfl ⟨_, rfl, hA⟩

theorem rbyte_mid (o col : Int) (c : Int) (w : World) (h0 : 0 ≤ col) (h1 : col ≤ 1073741824) (h1f : has o 1 = true) (hc : (Lit.int .u8 c).wf = true) (hr : 127 ≤ c) (hs : c < 192) : Calls Try.prog 15 #[.int .i64 o, .int .i64 col, .int .u8 c] w (Posts [c] col w) := by
  obtain ⟨B, hB⟩ : ∃ B, B = w.heap.size := ⟨_, rfl⟩
  obtain ⟨W, hW⟩ : ∃ W, W = w.alloc (.cells #[.slice none 0 0, .int .i64 0] 27) := ⟨_, rfl⟩
  have HD1 : Hid (PBox W B ⟨.slice none 0 0, 0⟩) := by rw [hW, hB]; exact PBox.new ⟨.slice none 0 0, 0⟩ rfl
  have HA0 : Hid (Stay (fun _ => False) w W) := by rw [hW]; exact (Stay.refl _ _).alloc _
  have HBW : Hid (B = w.heap.size ∧ W = w.alloc (.cells #[.slice none 0 0, .int .i64 0] 27)) := ⟨hB, hW⟩
  have HF1 := hide' (flag16 o 1)
  rw [h1f] at HF1
  have HW0 := hide' hc
  have d0 : (c == 13) = false := beq_f (by omega)
  have d1 : (c == 10) = false := beq_f (by omega)
  have d2 : (c == 9) = false := beq_f (by omega)
  have d3 : (c == 8) = false := beq_f (by omega)
  clear hB hW h1f hc
  go_enter Try.func15, Try.ntmps15
  go_upto_region 1 with fail
  obtain ⟨hB, hW⟩ := HBW.out
  rw [← hW, ← hB]
  clear hB hW
  go_wp2_with fail
  refine (HF1.out _).mono ?_
  rintro e w1 ⟨rfl, hs⟩
  have HA1 := hide' (HA0.out.trans hs)
  have HD2 := hide' (HD1.out.keep hs)
  clear hs HF1 HD1 HA0
  obtain ⟨c0, c1, f0, f1⟩ := HD2.out
  simp only at c0 c1
  have c0' : ∀ o : Obj, (w1.alloc o).cell? ⟨B, 0, none⟩ = some (.slice none 0 0) := fun o => keep_cell ((Stay.refl _ _).alloc o) c0
  have c1' : ∀ o : Obj, (w1.alloc o).cell? ⟨B, 1, none⟩ = some (.int .i64 0) := fun o => keep_cell ((Stay.refl _ _).alloc o) c1
  have f0' : ∀ o : Obj, (w1.alloc o).frozen? ⟨B, 0, none⟩ = false := fun o => keep_frozen ((Stay.refl _ _).alloc o) c0 f0
  have f1' : ∀ o : Obj, (w1.alloc o).frozen? ⟨B, 1, none⟩ = false := fun o => keep_frozen ((Stay.refl _ _).alloc o) c1 f1
  go_wp2
  have hlt := HD2.out.lt
  have hA0 : Acc w1 (w1.alloc (.cells #[.int .u8 c] 5)) (.slice (some ⟨w1.heap.size, 0, none⟩) 1 1) [c] := Acc.new w1 #[.int .u8 c] [c] 1 rfl rfl (by intro x hx; simp at hx; subst hx; exact HW0.out) (by omega)
  have hA := (hA0.older HA1.out).put (B := B) HBW.out.1.symm (fun e => by simp [Value.ownBlock] at e; omega) (.slice (some ⟨w1.heap.size, 0, none⟩) 1 1) (.int .i64 col)
  have hbox := (HD2.out.alloc (.cells #[.int .u8 c] 5)).put ⟨(.slice (some ⟨w1.heap.size, 0, none⟩) 1 1), col⟩
  exact bodyPost_ret (results_PBox rfl _ _ B ⟨(.slice (some ⟨w1.heap.size, 0, none⟩) 1 1), col⟩ rfl hbox) rfl ⟨_, rfl, hA⟩

theorem rbyte_plain (o col : Int) (c : Int) (w : World) (h0 : 0 ≤ col) (h1 : col ≤ 1073741824) (h1f : has o 1 = true) (hc : (Lit.int .u8 c).wf = true) (hr : 32 ≤ c) (hs : c < 127) : Calls Try.prog 15 #[.int .i64 o, .int .i64 col, .int .u8 c] w (Posts [c] (col + 1) w) := by
  obtain ⟨B, hB⟩ : ∃ B, B = w.heap.size := ⟨_, rfl⟩
  obtain ⟨W, hW⟩ : ∃ W, W = w.alloc (.cells #[.slice none 0 0, .int .i64 0] 27) := ⟨_, rfl⟩
  have HD1 : Hid (PBox W B ⟨.slice none 0 0, 0⟩) := by rw [hW, hB]; exact PBox.new ⟨.slice none 0 0, 0⟩ rfl
  have HA0 : Hid (Stay (fun _ => False) w W) := by rw [hW]; exact (Stay.refl _ _).alloc _
  have HBW : Hid (B = w.heap.size ∧ W = w.alloc (.cells #[.slice none 0 0, .int .i64 0] 27)) := ⟨hB, hW⟩
  have HF1 := hide' (flag16 o 1)
  rw [h1f] at HF1
  have HW0 := hide' hc
  have d0 : (c == 13) = false := beq_f (by omega)
  have d1 : (c == 10) = false := beq_f (by omega)
  have d2 : (c == 9) = false := beq_f (by omega)
  have d3 : (c == 8) = false := beq_f (by omega)
  have wc : IntKind.i64.wrap (col + 1) = col + 1 := by rw [IntKind.wrap_i64]; omega
  clear hB hW h1f hc
  go_enter Try.func15, Try.ntmps15
  go_upto_region 1 with fail
  obtain ⟨hB, hW⟩ := HBW.out
  rw [← hW, ← hB]
  clear hB hW
  go_wp2_with fail
  refine (HF1.out _).mono ?_
  rintro e w1 ⟨rfl, hs⟩
  have HA1 := hide' (HA0.out.trans hs)
  have HD2 := hide' (HD1.out.keep hs)
  clear hs HF1 HD1 HA0
  obtain ⟨c0, c1, f0, f1⟩ := HD2.out
  simp only at c0 c1
  have c0' : ∀ o : Obj, (w1.alloc o).cell? ⟨B, 0, none⟩ = some (.slice none 0 0) := fun o => keep_cell ((Stay.refl _ _).alloc o) c0
  have c1' : ∀ o : Obj, (w1.alloc o).cell? ⟨B, 1, none⟩ = some (.int .i64 0) := fun o => keep_cell ((Stay.refl _ _).alloc o) c1
  have f0' : ∀ o : Obj, (w1.alloc o).frozen? ⟨B, 0, none⟩ = false := fun o => keep_frozen ((Stay.refl _ _).alloc o) c0 f0
  have f1' : ∀ o : Obj, (w1.alloc o).frozen? ⟨B, 1, none⟩ = false := fun o => keep_frozen ((Stay.refl _ _).alloc o) c1 f1
  go_wp2
  have hlt := HD2.out.lt
  have hA0 : Acc w1 (w1.alloc (.cells #[.int .u8 c] 5)) (.slice (some ⟨w1.heap.size, 0, none⟩) 1 1) [c] := Acc.new w1 #[.int .u8 c] [c] 1 rfl rfl (by intro x hx; simp at hx; subst hx; exact HW0.out) (by omega)
  have hA := (hA0.older HA1.out).put (B := B) HBW.out.1.symm (fun e => by simp [Value.ownBlock] at e; omega) (.slice (some ⟨w1.heap.size, 0, none⟩) 1 1) (.int .i64 (col + 1))
  have hbox := (HD2.out.alloc (.cells #[.int .u8 c] 5)).put ⟨(.slice (some ⟨w1.heap.size, 0, none⟩) 1 1), (col + 1)⟩
  exact bodyPost_ret (results_PBox rfl _ _ B ⟨(.slice (some ⟨w1.heap.size, 0, none⟩) 1 1), (col + 1)⟩ rfl hbox) rfl ⟨_, rfl, hA⟩

theorem rbyte_low (o col : Int) (c : Int) (w : World) (h0 : 0 ≤ col) (h1 : col ≤ 1073741824) (h1f : has o 1 = true) (hc : (Lit.int .u8 c).wf = true) (hr : c < 32) (m0 : ¬ c = 13) (m1 : ¬ c = 10) (m2 : ¬ c = 9) (m3 : ¬ c = 8) : Calls Try.prog 15 #[.int .i64 o, .int .i64 col, .int .u8 c] w (Posts [c] col w) := by
  obtain ⟨B, hB⟩ : ∃ B, B = w.heap.size := ⟨_, rfl⟩
  obtain ⟨W, hW⟩ : ∃ W, W = w.alloc (.cells #[.slice none 0 0, .int .i64 0] 27) := ⟨_, rfl⟩
  have HD1 : Hid (PBox W B ⟨.slice none 0 0, 0⟩) := by rw [hW, hB]; exact PBox.new ⟨.slice none 0 0, 0⟩ rfl
  have HA0 : Hid (Stay (fun _ => False) w W) := by rw [hW]; exact (Stay.refl _ _).alloc _
  have HBW : Hid (B = w.heap.size ∧ W = w.alloc (.cells #[.slice none 0 0, .int .i64 0] 27)) := ⟨hB, hW⟩
  have HF1 := hide' (flag16 o 1)
  rw [h1f] at HF1
  have HW0 := hide' hc
  have d0 : (c == 13) = false := beq_f (by assumption)
  have d1 : (c == 10) = false := beq_f (by assumption)
  have d2 : (c == 9) = false := beq_f (by assumption)
  have d3 : (c == 8) = false := beq_f (by assumption)
  clear hB hW h1f hc m0 m1 m2 m3
  go_enter Try.func15, Try.ntmps15
  go_upto_region 1 with fail
  obtain ⟨hB, hW⟩ := HBW.out
  rw [← hW, ← hB]
  clear hB hW
  go_wp2_with fail
  refine (HF1.out _).mono ?_
  rintro e w1 ⟨rfl, hs⟩
  have HA1 := hide' (HA0.out.trans hs)
  have HD2 := hide' (HD1.out.keep hs)
  clear hs HF1 HD1 HA0
  obtain ⟨c0, c1, f0, f1⟩ := HD2.out
  simp only at c0 c1
  have c0' : ∀ o : Obj, (w1.alloc o).cell? ⟨B, 0, none⟩ = some (.slice none 0 0) := fun o => keep_cell ((Stay.refl _ _).alloc o) c0
  have c1' : ∀ o : Obj, (w1.alloc o).cell? ⟨B, 1, none⟩ = some (.int .i64 0) := fun o => keep_cell ((Stay.refl _ _).alloc o) c1
  have f0' : ∀ o : Obj, (w1.alloc o).frozen? ⟨B, 0, none⟩ = false := fun o => keep_frozen ((Stay.refl _ _).alloc o) c0 f0
  have f1' : ∀ o : Obj, (w1.alloc o).frozen? ⟨B, 1, none⟩ = false := fun o => keep_frozen ((Stay.refl _ _).alloc o) c1 f1
  go_wp2
  have hlt := HD2.out.lt
  have hA0 : Acc w1 (w1.alloc (.cells #[.int .u8 c] 5)) (.slice (some ⟨w1.heap.size, 0, none⟩) 1 1) [c] := Acc.new w1 #[.int .u8 c] [c] 1 rfl rfl (by intro x hx; simp at hx; subst hx; exact HW0.out) (by omega)
  have hA := (hA0.older HA1.out).put (B := B) HBW.out.1.symm (fun e => by simp [Value.ownBlock] at e; omega) (.slice (some ⟨w1.heap.size, 0, none⟩) 1 1) (.int .i64 col)
  have hbox := (HD2.out.alloc (.cells #[.int .u8 c] 5)).put ⟨(.slice (some ⟨w1.heap.size, 0, none⟩) 1 1), col⟩
  exact bodyPost_ret (results_PBox rfl _ _ B ⟨(.slice (some ⟨w1.heap.size, 0, none⟩) 1 1), col⟩ rfl hbox) rfl ⟨_, rfl, hA⟩

theorem rbyte_8z (o col : Int) (w : World) (h0 : 0 ≤ col) (h1 : col ≤ 1073741824) (h1f : has o 1 = true) (hz : col = 0) : Calls Try.prog 15 #[.int .i64 o, .int .i64 col, .int .u8 8] w (Posts [8] 0 w) := by
  obtain ⟨B, hB⟩ : ∃ B, B = w.heap.size := ⟨_, rfl⟩
  obtain ⟨W, hW⟩ : ∃ W, W = w.alloc (.cells #[.slice none 0 0, .int .i64 0] 27) := ⟨_, rfl⟩
  have HD1 : Hid (PBox W B ⟨.slice none 0 0, 0⟩) := by rw [hW, hB]; exact PBox.new ⟨.slice none 0 0, 0⟩ rfl
  have HA0 : Hid (Stay (fun _ => False) w W) := by rw [hW]; exact (Stay.refl _ _).alloc _
  have HBW : Hid (B = w.heap.size ∧ W = w.alloc (.cells #[.slice none 0 0, .int .i64 0] 27)) := ⟨hB, hW⟩
  have HF1 := hide' (flag16 o 1)
  rw [h1f] at HF1
  subst hz
  clear hB hW h1f
  go_enter Try.func15, Try.ntmps15
  go_upto_region 1 with fail
  obtain ⟨hB, hW⟩ := HBW.out
  rw [← hW, ← hB]
  clear hB hW
  go_wp2_with fail
  refine (HF1.out _).mono ?_
  rintro e w1 ⟨rfl, hs⟩
  have HA1 := hide' (HA0.out.trans hs)
  have HD2 := hide' (HD1.out.keep hs)
  clear hs HF1 HD1 HA0
  obtain ⟨c0, c1, f0, f1⟩ := HD2.out
  simp only at c0 c1
  have c0' : ∀ o : Obj, (w1.alloc o).cell? ⟨B, 0, none⟩ = some (.slice none 0 0) := fun o => keep_cell ((Stay.refl _ _).alloc o) c0
  have c1' : ∀ o : Obj, (w1.alloc o).cell? ⟨B, 1, none⟩ = some (.int .i64 0) := fun o => keep_cell ((Stay.refl _ _).alloc o) c1
  have f0' : ∀ o : Obj, (w1.alloc o).frozen? ⟨B, 0, none⟩ = false := fun o => keep_frozen ((Stay.refl _ _).alloc o) c0 f0
  have f1' : ∀ o : Obj, (w1.alloc o).frozen? ⟨B, 1, none⟩ = false := fun o => keep_frozen ((Stay.refl _ _).alloc o) c1 f1
  go_wp2
  have hlt := HD2.out.lt
  have hA0 : Acc w1 (w1.alloc (.cells #[.int .u8 8] 5)) (.slice (some ⟨w1.heap.size, 0, none⟩) 1 1) [8] := Acc.new w1 #[.int .u8 8] [8] 1 rfl rfl (by intro x hx; simp at hx; subst hx; decide) (by omega)
  have hA := (hA0.older HA1.out).put (B := B) HBW.out.1.symm (fun e => by simp [Value.ownBlock] at e; omega) (.slice (some ⟨w1.heap.size, 0, none⟩) 1 1) (.int .i64 0)
  have hbox := (HD2.out.alloc (.cells #[.int .u8 8] 5)).put ⟨(.slice (some ⟨w1.heap.size, 0, none⟩) 1 1), 0⟩
  exact bodyPost_ret (results_PBox rfl _ _ B ⟨(.slice (some ⟨w1.heap.size, 0, none⟩) 1 1), 0⟩ rfl hbox) rfl ⟨_, rfl, hA⟩

theorem rbyte_8s (o col : Int) (w : World) (h0 : 0 ≤ col) (h1 : col ≤ 1073741824) (h1f : has o 1 = true) (hz : 0 < col) : Calls Try.prog 15 #[.int .i64 o, .int .i64 col, .int .u8 8] w (Posts [8] (col - 1) w) := by
  obtain ⟨B, hB⟩ : ∃ B, B = w.heap.size := ⟨_, rfl⟩
  obtain ⟨W, hW⟩ : ∃ W, W = w.alloc (.cells #[.slice none 0 0, .int .i64 0] 27) := ⟨_, rfl⟩
  have HD1 : Hid (PBox W B ⟨.slice none 0 0, 0⟩) := by rw [hW, hB]; exact PBox.new ⟨.slice none 0 0, 0⟩ rfl
  have HA0 : Hid (Stay (fun _ => False) w W) := by rw [hW]; exact (Stay.refl _ _).alloc _
  have HBW : Hid (B = w.heap.size ∧ W = w.alloc (.cells #[.slice none 0 0, .int .i64 0] 27)) := ⟨hB, hW⟩
  have HF1 := hide' (flag16 o 1)
  rw [h1f] at HF1
  have wc : IntKind.i64.wrap (col - 1) = col - 1 := by rw [IntKind.wrap_i64]; omega
  clear hB hW h1f
  go_enter Try.func15, Try.ntmps15
  go_upto_region 1 with fail
  obtain ⟨hB, hW⟩ := HBW.out
  rw [← hW, ← hB]
  clear hB hW
  go_wp2_with fail
  refine (HF1.out _).mono ?_
  rintro e w1 ⟨rfl, hs⟩
  have HA1 := hide' (HA0.out.trans hs)
  have HD2 := hide' (HD1.out.keep hs)
  clear hs HF1 HD1 HA0
  obtain ⟨c0, c1, f0, f1⟩ := HD2.out
  simp only at c0 c1
  have c0' : ∀ o : Obj, (w1.alloc o).cell? ⟨B, 0, none⟩ = some (.slice none 0 0) := fun o => keep_cell ((Stay.refl _ _).alloc o) c0
  have c1' : ∀ o : Obj, (w1.alloc o).cell? ⟨B, 1, none⟩ = some (.int .i64 0) := fun o => keep_cell ((Stay.refl _ _).alloc o) c1
  have f0' : ∀ o : Obj, (w1.alloc o).frozen? ⟨B, 0, none⟩ = false := fun o => keep_frozen ((Stay.refl _ _).alloc o) c0 f0
  have f1' : ∀ o : Obj, (w1.alloc o).frozen? ⟨B, 1, none⟩ = false := fun o => keep_frozen ((Stay.refl _ _).alloc o) c1 f1
  go_wp2
  have hlt := HD2.out.lt
  have hA0 : Acc w1 (w1.alloc (.cells #[.int .u8 8] 5)) (.slice (some ⟨w1.heap.size, 0, none⟩) 1 1) [8] := Acc.new w1 #[.int .u8 8] [8] 1 rfl rfl (by intro x hx; simp at hx; subst hx; decide) (by omega)
  have hA := (hA0.older HA1.out).put (B := B) HBW.out.1.symm (fun e => by simp [Value.ownBlock] at e; omega) (.slice (some ⟨w1.heap.size, 0, none⟩) 1 1) (.int .i64 (col - 1))
  have hbox := (HD2.out.alloc (.cells #[.int .u8 8] 5)).put ⟨(.slice (some ⟨w1.heap.size, 0, none⟩) 1 1), (col - 1)⟩
  exact bodyPost_ret (results_PBox rfl _ _ B ⟨(.slice (some ⟨w1.heap.size, 0, none⟩) 1 1), (col - 1)⟩ rfl hbox) rfl ⟨_, rfl, hA⟩

theorem rbyte_9t (o col : Int) (nx : Int) (w : World) (h0 : 0 ≤ col) (h1 : col ≤ 1073741824) (hnx : nx = col + 8 - col % 8) (h1f : has o 1 = true) (g32 : has o 32 = true) : Calls Try.prog 15 #[.int .i64 o, .int .i64 col, .int .u8 9] w (Posts [] nx w) := by
  obtain ⟨B, hB⟩ : ∃ B, B = w.heap.size := ⟨_, rfl⟩
  obtain ⟨W, hW⟩ : ∃ W, W = w.alloc (.cells #[.slice none 0 0, .int .i64 0] 27) := ⟨_, rfl⟩
  have HD1 : Hid (PBox W B ⟨.slice none 0 0, 0⟩) := by rw [hW, hB]; exact PBox.new ⟨.slice none 0 0, 0⟩ rfl
  have HA0 : Hid (Stay (fun _ => False) w W) := by rw [hW]; exact (Stay.refl _ _).alloc _
  have HBW : Hid (B = w.heap.size ∧ W = w.alloc (.cells #[.slice none 0 0, .int .i64 0] 27)) := ⟨hB, hW⟩
  have HF1 := hide' (flag16 o 1)
  rw [h1f] at HF1
  have HF32 := hide' (flag16 o 32)
  rw [g32] at HF32
  have tq : IntKind.i64.wrap (col.tdiv 8) = col / 8 := by rw [IntKind.wrap_i64, Int.tdiv_eq_ediv_of_nonneg h0]; omega
  obtain ⟨u, hu⟩ : ∃ u, u = col / 8 := ⟨_, rfl⟩
  rw [← hu] at tq
  have ta : IntKind.i64.wrap (u + 1) = u + 1 := by rw [IntKind.wrap_i64]; omega
  have tm : IntKind.i64.wrap ((u + 1) * 8) = nx := by rw [IntKind.wrap_i64]; omega
  clear hu hnx
  have hmk : ∀ w : World, (Instr.makeSlice 22 (.int .i64 0) (.int .i64 0)).run Try.prog w = .ok (.slice (some ⟨w.heap.size, 0, none⟩) 0 0) (w.alloc (.cells #[] 5)) := fun w => by
    have h := run_make_row' (P := Try.prog) 22 5 (.int .u8 0) 1 Try.underlying22 infoB rfl .i64 .i64 0 (by omega) (by omega) w
    rwa [show madeCells #[Value.int .u8 0] 0 = #[] from by first | rfl | simp [madeCells] | (apply Array.ext'; simp [madeCells])] at h
  clear hB hW h1f g32
  go_enter Try.func15, Try.ntmps15
  go_upto_region 1 with fail
  obtain ⟨hB, hW⟩ := HBW.out
  rw [← hW, ← hB]
  clear hB hW
  go_wp2_with fail
  refine (HF1.out _).mono ?_
  rintro e w1 ⟨rfl, hs⟩
  have HA1 := hide' (HA0.out.trans hs)
  have HD2 := hide' (HD1.out.keep hs)
  clear hs HF1 HD1 HA0
  go_wp2_with fail
  refine (HF32.out _).mono ?_
  rintro e w2 ⟨rfl, hs⟩
  have HA2 := hide' (HA1.out.trans hs)
  have HD3 := hide' (HD2.out.keep hs)
  clear hs HF32 HD2 HA1
  obtain ⟨c0, c1, f0, f1⟩ := HD3.out
  simp only at c0 c1
  have c0' : ∀ o : Obj, (w2.alloc o).cell? ⟨B, 0, none⟩ = some (.slice none 0 0) := fun o => keep_cell ((Stay.refl _ _).alloc o) c0
  have c1' : ∀ o : Obj, (w2.alloc o).cell? ⟨B, 1, none⟩ = some (.int .i64 0) := fun o => keep_cell ((Stay.refl _ _).alloc o) c1
  have f0' : ∀ o : Obj, (w2.alloc o).frozen? ⟨B, 0, none⟩ = false := fun o => keep_frozen ((Stay.refl _ _).alloc o) c0 f0
  have f1' : ∀ o : Obj, (w2.alloc o).frozen? ⟨B, 1, none⟩ = false := fun o => keep_frozen ((Stay.refl _ _).alloc o) c1 f1
  go_wp2
  have hlt := HD3.out.lt
  have hA0 : Acc w2 (w2.alloc (.cells #[] 5)) (.slice (some ⟨w2.heap.size, 0, none⟩) 0 0) [] := Acc.new w2 #[] [] 0 rfl rfl (by intro x hx; simp at hx) (by omega)
  have hA := (hA0.older HA2.out).put (B := B) HBW.out.1.symm (fun e => by simp [Value.ownBlock] at e; omega) (.slice (some ⟨w2.heap.size, 0, none⟩) 0 0) (.int .i64 nx)
  have hbox := (HD3.out.alloc (.cells #[] 5)).put ⟨(.slice (some ⟨w2.heap.size, 0, none⟩) 0 0), nx⟩
  exact bodyPost_ret (results_PBox rfl _ _ B ⟨(.slice (some ⟨w2.heap.size, 0, none⟩) 0 0), nx⟩ rfl hbox) rfl ⟨_, rfl, hA⟩

theorem rbyte_9f (o col : Int) (nx : Int) (w : World) (h0 : 0 ≤ col) (h1 : col ≤ 1073741824) (hnx : nx = col + 8 - col % 8) (h1f : has o 1 = true) (g32 : has o 32 = false) : Calls Try.prog 15 #[.int .i64 o, .int .i64 col, .int .u8 9] w (Posts [9] nx w) := by
  obtain ⟨B, hB⟩ : ∃ B, B = w.heap.size := ⟨_, rfl⟩
  obtain ⟨W, hW⟩ : ∃ W, W = w.alloc (.cells #[.slice none 0 0, .int .i64 0] 27) := ⟨_, rfl⟩
  have HD1 : Hid (PBox W B ⟨.slice none 0 0, 0⟩) := by rw [hW, hB]; exact PBox.new ⟨.slice none 0 0, 0⟩ rfl
  have HA0 : Hid (Stay (fun _ => False) w W) := by rw [hW]; exact (Stay.refl _ _).alloc _
  have HBW : Hid (B = w.heap.size ∧ W = w.alloc (.cells #[.slice none 0 0, .int .i64 0] 27)) := ⟨hB, hW⟩
  have HF1 := hide' (flag16 o 1)
  rw [h1f] at HF1
  have HF32 := hide' (flag16 o 32)
  rw [g32] at HF32
  have tq : IntKind.i64.wrap (col.tdiv 8) = col / 8 := by rw [IntKind.wrap_i64, Int.tdiv_eq_ediv_of_nonneg h0]; omega
  obtain ⟨u, hu⟩ : ∃ u, u = col / 8 := ⟨_, rfl⟩
  rw [← hu] at tq
  have ta : IntKind.i64.wrap (u + 1) = u + 1 := by rw [IntKind.wrap_i64]; omega
  have tm : IntKind.i64.wrap ((u + 1) * 8) = nx := by rw [IntKind.wrap_i64]; omega
  clear hu hnx
  clear hB hW h1f g32
  go_enter Try.func15, Try.ntmps15
  go_upto_region 1 with fail
  obtain ⟨hB, hW⟩ := HBW.out
  rw [← hW, ← hB]
  clear hB hW
  go_wp2_with fail
  refine (HF1.out _).mono ?_
  rintro e w1 ⟨rfl, hs⟩
  have HA1 := hide' (HA0.out.trans hs)
  have HD2 := hide' (HD1.out.keep hs)
  clear hs HF1 HD1 HA0
  go_wp2_with fail
  refine (HF32.out _).mono ?_
  rintro e w2 ⟨rfl, hs⟩
  have HA2 := hide' (HA1.out.trans hs)
  have HD3 := hide' (HD2.out.keep hs)
  clear hs HF32 HD2 HA1
  obtain ⟨c0, c1, f0, f1⟩ := HD3.out
  simp only at c0 c1
  have c0' : ∀ o : Obj, (w2.alloc o).cell? ⟨B, 0, none⟩ = some (.slice none 0 0) := fun o => keep_cell ((Stay.refl _ _).alloc o) c0
  have c1' : ∀ o : Obj, (w2.alloc o).cell? ⟨B, 1, none⟩ = some (.int .i64 0) := fun o => keep_cell ((Stay.refl _ _).alloc o) c1
  have f0' : ∀ o : Obj, (w2.alloc o).frozen? ⟨B, 0, none⟩ = false := fun o => keep_frozen ((Stay.refl _ _).alloc o) c0 f0
  have f1' : ∀ o : Obj, (w2.alloc o).frozen? ⟨B, 1, none⟩ = false := fun o => keep_frozen ((Stay.refl _ _).alloc o) c1 f1
  go_wp2
  have hlt := HD3.out.lt
  have hA0 : Acc w2 (w2.alloc (.cells #[.int .u8 9] 5)) (.slice (some ⟨w2.heap.size, 0, none⟩) 1 1) [9] := Acc.new w2 #[.int .u8 9] [9] 1 rfl rfl (by intro x hx; simp at hx; subst hx; decide) (by omega)
  have hA := (hA0.older HA2.out).put (B := B) HBW.out.1.symm (fun e => by simp [Value.ownBlock] at e; omega) (.slice (some ⟨w2.heap.size, 0, none⟩) 1 1) (.int .i64 nx)
  have hbox := (HD3.out.alloc (.cells #[.int .u8 9] 5)).put ⟨(.slice (some ⟨w2.heap.size, 0, none⟩) 1 1), nx⟩
  exact bodyPost_ret (results_PBox rfl _ _ B ⟨(.slice (some ⟨w2.heap.size, 0, none⟩) 1 1), nx⟩ rfl hbox) rfl ⟨_, rfl, hA⟩

theorem rbyte_10n (o col : Int) (w : World) (h0 : 0 ≤ col) (h1 : col ≤ 1073741824) (h1f : has o 1 = true) (g2 : has o 2 = true) : Calls Try.prog 15 #[.int .i64 o, .int .i64 col, .int .u8 10] w (Posts [13, 10] 0 w) := by
  obtain ⟨B, hB⟩ : ∃ B, B = w.heap.size := ⟨_, rfl⟩
  obtain ⟨W, hW⟩ : ∃ W, W = w.alloc (.cells #[.slice none 0 0, .int .i64 0] 27) := ⟨_, rfl⟩
  have HD1 : Hid (PBox W B ⟨.slice none 0 0, 0⟩) := by rw [hW, hB]; exact PBox.new ⟨.slice none 0 0, 0⟩ rfl
  have HA0 : Hid (Stay (fun _ => False) w W) := by rw [hW]; exact (Stay.refl _ _).alloc _
  have HBW : Hid (B = w.heap.size ∧ W = w.alloc (.cells #[.slice none 0 0, .int .i64 0] 27)) := ⟨hB, hW⟩
  have HF1 := hide' (flag16 o 1)
  rw [h1f] at HF1
  have HF2 := hide' (flag16 o 2)
  rw [g2] at HF2
  clear hB hW h1f g2
  go_enter Try.func15, Try.ntmps15
  go_upto_region 1 with fail
  obtain ⟨hB, hW⟩ := HBW.out
  rw [← hW, ← hB]
  clear hB hW
  go_wp2_with fail
  refine (HF1.out _).mono ?_
  rintro e w1 ⟨rfl, hs⟩
  have HA1 := hide' (HA0.out.trans hs)
  have HD2 := hide' (HD1.out.keep hs)
  clear hs HF1 HD1 HA0
  go_wp2_with fail
  refine (HF2.out _).mono ?_
  rintro e w2 ⟨rfl, hs⟩
  have HA2 := hide' (HA1.out.trans hs)
  have HD3 := hide' (HD2.out.keep hs)
  clear hs HF2 HD2 HA1
  obtain ⟨c0, c1, f0, f1⟩ := HD3.out
  simp only at c0 c1
  have c0' : ∀ o : Obj, (w2.alloc o).cell? ⟨B, 0, none⟩ = some (.slice none 0 0) := fun o => keep_cell ((Stay.refl _ _).alloc o) c0
  have c1' : ∀ o : Obj, (w2.alloc o).cell? ⟨B, 1, none⟩ = some (.int .i64 0) := fun o => keep_cell ((Stay.refl _ _).alloc o) c1
  have f0' : ∀ o : Obj, (w2.alloc o).frozen? ⟨B, 0, none⟩ = false := fun o => keep_frozen ((Stay.refl _ _).alloc o) c0 f0
  have f1' : ∀ o : Obj, (w2.alloc o).frozen? ⟨B, 1, none⟩ = false := fun o => keep_frozen ((Stay.refl _ _).alloc o) c1 f1
  go_wp2
  have hlt := HD3.out.lt
  have hA0 : Acc w2 (w2.alloc (.cells #[.int .u8 13, .int .u8 10] 5)) (.slice (some ⟨w2.heap.size, 0, none⟩) 2 2) [13, 10] := Acc.new w2 #[.int .u8 13, .int .u8 10] [13, 10] 2 rfl rfl (by intro x hx; simp at hx; rcases hx with rfl | rfl <;> decide) (by omega)
  have hA := (hA0.older HA2.out).put (B := B) HBW.out.1.symm (fun e => by simp [Value.ownBlock] at e; omega) (.slice (some ⟨w2.heap.size, 0, none⟩) 2 2) (.int .i64 0)
  have hbox := (HD3.out.alloc (.cells #[.int .u8 13, .int .u8 10] 5)).put ⟨(.slice (some ⟨w2.heap.size, 0, none⟩) 2 2), 0⟩
  exact bodyPost_ret (results_PBox rfl _ _ B ⟨(.slice (some ⟨w2.heap.size, 0, none⟩) 2 2), 0⟩ rfl hbox) rfl ⟨_, rfl, hA⟩

theorem rbyte_10r (o col : Int) (w : World) (h0 : 0 ≤ col) (h1 : col ≤ 1073741824) (h1f : has o 1 = true) (g2 : has o 2 = false) (g16 : has o 16 = true) : Calls Try.prog 15 #[.int .i64 o, .int .i64 col, .int .u8 10] w (Posts [10] 0 w) := by
  obtain ⟨B, hB⟩ : ∃ B, B = w.heap.size := ⟨_, rfl⟩
  obtain ⟨W, hW⟩ : ∃ W, W = w.alloc (.cells #[.slice none 0 0, .int .i64 0] 27) := ⟨_, rfl⟩
  have HD1 : Hid (PBox W B ⟨.slice none 0 0, 0⟩) := by rw [hW, hB]; exact PBox.new ⟨.slice none 0 0, 0⟩ rfl
  have HA0 : Hid (Stay (fun _ => False) w W) := by rw [hW]; exact (Stay.refl _ _).alloc _
  have HBW : Hid (B = w.heap.size ∧ W = w.alloc (.cells #[.slice none 0 0, .int .i64 0] 27)) := ⟨hB, hW⟩
  have HF1 := hide' (flag16 o 1)
  rw [h1f] at HF1
  have HF2 := hide' (flag16 o 2)
  rw [g2] at HF2
  have HF16 := hide' (flag16 o 16)
  rw [g16] at HF16
  clear hB hW h1f g2 g16
  go_enter Try.func15, Try.ntmps15
  go_upto_region 1 with fail
  obtain ⟨hB, hW⟩ := HBW.out
  rw [← hW, ← hB]
  clear hB hW
  go_wp2_with fail
  refine (HF1.out _).mono ?_
  rintro e w1 ⟨rfl, hs⟩
  have HA1 := hide' (HA0.out.trans hs)
  have HD2 := hide' (HD1.out.keep hs)
  clear hs HF1 HD1 HA0
  go_wp2_with fail
  refine (HF2.out _).mono ?_
  rintro e w2 ⟨rfl, hs⟩
  have HA2 := hide' (HA1.out.trans hs)
  have HD3 := hide' (HD2.out.keep hs)
  clear hs HF2 HD2 HA1
  go_wp2_with fail
  refine (HF16.out _).mono ?_
  rintro e w3 ⟨rfl, hs⟩
  have HA3 := hide' (HA2.out.trans hs)
  have HD4 := hide' (HD3.out.keep hs)
  clear hs HF16 HD3 HA2
  obtain ⟨c0, c1, f0, f1⟩ := HD4.out
  simp only at c0 c1
  have c0' : ∀ o : Obj, (w3.alloc o).cell? ⟨B, 0, none⟩ = some (.slice none 0 0) := fun o => keep_cell ((Stay.refl _ _).alloc o) c0
  have c1' : ∀ o : Obj, (w3.alloc o).cell? ⟨B, 1, none⟩ = some (.int .i64 0) := fun o => keep_cell ((Stay.refl _ _).alloc o) c1
  have f0' : ∀ o : Obj, (w3.alloc o).frozen? ⟨B, 0, none⟩ = false := fun o => keep_frozen ((Stay.refl _ _).alloc o) c0 f0
  have f1' : ∀ o : Obj, (w3.alloc o).frozen? ⟨B, 1, none⟩ = false := fun o => keep_frozen ((Stay.refl _ _).alloc o) c1 f1
  go_wp2
  have hlt := HD4.out.lt
  have hA0 : Acc w3 (w3.alloc (.cells #[.int .u8 10] 5)) (.slice (some ⟨w3.heap.size, 0, none⟩) 1 1) [10] := Acc.new w3 #[.int .u8 10] [10] 1 rfl rfl (by intro x hx; simp at hx; subst hx; decide) (by omega)
  have hA := (hA0.older HA3.out).put (B := B) HBW.out.1.symm (fun e => by simp [Value.ownBlock] at e; omega) (.slice (some ⟨w3.heap.size, 0, none⟩) 1 1) (.int .i64 0)
  have hbox := (HD4.out.alloc (.cells #[.int .u8 10] 5)).put ⟨(.slice (some ⟨w3.heap.size, 0, none⟩) 1 1), 0⟩
  exact bodyPost_ret (results_PBox rfl _ _ B ⟨(.slice (some ⟨w3.heap.size, 0, none⟩) 1 1), 0⟩ rfl hbox) rfl ⟨_, rfl, hA⟩

theorem rbyte_10k (o col : Int) (w : World) (h0 : 0 ≤ col) (h1 : col ≤ 1073741824) (h1f : has o 1 = true) (g2 : has o 2 = false) (g16 : has o 16 = false) : Calls Try.prog 15 #[.int .i64 o, .int .i64 col, .int .u8 10] w (Posts [10] col w) := by
  obtain ⟨B, hB⟩ : ∃ B, B = w.heap.size := ⟨_, rfl⟩
  obtain ⟨W, hW⟩ : ∃ W, W = w.alloc (.cells #[.slice none 0 0, .int .i64 0] 27) := ⟨_, rfl⟩
  have HD1 : Hid (PBox W B ⟨.slice none 0 0, 0⟩) := by rw [hW, hB]; exact PBox.new ⟨.slice none 0 0, 0⟩ rfl
  have HA0 : Hid (Stay (fun _ => False) w W) := by rw [hW]; exact (Stay.refl _ _).alloc _
  have HBW : Hid (B = w.heap.size ∧ W = w.alloc (.cells #[.slice none 0 0, .int .i64 0] 27)) := ⟨hB, hW⟩
  have HF1 := hide' (flag16 o 1)
  rw [h1f] at HF1
  have HF2 := hide' (flag16 o 2)
  rw [g2] at HF2
  have HF16 := hide' (flag16 o 16)
  rw [g16] at HF16
  clear hB hW h1f g2 g16
  go_enter Try.func15, Try.ntmps15
  go_upto_region 1 with fail
  obtain ⟨hB, hW⟩ := HBW.out
  rw [← hW, ← hB]
  clear hB hW
  go_wp2_with fail
  refine (HF1.out _).mono ?_
  rintro e w1 ⟨rfl, hs⟩
  have HA1 := hide' (HA0.out.trans hs)
  have HD2 := hide' (HD1.out.keep hs)
  clear hs HF1 HD1 HA0
  go_wp2_with fail
  refine (HF2.out _).mono ?_
  rintro e w2 ⟨rfl, hs⟩
  have HA2 := hide' (HA1.out.trans hs)
  have HD3 := hide' (HD2.out.keep hs)
  clear hs HF2 HD2 HA1
  go_wp2_with fail
  refine (HF16.out _).mono ?_
  rintro e w3 ⟨rfl, hs⟩
  have HA3 := hide' (HA2.out.trans hs)
  have HD4 := hide' (HD3.out.keep hs)
  clear hs HF16 HD3 HA2
  obtain ⟨c0, c1, f0, f1⟩ := HD4.out
  simp only at c0 c1
  have c0' : ∀ o : Obj, (w3.alloc o).cell? ⟨B, 0, none⟩ = some (.slice none 0 0) := fun o => keep_cell ((Stay.refl _ _).alloc o) c0
  have c1' : ∀ o : Obj, (w3.alloc o).cell? ⟨B, 1, none⟩ = some (.int .i64 0) := fun o => keep_cell ((Stay.refl _ _).alloc o) c1
  have f0' : ∀ o : Obj, (w3.alloc o).frozen? ⟨B, 0, none⟩ = false := fun o => keep_frozen ((Stay.refl _ _).alloc o) c0 f0
  have f1' : ∀ o : Obj, (w3.alloc o).frozen? ⟨B, 1, none⟩ = false := fun o => keep_frozen ((Stay.refl _ _).alloc o) c1 f1
  go_wp2
  have hlt := HD4.out.lt
  have hA0 : Acc w3 (w3.alloc (.cells #[.int .u8 10] 5)) (.slice (some ⟨w3.heap.size, 0, none⟩) 1 1) [10] := Acc.new w3 #[.int .u8 10] [10] 1 rfl rfl (by intro x hx; simp at hx; subst hx; decide) (by omega)
  have hA := (hA0.older HA3.out).put (B := B) HBW.out.1.symm (fun e => by simp [Value.ownBlock] at e; omega) (.slice (some ⟨w3.heap.size, 0, none⟩) 1 1) (.int .i64 col)
  have hbox := (HD4.out.alloc (.cells #[.int .u8 10] 5)).put ⟨(.slice (some ⟨w3.heap.size, 0, none⟩) 1 1), col⟩
  exact bodyPost_ret (results_PBox rfl _ _ B ⟨(.slice (some ⟨w3.heap.size, 0, none⟩) 1 1), col⟩ rfl hbox) rfl ⟨_, rfl, hA⟩

theorem rbyte_13n (o col : Int) (w : World) (h0 : 0 ≤ col) (h1 : col ≤ 1073741824) (h1f : has o 1 = true) (g4 : has o 4 = true) (g2 : has o 2 = true) : Calls Try.prog 15 #[.int .i64 o, .int .i64 col, .int .u8 13] w (Posts [13, 10] 0 w) := by
  obtain ⟨B, hB⟩ : ∃ B, B = w.heap.size := ⟨_, rfl⟩
  obtain ⟨W, hW⟩ : ∃ W, W = w.alloc (.cells #[.slice none 0 0, .int .i64 0] 27) := ⟨_, rfl⟩
  have HD1 : Hid (PBox W B ⟨.slice none 0 0, 0⟩) := by rw [hW, hB]; exact PBox.new ⟨.slice none 0 0, 0⟩ rfl
  have HA0 : Hid (Stay (fun _ => False) w W) := by rw [hW]; exact (Stay.refl _ _).alloc _
  have HBW : Hid (B = w.heap.size ∧ W = w.alloc (.cells #[.slice none 0 0, .int .i64 0] 27)) := ⟨hB, hW⟩
  have HF1 := hide' (flag16 o 1)
  rw [h1f] at HF1
  have HF4 := hide' (flag16 o 4)
  rw [g4] at HF4
  have HF2 := hide' (flag16 o 2)
  rw [g2] at HF2
  clear hB hW h1f g4 g2
  go_enter Try.func15, Try.ntmps15
  go_upto_region 1 with fail
  obtain ⟨hB, hW⟩ := HBW.out
  rw [← hW, ← hB]
  clear hB hW
  go_wp2_with fail
  refine (HF1.out _).mono ?_
  rintro e w1 ⟨rfl, hs⟩
  have HA1 := hide' (HA0.out.trans hs)
  have HD2 := hide' (HD1.out.keep hs)
  clear hs HF1 HD1 HA0
  go_wp2_with fail
  refine (HF4.out _).mono ?_
  rintro e w2 ⟨rfl, hs⟩
  have HA2 := hide' (HA1.out.trans hs)
  have HD3 := hide' (HD2.out.keep hs)
  clear hs HF4 HD2 HA1
  go_wp2_with fail
  refine (HF2.out _).mono ?_
  rintro e w3 ⟨rfl, hs⟩
  have HA3 := hide' (HA2.out.trans hs)
  have HD4 := hide' (HD3.out.keep hs)
  clear hs HF2 HD3 HA2
  obtain ⟨c0, c1, f0, f1⟩ := HD4.out
  simp only at c0 c1
  have c0' : ∀ o : Obj, (w3.alloc o).cell? ⟨B, 0, none⟩ = some (.slice none 0 0) := fun o => keep_cell ((Stay.refl _ _).alloc o) c0
  have c1' : ∀ o : Obj, (w3.alloc o).cell? ⟨B, 1, none⟩ = some (.int .i64 0) := fun o => keep_cell ((Stay.refl _ _).alloc o) c1
  have f0' : ∀ o : Obj, (w3.alloc o).frozen? ⟨B, 0, none⟩ = false := fun o => keep_frozen ((Stay.refl _ _).alloc o) c0 f0
  have f1' : ∀ o : Obj, (w3.alloc o).frozen? ⟨B, 1, none⟩ = false := fun o => keep_frozen ((Stay.refl _ _).alloc o) c1 f1
  go_wp2
  have hlt := HD4.out.lt
  have hA0 : Acc w3 (w3.alloc (.cells #[.int .u8 13, .int .u8 10] 5)) (.slice (some ⟨w3.heap.size, 0, none⟩) 2 2) [13, 10] := Acc.new w3 #[.int .u8 13, .int .u8 10] [13, 10] 2 rfl rfl (by intro x hx; simp at hx; rcases hx with rfl | rfl <;> decide) (by omega)
  have hA := (hA0.older HA3.out).put (B := B) HBW.out.1.symm (fun e => by simp [Value.ownBlock] at e; omega) (.slice (some ⟨w3.heap.size, 0, none⟩) 2 2) (.int .i64 0)
  have hbox := (HD4.out.alloc (.cells #[.int .u8 13, .int .u8 10] 5)).put ⟨(.slice (some ⟨w3.heap.size, 0, none⟩) 2 2), 0⟩
  exact bodyPost_ret (results_PBox rfl _ _ B ⟨(.slice (some ⟨w3.heap.size, 0, none⟩) 2 2), 0⟩ rfl hbox) rfl ⟨_, rfl, hA⟩

theorem rbyte_13r (o col : Int) (w : World) (h0 : 0 ≤ col) (h1 : col ≤ 1073741824) (h1f : has o 1 = true) (g4 : has o 4 = true) (g2 : has o 2 = false) (g16 : has o 16 = true) : Calls Try.prog 15 #[.int .i64 o, .int .i64 col, .int .u8 13] w (Posts [10] 0 w) := by
  obtain ⟨B, hB⟩ : ∃ B, B = w.heap.size := ⟨_, rfl⟩
  obtain ⟨W, hW⟩ : ∃ W, W = w.alloc (.cells #[.slice none 0 0, .int .i64 0] 27) := ⟨_, rfl⟩
  have HD1 : Hid (PBox W B ⟨.slice none 0 0, 0⟩) := by rw [hW, hB]; exact PBox.new ⟨.slice none 0 0, 0⟩ rfl
  have HA0 : Hid (Stay (fun _ => False) w W) := by rw [hW]; exact (Stay.refl _ _).alloc _
  have HBW : Hid (B = w.heap.size ∧ W = w.alloc (.cells #[.slice none 0 0, .int .i64 0] 27)) := ⟨hB, hW⟩
  have HF1 := hide' (flag16 o 1)
  rw [h1f] at HF1
  have HF4 := hide' (flag16 o 4)
  rw [g4] at HF4
  have HF2 := hide' (flag16 o 2)
  rw [g2] at HF2
  have HF16 := hide' (flag16 o 16)
  rw [g16] at HF16
  clear hB hW h1f g4 g2 g16
  go_enter Try.func15, Try.ntmps15
  go_upto_region 1 with fail
  obtain ⟨hB, hW⟩ := HBW.out
  rw [← hW, ← hB]
  clear hB hW
  go_wp2_with fail
  refine (HF1.out _).mono ?_
  rintro e w1 ⟨rfl, hs⟩
  have HA1 := hide' (HA0.out.trans hs)
  have HD2 := hide' (HD1.out.keep hs)
  clear hs HF1 HD1 HA0
  go_wp2_with fail
  refine (HF4.out _).mono ?_
  rintro e w2 ⟨rfl, hs⟩
  have HA2 := hide' (HA1.out.trans hs)
  have HD3 := hide' (HD2.out.keep hs)
  clear hs HF4 HD2 HA1
  go_wp2_with fail
  refine (HF2.out _).mono ?_
  rintro e w3 ⟨rfl, hs⟩
  have HA3 := hide' (HA2.out.trans hs)
  have HD4 := hide' (HD3.out.keep hs)
  clear hs HF2 HD3 HA2
  go_wp2_with fail
  refine (HF16.out _).mono ?_
  rintro e w4 ⟨rfl, hs⟩
  have HA4 := hide' (HA3.out.trans hs)
  have HD5 := hide' (HD4.out.keep hs)
  clear hs HF16 HD4 HA3
  obtain ⟨c0, c1, f0, f1⟩ := HD5.out
  simp only at c0 c1
  have c0' : ∀ o : Obj, (w4.alloc o).cell? ⟨B, 0, none⟩ = some (.slice none 0 0) := fun o => keep_cell ((Stay.refl _ _).alloc o) c0
  have c1' : ∀ o : Obj, (w4.alloc o).cell? ⟨B, 1, none⟩ = some (.int .i64 0) := fun o => keep_cell ((Stay.refl _ _).alloc o) c1
  have f0' : ∀ o : Obj, (w4.alloc o).frozen? ⟨B, 0, none⟩ = false := fun o => keep_frozen ((Stay.refl _ _).alloc o) c0 f0
  have f1' : ∀ o : Obj, (w4.alloc o).frozen? ⟨B, 1, none⟩ = false := fun o => keep_frozen ((Stay.refl _ _).alloc o) c1 f1
  go_wp2
  have hlt := HD5.out.lt
  have hA0 : Acc w4 (w4.alloc (.cells #[.int .u8 10] 5)) (.slice (some ⟨w4.heap.size, 0, none⟩) 1 1) [10] := Acc.new w4 #[.int .u8 10] [10] 1 rfl rfl (by intro x hx; simp at hx; subst hx; decide) (by omega)
  have hA := (hA0.older HA4.out).put (B := B) HBW.out.1.symm (fun e => by simp [Value.ownBlock] at e; omega) (.slice (some ⟨w4.heap.size, 0, none⟩) 1 1) (.int .i64 0)
  have hbox := (HD5.out.alloc (.cells #[.int .u8 10] 5)).put ⟨(.slice (some ⟨w4.heap.size, 0, none⟩) 1 1), 0⟩
  exact bodyPost_ret (results_PBox rfl _ _ B ⟨(.slice (some ⟨w4.heap.size, 0, none⟩) 1 1), 0⟩ rfl hbox) rfl ⟨_, rfl, hA⟩

theorem rbyte_13k (o col : Int) (w : World) (h0 : 0 ≤ col) (h1 : col ≤ 1073741824) (h1f : has o 1 = true) (g4 : has o 4 = true) (g2 : has o 2 = false) (g16 : has o 16 = false) : Calls Try.prog 15 #[.int .i64 o, .int .i64 col, .int .u8 13] w (Posts [10] col w) := by
  obtain ⟨B, hB⟩ : ∃ B, B = w.heap.size := ⟨_, rfl⟩
  obtain ⟨W, hW⟩ : ∃ W, W = w.alloc (.cells #[.slice none 0 0, .int .i64 0] 27) := ⟨_, rfl⟩
  have HD1 : Hid (PBox W B ⟨.slice none 0 0, 0⟩) := by rw [hW, hB]; exact PBox.new ⟨.slice none 0 0, 0⟩ rfl
  have HA0 : Hid (Stay (fun _ => False) w W) := by rw [hW]; exact (Stay.refl _ _).alloc _
  have HBW : Hid (B = w.heap.size ∧ W = w.alloc (.cells #[.slice none 0 0, .int .i64 0] 27)) := ⟨hB, hW⟩
  have HF1 := hide' (flag16 o 1)
  rw [h1f] at HF1
  have HF4 := hide' (flag16 o 4)
  rw [g4] at HF4
  have HF2 := hide' (flag16 o 2)
  rw [g2] at HF2
  have HF16 := hide' (flag16 o 16)
  rw [g16] at HF16
  clear hB hW h1f g4 g2 g16
  go_enter Try.func15, Try.ntmps15
  go_upto_region 1 with fail
  obtain ⟨hB, hW⟩ := HBW.out
  rw [← hW, ← hB]
  clear hB hW
  go_wp2_with fail
  refine (HF1.out _).mono ?_
  rintro e w1 ⟨rfl, hs⟩
  have HA1 := hide' (HA0.out.trans hs)
  have HD2 := hide' (HD1.out.keep hs)
  clear hs HF1 HD1 HA0
  go_wp2_with fail
  refine (HF4.out _).mono ?_
  rintro e w2 ⟨rfl, hs⟩
  have HA2 := hide' (HA1.out.trans hs)
  have HD3 := hide' (HD2.out.keep hs)
  clear hs HF4 HD2 HA1
  go_wp2_with fail
  refine (HF2.out _).mono ?_
  rintro e w3 ⟨rfl, hs⟩
  have HA3 := hide' (HA2.out.trans hs)
  have HD4 := hide' (HD3.out.keep hs)
  clear hs HF2 HD3 HA2
  go_wp2_with fail
  refine (HF16.out _).mono ?_
  rintro e w4 ⟨rfl, hs⟩
  have HA4 := hide' (HA3.out.trans hs)
  have HD5 := hide' (HD4.out.keep hs)
  clear hs HF16 HD4 HA3
  obtain ⟨c0, c1, f0, f1⟩ := HD5.out
  simp only at c0 c1
  have c0' : ∀ o : Obj, (w4.alloc o).cell? ⟨B, 0, none⟩ = some (.slice none 0 0) := fun o => keep_cell ((Stay.refl _ _).alloc o) c0
  have c1' : ∀ o : Obj, (w4.alloc o).cell? ⟨B, 1, none⟩ = some (.int .i64 0) := fun o => keep_cell ((Stay.refl _ _).alloc o) c1
  have f0' : ∀ o : Obj, (w4.alloc o).frozen? ⟨B, 0, none⟩ = false := fun o => keep_frozen ((Stay.refl _ _).alloc o) c0 f0
  have f1' : ∀ o : Obj, (w4.alloc o).frozen? ⟨B, 1, none⟩ = false := fun o => keep_frozen ((Stay.refl _ _).alloc o) c1 f1
  go_wp2
  have hlt := HD5.out.lt
  have hA0 : Acc w4 (w4.alloc (.cells #[.int .u8 10] 5)) (.slice (some ⟨w4.heap.size, 0, none⟩) 1 1) [10] := Acc.new w4 #[.int .u8 10] [10] 1 rfl rfl (by intro x hx; simp at hx; subst hx; decide) (by omega)
  have hA := (hA0.older HA4.out).put (B := B) HBW.out.1.symm (fun e => by simp [Value.ownBlock] at e; omega) (.slice (some ⟨w4.heap.size, 0, none⟩) 1 1) (.int .i64 col)
  have hbox := (HD5.out.alloc (.cells #[.int .u8 10] 5)).put ⟨(.slice (some ⟨w4.heap.size, 0, none⟩) 1 1), col⟩
  exact bodyPost_ret (results_PBox rfl _ _ B ⟨(.slice (some ⟨w4.heap.size, 0, none⟩) 1 1), col⟩ rfl hbox) rfl ⟨_, rfl, hA⟩

theorem rbyte_13z (o col : Int) (w : World) (h0 : 0 ≤ col) (h1 : col ≤ 1073741824) (h1f : has o 1 = true) (hz : col = 0) (g4 : has o 4 = false) (g8 : has o 8 = true) : Calls Try.prog 15 #[.int .i64 o, .int .i64 col, .int .u8 13] w (Posts [] 0 w) := by
  obtain ⟨B, hB⟩ : ∃ B, B = w.heap.size := ⟨_, rfl⟩
  obtain ⟨W, hW⟩ : ∃ W, W = w.alloc (.cells #[.slice none 0 0, .int .i64 0] 27) := ⟨_, rfl⟩
  have HD1 : Hid (PBox W B ⟨.slice none 0 0, 0⟩) := by rw [hW, hB]; exact PBox.new ⟨.slice none 0 0, 0⟩ rfl
  have HA0 : Hid (Stay (fun _ => False) w W) := by rw [hW]; exact (Stay.refl _ _).alloc _
  have HBW : Hid (B = w.heap.size ∧ W = w.alloc (.cells #[.slice none 0 0, .int .i64 0] 27)) := ⟨hB, hW⟩
  have HF1 := hide' (flag16 o 1)
  rw [h1f] at HF1
  have HF4 := hide' (flag16 o 4)
  rw [g4] at HF4
  have HF8 := hide' (flag16 o 8)
  rw [g8] at HF8
  subst hz
  clear hB hW h1f g4 g8
  go_enter Try.func15, Try.ntmps15
  go_upto_region 1 with fail
  obtain ⟨hB, hW⟩ := HBW.out
  rw [← hW, ← hB]
  clear hB hW
  go_wp2_with fail
  refine (HF1.out _).mono ?_
  rintro e w1 ⟨rfl, hs⟩
  have HA1 := hide' (HA0.out.trans hs)
  have HD2 := hide' (HD1.out.keep hs)
  clear hs HF1 HD1 HA0
  go_wp2_with fail
  refine (HF4.out _).mono ?_
  rintro e w2 ⟨rfl, hs⟩
  have HA2 := hide' (HA1.out.trans hs)
  have HD3 := hide' (HD2.out.keep hs)
  clear hs HF4 HD2 HA1
  go_wp2_with fail
  refine (HF8.out _).mono ?_
  rintro e w3 ⟨rfl, hs⟩
  have HA3 := hide' (HA2.out.trans hs)
  have HD4 := hide' (HD3.out.keep hs)
  clear hs HF8 HD3 HA2
  obtain ⟨c0, c1, f0, f1⟩ := HD4.out
  simp only at c0 c1
  go_wp2
  have hA := ((Acc.nil w).keep HA3.out).put (B := B) HBW.out.1.symm (fun e => by cases e) (.slice none 0 0) (.int .i64 0)
  exact bodyPost_ret (results_PBox rfl _ _ B ⟨.slice none 0 0, 0⟩ rfl (HD4.out.put ⟨.slice none 0 0, 0⟩)) rfl ⟨_, rfl, hA⟩

theorem rbyte_13y (o col : Int) (w : World) (h0 : 0 ≤ col) (h1 : col ≤ 1073741824) (h1f : has o 1 = true) (hz : col = 0) (g4 : has o 4 = false) (g8 : has o 8 = false) : Calls Try.prog 15 #[.int .i64 o, .int .i64 col, .int .u8 13] w (Posts [13] 0 w) := by
  obtain ⟨B, hB⟩ : ∃ B, B = w.heap.size := ⟨_, rfl⟩
  obtain ⟨W, hW⟩ : ∃ W, W = w.alloc (.cells #[.slice none 0 0, .int .i64 0] 27) := ⟨_, rfl⟩
  have HD1 : Hid (PBox W B ⟨.slice none 0 0, 0⟩) := by rw [hW, hB]; exact PBox.new ⟨.slice none 0 0, 0⟩ rfl
  have HA0 : Hid (Stay (fun _ => False) w W) := by rw [hW]; exact (Stay.refl _ _).alloc _
  have HBW : Hid (B = w.heap.size ∧ W = w.alloc (.cells #[.slice none 0 0, .int .i64 0] 27)) := ⟨hB, hW⟩
  have HF1 := hide' (flag16 o 1)
  rw [h1f] at HF1
  have HF4 := hide' (flag16 o 4)
  rw [g4] at HF4
  have HF8 := hide' (flag16 o 8)
  rw [g8] at HF8
  subst hz
  clear hB hW h1f g4 g8
  go_enter Try.func15, Try.ntmps15
  go_upto_region 1 with fail
  obtain ⟨hB, hW⟩ := HBW.out
  rw [← hW, ← hB]
  clear hB hW
  go_wp2_with fail
  refine (HF1.out _).mono ?_
  rintro e w1 ⟨rfl, hs⟩
  have HA1 := hide' (HA0.out.trans hs)
  have HD2 := hide' (HD1.out.keep hs)
  clear hs HF1 HD1 HA0
  go_wp2_with fail
  refine (HF4.out _).mono ?_
  rintro e w2 ⟨rfl, hs⟩
  have HA2 := hide' (HA1.out.trans hs)
  have HD3 := hide' (HD2.out.keep hs)
  clear hs HF4 HD2 HA1
  go_wp2_with fail
  refine (HF8.out _).mono ?_
  rintro e w3 ⟨rfl, hs⟩
  have HA3 := hide' (HA2.out.trans hs)
  have HD4 := hide' (HD3.out.keep hs)
  clear hs HF8 HD3 HA2
  obtain ⟨c0, c1, f0, f1⟩ := HD4.out
  simp only at c0 c1
  have c0' : ∀ o : Obj, (w3.alloc o).cell? ⟨B, 0, none⟩ = some (.slice none 0 0) := fun o => keep_cell ((Stay.refl _ _).alloc o) c0
  have c1' : ∀ o : Obj, (w3.alloc o).cell? ⟨B, 1, none⟩ = some (.int .i64 0) := fun o => keep_cell ((Stay.refl _ _).alloc o) c1
  have f0' : ∀ o : Obj, (w3.alloc o).frozen? ⟨B, 0, none⟩ = false := fun o => keep_frozen ((Stay.refl _ _).alloc o) c0 f0
  have f1' : ∀ o : Obj, (w3.alloc o).frozen? ⟨B, 1, none⟩ = false := fun o => keep_frozen ((Stay.refl _ _).alloc o) c1 f1
  go_wp2
  have hlt := HD4.out.lt
  have hA0 : Acc w3 (w3.alloc (.cells #[.int .u8 13] 5)) (.slice (some ⟨w3.heap.size, 0, none⟩) 1 1) [13] := Acc.new w3 #[.int .u8 13] [13] 1 rfl rfl (by intro x hx; simp at hx; subst hx; decide) (by omega)
  have hA := (hA0.older HA3.out).put (B := B) HBW.out.1.symm (fun e => by simp [Value.ownBlock] at e; omega) (.slice (some ⟨w3.heap.size, 0, none⟩) 1 1) (.int .i64 0)
  have hbox := (HD4.out.alloc (.cells #[.int .u8 13] 5)).put ⟨(.slice (some ⟨w3.heap.size, 0, none⟩) 1 1), 0⟩
  exact bodyPost_ret (results_PBox rfl _ _ B ⟨(.slice (some ⟨w3.heap.size, 0, none⟩) 1 1), 0⟩ rfl hbox) rfl ⟨_, rfl, hA⟩

theorem rbyte_13x (o col : Int) (w : World) (h0 : 0 ≤ col) (h1 : col ≤ 1073741824) (h1f : has o 1 = true) (hz : ¬ col = 0) (g4 : has o 4 = false) : Calls Try.prog 15 #[.int .i64 o, .int .i64 col, .int .u8 13] w (Posts [13] 0 w) := by
  obtain ⟨B, hB⟩ : ∃ B, B = w.heap.size := ⟨_, rfl⟩
  obtain ⟨W, hW⟩ : ∃ W, W = w.alloc (.cells #[.slice none 0 0, .int .i64 0] 27) := ⟨_, rfl⟩
  have HD1 : Hid (PBox W B ⟨.slice none 0 0, 0⟩) := by rw [hW, hB]; exact PBox.new ⟨.slice none 0 0, 0⟩ rfl
  have HA0 : Hid (Stay (fun _ => False) w W) := by rw [hW]; exact (Stay.refl _ _).alloc _
  have HBW : Hid (B = w.heap.size ∧ W = w.alloc (.cells #[.slice none 0 0, .int .i64 0] 27)) := ⟨hB, hW⟩
  have HF1 := hide' (flag16 o 1)
  rw [h1f] at HF1
  have HF4 := hide' (flag16 o 4)
  rw [g4] at HF4
  have z0 : (col == 0) = false := beq_f hz
  clear hB hW h1f g4 hz
  go_enter Try.func15, Try.ntmps15
  go_upto_region 1 with fail
  obtain ⟨hB, hW⟩ := HBW.out
  rw [← hW, ← hB]
  clear hB hW
  go_wp2_with fail
  refine (HF1.out _).mono ?_
  rintro e w1 ⟨rfl, hs⟩
  have HA1 := hide' (HA0.out.trans hs)
  have HD2 := hide' (HD1.out.keep hs)
  clear hs HF1 HD1 HA0
  go_wp2_with fail
  refine (HF4.out _).mono ?_
  rintro e w2 ⟨rfl, hs⟩
  have HA2 := hide' (HA1.out.trans hs)
  have HD3 := hide' (HD2.out.keep hs)
  clear hs HF4 HD2 HA1
  obtain ⟨c0, c1, f0, f1⟩ := HD3.out
  simp only at c0 c1
  have c0' : ∀ o : Obj, (w2.alloc o).cell? ⟨B, 0, none⟩ = some (.slice none 0 0) := fun o => keep_cell ((Stay.refl _ _).alloc o) c0
  have c1' : ∀ o : Obj, (w2.alloc o).cell? ⟨B, 1, none⟩ = some (.int .i64 0) := fun o => keep_cell ((Stay.refl _ _).alloc o) c1
  have f0' : ∀ o : Obj, (w2.alloc o).frozen? ⟨B, 0, none⟩ = false := fun o => keep_frozen ((Stay.refl _ _).alloc o) c0 f0
  have f1' : ∀ o : Obj, (w2.alloc o).frozen? ⟨B, 1, none⟩ = false := fun o => keep_frozen ((Stay.refl _ _).alloc o) c1 f1
  go_wp2
  have hlt := HD3.out.lt
  have hA0 : Acc w2 (w2.alloc (.cells #[.int .u8 13] 5)) (.slice (some ⟨w2.heap.size, 0, none⟩) 1 1) [13] := Acc.new w2 #[.int .u8 13] [13] 1 rfl rfl (by intro x hx; simp at hx; subst hx; decide) (by omega)
  have hA := (hA0.older HA2.out).put (B := B) HBW.out.1.symm (fun e => by simp [Value.ownBlock] at e; omega) (.slice (some ⟨w2.heap.size, 0, none⟩) 1 1) (.int .i64 0)
  have hbox := (HD3.out.alloc (.cells #[.int .u8 13] 5)).put ⟨(.slice (some ⟨w2.heap.size, 0, none⟩) 1 1), 0⟩
  exact bodyPost_ret (results_PBox rfl _ _ B ⟨(.slice (some ⟨w2.heap.size, 0, none⟩) 1 1), 0⟩ rfl hbox) rfl ⟨_, rfl, hA⟩


end Go.Proofs.Ytjpdlnifbinloaa
