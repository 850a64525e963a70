/-
  A rune's bytes, of the code and of the document, walked. No conditions.
-/
import Derived.Test.YtofecgjlghfnlaaDoorP0
namespace Go.Proofs.YtofecgjlghfnlaaDoor
open Go.RowKit

theorem isRow_new (w : World) (c : Array Value) (t : TypeId) : IsRow (w.alloc (.cells c t)) (.slice (some ⟨w.heap.size, 0, none⟩) c.size c.size) c.toList := by
  refine Or.inr ⟨_, _, _, rfl, by simp, fun j u hu => ?_⟩
  rw [addr_add]
  have hj : c[j]? = some u := by simpa using hu
  simp [hj]

theorem owns_new (w : World) (c : Array Value) (e : TypeId) (hm : c.size ≤ maxLen) : (w.alloc (.cells c e)).ownsRow w.heap.size e 1 (.slice (some ⟨w.heap.size, 0, none⟩) c.size c.size) c.size c.toList :=
  ⟨by simp, .inr ⟨w.heap.size, c.size, c, rfl, Nat.le_refl _, heap_alloc_new w _, Nat.le_refl _, hm, by simp, by rw [Nat.mul_one]; exact List.take_of_length_le (by simp)⟩⟩

/-- Bytes, new. -/
def NewBs (l : List Nat) (w : World) (e : Ending) (w' : World) : Prop :=
  ∃ t, e = .returned t ∧ w'.ownsRow w.heap.size 5 1 t l.length (l.map bv) ∧ Stay (fun _ => False) w w'

theorem newBs_of {w w' : World} {t : Value} {n : Nat} {xs : List Value} {l : List Nat} {S : Nat → Prop} (h : w'.ownsRow w.heap.size 5 1 t n xs) (hx : xs = l.map bv) (hs : Stay S w w') (hS : ∀ i, i < w.heap.size → ¬ S i) : NewBs l w (.returned t) w' := by
  have hn : n = l.length := by have := h.1; rw [hx] at this; simpa using this.symm
  subst hn hx
  exact ⟨t, rfl, h, hs.mono fun k hk h => absurd h (hS k hk)⟩

set_option maxHeartbeats 1000000 in
theorem app24_ascii (r : Int) (w : World) (h0 : 0 ≤ r) (h1 : r ≤ 127) : Calls Tryd.prog 24 #[.slice none 0 0, .int .i32 r] w (NewBs (putL r) w) := by
  have HP : Hid (putL r = [r.toNat]) := by
    show putL r = [r.toNat]
    unfold putL formL; rw [if_pos ⟨h0, by omega, by omega⟩, if_pos (by omega)]
  have HR := hide' (isRow_new w #[.int .u8 (r)] 5)
  have HN : Hid (∀ k, Value.ownBlock (.slice none 0 0) = some k → w.heap.size ≤ k) := fun k hk => by simp [Value.ownBlock] at hk
  have HO := hide' (World.ownsRow_nil (w.alloc (.cells #[.int .u8 (r)] 5)) w.heap.size 5 1)
  go_enter Tryd.func24, Tryd.ntmps24
  go_wp2_with (at_builtin; refine appL (fun i => w.heap.size ≤ i) rfl _ _ 22 rfl Tryd.underlying22 info5 rfl (by decide) HO.out rfl HR.out rfl (by intro u hu; simp at hu; rcases hu with rfl <;> rfl) (by simp) (by simp) HN.out ?_; intro t1 w1 ho1 hs1; have HO1 := hide' ho1; have HS1 := hide' hs1; clear ho1 hs1)
  go_ret
  exact newBs_of HO1.out (by rw [HP.out]; simp [bv] <;> omega) (((Stay.refl _ w).alloc _).trans HS1.out) (fun i hi h => by omega)

set_option maxHeartbeats 1000000 in
theorem app29_two (r : Int) (w : World) (h0 : 128 ≤ r) (h1 : r ≤ 2047) : Calls Tryd.prog 29 #[.slice none 0 0, .int .i32 r] w (NewBs (putL r) w) := by
  have HP : Hid (putL r = [192 + r.toNat / 64, 128 + r.toNat % 64]) := by
    show putL r = [192 + r.toNat / 64, 128 + r.toNat % 64]
    unfold putL formL; rw [if_pos ⟨by omega, by omega, by omega⟩, if_neg (by omega), if_pos (by omega)]
  have HR := hide' (isRow_new w #[.int .u8 (192 + r / 64), .int .u8 (128 + r % 64)] 5)
  have HN : Hid (∀ k, Value.ownBlock (.slice none 0 0) = some k → w.heap.size ≤ k) := fun k hk => by simp [Value.ownBlock] at hk
  have HO := hide' (World.ownsRow_nil (w.alloc (.cells #[.int .u8 (192 + r / 64), .int .u8 (128 + r % 64)] 5)) w.heap.size 5 1)
  go_enter Tryd.func29, Tryd.ntmps29
  go_wp2_with (at_builtin; refine appL (fun i => w.heap.size ≤ i) rfl _ _ 22 rfl Tryd.underlying22 info5 rfl (by decide) HO.out rfl HR.out rfl (by intro u hu; simp at hu; rcases hu with rfl | rfl <;> rfl) (by simp) (by simp) HN.out ?_; intro t1 w1 ho1 hs1; have HO1 := hide' ho1; have HS1 := hide' hs1; clear ho1 hs1)
  go_ret
  exact newBs_of HO1.out (by rw [HP.out]; simp [bv] <;> omega) (((Stay.refl _ w).alloc _).trans HS1.out) (fun i hi h => by omega)

set_option maxHeartbeats 1000000 in
theorem app29_three0 (r : Int) (w : World) (h0 : 2048 ≤ r) (h1 : r ≤ 55295) : Calls Tryd.prog 29 #[.slice none 0 0, .int .i32 r] w (NewBs (putL r) w) := by
  have HP : Hid (putL r = [224 + r.toNat / 4096, 128 + r.toNat / 64 % 64, 128 + r.toNat % 64]) := by
    show putL r = [224 + r.toNat / 4096, 128 + r.toNat / 64 % 64, 128 + r.toNat % 64]
    unfold putL formL; rw [if_pos ⟨by omega, by omega, by omega⟩, if_neg (by omega), if_neg (by omega), if_pos (by omega)]
  have HR := hide' (isRow_new w #[.int .u8 (224 + r / 4096), .int .u8 (128 + r / 64 % 64), .int .u8 (128 + r % 64)] 5)
  have HN : Hid (∀ k, Value.ownBlock (.slice none 0 0) = some k → w.heap.size ≤ k) := fun k hk => by simp [Value.ownBlock] at hk
  have HO := hide' (World.ownsRow_nil (w.alloc (.cells #[.int .u8 (224 + r / 4096), .int .u8 (128 + r / 64 % 64), .int .u8 (128 + r % 64)] 5)) w.heap.size 5 1)
  go_enter Tryd.func29, Tryd.ntmps29
  go_wp2_with (at_builtin; refine appL (fun i => w.heap.size ≤ i) rfl _ _ 22 rfl Tryd.underlying22 info5 rfl (by decide) HO.out rfl HR.out rfl (by intro u hu; simp at hu; rcases hu with rfl | rfl | rfl <;> rfl) (by simp) (by simp) HN.out ?_; intro t1 w1 ho1 hs1; have HO1 := hide' ho1; have HS1 := hide' hs1; clear ho1 hs1)
  go_ret
  exact newBs_of HO1.out (by rw [HP.out]; simp [bv] <;> omega) (((Stay.refl _ w).alloc _).trans HS1.out) (fun i hi h => by omega)

set_option maxHeartbeats 1000000 in
theorem app29_three1 (r : Int) (w : World) (h0 : 57344 ≤ r) (h1 : r ≤ 65535) : Calls Tryd.prog 29 #[.slice none 0 0, .int .i32 r] w (NewBs (putL r) w) := by
  have HP : Hid (putL r = [224 + r.toNat / 4096, 128 + r.toNat / 64 % 64, 128 + r.toNat % 64]) := by
    show putL r = [224 + r.toNat / 4096, 128 + r.toNat / 64 % 64, 128 + r.toNat % 64]
    unfold putL formL; rw [if_pos ⟨by omega, by omega, by omega⟩, if_neg (by omega), if_neg (by omega), if_pos (by omega)]
  have HR := hide' (isRow_new w #[.int .u8 (224 + r / 4096), .int .u8 (128 + r / 64 % 64), .int .u8 (128 + r % 64)] 5)
  have HN : Hid (∀ k, Value.ownBlock (.slice none 0 0) = some k → w.heap.size ≤ k) := fun k hk => by simp [Value.ownBlock] at hk
  have HO := hide' (World.ownsRow_nil (w.alloc (.cells #[.int .u8 (224 + r / 4096), .int .u8 (128 + r / 64 % 64), .int .u8 (128 + r % 64)] 5)) w.heap.size 5 1)
  go_enter Tryd.func29, Tryd.ntmps29
  go_wp2_with (at_builtin; refine appL (fun i => w.heap.size ≤ i) rfl _ _ 22 rfl Tryd.underlying22 info5 rfl (by decide) HO.out rfl HR.out rfl (by intro u hu; simp at hu; rcases hu with rfl | rfl | rfl <;> rfl) (by simp) (by simp) HN.out ?_; intro t1 w1 ho1 hs1; have HO1 := hide' ho1; have HS1 := hide' hs1; clear ho1 hs1)
  go_ret
  exact newBs_of HO1.out (by rw [HP.out]; simp [bv] <;> omega) (((Stay.refl _ w).alloc _).trans HS1.out) (fun i hi h => by omega)

set_option maxHeartbeats 1000000 in
theorem app29_four (r : Int) (w : World) (h0 : 65536 ≤ r) (h1 : r ≤ 1114111) : Calls Tryd.prog 29 #[.slice none 0 0, .int .i32 r] w (NewBs (putL r) w) := by
  have HP : Hid (putL r = [240 + r.toNat / 262144, 128 + r.toNat / 4096 % 64, 128 + r.toNat / 64 % 64, 128 + r.toNat % 64]) := by
    show putL r = [240 + r.toNat / 262144, 128 + r.toNat / 4096 % 64, 128 + r.toNat / 64 % 64, 128 + r.toNat % 64]
    unfold putL formL; rw [if_pos ⟨by omega, by omega, by omega⟩, if_neg (by omega), if_neg (by omega), if_neg (by omega)]
  have HR := hide' (isRow_new w #[.int .u8 (240 + r / 262144), .int .u8 (128 + r / 4096 % 64), .int .u8 (128 + r / 64 % 64), .int .u8 (128 + r % 64)] 5)
  have HN : Hid (∀ k, Value.ownBlock (.slice none 0 0) = some k → w.heap.size ≤ k) := fun k hk => by simp [Value.ownBlock] at hk
  have HO := hide' (World.ownsRow_nil (w.alloc (.cells #[.int .u8 (240 + r / 262144), .int .u8 (128 + r / 4096 % 64), .int .u8 (128 + r / 64 % 64), .int .u8 (128 + r % 64)] 5)) w.heap.size 5 1)
  go_enter Tryd.func29, Tryd.ntmps29
  go_wp2_with (at_builtin; refine appL (fun i => w.heap.size ≤ i) rfl _ _ 22 rfl Tryd.underlying22 info5 rfl (by decide) HO.out rfl HR.out rfl (by intro u hu; simp at hu; rcases hu with rfl | rfl | rfl | rfl <;> rfl) (by simp) (by simp) HN.out ?_; intro t1 w1 ho1 hs1; have HO1 := hide' ho1; have HS1 := hide' hs1; clear ho1 hs1)
  go_ret
  exact newBs_of HO1.out (by rw [HP.out]; simp [bv] <;> omega) (((Stay.refl _ w).alloc _).trans HS1.out) (fun i hi h => by omega)

set_option maxHeartbeats 1000000 in
theorem app29_sur (r : Int) (w : World) (h0 : 55296 ≤ r) (h1 : r ≤ 57343) : Calls Tryd.prog 29 #[.slice none 0 0, .int .i32 r] w (NewBs (putL r) w) := by
  have HP : Hid (putL r = [239, 191, 189]) := by
    show putL r = [239, 191, 189]
    unfold putL; rw [if_neg (by unfold isR; omega)]
  have HR := hide' (isRow_new w #[.int .u8 (239), .int .u8 (191), .int .u8 (189)] 5)
  have HN : Hid (∀ k, Value.ownBlock (.slice none 0 0) = some k → w.heap.size ≤ k) := fun k hk => by simp [Value.ownBlock] at hk
  have HO := hide' (World.ownsRow_nil (w.alloc (.cells #[.int .u8 (239), .int .u8 (191), .int .u8 (189)] 5)) w.heap.size 5 1)
  go_enter Tryd.func29, Tryd.ntmps29
  go_wp2_with (at_builtin; refine appL (fun i => w.heap.size ≤ i) rfl _ _ 22 rfl Tryd.underlying22 info5 rfl (by decide) HO.out rfl HR.out rfl (by intro u hu; simp at hu; rcases hu with rfl | rfl | rfl <;> rfl) (by simp) (by simp) HN.out ?_; intro t1 w1 ho1 hs1; have HO1 := hide' ho1; have HS1 := hide' hs1; clear ho1 hs1)
  go_ret
  exact newBs_of HO1.out (by rw [HP.out]; simp [bv] <;> omega) (((Stay.refl _ w).alloc _).trans HS1.out) (fun i hi h => by omega)

set_option maxHeartbeats 1000000 in
theorem app29_big (r : Int) (w : World) (h0 : 1114112 ≤ r) (h1 : r ≤ 2147483647) : Calls Tryd.prog 29 #[.slice none 0 0, .int .i32 r] w (NewBs (putL r) w) := by
  have HP : Hid (putL r = [239, 191, 189]) := by
    show putL r = [239, 191, 189]
    unfold putL; rw [if_neg (by unfold isR; omega)]
  have HR := hide' (isRow_new w #[.int .u8 (239), .int .u8 (191), .int .u8 (189)] 5)
  have HN : Hid (∀ k, Value.ownBlock (.slice none 0 0) = some k → w.heap.size ≤ k) := fun k hk => by simp [Value.ownBlock] at hk
  have HO := hide' (World.ownsRow_nil (w.alloc (.cells #[.int .u8 (239), .int .u8 (191), .int .u8 (189)] 5)) w.heap.size 5 1)
  go_enter Tryd.func29, Tryd.ntmps29
  go_wp2_with (at_builtin; refine appL (fun i => w.heap.size ≤ i) rfl _ _ 22 rfl Tryd.underlying22 info5 rfl (by decide) HO.out rfl HR.out rfl (by intro u hu; simp at hu; rcases hu with rfl | rfl | rfl <;> rfl) (by simp) (by simp) HN.out ?_; intro t1 w1 ho1 hs1; have HO1 := hide' ho1; have HS1 := hide' hs1; clear ho1 hs1)
  go_ret
  exact newBs_of HO1.out (by rw [HP.out]; simp [bv] <;> omega) (((Stay.refl _ w).alloc _).trans HS1.out) (fun i hi h => by omega)

set_option maxHeartbeats 1000000 in
theorem app29_neg (r : Int) (w : World) (h0 : r < 0) (h1 : -2147483648 ≤ r) : Calls Tryd.prog 29 #[.slice none 0 0, .int .i32 r] w (NewBs (putL r) w) := by
  have HP : Hid (putL r = [239, 191, 189]) := by
    show putL r = [239, 191, 189]
    unfold putL; rw [if_neg (by unfold isR; omega)]
  have HR := hide' (isRow_new w #[.int .u8 (239), .int .u8 (191), .int .u8 (189)] 5)
  have HN : Hid (∀ k, Value.ownBlock (.slice none 0 0) = some k → w.heap.size ≤ k) := fun k hk => by simp [Value.ownBlock] at hk
  have HO := hide' (World.ownsRow_nil (w.alloc (.cells #[.int .u8 (239), .int .u8 (191), .int .u8 (189)] 5)) w.heap.size 5 1)
  have hw : IntKind.u32.wrap r = r + 4294967296 := by rw [IntKind.wrap_u32]; omega
  have g1 : 2147483648 ≤ r + 4294967296 := by omega
  go_enter Tryd.func29, Tryd.ntmps29
  go_wp2_with (at_builtin; refine appL (fun i => w.heap.size ≤ i) rfl _ _ 22 rfl Tryd.underlying22 info5 rfl (by decide) HO.out rfl HR.out rfl (by intro u hu; simp at hu; rcases hu with rfl | rfl | rfl <;> rfl) (by simp) (by simp) HN.out ?_; intro t1 w1 ho1 hs1; have HO1 := hide' ho1; have HS1 := hide' hs1; clear ho1 hs1)
  go_ret
  exact newBs_of HO1.out (by rw [HP.out]; simp [bv] <;> omega) (((Stay.refl _ w).alloc _).trans HS1.out) (fun i hi h => by omega)


end Go.Proofs.YtofecgjlghfnlaaDoor
