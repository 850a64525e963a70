/-
  What weights count together: what the call hands back, in whatever world, of 1 to 64 weights.
-/
import Derived.Test.YtmkkkddadpcmeaaA6
import Derived.Test.YtmkkkddadpcmeaaB1
namespace Go.Proofs.Ytmkkkddadpcmeaa
open Go.RowKit

set_option maxHeartbeats 1000000 in
theorem together_any (f : Nat → Nat) (b off n cap : Nat) (w : World) (hn : n ≤ 64) (h0 : 0 < n)
    (hc : ∀ j, j < n → w.cell? ⟨b, off + j, none⟩ = some (.float .f64 (f j))) :
    Calls Try.prog 14 #[.slice (some ⟨b, off, none⟩) n cap] w fun e w' =>
      ∃ B, w.heap.size ≤ B ∧ e = .returned (.slice (some ⟨B, 0, none⟩) n n) ∧ w'.rowIs B 22 n (fl (tog f n)) ∧ Below w.heap.size w w' := by
  have hE := each_any 11 #[] (fun j => cnt (f j)) f b off n cap w hn hc (enters_of Try.func11 (by kernel_rfl) rfl) (fun W _ i _ => count_any (f i) W)
  have HE := hide' hE
  have h64 : (n : Int) ≤ 64 := by omega
  have hz : ((n : Int) == 0) = false := by simp; omega
  have hz2 : ¬ (64 : Int) < n := by omega
  have H0 := hide' h0
  have HN := hide' hn
  have HG : ∃ G, G = maxTo (fun j => cnt (f j)) (n - 1) := ⟨_, rfl⟩
  obtain ⟨G, hG⟩ := HG
  have HG := hide' hG
  clear hc hE hG hn
  go_enter Try.func14, Try.ntmps14
  go_wp2_with fail
  refine HE.out.mono ?_
  rintro e w1 ⟨rfl, hrow, hbel⟩
  have HW := hide' hrow
  have HB := hide' hbel
  have hM := max_any (fun j => cnt (f j)) w.heap.size 0 n n w1 HN.out H0.out (fun j hj => by have := hrow.cell hj; simpa using this) (fun k _ => max_some _ (fun j => cnt_pos (f j)) k)
  rw [← HG.out] at hM
  have HM := hide' hM
  clear hrow hbel hM
  go_wp2_with fail
  refine HM.out.mono ?_
  rintro e w' ⟨rfl, rfl⟩
  have hsf := store_f
  go_wp2_with (go_at_call 29; refine (isinf_any _ _).mono ?_; rintro e w' ⟨rfl, rfl⟩)
  · have hI : isI G = true := by assumption
    refine (each_any 30 #[] (fun j => if isI (cnt (f j)) then one else 0) (fun j => cnt (f j)) w.heap.size 0 n n (w1.alloc (.cells #[.float .f64 G] 22)) HN.out (fun j hj => by have := (HW.out.alloc (.cells #[.float .f64 G] 22)).cell hj; simpa using this) (enters_of Try.func30 (by kernel_rfl) rfl) (fun W _ i _ => t1_any _ W)).mono ?_
    rintro e w2 ⟨rfl, hr2, hb2⟩
    have H1 := hide' hI
    have HR2 := hide' hr2
    have HB2 := hide' hb2
    clear hI hr2 hb2
    go_wp2
    go_ret
    have hl := HB.out.size
    refine ⟨w1.heap.size + 1, by omega, rfl, ?_, ?_⟩
    · have := HR2.out
      rw [show (w1.alloc (.cells #[.float .f64 G] 22)).heap.size = w1.heap.size + 1 by simp] at this
      refine this.congr fun j _ => ?_
      simp only [fl]
      unfold tog
      rw [← HG.out]
      unfold togG
      simp [H1.out]
    · exact (HB.out.trans ((Below.refl _ _).alloc (by omega) _)).trans (HB2.out.mono (by simp; omega))
  · have hI : isI G = false ∧ (fo G 0 == some .eq) = true := ⟨by assumption, by assumption⟩
    refine (each_any 31 #[] (fun j => one) (fun j => cnt (f j)) w.heap.size 0 n n (w1.alloc (.cells #[.float .f64 G] 22)) HN.out (fun j hj => by have := (HW.out.alloc (.cells #[.float .f64 G] 22)).cell hj; simpa using this) (enters_of Try.func31 (by kernel_rfl) rfl) (fun W _ i _ => t2_any _ W)).mono ?_
    rintro e w2 ⟨rfl, hr2, hb2⟩
    have H1 := hide' hI
    have HR2 := hide' hr2
    have HB2 := hide' hb2
    clear hI hr2 hb2
    go_wp2
    go_ret
    have hl := HB.out.size
    refine ⟨w1.heap.size + 1, by omega, rfl, ?_, ?_⟩
    · have := HR2.out
      rw [show (w1.alloc (.cells #[.float .f64 G] 22)).heap.size = w1.heap.size + 1 by simp] at this
      refine this.congr fun j _ => ?_
      simp only [fl]
      unfold tog
      rw [← HG.out]
      unfold togG
      simp [H1.out.1, H1.out.2]
    · exact (HB.out.trans ((Below.refl _ _).alloc (by omega) _)).trans (HB2.out.mono (by simp; omega))
  · have hI : isI G = false ∧ (fo G 0 == some .eq) = false := ⟨by assumption, by assumption⟩
    have hGp : Pos G := by rw [HG.out]; exact max_pos _ (fun j => cnt_pos (f j)) _
    have hI1 := hI.1
    have hI2 := hI.2
    rw [isI_iff hGp] at hI1
    rw [isZ_iff hGp] at hI2
    have q1 : rung G < infR := by have := hGp.num; simp at hI1; omega
    have q2 : rung G ≠ 0 := by simpa using hI2
    clear hI1 hI2
    refine (each_any 32 #[.pointer (some ⟨w1.heap.size, 0, none⟩)] (fun j => (floatBits .quo .f64 (cnt (f j)) G).getD 0) (fun j => cnt (f j)) w.heap.size 0 n n (w1.alloc (.cells #[.float .f64 G] 22)) HN.out (fun j hj => by have := (HW.out.alloc (.cells #[.float .f64 G] 22)).cell hj; simpa using this) (enters_of Try.func32 (by kernel_rfl) rfl) (fun W hW i _ => ?_)).mono ?_
    · obtain ⟨r, hr⟩ := quo_some (cnt_pos (f i)).num q1 q2
      have hcell : W.cell? ⟨w1.heap.size, 0, none⟩ = some (.float .f64 G) := by rw [hW.cell (p := ⟨w1.heap.size, 0, none⟩) (by simp)]; go_simp
      have := t3_any (cnt (f i)) G r ⟨w1.heap.size, 0, none⟩ W hcell hr
      simp only [hr, Option.getD_some]
      exact this
    rintro e w2 ⟨rfl, hr2, hb2⟩
    have H1 := hide' hI
    have HR2 := hide' hr2
    have HB2 := hide' hb2
    clear hI hr2 hb2
    go_wp2
    go_ret
    have hl := HB.out.size
    refine ⟨w1.heap.size + 1, by omega, rfl, ?_, ?_⟩
    · have := HR2.out
      rw [show (w1.alloc (.cells #[.float .f64 G] 22)).heap.size = w1.heap.size + 1 by simp] at this
      refine this.congr fun j _ => ?_
      simp only [fl]
      unfold tog
      rw [← HG.out]
      unfold togG
      simp [H1.out.1, H1.out.2]
    · exact (HB.out.trans ((Below.refl _ _).alloc (by omega) _)).trans (HB2.out.mono (by simp; omega))

end Go.Proofs.Ytmkkkddadpcmeaa
