/-
  What the program's drawing does: walked. No conditions.
-/
import Derived.Test.YticccknocjnkpaaRC
namespace Go.Proofs.Yticccknocjnkpaa
open Go.RowKit Go.Shelf

attribute [local go_sem] Oper.semAt_some

set_option maxRecDepth 100000 in
theorem fill16_nil (sb : Nat) (id : Int) (r : R) (c : Cl) (w : World) : Calls Try.prog 16 #[.pointer none, .pointer (some ⟨sb, 0, none⟩), .int .i64 id, .agg #[.int .i64 r.x, .int .i64 r.y, .int .i64 r.w, .int .i64 r.h], .agg #[.int .i32 c.r, .int .i64 c.fg, .int .i64 c.bg, .int .i64 c.fl]] w (Gives (.tuple #[.int .i64 0, .int .i64 1]) w) := by
  have HS := hide' (show Stay (fun _ => False) w (((w.alloc (.cells #[.pointer none] 26)).alloc (.cells #[.int .i64 r.x, .int .i64 r.y, .int .i64 r.w, .int .i64 r.h] 41)).alloc (.cells #[.int .i32 c.r, .int .i64 c.fg, .int .i64 c.bg, .int .i64 c.fl] 53)) from ((((Stay.refl _ _).alloc _).alloc _).alloc _))
  have HWD := hide' (fun W => look40_nil none (some ⟨sb, 0, none⟩) id W (.inl rfl))
  refine callsIn_wide.1 (callsIn_of_wp_marks (n := 3) Try.func16 rfl trivial ((wpIn_wide (n := 3)).2 ?_) rfl)
  simp only [Try.ntmps16, List.size_toArray, List.length_cons, List.length_nil, Nat.reduceAdd, Nat.reduceSub, Array.replicate_succ, Array.replicate_zero, List.push_toArray, List.append_toArray, List.nil_append, List.cons_append]
  go_wp2_with fail
  refine (HWD.out _).mono ?_
  rintro _ w1 ⟨rfl, hs⟩
  have HFN := hide' ((HS.out.trans hs).alloc (.cells #[.pointer none, .int .i64 0, .int .i64 0, .int .i64 0, .int .i64 0, .int .i64 0, .int .i64 0, .bool false, .int .i64 0, .int .i64 0, .int .i64 0, .int .i64 0] 92))
  clear hs HWD HS
  go_wp2
  refine marks_ret2 rfl ?_
  exact ⟨rfl, HFN.out⟩

set_option maxRecDepth 100000 in
theorem copy17_nil (fb : Nat) (id : Int) (r : R) (x y : Int) (w : World) : Calls Try.prog 17 #[.pointer (some ⟨fb, 0, none⟩), .pointer none, .int .i64 id, .agg #[.int .i64 r.x, .int .i64 r.y, .int .i64 r.w, .int .i64 r.h], .int .i64 x, .int .i64 y] w (Gives (.tuple #[.int .i64 0, .int .i64 1]) w) := by
  have HS := hide' (show Stay (fun _ => False) w ((w.alloc (.cells #[.pointer (some ⟨fb, 0, none⟩)] 26)).alloc (.cells #[.int .i64 r.x, .int .i64 r.y, .int .i64 r.w, .int .i64 r.h] 41)) from (((Stay.refl _ _).alloc _).alloc _))
  have HWD := hide' (fun W => look40_nil (some ⟨fb, 0, none⟩) none id W (.inr ⟨⟨fb, rfl⟩, rfl⟩))
  refine callsIn_wide.1 (callsIn_of_wp_marks (n := 3) Try.func17 rfl trivial ((wpIn_wide (n := 3)).2 ?_) rfl)
  simp only [Try.ntmps17, List.size_toArray, List.length_cons, List.length_nil, Nat.reduceAdd, Nat.reduceSub, Array.replicate_succ, Array.replicate_zero, List.push_toArray, List.append_toArray, List.nil_append, List.cons_append]
  go_wp2_with fail
  refine (HWD.out _).mono ?_
  rintro _ w1 ⟨rfl, hs⟩
  have HFN := hide' ((HS.out.trans hs).alloc (.cells #[.pointer none, .int .i64 0, .int .i64 0, .int .i64 0, .int .i64 0, .int .i64 0, .int .i64 0, .bool false, .int .i64 0, .int .i64 0, .int .i64 0, .int .i64 0] 92))
  clear hs HWD HS
  go_wp2
  refine marks_ret2 rfl ?_
  exact ⟨rfl, HFN.out⟩

theorem drawC_holds : DrawC :=
  ⟨fun fq f N sq sw sh m L id x y la n lc l w H hl hk hn hc hx hy => cells22 fq f N sq sw sh m L id x y la n lc l w H hl hk hn hc hx hy,
   fun fq f N sq sw sh m L id r c w H _ => fill16 fq f N sq sw sh m L id r c w H,
   fun fq f N sq sw sh m L id r x y w H hr hx hy => copy17 fq f N sq sw sh m L id r x y w H hr hx hy,
   fill16_nil, copy17_nil⟩

end Go.Proofs.Yticccknocjnkpaa
