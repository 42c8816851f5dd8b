/- The walk of FnExactPartsFaults, from what the program's function answers. -/
import Derived.Test.YtfdglkiehkilnaaDoorWalks12S
import Derived.Test.YtfdglkiehkilnaaDoorStks2
import Derived.Test.YtfdglkiehkilnaaDoorWalksFS
import Derived.Test.YtfdglkiehkilnaaDoorWalks12P
namespace Go.Proofs.YtfdglkiehkilnaaDoor
set_option linter.unusedSimpArgs false
set_option linter.unusedVariables false
set_option maxRecDepth 8000
open Go.RowKit

/-- The first thing is laid behind the second one and a list of others. -/
theorem Own.deepP {n : Nat} {B : World → Prop} {w : World} {a b : Item} {E L : List Item} (h : Own n B w (a :: b :: (E ++ L))) : Own n B w (b :: (E ++ a :: L)) :=
  h.perm ((List.Perm.swap b a _).trans (List.Perm.cons b (List.perm_middle (a := a) (l₁ := E) (l₂ := L)).symm))
theorem StkR.own' {n : Nat} {B : World → Prop} {w : World} {v : Value} {es : List (Value × List Pt)} {ll : List (List Pt)} {L : List Item} (hE : lsO es = ll) (h : Own n B w (.row 23 1 v es.length (vsO es) :: (rwP es ++ L))) : StkR w v ll := hE ▸ StkR.of_own h
theorem tnC_int12 (v : List (Int × Int)) : AllInt (tnC v) := by
  intro j u h
  have := List.mem_of_getElem? h
  unfold tnC at this
  obtain ⟨x, _, hx⟩ := List.mem_flatMap.1 this
  simp [ivC2] at hx
  rcases hx with rfl | rfl <;> exact ⟨_, rfl⟩

set_option maxRecDepth 20000 in
set_option maxHeartbeats 8000000 in
theorem xPartsFaults_of (hMv : MvS) (va : Value) (ll : List (List Pt)) (w : World) (h : StkIn w va ll) (h64 : ∀ l ∈ ll, ∀ x ∈ l, p64s x) (hI : CPa 32 w) :
    Calls Tryd.prog 10 #[va] w fun e w' => e = .returned (.bool true) ∧ Below w.heap.size w w' := by
  have hO := Own.start w
  have hF := True.intro
  obtain ⟨z, hz⟩ : ∃ z, szKZ 1048576 ll = z := ⟨_, rfl⟩
  have HZ := hid (szPSS_any va ll 1048576 z w h (by omega) (by omega) hz)
  rcases szKZ_ok (ll := ll) (n := 1048576) (by omega) with h1 | ⟨z0, _, hn, hpt, hle'⟩
  · obtain rfl : z = -1 := by rw [← hz]; exact h1
    clear h hz h1 hI h64
    go_enter Tryd.func10, Tryd.ntmps10
    go_wp2_with (go_at_call 36; refine (HZ.out).mono ?_; rintro e w1 ⟨rfl, rfl⟩)
    go_ret
    exact ⟨rfl, hO.base⟩
  · rw [hz] at z0
    have z1 : ¬ z < 0 := by omega
    have hn9 : ll.length ≤ 1048576 := by omega
    have hp9 : ptN ll ≤ 1048576 := by omega
    have hle : ∀ l ∈ ll, l.length ≤ 1048576 := fun l hl => by have := hle' l hl; omega
    have HT := hid (fun W (hW : Below w.heap.size w W) => toPSS_any va ll W (h.below hW) hn9 hle)
    obtain ⟨us, hus⟩ : ∃ us, paZ ll = us := ⟨_, rfl⟩
    obtain ⟨k, hk⟩ : ∃ k, us.length = k := ⟨_, rfl⟩
    have hk16 : k ≤ 2097152 := by
      rw [← hk, ← hus]
      unfold paZ
      split
      · have := paF_len ll ll.length; omega
      · simp
    have HI := hid (hI.is hn9 hle h64 hus hk)
    have HS := hid (CPa.is (g := 33) (w := w) (fun va ll W _ h hn hle _ => paS_of hMv va ll W h hn hle) hn9 hle h64 hus hk)
    have HE := hid (fun va vb W (h1 : StkR W va ll) (h2 : StkR W vb ll) => eqPSS_same va vb ll ll.length W rfl h1 h2 hn9)
    have HX := hid (tnC_int12 us)
    obtain ⟨xs, hxs⟩ : ∃ xs, tnC us = xs := ⟨_, rfl⟩
    rw [hxs] at HI HS HX
    have HN := hid (And.intro hn9 hp9)
    have x1 : ¬ (1 + (xs.length : Int) < 0) := by omega
    clear h hz hn hle' hle hn9 hp9 hI h64 hus hk hxs hpt
    go_enter Tryd.func10, Tryd.ntmps10
    go_wp2_with (first | (go_at_call 36; refine (HZ.out).mono ?_; rintro e w1 ⟨rfl, rfl⟩) | (go_at_call 37; apply own_at hO; (repeat (first | (with_reducible exact hO) | (with_reducible apply Own.alloc) | (with_reducible apply Own.drew) | ((with_reducible apply Own.set_at); (focus (show _ ≤ _; omega))))); have hG := hF; clear hF; clear hO; intro hO; clear hG; refine own_call_stk hO (fun hB => HT.out _ hB) ?_; clear hO; intro v es w1 hE hO; have hF := hO; (try simp only [Own, Item.Holds, apartI, CellsAt, Nat.reduceAdd, Nat.zero_add, List.mem_cons, List.not_mem_nil, or_false, forall_eq_or_imp, forall_eq, ne_eq, false_imp_iff, implies_true, and_true] at hF)) | ((go_at_call 33; apply own_at hO; (repeat (first | (with_reducible exact hO) | (with_reducible apply Own.alloc) | (with_reducible apply Own.drew) | ((with_reducible apply Own.set_at); (focus (show _ ≤ _; omega))))); have hG := hF; clear hF; clear hO; intro hO; refine own_call_row hO (fun hB => HS.out _ _ hB (StkR.own' hE hO)) ?_; clear hO; intro v w1 hO; (try simp only [World.size_alloc1, World.size_drew, Nat.reduceAdd] at hO); (try simp only [upd, updI, List.map_cons, List.map_nil, eq_self, if_true, if_false, reduceIte, Nat.add_eq_left, Nat.left_eq_add, Nat.reduceEqDiff, List.set_cons_zero, List.set_cons_succ, hG] at hO); clear hG; have hF := hO; (try simp only [Own, Item.Holds, apartI, CellsAt, Nat.reduceAdd, Nat.zero_add, List.mem_cons, List.not_mem_nil, or_false, forall_eq_or_imp, forall_eq, ne_eq, false_imp_iff, implies_true, and_true] at hF)); replace hO := hO.sub (.cons_cons _ (List.nil_sublist _)); clear hE hF; have hF := hO; (try simp only [Own, Item.Holds, apartI, CellsAt, Nat.reduceAdd, Nat.zero_add, List.mem_cons, List.not_mem_nil, or_false, forall_eq_or_imp, forall_eq, ne_eq, false_imp_iff, implies_true, and_true] at hF)) | ((go_at_call 32; apply own_at hO; (repeat (first | (with_reducible exact hO) | (with_reducible apply Own.alloc) | (with_reducible apply Own.drew) | ((with_reducible apply Own.set_at); (focus (show _ ≤ _; omega))))); have hG := hF; clear hF; clear hO; intro hO; refine own_call_row hO (fun hB => HI.out _ _ hB (StkR.own' hE hO)) ?_; clear hO; intro v w1 hO; (try simp only [World.size_alloc1, World.size_drew, Nat.reduceAdd] at hO); (try simp only [upd, updI, List.map_cons, List.map_nil, eq_self, if_true, if_false, reduceIte, Nat.add_eq_left, Nat.left_eq_add, Nat.reduceEqDiff, List.set_cons_zero, List.set_cons_succ, hG] at hO); clear hG; have hF := hO; (try simp only [Own, Item.Holds, apartI, CellsAt, Nat.reduceAdd, Nat.zero_add, List.mem_cons, List.not_mem_nil, or_false, forall_eq_or_imp, forall_eq, ne_eq, false_imp_iff, implies_true, and_true] at hF)); have HK := hid hE; clear hE) | (go_at_call 27; apply own_at hO; (repeat (first | (with_reducible exact hO) | (with_reducible apply Own.alloc) | (with_reducible apply Own.drew) | ((with_reducible apply Own.set_at); (focus (show _ ≤ _; omega))))); have hG := hF; clear hF; clear hO; intro hO; refine own_callO hO (fun hW => eqFS_same _ _ k xs _ (SlAt.of_row hW.1.1) (SlAt.of_row hW.2.2.skipP.1.1) HX.out) ?_; clear hO; intro w1 hO; (try simp only [World.size_alloc1, World.size_drew, Nat.reduceAdd] at hO); (try simp only [upd, updI, List.map_cons, List.map_nil, eq_self, if_true, if_false, reduceIte, Nat.add_eq_left, Nat.left_eq_add, Nat.reduceEqDiff, List.set_cons_zero, List.set_cons_succ, hG] at hO); clear hG; have hF := hO; (try simp only [Own, Item.Holds, apartI, CellsAt, Nat.reduceAdd, Nat.zero_add, List.mem_cons, List.not_mem_nil, or_false, forall_eq_or_imp, forall_eq, ne_eq, false_imp_iff, implies_true, and_true] at hF)) | ((go_at_call 38; apply own_at hO; (repeat (first | (with_reducible exact hO) | (with_reducible apply Own.alloc) | (with_reducible apply Own.drew) | ((with_reducible apply Own.set_at); (focus (show _ ≤ _; omega))))); have hG := hF; clear hF; clear hO; intro hO; refine own_call hO (fun hB => HE.out _ _ _ (StkR.own' HK.out hO.2.skipP.2) (StkR.own' hE hO)) ?_; clear hO; intro w1 hO; (try simp only [World.size_alloc1, World.size_drew, Nat.reduceAdd] at hO); (try simp only [upd, updI, List.map_cons, List.map_nil, eq_self, if_true, if_false, reduceIte, Nat.add_eq_left, Nat.left_eq_add, Nat.reduceEqDiff, List.set_cons_zero, List.set_cons_succ, hG] at hO); clear hG; have hF := hO; (try simp only [Own, Item.Holds, apartI, CellsAt, Nat.reduceAdd, Nat.zero_add, List.mem_cons, List.not_mem_nil, or_false, forall_eq_or_imp, forall_eq, ne_eq, false_imp_iff, implies_true, and_true] at hF)); replace hO := hO.2.skipP; clear hE hF; have hF := hO; (try simp only [Own, Item.Holds, apartI, CellsAt, Nat.reduceAdd, Nat.zero_add, List.mem_cons, List.not_mem_nil, or_false, forall_eq_or_imp, forall_eq, ne_eq, false_imp_iff, implies_true, and_true] at hF)) | (go_at_call 39; apply own_at hO; (repeat (first | (with_reducible exact hO) | (with_reducible apply Own.alloc) | (with_reducible apply Own.drew) | ((with_reducible apply Own.set_at); (focus (show _ ≤ _; omega))))); have hG := hF; clear hF; clear hO; intro hO; clear hG; refine (markPSS_own _ _ _ _ _ rfl hO.deepP (by have h1 := congrArg List.length HK.out; rw [List.length_map] at h1; have := HN.out.1; omega) (by rw [HK.out]; exact HN.out.2) (by omega) (by omega)).mono ?_; clear hO HK; rintro e w1 ⟨r, rfl, hr, hO⟩; have r2 : ¬ r < 0 := (by have := hr.1; omega); clear hr; have hF := hO; (try simp only [Own, Item.Holds, apartI, CellsAt, Nat.reduceAdd, Nat.zero_add, List.mem_cons, List.not_mem_nil, or_false, forall_eq_or_imp, forall_eq, ne_eq, false_imp_iff, implies_true, and_true] at hF)) | (go_at_call 27; apply own_at hO; (repeat (first | (with_reducible exact hO) | (with_reducible apply Own.alloc) | (with_reducible apply Own.drew) | ((with_reducible apply Own.set_at); (focus (show _ ≤ _; omega))))); have hG := hF; clear hF; clear hO; intro hO; refine own_callO hO (fun hW => eqFS_same _ _ k xs _ (SlAt.of_row hW.1.1) (SlAt.of_row hW.2.1.1) HX.out) ?_; clear hO; intro w1 hO; (try simp only [World.size_alloc1, World.size_drew, Nat.reduceAdd] at hO); (try simp only [upd, updI, List.map_cons, List.map_nil, eq_self, if_true, if_false, reduceIte, Nat.add_eq_left, Nat.left_eq_add, Nat.reduceEqDiff, List.set_cons_zero, List.set_cons_succ, hG] at hO); clear hG; have hF := hO; (try simp only [Own, Item.Holds, apartI, CellsAt, Nat.reduceAdd, Nat.zero_add, List.mem_cons, List.not_mem_nil, or_false, forall_eq_or_imp, forall_eq, ne_eq, false_imp_iff, implies_true, and_true] at hF)) | (go_at_call 29; apply own_at hO; (repeat (first | (with_reducible exact hO) | (with_reducible apply Own.alloc) | (with_reducible apply Own.drew) | ((with_reducible apply Own.set_at); (focus (show _ ≤ _; omega))))); have hG := hF; clear hF; clear hO; intro hO; clear hG; refine own_markFS hO (fun hr => markFS_any _ _ _ _ _ _ _ hr (by omega) (by omega) (by omega)) ?_; clear hO; intro w1 hO; have hF := hO; (try simp only [Own, Item.Holds, apartI, CellsAt, Nat.reduceAdd, Nat.zero_add, List.mem_cons, List.not_mem_nil, or_false, forall_eq_or_imp, forall_eq, ne_eq, false_imp_iff, implies_true, and_true] at hF)) | (go_at_call 30; refine (heldFS_mk _ _ _ _ _ (SlAt.of_row hO.1.1) (by omega) (by omega) (by omega)).mono ?_; rintro e w1 ⟨rfl, rfl⟩) | (go_at_call 27; apply own_at hO; (repeat (first | (with_reducible exact hO) | (with_reducible apply Own.alloc) | (with_reducible apply Own.drew) | ((with_reducible apply Own.set_at); (focus (show _ ≤ _; omega))))); have hG := hF; clear hF; clear hO; intro hO; refine own_callO hO (fun hW => eqFS_same _ _ k xs _ (SlAt.of_row hW.1.1) (SlAt.of_row hW.2.2.skipP.2.1.1) HX.out) ?_; clear hO; intro w1 hO; (try simp only [World.size_alloc1, World.size_drew, Nat.reduceAdd] at hO); (try simp only [upd, updI, List.map_cons, List.map_nil, eq_self, if_true, if_false, reduceIte, Nat.add_eq_left, Nat.left_eq_add, Nat.reduceEqDiff, List.set_cons_zero, List.set_cons_succ, hG] at hO); clear hG; have hF := hO; (try simp only [Own, Item.Holds, apartI, CellsAt, Nat.reduceAdd, Nat.zero_add, List.mem_cons, List.not_mem_nil, or_false, forall_eq_or_imp, forall_eq, ne_eq, false_imp_iff, implies_true, and_true] at hF)) | (go_at_call 30; refine (heldFS_mk _ _ _ _ _ (SlAt.of_row hO.2.2.skipP.1.1) (by omega) (by omega) (by omega)).mono ?_; rintro e w1 ⟨rfl, rfl⟩))
    go_ret
    exact ⟨rfl, Own.base (by (repeat (first | (with_reducible exact hO) | (with_reducible apply Own.alloc) | (with_reducible apply Own.drew) | ((with_reducible apply Own.set_at); (focus (show _ ≤ _; omega))))))⟩
end Go.Proofs.YtfdglkiehkilnaaDoor
