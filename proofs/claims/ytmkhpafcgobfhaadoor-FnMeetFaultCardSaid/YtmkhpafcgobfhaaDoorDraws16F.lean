/- DrawMeetFault. -/
import Derived.Test.YtmkhpafcgobfhaaDoorDraws16I
import Derived.Test.YtmkhpafcgobfhaaDoorWalks16M
namespace Go.Proofs.YtmkhpafcgobfhaaDoor
set_option linter.unusedSimpArgs false
set_option linter.unusedVariables false
set_option maxRecDepth 8000
open Go.RowKit

def fvS16 (x : Int) : Int := ([2, 4, 0] : List Int).getD x.toNat 0
def fvH16 (x : Int) : Int := ([4, 7, 0] : List Int).getD x.toNat 0
theorem fvs16 {n b : Nat} {B : World → Prop} {w : World} {L : List Item} {x : Int} (h : Own n B w L) (hm : Item.blk b [.int .i64 2, .int .i64 4, .int .i64 4, .int .i64 7, .int .i64 0, .int .i64 0] ∈ L) (x0 : 0 ≤ x) (x1 : x < 3) :
    w.cell? ⟨b, x.toNat * 2, none⟩ = some (.int .i64 (fvS16 x)) ∧ w.cell? ⟨b, x.toNat * 2 + 1, none⟩ = some (.int .i64 (fvH16 x)) := by
  have hc := h.cells hm
  unfold fvS16 fvH16
  obtain e | e | e : x.toNat = 0 ∨ x.toNat = 1 ∨ x.toNat = 2 := by omega
  · rw [e]; exact ⟨hc.get (j := 0) rfl, hc.get (j := 1) rfl⟩
  · rw [e]; exact ⟨hc.get (j := 2) rfl, hc.get (j := 3) rfl⟩
  · rw [e]; exact ⟨hc.get (j := 4) rfl, hc.get (j := 5) rfl⟩

theorem sv16 {v l : List Nt} {st ha : Int} {b : Bool} {n k : Nat} (hn : v.length = n) (hm : n ≤ 1048576) (hl : shL v st ha = l) (hk : l.length = k) (hb : shB v st ha = b) (va : Value) (W : World) (hs : SlAt W va n 6 (vcC v)) :
    Calls Tryd.prog 46 #[va, .agg #[.int .i64 st, .int .i64 ha]] W (RowOutB 53 6 k (vcC l) b W) := by
  subst hk hl hb hn; exact svS_any va v st ha W hs hm

set_option maxRecDepth 20000 in
set_option maxHeartbeats 4000000 in
theorem DrawMeetFault_any (v : Value) (n : Nat) (w : World) (hn : n ≤ maxLen) (h : BytesB w w.heap.size v n) :
    Calls Tryd.prog 23 #[v] w (DrewIc w) := by
  go_enter Tryd.func23, Tryd.ntmps23
  go_wp2_with fail
  refine (open_any v n _ hn h).mono ?_
  rintro e w1 ⟨r, hr, rfl, hR, hb⟩
  have hrl := hR.lt
  go_wp2_with fail
  refine (l20Voice_any r 0 _ _ hR (by omega) (by omega) (by omega)).mono ?_
  rintro e w2 ⟨u, vs, hv, hl, rfl, ho, hR2, hB2⟩
  have hr2 := hR2.lt
  have hO := vs_own hb hr hB2 ho
  have hF := True.intro
  obtain ⟨m, hm⟩ : ∃ m, vs.length = m := ⟨_, rfl⟩
  rw [hm] at hO hl ho
  have HNE := hid (show (Item.row 53 6 u m (vcC vs)).at? ≠ some r from fun e => by
    have := (World.ownsRow.lt ho r e).1; omega)
  have HM := hid hm
  obtain ⟨A', c', rfl⟩ := (SlAt.of_row hO.1.1).form
  clear hR hb h hn hB2 ho hv hm
  go_wp2_with fail
  refine (pick_any r (0 + 500) _ _ hR2 (by omega) (by decide) (by decide)).mono ?_
  rintro e w3 ⟨pk, lo, hi, rfl, hR3, hB3⟩
  have hO3 := Own.drawn hB3 hr (fun x hx => by simp at hx; subst hx; exact HNE.out) hO
  clear hO hR2 hr2 hB3
  have hO := hO3
  clear hO3
  have hr3 := hR3.lt
  cases hp : (pk == 0)
  · go_wp2_with fail
    refine (l20Voice_any r (0 + 500 + 1) _ _ hR3 (by omega) (by omega) (by omega)).mono ?_
    rintro e w4 ⟨u', vs', hv', hl', rfl, ho', hR4, hB4⟩
    have HO := hid ((hO.drawn hB4 hr (fun x hx => by simp at hx; subst hx; exact HNE.out)).joinRow ho' (by omega) (fun x hx g hg => (hO.lt x hx g hg).2))
    clear hO hF hR3 hR4 hB4 ho' hv' hr3
    go_wp2_with fail
    go_ret2
    have hO := HO.out
    exact ⟨_, vs, u', vs', by have := HM.out; omega, by omega, rfl, by rw [HM.out]; exact SlAt.of_row hO.2.1.1, SlAt.of_row hO.1.1, hO.base⟩
  · go_wp2_with fail
    apply own_at hO
    (repeat (first | (with_reducible exact hO) | (with_reducible apply Own.alloc) | (with_reducible apply Own.drew) | ((with_reducible apply Own.set_at); (focus (show _ ≤ _; omega)))))
    intro hO1
    refine (pick_any r (0 + 500 + 1) _ _ (hR3.below (below1 _)) (by omega) (by decide) (by decide)).mono ?_
    rintro e w4 ⟨px, lo3, hi3, rfl, hR4, hB4⟩
    have hO4 := hO1.drawn hB4 hr (ne_rd16 hO1 (hR3.below (below1 _)) HNE.out (by simp [numHead16]))
    have hcc := fvs16 (x := px) hO4 List.mem_cons_self lo3 hi3
    have hc3 := hcc.1
    have hc4 := hcc.2
    clear hcc hO hO1 hR3 hB4 hr3
    have hR4l := hR4.lt
    obtain ⟨l, hcl⟩ : ∃ l, shL vs (fvS16 px) (fvH16 px) = l := ⟨_, rfl⟩
    obtain ⟨k, hk⟩ : ∃ k, l.length = k := ⟨_, rfl⟩
    have hkm : k ≤ m := by rw [← hk, ← hcl, ← HM.out]; unfold shL; split <;> simp
    cases hb : shB vs (fvS16 px) (fvH16 px)
    · have HC := hid (fun va W => sv16 HM.out (by omega) hcl hk hb va W)
      clear hcl hk hb hkm
      go_wp2_with fail
      refine (HC.out _ _ (SlAt.of_row hO4.2.1.1)).mono ?_
      rintro e w5 ⟨x, rfl, hx, hb5⟩
      have hO5 := (hO4.below hb5).drop
      have hR5 := hR4.below hb5
      clear hO4 hx hR4 hb5 hc3 hc4 hR4l
      have hR5l := hR5.lt
      go_wp2_with fail
      refine (l20Voice_any r (0 + 500 + 1 + 1) _ _ hR5 (by omega) (by omega) (by omega)).mono ?_
      rintro e w6 ⟨u', vs', hv', hl', rfl, ho', hR6, hB6⟩
      have HO := hid ((hO5.drawn hB6 hr (fun x hx => by simp at hx; subst hx; exact HNE.out)).joinRow ho' (by omega) (fun x hx g hg => (hO5.lt x hx g hg).2))
      clear hO5 hF hR5 hR6 hB6 ho' hv'
      go_wp2_with fail
      go_ret2
      have hO := HO.out
      exact ⟨_, vs, u', vs', by have := HM.out; omega, by omega, rfl, by rw [HM.out]; exact SlAt.of_row hO.2.1.1, SlAt.of_row hO.1.1, hO.base⟩
    · have HC := hid (fun va W => sv16 HM.out (by omega) hcl hk hb va W)
      have HK := hid hk
      clear hcl hk hb
      go_wp2_with fail
      refine (HC.out _ _ (SlAt.of_row hO4.2.1.1)).mono ?_
      rintro e w5 ⟨x, rfl, hx, hb5⟩
      have HO := hid (hO4.addRow hb5 hx)
      clear hO4 hx hR4 hb5 hc3 hc4 hR4l
      go_wp2_with fail
      go_ret2
      have hO := HO.out
      exact ⟨_, vs, _, l, by have := HM.out; omega, by have := HK.out; omega, rfl, by rw [HM.out]; exact SlAt.of_row hO.2.2.1.1, by rw [HK.out]; exact SlAt.of_row hO.1.1, hO.base⟩
end Go.Proofs.YtmkhpafcgobfhaaDoor
