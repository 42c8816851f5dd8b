/- The functions that draw for a law of chapter 12: four voices; four voices near others. -/
import Derived.Test.YtfdglkiehkilnaaDoorDraws10
import Derived.Test.YtfdglkiehkilnaaDoorDrawBase
import Derived.Test.YtfdglkiehkilnaaDoorWalksSpell
import Derived.WalkLawsBesides
import Derived.Test.YtfdglkiehkilnaaDoorRegionD
namespace Go.Proofs.YtfdglkiehkilnaaDoor
set_option linter.unusedSimpArgs false
set_option linter.unusedVariables false
set_option maxRecDepth 8000
open Go.RowKit

/-- What SpellKey gives, whatever came in. -/
def spT (key : Int) (fl : Bool) : Pt := if 0 ≤ key ∧ key ≤ 107 then ⟨spS key fl, spA key fl, key / 12⟩ else pt0
def spTB (key : Int) : Bool := decide (0 ≤ key ∧ key ≤ 107)
theorem spT_ok (key : Int) (fl : Bool) : ptOk (spT key fl) := by
  unfold spT
  split
  · rename_i h
    have h1 : -1 ≤ spS key fl ∧ spS key fl ≤ 6 := by
      unfold spS
      repeat' split
      all_goals exact stepZ_bd _
    have h2 : -1 ≤ spA key fl ∧ spA key fl ≤ 1 := by
      unfold spA
      repeat' split
      all_goals omega
    exact ⟨show _ ∧ _ by dsimp only; omega, show _ ∧ _ by dsimp only; omega, show _ ∧ _ by dsimp only; omega⟩
  · unfold pt0 ptOk; simp
theorem spellT_any (key : Int) (fl : Bool) (w : World) :
    Calls Tryd.prog 99 #[.int .i64 key, .bool fl] w fun e w' => e = .returned (.tuple #[.agg #[.int .i64 (spT key fl).s, .int .i64 (spT key fl).a, .int .i64 (spT key fl).o], .bool (spTB key)]) ∧ Below w.heap.size w w' := by
  by_cases h : 0 ≤ key ∧ key ≤ 107
  · have e : spT key fl = ⟨spS key fl, spA key fl, key / 12⟩ := if_pos h
    have e2 : spTB key = true := decide_eq_true h
    rw [e, e2]
    exact spellS_yes key fl w h.1 h.2
  · have e : spT key fl = pt0 := if_neg h
    have e2 : spTB key = false := decide_eq_false h
    rw [e, e2]
    exact spellS_no key fl w (by omega)
theorem adT_ok {x : Pt} {v : Int × Int} (h : adT? x v = true) : ptOk (adT x v) := ptOk_pv (adB_parts h).2.2.2
theorem ky_bd {x : Pt} (h : ptOk x) : -100 ≤ kyP x ∧ kyP x ≤ 200 := by
  unfold kyP keyZ
  unfold ptOk at h
  split
  · rename_i hb
    have hp := pvP_iff.1 hb
    have := natZ_bd (p := 7 * x.o + x.s) (by omega)
    omega
  · omega
/-- What AddInterval gives, whatever came in. -/
def adX (x : Pt) (v : Int × Int) : Pt := if adT? x v then adT x v else pt0
theorem adX_ok (x : Pt) (v : Int × Int) : ptOk (adX x v) := by
  unfold adX
  split
  · exact adT_ok ‹_›
  · unfold pt0 ptOk; simp
theorem addX_any (x : Pt) (v : Int × Int) (w : World) :
    Calls Tryd.prog 98 #[.agg #[.int .i64 x.s, .int .i64 x.a, .int .i64 x.o], .agg #[.int .i64 v.1, .int .i64 v.2]] w fun e w' => e = .returned (.tuple #[.agg #[.int .i64 (adX x v).s, .int .i64 (adX x v).a, .int .i64 (adX x v).o], .bool (adT? x v)]) ∧ Below w.heap.size w w' := by
  have h := adS_is (x := x) (v := v) rfl w
  unfold adX
  cases hb : adT? x v
  · rw [hb] at h; exact h
  · rw [hb] at h; exact h
theorem slAt_but {r : Nat} {w W : World} {v : Value} {k size : Nat} {xs : List Value} (h : SlAt w v k size xs) (hb : ButR r w W) (hne : v.ownBlock ≠ some r) : SlAt W v k size xs := by
  obtain ⟨h1, h2⟩ := h
  refine ⟨h1, ?_⟩
  rcases h2 with h2 | ⟨b, off, cap, rfl, h4, h5, h6, h7⟩
  · exact Or.inl h2
  · have hbr : b ≠ r := fun e => hne (by subst e; rfl)
    exact Or.inr ⟨b, off, cap, rfl, h4, h5, Nat.lt_of_lt_of_le h6 hb.size, fun j u hj => by rw [hb.cells.1 _ _ h6 hbr]; exact h7 j u hj⟩
theorem pcC_set : ∀ {l : List Pt} {k : Nat} {p : Pt}, k < l.length → (((pcC l).set (k * 3) (.int .i64 p.s)).set (k * 3 + 1) (.int .i64 p.a)).set (k * 3 + 2) (.int .i64 p.o) = pcC (l.set k p)
  | [], k, p, h => by simp at h
  | z :: l, 0, p, _ => rfl
  | z :: l, k + 1, p, h => by
    have ih := pcC_set (l := l) (k := k) (p := p) (by simpa using h)
    rw [List.set_cons_succ, show pcC (z :: l.set k p) = ptC z ++ pcC (l.set k p) from rfl, ← ih]
    have e : pcC (z :: l) = ptC z ++ pcC l := rfl
    have hz : (ptC z).length = 3 := rfl
    have g : ∀ (xs : List Value) (i : Nat) (v : Value), (ptC z ++ xs).set ((k + 1) * 3 + i) v = ptC z ++ xs.set (k * 3 + i) v := fun xs i v => by
      rw [List.set_append, if_neg (by omega), hz, show (k + 1) * 3 + i - 3 = k * 3 + i by omega]
    rw [e, show (k + 1) * 3 = (k + 1) * 3 + 0 by omega, g, show (k + 1) * 3 + 0 + 1 = (k + 1) * 3 + 1 by omega, g, show (k + 1) * 3 + 0 + 2 = (k + 1) * 3 + 2 by omega, g]
    rfl

/-- Where the reader stands while a region draws twice. -/
def XR12 (r : Nat) (P : Int) : Nat → World → Prop
  | 0 => fun w => Rd w r P
  | 1 => fun w => Rd w r (P + 1)
  | _ + 2 => fun _ => True

/-- Four voices that were drawn: a row of four pitches, or the last three of them. -/
def StkV (u : Value) (l : List Pt) (u' : Value) (l' : List Pt) : Prop :=
  (u = u' ∧ l = l') ∨ ∃ (q cap : Nat), u' = .slice (some ⟨q, 0, none⟩) 4 cap ∧ u = .slice (some ⟨q, 0 + 1 * 3, none⟩) (4 - 1) (cap - 1) ∧ l = l'.drop 1
theorem StkV.at {n : Nat} {B : World → Prop} {w : World} {L : List Item} {u u' : Value} {l l' : List Pt} (h : StkV u l u' l') (h4 : l'.length = 4) (hO : Own n B w (.row 29 3 u' 4 (pcC l') :: L)) : SlAt w u l.length 3 (pcC l) := by
  have hs := SlAt.of_row hO.1.1
  rcases h with ⟨rfl, rfl⟩ | ⟨q, cap, rfl, rfl, rfl⟩
  · rw [h4]; exact hs
  · rw [List.length_drop, h4]
    exact slAt_dropP hs h4 (by omega)
theorem StkV.ok {u u' : Value} {l l' : List Pt} (h : StkV u l u' l') (h4 : l'.length = 4) (hv : ∀ x ∈ l', ptOk x) : (∀ x ∈ l, ptOk x) ∧ l.length ≤ 4 := by
  rcases h with ⟨rfl, rfl⟩ | ⟨q, cap, rfl, rfl, rfl⟩
  · exact ⟨hv, by omega⟩
  · exact ⟨fun x hx => hv x (List.mem_of_mem_drop hx), by rw [List.length_drop]; omega⟩
theorem StkV.block {n : Nat} {B : World → Prop} {w : World} {L : List Item} {u u' : Value} {l l' : List Pt} (h : StkV u l u' l') (hO : Own n B w (.row 29 3 u' 4 (pcC l') :: L)) {r : Nat} (hr : r < n) : u.ownBlock ≠ some r := by
  obtain ⟨q, cap, rfl, hq, _⟩ := hO.row_open (by omega)
  have hq' := (World.ownsRow.lt hO.1.1 q rfl).1
  rcases h with ⟨rfl, rfl⟩ | ⟨q', cap', e, rfl, rfl⟩
  · intro e
    simp [Value.ownBlock] at e
    omega
  · cases e
    intro e
    simp [Value.ownBlock] at e
    omega
/-- What drawing four voices leaves. -/
def DrewSt (r : Nat) (P : Int) (w : World) (e : Ending) (w' : World) : Prop :=
  ∃ (u : Value) (l : List Pt) (u' : Value) (l' : List Pt), (∀ x ∈ l', ptOk x) ∧ l'.length = 4 ∧ StkV u l u' l' ∧ e = .returned u ∧ w'.ownsRow w.heap.size 29 3 u' 4 (pcC l') ∧ Rd w' r (P + 100) ∧ ButR r w w'
theorem DrewSt.all {r : Nat} {P Q : Int} {w w' : World} {u : Value} {l : List Pt} {L : List Item} (hO : Own w.heap.size (Bd r w Q) w' (.row 29 3 u 4 (pcC l) :: L)) (hQ : Q ≤ P + 100) (hv : ∀ x ∈ l, ptOk x) (hl : l.length = 4) : DrewSt r P w (.returned u) w' :=
  ⟨u, l, u, l, hv, hl, Or.inl ⟨rfl, rfl⟩, rfl, hO.1.1, hO.base.2.mono hQ, hO.base.1⟩
theorem DrewSt.part {r q cap : Nat} {P Q : Int} {w w' : World} {l : List Pt} {L : List Item} (hO : Own w.heap.size (Bd r w Q) w' (.row 29 3 (.slice (some ⟨q, 0, none⟩) 4 cap) 4 (pcC l) :: L)) (hQ : Q ≤ P + 100) (hv : ∀ x ∈ l, ptOk x) (hl : l.length = 4) : DrewSt r P w (.returned (.slice (some ⟨q, 0 + 1 * 3, none⟩) (4 - 1) (cap - 1))) w' :=
  ⟨_, l.drop 1, _, l, hv, hl, Or.inr ⟨q, cap, rfl, rfl, rfl⟩, rfl, hO.1.1, hO.base.2.mono hQ, hO.base.1⟩
theorem low_at {k : Nat} (hk : k < 4) : ∃ lo : Int, (28 ≤ lo ∧ lo ≤ 48) ∧ [Value.int .i64 28, .int .i64 36, .int .i64 43, .int .i64 48][k]? = some (.int .i64 lo) := by
  obtain rfl | rfl | rfl | rfl : k = 0 ∨ k = 1 ∨ k = 2 ∨ k = 3 := by omega
  · exact ⟨28, by omega, rfl⟩
  · exact ⟨36, by omega, rfl⟩
  · exact ⟨43, by omega, rfl⟩
  · exact ⟨48, by omega, rfl⟩
theorem low_cell {n : Nat} {B : World → Prop} {w : World} {b k : Nat} {lo : Int} {L : List Item} (h : Own n B w L) (hm : Item.blk b [.int .i64 28, .int .i64 36, .int .i64 43, .int .i64 48] ∈ L) (hk : [Value.int .i64 28, .int .i64 36, .int .i64 43, .int .i64 48][k]? = some (.int .i64 lo)) : w.cell? ⟨b, k, none⟩ = some (.int .i64 lo) := by
  simpa using (h.cells hm).get (j := k) hk

set_option maxRecDepth 20000 in
set_option maxHeartbeats 8000000 in
theorem l20Stack_any (r : Nat) (P n : Int) (w : World) (h : Rd w r P) (hP : P ≤ 700000) (n0 : 0 ≤ n) (n1 : n ≤ 1000000) :
    Calls Tryd.prog 67 #[.pointer (some ⟨r, 0, none⟩), .int .i64 n] w (DrewSt r P w) := by
  have hr0 := h.lt
  have hO := Own.startD h
  have hF := True.intro
  obtain ⟨i0, hi0, hz0, hz1, hz2⟩ := info_parts infoPi
  clear h
  go_enter Tryd.func67, Tryd.ntmps67
  go_upto_region 2 with fail
  (apply own_code hO; (repeat (first | (with_reducible exact hO) | (with_reducible apply Own.alloc) | (with_reducible apply Own.drew) | ((with_reducible apply Own.set_at); (focus (show _ ≤ _; omega))))); have hG := hF; clear hF; clear hO; intro hO; (try simp only [World.size_alloc1, World.size_drew, Nat.reduceAdd] at hO); (try simp only [upd, updI, List.map_cons, List.map_nil, eq_self, if_true, if_false, reduceIte, Nat.add_eq_left, Nat.left_eq_add, Nat.reduceEqDiff, List.set_cons_zero, List.set_cons_succ, hG] at hO); clear hG; have hF := hO; (try simp only [Own, Item.Holds, apartI, CellsAt, Nat.reduceAdd, Nat.zero_add, List.mem_cons, List.not_mem_nil, or_false, forall_eq_or_imp, forall_eq, ne_eq, false_imp_iff, implies_true, and_true] at hF))
  go_wp2_with fail
  replace hO := hO.allocRow (e := 29) (cur := #[]) (k := 0) (cap := 0) 3 (by omega) (by unfold maxLen; omega) rfl
  have hG := hF
  (try simp only [World.size_alloc1, World.size_drew, Nat.reduceAdd] at hO); (try simp only [upd, updI, List.map_cons, List.map_nil, eq_self, if_true, if_false, reduceIte, Nat.add_eq_left, Nat.left_eq_add, Nat.reduceEqDiff, List.set_cons_zero, List.set_cons_succ, hG] at hO); clear hG
  rw [show List.take (0 * 3) (#[] : Array Value).toList = pcC [] from rfl] at hO
  go_loopw [6, 7] (fun u t wr => ∃ (k : Nat) (v : List Pt), k ≤ 4 ∧ t = .int .i64 k ∧ v.length = k ∧ Hid (∀ x ∈ v, ptOk x) ∧ Own w.heap.size (Bd r w (P + 2 * k)) wr [.row 29 3 u k (pcC v), .blk w.heap.size [.int .i64 28, .int .i64 36, .int .i64 43, .int .i64 48]]) (fun _ t _ => 4 - (intOf t).toNat)
  case atStart => exact ⟨0, [], by omega, rfl, rfl, hid (fun z hz => (by cases hz)), hO.mono hr0 (by omega)⟩
  case round =>
    clear hO hF
    obtain ⟨k, v, hk, rfl, hvk, hv, hO⟩ := hrel
    have hF := hO; (try simp only [Own, Item.Holds, apartI, CellsAt, Nat.reduceAdd, Nat.zero_add, List.mem_cons, List.not_mem_nil, or_false, forall_eq_or_imp, forall_eq, ne_eq, false_imp_iff, implies_true, and_true] at hF)
    by_cases he : k = 4
    · subst he
      replace hO := Own.sub (.cons_cons _ (.cons _ (List.Sublist.refl _))) hO
      clear hF
      have hF := hO; (try simp only [Own, Item.Holds, apartI, CellsAt, Nat.reduceAdd, Nat.zero_add, List.mem_cons, List.not_mem_nil, or_false, forall_eq_or_imp, forall_eq, ne_eq, false_imp_iff, implies_true, and_true] at hF)
      go_wp2_with fail
      (go_at_call 68; apply own_at hO; (repeat (first | (with_reducible exact hO) | (with_reducible apply Own.alloc) | (with_reducible apply Own.drew) | ((with_reducible apply Own.set_at); (focus (show _ ≤ _; omega))))); have hG := hF; clear hF; clear hO; intro hO; refine own_odd hO hr0 (by omega) (by omega) (by omega) ?_; clear hO; intro x w1 hO; (try simp only [World.size_alloc1, World.size_drew, Nat.reduceAdd] at hO); (try simp only [upd, updI, List.map_cons, List.map_nil, eq_self, if_true, if_false, reduceIte, Nat.add_eq_left, Nat.left_eq_add, Nat.reduceEqDiff, List.set_cons_zero, List.set_cons_succ, hG] at hO); clear hG; have hF := hO; (try simp only [Own, Item.Holds, apartI, CellsAt, Nat.reduceAdd, Nat.zero_add, List.mem_cons, List.not_mem_nil, or_false, forall_eq_or_imp, forall_eq, ne_eq, false_imp_iff, implies_true, and_true] at hF))
      cases x
      · go_wp2_with fail
        go_ret
        exact DrewSt.all hO (by omega) hv.out hvk
      · obtain ⟨q, cap, hv1, hq1, hq2⟩ := hO.row_open (by omega)
        subst hv1
        clear hF
        have hF := hO; (try simp only [Own, Item.Holds, apartI, CellsAt, Nat.reduceAdd, Nat.zero_add, List.mem_cons, List.not_mem_nil, or_false, forall_eq_or_imp, forall_eq, ne_eq, false_imp_iff, implies_true, and_true] at hF)
        unfold maxLen at hq2
        go_wp2_with fail
        (go_at_call 65; apply own_at hO; (repeat (first | (with_reducible exact hO) | (with_reducible apply Own.alloc) | (with_reducible apply Own.drew) | ((with_reducible apply Own.set_at); (focus (show _ ≤ _; omega))))); have hG := hF; clear hF; clear hO; intro hO; refine own_pick (k := 3) hO hr0 (by omega) (by omega) (by omega) ?_; clear hO; intro x w1 x0 x1 hO; (try simp only [World.size_alloc1, World.size_drew, Nat.reduceAdd] at hO); (try simp only [upd, updI, List.map_cons, List.map_nil, eq_self, if_true, if_false, reduceIte, Nat.add_eq_left, Nat.left_eq_add, Nat.reduceEqDiff, List.set_cons_zero, List.set_cons_succ, hG] at hO); clear hG; have hF := hO; (try simp only [Own, Item.Holds, apartI, CellsAt, Nat.reduceAdd, Nat.zero_add, List.mem_cons, List.not_mem_nil, or_false, forall_eq_or_imp, forall_eq, ne_eq, false_imp_iff, implies_true, and_true] at hF))
        rcases (show x = 0 ∨ x = 1 ∨ x = 2 by omega) with rfl | rfl | rfl
        · clear x0 x1
          go_wp2_with fail
          go_ret
          exact DrewSt.part hO (by omega) hv.out hvk
        · clear x0 x1
          go_wp2_with fail
          (go_at_call 65; apply own_at hO; (repeat (first | (with_reducible exact hO) | (with_reducible apply Own.alloc) | (with_reducible apply Own.drew) | ((with_reducible apply Own.set_at); (focus (show _ ≤ _; omega))))); have hG := hF; clear hF; clear hO; intro hO; refine own_pick (k := 4) hO hr0 (by omega) (by omega) (by omega) ?_; clear hO; intro x w1 x0 x1 hO; (try simp only [World.size_alloc1, World.size_drew, Nat.reduceAdd] at hO); (try simp only [upd, updI, List.map_cons, List.map_nil, eq_self, if_true, if_false, reduceIte, Nat.add_eq_left, Nat.left_eq_add, Nat.reduceEqDiff, List.set_cons_zero, List.set_cons_succ, hG] at hO); clear hG; have hF := hO; (try simp only [Own, Item.Holds, apartI, CellsAt, Nat.reduceAdd, Nat.zero_add, List.mem_cons, List.not_mem_nil, or_false, forall_eq_or_imp, forall_eq, ne_eq, false_imp_iff, implies_true, and_true] at hF))
          obtain ⟨m, rfl⟩ : ∃ m : Nat, x = m := ⟨x.toNat, by omega⟩
          have hm4 : m < 4 := by omega
          go_wp2_with fail
          (go_at_call 91; apply own_at hO; (repeat (first | (with_reducible exact hO) | (with_reducible apply Own.alloc) | (with_reducible apply Own.drew) | ((with_reducible apply Own.set_at); (focus (show _ ≤ _; omega))))); have hG := hF; clear hF; clear hO; intro hO; refine own_pitch hO hr0 (by omega) (by omega) (by omega) ?_; clear hO; intro s a o w1 hs ha ho hO; (try simp only [World.size_alloc1, World.size_drew, Nat.reduceAdd] at hO); (try simp only [upd, updI, List.map_cons, List.map_nil, eq_self, if_true, if_false, reduceIte, Nat.add_eq_left, Nat.left_eq_add, Nat.reduceEqDiff, List.set_cons_zero, List.set_cons_succ, hG] at hO); clear hG; have hF := hO; (try simp only [Own, Item.Holds, apartI, CellsAt, Nat.reduceAdd, Nat.zero_add, List.mem_cons, List.not_mem_nil, or_false, forall_eq_or_imp, forall_eq, ne_eq, false_imp_iff, implies_true, and_true] at hF))
          have HM := hid (show (pcC v).length = 12 by rw [pcC_len, hvk])
          have c0 := hO.row_cell (List.getElem?_eq_getElem (l := pcC v) (i := m * 3) (by have := HM.out; omega))
          have c1 := hO.row_cell (List.getElem?_eq_getElem (l := pcC v) (i := m * 3 + 1) (by have := HM.out; omega))
          have c2 := hO.row_cell (List.getElem?_eq_getElem (l := pcC v) (i := m * 3 + 2) (by have := HM.out; omega))
          have r0 := hO.row_free (m * 3)
          have r1 := hO.row_free (m * 3 + 1)
          have r2 := hO.row_free (m * 3 + 2)
          go_wp2_with fail
          replace hO := ((hO.row_set (m * 3) (.int .i64 s)).row_set (m * 3 + 1) (.int .i64 a)).row_set (m * 3 + 2) (.int .i64 o)
          rw [pcC_set (p := ⟨s, a, o⟩) (by omega)] at hO
          go_ret
          exact DrewSt.all hO (by omega) (fun y hy => by
            rcases List.mem_or_eq_of_mem_set hy with hy | rfl
            · exact hv.out y hy
            · exact ⟨hs, ha, ho⟩) (by rw [List.length_set, hvk])
        · clear x0 x1
          have c2 := hO.row_cell (cells2 (l := v) (by omega)).choose_spec
          have r2 := hO.row_free 2
          go_wp2_with fail
          replace hO := hO.row_set 2 (.int .i64 1)
          rw [upO_cells (by omega)] at hO
          go_ret
          exact DrewSt.all hO (by omega) (upO_ok (o := 1) hv.out (by omega)) ((upO_len 1 v).trans hvk)
    · have hil : k < 4 := by omega
      have hi2 : (k : Int) < 4 := by omega
      have hi0' : (0 : Int) ≤ (k : Int) := by omega
      obtain ⟨lo, hlo, hlc⟩ := low_at hil
      have HLC := hid hlc
      clear he hlc
      go_upto_region 6 with fail
      have hX : XR12 r (P + 2 * (k : Int)) 0 _ := hO.base.2.mono (by omega)
      replace hO := hO.mono (Q := P + 2 * ((k : Int) + 1)) hr0 (by omega)
      apply own_code hO
      (repeat (first | (with_reducible exact hO) | (with_reducible apply Own.alloc) | (with_reducible apply Own.drew) | ((with_reducible apply Own.set_at); (focus (show _ ≤ _; omega)))))
      have hG := hF; clear hF; clear hO; intro hO
      (try simp only [World.size_alloc1, World.size_drew, Nat.reduceAdd] at hO); (try simp only [upd, updI, List.map_cons, List.map_nil, eq_self, if_true, if_false, reduceIte, Nat.add_eq_left, Nat.left_eq_add, Nat.reduceEqDiff, List.set_cons_zero, List.set_cons_succ, hG] at hO); clear hG
      refine region_own (X := XR12 r (P + 2 * (k : Int)) 0) [15] (by kernel_rfl) (hO) (hX) (by first | exact XStab.true | exact XStab.rd | exact XStab.rdIf) ?_
      clear hO
      refine Sim.sP (i := 0) (d := some 17) (h := ?_)
      refine Sim.sP (i := 1) (d := some 18) (h := ?_)
      refine Sim.sP (i := 2) (d := some 19) (h := ?_)
      refine Sim.sO (i := 3) (d := some 20) (v := ?_) (hy := ?_) (h := ?_)
      rotate_left
      · first | refine Or.inl ⟨by rfl, fun w hO => ?_⟩ | (refine Or.inr ⟨by rfl, ?_⟩; with_reducible rfl)
        first | done | (have hF := hO; (try simp only [Own, Item.Holds, apartI, CellsAt, Nat.reduceAdd, Nat.zero_add, List.mem_cons, List.not_mem_nil, or_false, forall_eq_or_imp, forall_eq, ne_eq, false_imp_iff, implies_true, and_true] at hF); ((have hc1 := low_cell hO (by first | exact List.mem_cons_of_mem _ List.mem_cons_self | exact List.mem_cons_of_mem _ (List.mem_cons_of_mem _ List.mem_cons_self)) HLC.out)); refine Out.same ?_; go_simp; all_goals with_reducible rfl)
      refine Sim.sP (i := 4) (d := some 21) (h := ?_)
      refine Sim.sP (i := 7) (d := some 24) (h := ?_)
      refine Sim.many (rs := [5, 14]) (by kernel_rfl) (by decide) ?_
      refine AllS.cons (oi := { dst := some 22, op := Op.call { callee := Callee.value (Operand.func 65), args := #[Operand.tmp 21, Operand.const (Value.int IntKind.i64 19)], argTypes := #[67, 3] }, type := 3, pos := "l20_draw.go:609", after := #[{ on := 4, ground := Ground.data }], guard := none }) rfl (by rfl) (fun w0 hO hX K hK => ?_) ?_
      rotate_left
      refine AllS.cons (oi := { dst := some 8, op := Op.alloc 29, type := 0, pos := "l20_draw.go:609", after := #[], guard := none }) rfl (by rfl) (fun w0 hO hX K hK => ?_) ?_
      rotate_left
      exact AllS.nil
      rotate_right 2
      have hF := hO; (try simp only [Own, Item.Holds, apartI, CellsAt, Nat.reduceAdd, Nat.zero_add, List.mem_cons, List.not_mem_nil, or_false, forall_eq_or_imp, forall_eq, ne_eq, false_imp_iff, implies_true, and_true] at hF)
      go_simp
      refine (pick_any r (P + 2 * (k : Int) + 0) _ _ (show Rd _ r _ from hX.mono (by omega)) (by omega) (by decide) (by decide)).mono ?_
      rintro e wa ⟨pk0, pl0, pu0, rfl, hR4, hB4⟩
      have sm0 : IntKind.i64.wrap (lo + pk0) = lo + pk0 := IntWalk.i64_in _ (by omega)
      apply hK _ _ _ (XR12 r (P + 2 * (k : Int)) 1)
      · exact Own.but hr0 (Stab.bd hr0) ⟨hO.base.1.trans hB4, hR4.mono (by omega)⟩ hB4 hO
      · first | exact trivial | exact hR4.mono (by omega)
      · first | exact XStab.true | exact XStab.rd
      · exact fun _ _ h => h
      clear hR4 hB4
      clear hK K hF hO
      try simp only [Act.put, List.setIfInBounds_toArray, List.set_cons_zero, List.set_cons_succ]
      refine Sim.sP (i := 6) (d := some 23) (h := ?_)
      refine Sim.many (rs := [8, 14]) (by kernel_rfl) (by decide) ?_
      refine AllS.cons (oi := { dst := some 25, op := Op.call { callee := Callee.value (Operand.func 65), args := #[Operand.tmp 24, Operand.const (Value.int IntKind.i64 2)], argTypes := #[67, 3] }, type := 3, pos := "l20_draw.go:609", after := #[{ on := 7, ground := Ground.data }, { on := 5, ground := Ground.chain }], guard := none }) rfl (by rfl) (fun w0 hO hX K hK => ?_) ?_
      rotate_left
      refine AllS.cons (oi := { dst := some 8, op := Op.alloc 29, type := 0, pos := "l20_draw.go:609", after := #[], guard := none }) rfl (by rfl) (fun w0 hO hX K hK => ?_) ?_
      rotate_left
      exact AllS.nil
      rotate_right 2
      have hF := hO; (try simp only [Own, Item.Holds, apartI, CellsAt, Nat.reduceAdd, Nat.zero_add, List.mem_cons, List.not_mem_nil, or_false, forall_eq_or_imp, forall_eq, ne_eq, false_imp_iff, implies_true, and_true] at hF)
      go_simp
      refine (pick_any r (P + 2 * (k : Int) + 1) _ _ (show Rd _ r _ from hX.mono (by omega)) (by omega) (by decide) (by decide)).mono ?_
      rintro e wa ⟨pk1, pl1, pu1, rfl, hR4, hB4⟩
      have sm1 : IntKind.i64.wrap (lo + pk1) = lo + pk1 := IntWalk.i64_in _ (by omega)
      apply hK _ _ _ (XR12 r (P + 2 * (k : Int)) 2)
      · exact Own.but hr0 (Stab.bd hr0) ⟨hO.base.1.trans hB4, hR4.mono (by omega)⟩ hB4 hO
      · first | exact trivial | exact hR4.mono (by omega)
      · first | exact XStab.true | exact XStab.rd
      · exact fun _ _ h => h
      clear hR4 hB4
      clear hK K hF hO
      try simp only [Act.put, List.setIfInBounds_toArray, List.set_cons_zero, List.set_cons_succ]
      refine Sim.sP (i := 9) (d := some 26) (h := ?_)
      refine Sim.sO (i := 10) (d := some 27) (v := ?_) (hy := ?_) (h := ?_)
      rotate_left
      · first | refine Or.inl ⟨by rfl, fun w hO => ?_⟩ | (refine Or.inr ⟨by rfl, ?_⟩; with_reducible rfl)
        first | done | (refine Out.call (f := 99) (args := ?_) ?_ ?_; rotate_left; (focus (go_simp; all_goals with_reducible rfl)); exact spellT_any _ _ _)
      refine Sim.sP (i := 11) (d := some 16) (h := ?_)
      refine Sim.sP (i := 12) (d := some 28) (h := ?_)
      refine Sim.sP (i := 13) (d := some 29) (h := ?_)
      refine Sim.one' (i := 14) (oi := { dst := some 8, op := Op.alloc 29, type := 0, pos := "l20_draw.go:609", after := #[], guard := none }) (by kernel_rfl) rfl (by rfl) (fun w0 hO hX K hK => ?_)
      have hF := hO; (try simp only [Own, Item.Holds, apartI, CellsAt, Nat.reduceAdd, Nat.zero_add, List.mem_cons, List.not_mem_nil, or_false, forall_eq_or_imp, forall_eq, ne_eq, false_imp_iff, implies_true, and_true] at hF)
      go_simp
      apply hK _ _ _ (XR12 r (P + 2 * (k : Int)) 2)
      (repeat (first | (with_reducible exact hO) | (with_reducible apply Own.alloc) | (with_reducible apply Own.drew) | ((with_reducible apply Own.set_at); (focus (show _ ≤ _; omega)))))
      · first | exact trivial | exact hX | exact hX.below (below1 _) | exact RdIf.gone | exact hX.keep ((Below.refl _ _).setCell (by first | omega | (dsimp only; omega)) _)
      · exact (by first | exact XStab.true | exact XStab.rd | exact XStab.rdIf)
      · first | exact fun _ _ h => h.2 | exact fun _ _ h => h | exact fun h => absurd h (by decide)
      try simp only [upd, updI, List.map_cons, List.map_nil, eq_self, if_true, if_false, reduceIte, Nat.add_eq_left, Nat.left_eq_add, Nat.reduceEqDiff, List.set_cons_zero, List.set_cons_succ, hF]
      clear hK K hF hO
      try simp only [Act.put, List.setIfInBounds_toArray, List.set_cons_zero, List.set_cons_succ]
      refine Sim.one' (i := 15) (oi := { dst := none, op := Op.store 29 (Operand.tmp 8) (Operand.tmp 28), type := 0, pos := "l20_draw.go:609", after := #[{ on := 14, ground := Ground.data }, { on := 12, ground := Ground.data }, { on := 10, ground := Ground.chain }, { on := 0, ground := Ground.phase }, { on := 1, ground := Ground.phase }, { on := 2, ground := Ground.phase }, { on := 3, ground := Ground.phase }, { on := 4, ground := Ground.phase }, { on := 5, ground := Ground.phase }, { on := 6, ground := Ground.phase }, { on := 7, ground := Ground.phase }, { on := 8, ground := Ground.phase }, { on := 9, ground := Ground.phase }, { on := 10, ground := Ground.phase }, { on := 11, ground := Ground.phase }, { on := 12, ground := Ground.phase }, { on := 13, ground := Ground.textOnly Departure.lateStores }, { on := 14, ground := Ground.phase }], guard := none }) (by kernel_rfl) rfl (by rfl) (fun w0 hO hX K hK => ?_)
      have hF := hO; (try simp only [Own, Item.Holds, apartI, CellsAt, Nat.reduceAdd, Nat.zero_add, List.mem_cons, List.not_mem_nil, or_false, forall_eq_or_imp, forall_eq, ne_eq, false_imp_iff, implies_true, and_true] at hF); ((have hc1 := low_cell hO (by first | exact List.mem_cons_of_mem _ List.mem_cons_self | exact List.mem_cons_of_mem _ (List.mem_cons_of_mem _ List.mem_cons_self)) HLC.out))
      go_simp
      apply hK _ _ _ (XR12 r (P + 2 * (k : Int)) 2)
      (repeat (first | (with_reducible exact hO) | (with_reducible apply Own.alloc) | (with_reducible apply Own.drew) | ((with_reducible apply Own.set_at); (focus (show _ ≤ _; omega)))))
      · first | exact trivial | exact hX | exact hX.below (below1 _) | exact RdIf.gone | exact hX.keep ((Below.refl _ _).setCell (by first | omega | (dsimp only; omega)) _)
      · exact (by first | exact XStab.true | exact XStab.rd | exact XStab.rdIf)
      · first | exact fun _ _ h => h.2 | exact fun _ _ h => h | exact fun h => absurd h (by decide)
      try simp only [upd, updI, List.map_cons, List.map_nil, eq_self, if_true, if_false, reduceIte, Nat.add_eq_left, Nat.left_eq_add, Nat.reduceEqDiff, List.set_cons_zero, List.set_cons_succ, hF]
      clear hK K hF hO
      try simp only [Act.put, List.setIfInBounds_toArray, List.set_cons_zero, List.set_cons_succ]
      refine Sim.sP (i := 16) (d := some 9) (h := ?_)
      refine Sim.done (by kernel_rfl) (fun w1 hO hX => ?_) _
      (try simp only [World.size_alloc1, World.size_drew, Nat.reduceAdd] at hO); (try simp only [upd, updI, List.map_cons, List.map_nil, eq_self, if_true, if_false, reduceIte, Nat.add_eq_left, Nat.left_eq_add, Nat.reduceEqDiff, List.set_cons_zero, List.set_cons_succ] at hO)
      have hF := hO; (try simp only [Own, Item.Holds, apartI, CellsAt, Nat.reduceAdd, Nat.zero_add, List.mem_cons, List.not_mem_nil, or_false, forall_eq_or_imp, forall_eq, ne_eq, false_imp_iff, implies_true, and_true] at hF)
      rotate_left 1
      have hF := hO; (try simp only [Own, Item.Holds, apartI, CellsAt, Nat.reduceAdd, Nat.zero_add, List.mem_cons, List.not_mem_nil, or_false, forall_eq_or_imp, forall_eq, ne_eq, false_imp_iff, implies_true, and_true] at hF)
      go_simp
      apply hK _ _ _ (XR12 r (P + 2 * (k : Int)) 1)
      (repeat (first | (with_reducible exact hO) | (with_reducible apply Own.alloc) | (with_reducible apply Own.drew) | ((with_reducible apply Own.set_at); (focus (show _ ≤ _; omega)))))
      · first | exact trivial | exact hX | exact hX.below (below1 _) | exact RdIf.gone | exact hX.keep ((Below.refl _ _).setCell (by first | omega | (dsimp only; omega)) _)
      · exact (by first | exact XStab.true | exact XStab.rd | exact XStab.rdIf)
      · first | exact fun _ _ h => h.2 | exact fun _ _ h => h | exact fun h => absurd h (by decide)
      try simp only [upd, updI, List.map_cons, List.map_nil, eq_self, if_true, if_false, reduceIte, Nat.add_eq_left, Nat.left_eq_add, Nat.reduceEqDiff, List.set_cons_zero, List.set_cons_succ, hF]
      clear hK K hF hO
      try simp only [Act.put, List.setIfInBounds_toArray, List.set_cons_zero, List.set_cons_succ]
      refine Sim.one' (i := 8) (oi := { dst := some 25, op := Op.call { callee := Callee.value (Operand.func 65), args := #[Operand.tmp 24, Operand.const (Value.int IntKind.i64 2)], argTypes := #[67, 3] }, type := 3, pos := "l20_draw.go:609", after := #[{ on := 7, ground := Ground.data }, { on := 5, ground := Ground.chain }], guard := none }) (by kernel_rfl) rfl (by rfl) (fun w0 hO hX K hK => ?_)
      have hF := hO; (try simp only [Own, Item.Holds, apartI, CellsAt, Nat.reduceAdd, Nat.zero_add, List.mem_cons, List.not_mem_nil, or_false, forall_eq_or_imp, forall_eq, ne_eq, false_imp_iff, implies_true, and_true] at hF)
      go_simp
      refine (pick_any r (P + 2 * (k : Int) + 1) _ _ (show Rd _ r _ from hX.mono (by omega)) (by omega) (by decide) (by decide)).mono ?_
      rintro e wa ⟨pk1, pl1, pu1, rfl, hR4, hB4⟩
      have sm1 : IntKind.i64.wrap (lo + pk1) = lo + pk1 := IntWalk.i64_in _ (by omega)
      apply hK _ _ _ (XR12 r (P + 2 * (k : Int)) 2)
      · exact Own.but hr0 (Stab.bd hr0) ⟨hO.base.1.trans hB4, hR4.mono (by omega)⟩ hB4 hO
      · first | exact trivial | exact hR4.mono (by omega)
      · first | exact XStab.true | exact XStab.rd
      · exact fun _ _ h => h
      clear hR4 hB4
      clear hK K hF hO
      try simp only [Act.put, List.setIfInBounds_toArray, List.set_cons_zero, List.set_cons_succ]
      refine Sim.sP (i := 9) (d := some 26) (h := ?_)
      refine Sim.sO (i := 10) (d := some 27) (v := ?_) (hy := ?_) (h := ?_)
      rotate_left
      · first | refine Or.inl ⟨by rfl, fun w hO => ?_⟩ | (refine Or.inr ⟨by rfl, ?_⟩; with_reducible rfl)
        first | done | (refine Out.call (f := 99) (args := ?_) ?_ ?_; rotate_left; (focus (go_simp; all_goals with_reducible rfl)); exact spellT_any _ _ _)
      refine Sim.sP (i := 11) (d := some 16) (h := ?_)
      refine Sim.sP (i := 12) (d := some 28) (h := ?_)
      refine Sim.sP (i := 13) (d := some 29) (h := ?_)
      refine Sim.one' (i := 15) (oi := { dst := none, op := Op.store 29 (Operand.tmp 8) (Operand.tmp 28), type := 0, pos := "l20_draw.go:609", after := #[{ on := 14, ground := Ground.data }, { on := 12, ground := Ground.data }, { on := 10, ground := Ground.chain }, { on := 0, ground := Ground.phase }, { on := 1, ground := Ground.phase }, { on := 2, ground := Ground.phase }, { on := 3, ground := Ground.phase }, { on := 4, ground := Ground.phase }, { on := 5, ground := Ground.phase }, { on := 6, ground := Ground.phase }, { on := 7, ground := Ground.phase }, { on := 8, ground := Ground.phase }, { on := 9, ground := Ground.phase }, { on := 10, ground := Ground.phase }, { on := 11, ground := Ground.phase }, { on := 12, ground := Ground.phase }, { on := 13, ground := Ground.textOnly Departure.lateStores }, { on := 14, ground := Ground.phase }], guard := none }) (by kernel_rfl) rfl (by rfl) (fun w0 hO hX K hK => ?_)
      have hF := hO; (try simp only [Own, Item.Holds, apartI, CellsAt, Nat.reduceAdd, Nat.zero_add, List.mem_cons, List.not_mem_nil, or_false, forall_eq_or_imp, forall_eq, ne_eq, false_imp_iff, implies_true, and_true] at hF); ((have hc1 := low_cell hO (by first | exact List.mem_cons_of_mem _ List.mem_cons_self | exact List.mem_cons_of_mem _ (List.mem_cons_of_mem _ List.mem_cons_self)) HLC.out))
      go_simp
      apply hK _ _ _ (XR12 r (P + 2 * (k : Int)) 2)
      (repeat (first | (with_reducible exact hO) | (with_reducible apply Own.alloc) | (with_reducible apply Own.drew) | ((with_reducible apply Own.set_at); (focus (show _ ≤ _; omega)))))
      · first | exact trivial | exact hX | exact hX.below (below1 _) | exact RdIf.gone | exact hX.keep ((Below.refl _ _).setCell (by first | omega | (dsimp only; omega)) _)
      · exact (by first | exact XStab.true | exact XStab.rd | exact XStab.rdIf)
      · first | exact fun _ _ h => h.2 | exact fun _ _ h => h | exact fun h => absurd h (by decide)
      try simp only [upd, updI, List.map_cons, List.map_nil, eq_self, if_true, if_false, reduceIte, Nat.add_eq_left, Nat.left_eq_add, Nat.reduceEqDiff, List.set_cons_zero, List.set_cons_succ, hF]
      clear hK K hF hO
      try simp only [Act.put, List.setIfInBounds_toArray, List.set_cons_zero, List.set_cons_succ]
      refine Sim.sP (i := 16) (d := some 9) (h := ?_)
      refine Sim.done (by kernel_rfl) (fun w1 hO hX => ?_) _
      (try simp only [World.size_alloc1, World.size_drew, Nat.reduceAdd] at hO); (try simp only [upd, updI, List.map_cons, List.map_nil, eq_self, if_true, if_false, reduceIte, Nat.add_eq_left, Nat.left_eq_add, Nat.reduceEqDiff, List.set_cons_zero, List.set_cons_succ] at hO)
      have hF := hO; (try simp only [Own, Item.Holds, apartI, CellsAt, Nat.reduceAdd, Nat.zero_add, List.mem_cons, List.not_mem_nil, or_false, forall_eq_or_imp, forall_eq, ne_eq, false_imp_iff, implies_true, and_true] at hF)
      rotate_left 1
      have hF := hO; (try simp only [Own, Item.Holds, apartI, CellsAt, Nat.reduceAdd, Nat.zero_add, List.mem_cons, List.not_mem_nil, or_false, forall_eq_or_imp, forall_eq, ne_eq, false_imp_iff, implies_true, and_true] at hF)
      go_simp
      apply hK _ _ _ (XR12 r (P + 2 * (k : Int)) 0)
      (repeat (first | (with_reducible exact hO) | (with_reducible apply Own.alloc) | (with_reducible apply Own.drew) | ((with_reducible apply Own.set_at); (focus (show _ ≤ _; omega)))))
      · first | exact trivial | exact hX | exact hX.below (below1 _) | exact RdIf.gone | exact hX.keep ((Below.refl _ _).setCell (by first | omega | (dsimp only; omega)) _)
      · exact (by first | exact XStab.true | exact XStab.rd | exact XStab.rdIf)
      · first | exact fun _ _ h => h.2 | exact fun _ _ h => h | exact fun h => absurd h (by decide)
      try simp only [upd, updI, List.map_cons, List.map_nil, eq_self, if_true, if_false, reduceIte, Nat.add_eq_left, Nat.left_eq_add, Nat.reduceEqDiff, List.set_cons_zero, List.set_cons_succ, hF]
      clear hK K hF hO
      try simp only [Act.put, List.setIfInBounds_toArray, List.set_cons_zero, List.set_cons_succ]
      refine Sim.one' (i := 5) (oi := { dst := some 22, op := Op.call { callee := Callee.value (Operand.func 65), args := #[Operand.tmp 21, Operand.const (Value.int IntKind.i64 19)], argTypes := #[67, 3] }, type := 3, pos := "l20_draw.go:609", after := #[{ on := 4, ground := Ground.data }], guard := none }) (by kernel_rfl) rfl (by rfl) (fun w0 hO hX K hK => ?_)
      have hF := hO; (try simp only [Own, Item.Holds, apartI, CellsAt, Nat.reduceAdd, Nat.zero_add, List.mem_cons, List.not_mem_nil, or_false, forall_eq_or_imp, forall_eq, ne_eq, false_imp_iff, implies_true, and_true] at hF)
      go_simp
      refine (pick_any r (P + 2 * (k : Int) + 0) _ _ (show Rd _ r _ from hX.mono (by omega)) (by omega) (by decide) (by decide)).mono ?_
      rintro e wa ⟨pk0, pl0, pu0, rfl, hR4, hB4⟩
      have sm0 : IntKind.i64.wrap (lo + pk0) = lo + pk0 := IntWalk.i64_in _ (by omega)
      apply hK _ _ _ (XR12 r (P + 2 * (k : Int)) 1)
      · exact Own.but hr0 (Stab.bd hr0) ⟨hO.base.1.trans hB4, hR4.mono (by omega)⟩ hB4 hO
      · first | exact trivial | exact hR4.mono (by omega)
      · first | exact XStab.true | exact XStab.rd
      · exact fun _ _ h => h
      clear hR4 hB4
      clear hK K hF hO
      try simp only [Act.put, List.setIfInBounds_toArray, List.set_cons_zero, List.set_cons_succ]
      refine Sim.sP (i := 6) (d := some 23) (h := ?_)
      refine Sim.one' (i := 8) (oi := { dst := some 25, op := Op.call { callee := Callee.value (Operand.func 65), args := #[Operand.tmp 24, Operand.const (Value.int IntKind.i64 2)], argTypes := #[67, 3] }, type := 3, pos := "l20_draw.go:609", after := #[{ on := 7, ground := Ground.data }, { on := 5, ground := Ground.chain }], guard := none }) (by kernel_rfl) rfl (by rfl) (fun w0 hO hX K hK => ?_)
      have hF := hO; (try simp only [Own, Item.Holds, apartI, CellsAt, Nat.reduceAdd, Nat.zero_add, List.mem_cons, List.not_mem_nil, or_false, forall_eq_or_imp, forall_eq, ne_eq, false_imp_iff, implies_true, and_true] at hF)
      go_simp
      refine (pick_any r (P + 2 * (k : Int) + 1) _ _ (show Rd _ r _ from hX.mono (by omega)) (by omega) (by decide) (by decide)).mono ?_
      rintro e wa ⟨pk1, pl1, pu1, rfl, hR4, hB4⟩
      have sm1 : IntKind.i64.wrap (lo + pk1) = lo + pk1 := IntWalk.i64_in _ (by omega)
      apply hK _ _ _ (XR12 r (P + 2 * (k : Int)) 2)
      · exact Own.but hr0 (Stab.bd hr0) ⟨hO.base.1.trans hB4, hR4.mono (by omega)⟩ hB4 hO
      · first | exact trivial | exact hR4.mono (by omega)
      · first | exact XStab.true | exact XStab.rd
      · exact fun _ _ h => h
      clear hR4 hB4
      clear hK K hF hO
      try simp only [Act.put, List.setIfInBounds_toArray, List.set_cons_zero, List.set_cons_succ]
      refine Sim.sP (i := 9) (d := some 26) (h := ?_)
      refine Sim.sO (i := 10) (d := some 27) (v := ?_) (hy := ?_) (h := ?_)
      rotate_left
      · first | refine Or.inl ⟨by rfl, fun w hO => ?_⟩ | (refine Or.inr ⟨by rfl, ?_⟩; with_reducible rfl)
        first | done | (refine Out.call (f := 99) (args := ?_) ?_ ?_; rotate_left; (focus (go_simp; all_goals with_reducible rfl)); exact spellT_any _ _ _)
      refine Sim.sP (i := 11) (d := some 16) (h := ?_)
      refine Sim.sP (i := 12) (d := some 28) (h := ?_)
      refine Sim.sP (i := 13) (d := some 29) (h := ?_)
      refine Sim.one' (i := 15) (oi := { dst := none, op := Op.store 29 (Operand.tmp 8) (Operand.tmp 28), type := 0, pos := "l20_draw.go:609", after := #[{ on := 14, ground := Ground.data }, { on := 12, ground := Ground.data }, { on := 10, ground := Ground.chain }, { on := 0, ground := Ground.phase }, { on := 1, ground := Ground.phase }, { on := 2, ground := Ground.phase }, { on := 3, ground := Ground.phase }, { on := 4, ground := Ground.phase }, { on := 5, ground := Ground.phase }, { on := 6, ground := Ground.phase }, { on := 7, ground := Ground.phase }, { on := 8, ground := Ground.phase }, { on := 9, ground := Ground.phase }, { on := 10, ground := Ground.phase }, { on := 11, ground := Ground.phase }, { on := 12, ground := Ground.phase }, { on := 13, ground := Ground.textOnly Departure.lateStores }, { on := 14, ground := Ground.phase }], guard := none }) (by kernel_rfl) rfl (by rfl) (fun w0 hO hX K hK => ?_)
      have hF := hO; (try simp only [Own, Item.Holds, apartI, CellsAt, Nat.reduceAdd, Nat.zero_add, List.mem_cons, List.not_mem_nil, or_false, forall_eq_or_imp, forall_eq, ne_eq, false_imp_iff, implies_true, and_true] at hF); ((have hc1 := low_cell hO (by first | exact List.mem_cons_of_mem _ List.mem_cons_self | exact List.mem_cons_of_mem _ (List.mem_cons_of_mem _ List.mem_cons_self)) HLC.out))
      go_simp
      apply hK _ _ _ (XR12 r (P + 2 * (k : Int)) 2)
      (repeat (first | (with_reducible exact hO) | (with_reducible apply Own.alloc) | (with_reducible apply Own.drew) | ((with_reducible apply Own.set_at); (focus (show _ ≤ _; omega)))))
      · first | exact trivial | exact hX | exact hX.below (below1 _) | exact RdIf.gone | exact hX.keep ((Below.refl _ _).setCell (by first | omega | (dsimp only; omega)) _)
      · exact (by first | exact XStab.true | exact XStab.rd | exact XStab.rdIf)
      · first | exact fun _ _ h => h.2 | exact fun _ _ h => h | exact fun h => absurd h (by decide)
      try simp only [upd, updI, List.map_cons, List.map_nil, eq_self, if_true, if_false, reduceIte, Nat.add_eq_left, Nat.left_eq_add, Nat.reduceEqDiff, List.set_cons_zero, List.set_cons_succ, hF]
      clear hK K hF hO
      try simp only [Act.put, List.setIfInBounds_toArray, List.set_cons_zero, List.set_cons_succ]
      refine Sim.sP (i := 16) (d := some 9) (h := ?_)
      refine Sim.done (by kernel_rfl) (fun w1 hO hX => ?_) _
      (try simp only [World.size_alloc1, World.size_drew, Nat.reduceAdd] at hO); (try simp only [upd, updI, List.map_cons, List.map_nil, eq_self, if_true, if_false, reduceIte, Nat.add_eq_left, Nat.left_eq_add, Nat.reduceEqDiff, List.set_cons_zero, List.set_cons_succ] at hO)
      have hF := hO; (try simp only [Own, Item.Holds, apartI, CellsAt, Nat.reduceAdd, Nat.zero_add, List.mem_cons, List.not_mem_nil, or_false, forall_eq_or_imp, forall_eq, ne_eq, false_imp_iff, implies_true, and_true] at hF)
      rotate_left 1
      all_goals
        clear hX
        go_wp2_with (at_builtin; apply own_list hO; (repeat (first | (with_reducible exact hO) | (with_reducible apply Own.alloc) | (with_reducible apply Own.drew) | ((with_reducible apply Own.set_at); (focus (show _ ≤ _; omega))))); have hG := hF; clear hF; clear hO; intro hO; (try simp only [World.size_alloc1, World.size_drew, Nat.reduceAdd] at hO); (try simp only [upd, updI, List.map_cons, List.map_nil, eq_self, if_true, if_false, reduceIte, Nat.add_eq_left, Nat.left_eq_add, Nat.reduceEqDiff, List.set_cons_zero, List.set_cons_succ, hG] at hO); clear hG; (try simp only [World.size_setCell] at hO); have hF := hO; (try simp only [Own, Item.Holds, apartI, CellsAt, Nat.reduceAdd, Nat.zero_add, List.mem_cons, List.not_mem_nil, or_false, forall_eq_or_imp, forall_eq, ne_eq, false_imp_iff, implies_true, and_true] at hF); replace hO := Own.sub (.cons_cons _ (.cons _ (List.Sublist.refl _))) hO; refine wpList_append_item rfl _ _ 23 rfl 29 i0 (.agg #[.int .i64 0, .int .i64 0, .int .i64 0]) 3 24 Tryd.underlying23 hi0 hz0 hz1 hz2 rfl (by decide) rfl rfl hO rfl one3t (by unfold maxLen; omega) (by omega) ?_; clear hO hF; intro v' w3 hO _; have hF := True.intro)
        rw [pcC_snoc] at hO
        go_roundw
        case rel => exact ⟨k + 1, _, by omega, by go_num, by rw [List.length_append, hvk]; rfl, hid (ok_snoc hv.out (spT_ok _ _)), hO.mono hr0 (by omega)⟩
        case measure => simp [intOf]; omega

/-- A call of l20Stack. -/
theorem own_stack {r : Nat} {w0 W : World} {P k : Int} {L : List Item} {K : Ending → World → Prop} (hO : Own w0.heap.size (Bd r w0 P) W L) (hr : r < w0.heap.size) (hP : P ≤ 700000) (k0 : 0 ≤ k) (k1 : k ≤ 1000000)
    (h : ∀ (u : Value) (l : List Pt) (u' : Value) (l' : List Pt) w1, (∀ x ∈ l', ptOk x) → l'.length = 4 → StkV u l u' l' → Own w0.heap.size (Bd r w0 (P + 100)) w1 (.row 29 3 u' 4 (pcC l') :: L) → K (.returned u) w1) :
    Calls Tryd.prog 67 #[.pointer (some ⟨r, 0, none⟩), .int .i64 k] W K :=
  (l20Stack_any r P k W hO.base.2 hP k0 k1).mono fun e w1 ⟨u, l, u', l', h1, h2, h3, he, hrow, hR, hb⟩ => by
    subst he
    have h4 := hO.but hr (Stab.bd hr) ⟨hO.base.1.trans hb, hR⟩ hb
    refine h u l u' l' w1 h1 h2 h3 ⟨⟨ownsRow_mono hrow hO.low, fun x hx => .of fun g hg e => ?_⟩, h4⟩
    have a := (hO.lt x hx g hg).2
    have b := (World.ownsRow.lt hrow g e).1
    omega

def XR12d (r : Nat) (P : Int) : Nat → World → Prop
  | 0 => fun w => Rd w r P
  | _ + 1 => fun _ => True
theorem own_way12 {r : Nat} {w0 W : World} {P n : Int} {L : List Item} {K : Ending → World → Prop} (hO : Own w0.heap.size (Bd r w0 P) W L) (hr : r < w0.heap.size) (hP : P ≤ 800000) (n0 : 0 ≤ n) (n1 : n ≤ 1000000)
    (h : ∀ (st ha : Int) w1, Own w0.heap.size (Bd r w0 (P + 20)) w1 L → K (.returned (.agg #[.int .i64 st, .int .i64 ha])) w1) :
    Calls Tryd.prog 97 #[.pointer (some ⟨r, 0, none⟩), .int .i64 n] W K :=
  (l20Way_any r P n W hO.base.2 (by omega) n0 n1).mono fun e w1 ⟨st, ha, h1, h2, he, hR, hb⟩ => by
    subst he
    exact h st ha w1 (hO.but hr (Stab.bd hr) ⟨hO.base.1.trans hb, hR⟩ hb)
/-- What drawing voices near others leaves. -/
def DrewNx (r : Nat) (P : Int) (n : Nat) (w : World) (e : Ending) (w' : World) : Prop :=
  ∃ (u : Value) (l : List Pt), l.length = n ∧ (∀ x ∈ l, ptOk x) ∧ e = .returned u ∧ w'.ownsRow w.heap.size 29 3 u n (pcC l) ∧ Rd w' r (P + 100) ∧ ButR r w w'

set_option maxRecDepth 20000 in
set_option maxHeartbeats 8000000 in
theorem l20Next_any (r : Nat) (P : Int) (va : Value) (a : List Pt) (w : World) (h : Rd w r P) (hP : P ≤ 700000) (hs : SlAt w va a.length 3 (pcC a)) (hne : va.ownBlock ≠ some r) (hv : ∀ x ∈ a, ptOk x) (ha : a.length ≤ 4) :
    Calls Tryd.prog 66 #[.pointer (some ⟨r, 0, none⟩), va] w (DrewNx r P a.length w) := by
  have hr0 := h.lt
  have hO := Own.startD h
  have hF := True.intro
  obtain ⟨i0, hi0, hz0, hz1, hz2⟩ := info_parts infoPi
  obtain ⟨n, hn⟩ : ∃ n, a.length = n := ⟨_, rfl⟩
  rw [hn] at hs ha ⊢
  have HN := hid hn
  have HV := hid hv
  have HSL := hid (fun W (hW : ButR r w W) => slAt_but hs hW hne)
  obtain ⟨A, c, rfl, nb, hA⟩ := hs.open
  clear h hn hv hs hne
  go_enter Tryd.func66, Tryd.ntmps66
  go_wp2_with fail
  replace hO := hO.allocRow (e := 29) (cur := #[]) (k := 0) (cap := 0) 3 (by omega) (by unfold maxLen; omega) rfl
  have hG := hF
  (try simp only [World.size_alloc1, World.size_drew, Nat.reduceAdd] at hO); (try simp only [upd, updI, List.map_cons, List.map_nil, eq_self, if_true, if_false, reduceIte, Nat.add_eq_left, Nat.left_eq_add, Nat.reduceEqDiff, List.set_cons_zero, List.set_cons_succ, hG] at hO); clear hG
  rw [show List.take (0 * 3) (#[] : Array Value).toList = pcC [] from rfl] at hO
  clear hF
  have hF := hO; (try simp only [Own, Item.Holds, apartI, CellsAt, Nat.reduceAdd, Nat.zero_add, List.mem_cons, List.not_mem_nil, or_false, forall_eq_or_imp, forall_eq, ne_eq, false_imp_iff, implies_true, and_true] at hF)
  (go_at_call 97; apply own_at hO; (repeat (first | (with_reducible exact hO) | (with_reducible apply Own.alloc) | (with_reducible apply Own.drew) | ((with_reducible apply Own.set_at); (focus (show _ ≤ _; omega))))); have hG := hF; clear hF; clear hO; intro hO; refine own_way12 hO hr0 (by omega) (by omega) (by omega) ?_; clear hO; intro st ha' w1 hO; (try simp only [World.size_alloc1, World.size_drew, Nat.reduceAdd] at hO); (try simp only [upd, updI, List.map_cons, List.map_nil, eq_self, if_true, if_false, reduceIte, Nat.add_eq_left, Nat.left_eq_add, Nat.reduceEqDiff, List.set_cons_zero, List.set_cons_succ, hG] at hO); clear hG; have hF := hO; (try simp only [Own, Item.Holds, apartI, CellsAt, Nat.reduceAdd, Nat.zero_add, List.mem_cons, List.not_mem_nil, or_false, forall_eq_or_imp, forall_eq, ne_eq, false_imp_iff, implies_true, and_true] at hF))
  go_upto_region 3 with fail
  (apply own_code hO; (repeat (first | (with_reducible exact hO) | (with_reducible apply Own.alloc) | (with_reducible apply Own.drew) | ((with_reducible apply Own.set_at); (focus (show _ ≤ _; omega))))); have hG := hF; clear hF; clear hO; intro hO; (try simp only [World.size_alloc1, World.size_drew, Nat.reduceAdd] at hO); (try simp only [upd, updI, List.map_cons, List.map_nil, eq_self, if_true, if_false, reduceIte, Nat.add_eq_left, Nat.left_eq_add, Nat.reduceEqDiff, List.set_cons_zero, List.set_cons_succ, hG] at hO); clear hG; have hF := hO; (try simp only [Own, Item.Holds, apartI, CellsAt, Nat.reduceAdd, Nat.zero_add, List.mem_cons, List.not_mem_nil, or_false, forall_eq_or_imp, forall_eq, ne_eq, false_imp_iff, implies_true, and_true] at hF))
  obtain ⟨q, hq⟩ : ∃ q, w1.heap.size = q := ⟨_, rfl⟩
  rw [hq] at hO ⊢
  clear hq
  replace hO := hO.perm (List.Perm.swap _ _ _)
  go_wp2_with fail
  go_loopw [5, 7] (fun u t wr => ∃ (k : Nat) (v : List Pt), k ≤ n ∧ t = .int .i64 k ∧ v.length = k ∧ Hid (∀ x ∈ v, ptOk x) ∧ Own w.heap.size (Bd r w (P + 20 + 2 * k)) wr [.row 29 3 u k (pcC v), .blk q [.int .i64 st, .int .i64 ha']]) (fun _ t _ => n - (intOf t).toNat)
  case atStart => exact ⟨0, [], by omega, rfl, rfl, hid (fun z hz => (by cases hz)), hO.mono hr0 (by omega)⟩
  case round =>
    clear hO hF
    obtain ⟨k, v, hk, rfl, hvk, hv, hO⟩ := hrel
    have hF := hO; (try simp only [Own, Item.Holds, apartI, CellsAt, Nat.reduceAdd, Nat.zero_add, List.mem_cons, List.not_mem_nil, or_false, forall_eq_or_imp, forall_eq, ne_eq, false_imp_iff, implies_true, and_true] at hF)
    by_cases he : k = n
    · subst he
      go_wp2_with fail
      go_ret
      exact ⟨_, v, hvk, hv.out, rfl, hO.1.1, hO.base.2.mono (by omega), hO.base.1⟩
    · have hil : k < n := by omega
      have hi2 : (k : Int) < n := by omega
      have hi3 : (0 : Int) ≤ (k : Int) := by omega
      obtain ⟨b, off, rfl, hc1, hc2, hbb⟩ := hA (by omega)
      obtain ⟨p, hx⟩ : ∃ p, a[k]? = some p := ⟨_, List.getElem?_eq_getElem (by have := HN.out; omega)⟩
      have HX := hid hx
      have zb := ky_bd (HV.out p (List.mem_of_getElem? hx))
      obtain ⟨z, hz⟩ : ∃ z, kyP p = z := ⟨_, rfl⟩
      rw [hz] at zb
      have HK := hid (fun W => show Calls Tryd.prog 96 #[.agg #[.int .i64 p.s, .int .i64 p.a, .int .i64 p.o]] W (fun e w' => e = .returned (.int .i64 z) ∧ Below W.heap.size W w') by rw [← hz]; exact keyS_any p.s p.a p.o W)
      have HAD := hid (fun W => addX_any p (st, ha') W)
      have HOK := hid (adX_ok p (st, ha'))
      obtain ⟨y, hy⟩ : ∃ y, adX p (st, ha') = y := ⟨_, rfl⟩
      obtain ⟨ab, hab⟩ : ∃ y, adT? p (st, ha') = y := ⟨_, rfl⟩
      rw [hy] at HAD HOK
      rw [hab] at HAD
      clear he hx hz hy hab
      go_upto_region 6 with fail
      apply own_code hO
      (repeat (first | (with_reducible exact hO) | (with_reducible apply Own.alloc) | (with_reducible apply Own.drew) | ((with_reducible apply Own.set_at); (focus (show _ ≤ _; omega)))))
      have hG := hF; clear hF; clear hO; intro hO
      (try simp only [World.size_alloc1, World.size_drew, Nat.reduceAdd] at hO); (try simp only [upd, updI, List.map_cons, List.map_nil, eq_self, if_true, if_false, reduceIte, Nat.add_eq_left, Nat.left_eq_add, Nat.reduceEqDiff, List.set_cons_zero, List.set_cons_succ, hG] at hO); clear hG
      refine region_own (X := fun _ => True) [10] (by kernel_rfl) (hO) (trivial) (by first | exact XStab.true | exact XStab.rd | exact XStab.rdIf) ?_
      clear hO
      refine Sim.sP (i := 0) (d := some 20) (h := ?_)
      refine Sim.sP (i := 1) (d := some 21) (h := ?_)
      refine Sim.sP (i := 2) (d := some 22) (h := ?_)
      refine Sim.sO (i := 3) (d := some 23) (v := ?_) (hy := ?_) (h := ?_)
      rotate_left
      · first | refine Or.inl ⟨by rfl, fun w hO => ?_⟩ | (refine Or.inr ⟨by rfl, ?_⟩; with_reducible rfl)
        first | done | (have hF := hO; (try simp only [Own, Item.Holds, apartI, CellsAt, Nat.reduceAdd, Nat.zero_add, List.mem_cons, List.not_mem_nil, or_false, forall_eq_or_imp, forall_eq, ne_eq, false_imp_iff, implies_true, and_true] at hF); ((have ⟨d0, d1, d2⟩ := ptAt (HSL.out _ hO.base.1) HX.out)); refine Out.same ?_; go_simp; all_goals with_reducible rfl)
      refine Sim.sO (i := 4) (d := some 24) (v := ?_) (hy := ?_) (h := ?_)
      rotate_left
      · first | refine Or.inl ⟨by rfl, fun w hO => ?_⟩ | (refine Or.inr ⟨by rfl, ?_⟩; with_reducible rfl)
        first | done | (have hF := hO; (try simp only [Own, Item.Holds, apartI, CellsAt, Nat.reduceAdd, Nat.zero_add, List.mem_cons, List.not_mem_nil, or_false, forall_eq_or_imp, forall_eq, ne_eq, false_imp_iff, implies_true, and_true] at hF); ((have ⟨d0, d1, d2⟩ := ptAt (HSL.out _ hO.base.1) HX.out)); refine Out.same ?_; go_simp; all_goals with_reducible rfl)
      refine Sim.sO (i := 5) (d := some 25) (v := ?_) (hy := ?_) (h := ?_)
      rotate_left
      · first | refine Or.inl ⟨by rfl, fun w hO => ?_⟩ | (refine Or.inr ⟨by rfl, ?_⟩; with_reducible rfl)
        first | done | (refine Out.call (f := 98) (args := ?_) ?_ ?_; rotate_left; (focus (go_simp; all_goals with_reducible rfl)); exact HAD.out _)
      refine Sim.sP (i := 6) (d := some 19) (h := ?_)
      refine Sim.sP (i := 7) (d := some 26) (h := ?_)
      refine Sim.sP (i := 8) (d := some 27) (h := ?_)
      refine Sim.one' (i := 9) (oi := { dst := some 8, op := Op.alloc 29, type := 0, pos := "l20_draw.go:635", after := #[], guard := none }) (by kernel_rfl) rfl (by rfl) (fun w0 hO hX K hK => ?_)
      have hF := hO; (try simp only [Own, Item.Holds, apartI, CellsAt, Nat.reduceAdd, Nat.zero_add, List.mem_cons, List.not_mem_nil, or_false, forall_eq_or_imp, forall_eq, ne_eq, false_imp_iff, implies_true, and_true] at hF)
      go_simp
      apply hK _ _ _ (fun _ => True)
      (repeat (first | (with_reducible exact hO) | (with_reducible apply Own.alloc) | (with_reducible apply Own.drew) | ((with_reducible apply Own.set_at); (focus (show _ ≤ _; omega)))))
      · first | exact trivial | exact hX | exact hX.below (below1 _) | exact RdIf.gone | exact hX.keep ((Below.refl _ _).setCell (by first | omega | (dsimp only; omega)) _)
      · exact (by first | exact XStab.true | exact XStab.rd | exact XStab.rdIf)
      · first | exact fun _ _ h => h.2 | exact fun _ _ h => h | exact fun h => absurd h (by decide)
      try simp only [upd, updI, List.map_cons, List.map_nil, eq_self, if_true, if_false, reduceIte, Nat.add_eq_left, Nat.left_eq_add, Nat.reduceEqDiff, List.set_cons_zero, List.set_cons_succ, hF]
      clear hK K hF hO
      try simp only [Act.put, List.setIfInBounds_toArray, List.set_cons_zero, List.set_cons_succ]
      refine Sim.one' (i := 10) (oi := { dst := none, op := Op.store 29 (Operand.tmp 8) (Operand.tmp 26), type := 0, pos := "l20_draw.go:635", after := #[{ on := 9, ground := Ground.data }, { on := 7, ground := Ground.data }, { on := 5, ground := Ground.chain }, { on := 0, ground := Ground.phase }, { on := 1, ground := Ground.phase }, { on := 2, ground := Ground.phase }, { on := 3, ground := Ground.phase }, { on := 4, ground := Ground.phase }, { on := 5, ground := Ground.phase }, { on := 6, ground := Ground.phase }, { on := 7, ground := Ground.phase }, { on := 8, ground := Ground.textOnly Departure.lateStores }, { on := 9, ground := Ground.phase }], guard := none }) (by kernel_rfl) rfl (by rfl) (fun w0 hO hX K hK => ?_)
      have hF := hO; (try simp only [Own, Item.Holds, apartI, CellsAt, Nat.reduceAdd, Nat.zero_add, List.mem_cons, List.not_mem_nil, or_false, forall_eq_or_imp, forall_eq, ne_eq, false_imp_iff, implies_true, and_true] at hF); ((have ⟨d0, d1, d2⟩ := ptAt (HSL.out _ hO.base.1) HX.out))
      go_simp
      apply hK _ _ _ (fun _ => True)
      (repeat (first | (with_reducible exact hO) | (with_reducible apply Own.alloc) | (with_reducible apply Own.drew) | ((with_reducible apply Own.set_at); (focus (show _ ≤ _; omega)))))
      · first | exact trivial | exact hX | exact hX.below (below1 _) | exact RdIf.gone | exact hX.keep ((Below.refl _ _).setCell (by first | omega | (dsimp only; omega)) _)
      · exact (by first | exact XStab.true | exact XStab.rd | exact XStab.rdIf)
      · first | exact fun _ _ h => h.2 | exact fun _ _ h => h | exact fun h => absurd h (by decide)
      try simp only [upd, updI, List.map_cons, List.map_nil, eq_self, if_true, if_false, reduceIte, Nat.add_eq_left, Nat.left_eq_add, Nat.reduceEqDiff, List.set_cons_zero, List.set_cons_succ, hF]
      clear hK K hF hO
      try simp only [Act.put, List.setIfInBounds_toArray, List.set_cons_zero, List.set_cons_succ]
      refine Sim.sP (i := 11) (d := some 9) (h := ?_)
      refine Sim.done (by kernel_rfl) (fun w1 hO hX => ?_) _
      (try simp only [World.size_alloc1, World.size_drew, Nat.reduceAdd] at hO); (try simp only [upd, updI, List.map_cons, List.map_nil, eq_self, if_true, if_false, reduceIte, Nat.add_eq_left, Nat.left_eq_add, Nat.reduceEqDiff, List.set_cons_zero, List.set_cons_succ] at hO)
      have hF := hO; (try simp only [Own, Item.Holds, apartI, CellsAt, Nat.reduceAdd, Nat.zero_add, List.mem_cons, List.not_mem_nil, or_false, forall_eq_or_imp, forall_eq, ne_eq, false_imp_iff, implies_true, and_true] at hF)
      all_goals
        cases ab
        · have ⟨d0, d1, d2⟩ := ptAt (HSL.out _ hO.base.1) HX.out
          go_wp2_with (go_at_call 96; apply own_at hO; (repeat (first | (with_reducible exact hO) | (with_reducible apply Own.alloc) | (with_reducible apply Own.drew) | ((with_reducible apply Own.set_at); (focus (show _ ≤ _; omega))))); have hG := hF; clear hF; clear hO; intro hO; refine own_call hO (fun hB => HK.out _) ?_; clear hO; intro w1 hO; (try simp only [World.size_alloc1, World.size_drew, Nat.reduceAdd] at hO); (try simp only [upd, updI, List.map_cons, List.map_nil, eq_self, if_true, if_false, reduceIte, Nat.add_eq_left, Nat.left_eq_add, Nat.reduceEqDiff, List.set_cons_zero, List.set_cons_succ, hG] at hO); clear hG; have hF := hO; (try simp only [Own, Item.Holds, apartI, CellsAt, Nat.reduceAdd, Nat.zero_add, List.mem_cons, List.not_mem_nil, or_false, forall_eq_or_imp, forall_eq, ne_eq, false_imp_iff, implies_true, and_true] at hF))
          (go_at_call 65; apply own_at hO; (repeat (first | (with_reducible exact hO) | (with_reducible apply Own.alloc) | (with_reducible apply Own.drew) | ((with_reducible apply Own.set_at); (focus (show _ ≤ _; omega))))); have hG := hF; clear hF; clear hO; intro hO; refine own_pick (k := 5) hO hr0 (by omega) (by omega) (by omega) ?_; clear hO; intro x w1 x0 x1 hO; (try simp only [World.size_alloc1, World.size_drew, Nat.reduceAdd] at hO); (try simp only [upd, updI, List.map_cons, List.map_nil, eq_self, if_true, if_false, reduceIte, Nat.add_eq_left, Nat.left_eq_add, Nat.reduceEqDiff, List.set_cons_zero, List.set_cons_succ, hG] at hO); clear hG; have hF := hO; (try simp only [Own, Item.Holds, apartI, CellsAt, Nat.reduceAdd, Nat.zero_add, List.mem_cons, List.not_mem_nil, or_false, forall_eq_or_imp, forall_eq, ne_eq, false_imp_iff, implies_true, and_true] at hF))
          have sm : IntKind.i64.wrap (z + x) = z + x := IntWalk.i64_in _ (by omega)
          have sn : IntKind.i64.wrap (z + x - 2) = z + x - 2 := IntWalk.i64_in _ (by omega)
          go_wp2_with (first | (go_at_call 99; apply own_at hO; (repeat (first | (with_reducible exact hO) | (with_reducible apply Own.alloc) | (with_reducible apply Own.drew) | ((with_reducible apply Own.set_at); (focus (show _ ≤ _; omega))))); have hG := hF; clear hF; clear hO; intro hO; refine own_call hO (fun hB => spellT_any _ _ _) ?_; clear hO; intro w1 hO; (try simp only [World.size_alloc1, World.size_drew, Nat.reduceAdd] at hO); (try simp only [upd, updI, List.map_cons, List.map_nil, eq_self, if_true, if_false, reduceIte, Nat.add_eq_left, Nat.left_eq_add, Nat.reduceEqDiff, List.set_cons_zero, List.set_cons_succ, hG] at hO); clear hG; have hF := hO; (try simp only [Own, Item.Holds, apartI, CellsAt, Nat.reduceAdd, Nat.zero_add, List.mem_cons, List.not_mem_nil, or_false, forall_eq_or_imp, forall_eq, ne_eq, false_imp_iff, implies_true, and_true] at hF)) | (at_builtin; apply own_list hO; (repeat (first | (with_reducible exact hO) | (with_reducible apply Own.alloc) | (with_reducible apply Own.drew) | ((with_reducible apply Own.set_at); (focus (show _ ≤ _; omega))))); have hG := hF; clear hF; clear hO; intro hO; (try simp only [World.size_alloc1, World.size_drew, Nat.reduceAdd] at hO); (try simp only [upd, updI, List.map_cons, List.map_nil, eq_self, if_true, if_false, reduceIte, Nat.add_eq_left, Nat.left_eq_add, Nat.reduceEqDiff, List.set_cons_zero, List.set_cons_succ, hG] at hO); clear hG; (try simp only [World.size_setCell] at hO); have hF := hO; (try simp only [Own, Item.Holds, apartI, CellsAt, Nat.reduceAdd, Nat.zero_add, List.mem_cons, List.not_mem_nil, or_false, forall_eq_or_imp, forall_eq, ne_eq, false_imp_iff, implies_true, and_true] at hF); replace hO := Own.sub (.cons_cons _ (.cons _ (List.Sublist.refl _))) hO; refine wpList_append_item rfl _ _ 23 rfl 29 i0 (.agg #[.int .i64 0, .int .i64 0, .int .i64 0]) 3 24 Tryd.underlying23 hi0 hz0 hz1 hz2 rfl (by decide) rfl rfl hO rfl one3t (by unfold maxLen; omega) (by omega) ?_; clear hO hF; intro v' w3 hO _; have hF := True.intro))
          rw [pcC_snoc] at hO
          go_roundw
          case rel => exact ⟨k + 1, _, by omega, by go_num, by rw [List.length_append, hvk]; rfl, hid (ok_snoc hv.out (spT_ok _ _)), hO.mono hr0 (by omega)⟩
          case measure => simp [intOf]; omega
        · go_wp2_with fail
          (go_at_call 65; apply own_at hO; (repeat (first | (with_reducible exact hO) | (with_reducible apply Own.alloc) | (with_reducible apply Own.drew) | ((with_reducible apply Own.set_at); (focus (show _ ≤ _; omega))))); have hG := hF; clear hF; clear hO; intro hO; refine own_pick (k := 2) hO hr0 (by omega) (by omega) (by omega) ?_; clear hO; intro x w1 x0 x1 hO; (try simp only [World.size_alloc1, World.size_drew, Nat.reduceAdd] at hO); (try simp only [upd, updI, List.map_cons, List.map_nil, eq_self, if_true, if_false, reduceIte, Nat.add_eq_left, Nat.left_eq_add, Nat.reduceEqDiff, List.set_cons_zero, List.set_cons_succ, hG] at hO); clear hG; have hF := hO; (try simp only [Own, Item.Holds, apartI, CellsAt, Nat.reduceAdd, Nat.zero_add, List.mem_cons, List.not_mem_nil, or_false, forall_eq_or_imp, forall_eq, ne_eq, false_imp_iff, implies_true, and_true] at hF))
          by_cases hx0 : x = 0
          · subst hx0
            clear x0 x1
            have ⟨d0, d1, d2⟩ := ptAt (HSL.out _ hO.base.1) HX.out
            go_wp2_with (go_at_call 96; apply own_at hO; (repeat (first | (with_reducible exact hO) | (with_reducible apply Own.alloc) | (with_reducible apply Own.drew) | ((with_reducible apply Own.set_at); (focus (show _ ≤ _; omega))))); have hG := hF; clear hF; clear hO; intro hO; refine own_call hO (fun hB => HK.out _) ?_; clear hO; intro w1 hO; (try simp only [World.size_alloc1, World.size_drew, Nat.reduceAdd] at hO); (try simp only [upd, updI, List.map_cons, List.map_nil, eq_self, if_true, if_false, reduceIte, Nat.add_eq_left, Nat.left_eq_add, Nat.reduceEqDiff, List.set_cons_zero, List.set_cons_succ, hG] at hO); clear hG; have hF := hO; (try simp only [Own, Item.Holds, apartI, CellsAt, Nat.reduceAdd, Nat.zero_add, List.mem_cons, List.not_mem_nil, or_false, forall_eq_or_imp, forall_eq, ne_eq, false_imp_iff, implies_true, and_true] at hF))
            (go_at_call 65; apply own_at hO; (repeat (first | (with_reducible exact hO) | (with_reducible apply Own.alloc) | (with_reducible apply Own.drew) | ((with_reducible apply Own.set_at); (focus (show _ ≤ _; omega))))); have hG := hF; clear hF; clear hO; intro hO; refine own_pick (k := 5) hO hr0 (by omega) (by omega) (by omega) ?_; clear hO; intro x w1 x0 x1 hO; (try simp only [World.size_alloc1, World.size_drew, Nat.reduceAdd] at hO); (try simp only [upd, updI, List.map_cons, List.map_nil, eq_self, if_true, if_false, reduceIte, Nat.add_eq_left, Nat.left_eq_add, Nat.reduceEqDiff, List.set_cons_zero, List.set_cons_succ, hG] at hO); clear hG; have hF := hO; (try simp only [Own, Item.Holds, apartI, CellsAt, Nat.reduceAdd, Nat.zero_add, List.mem_cons, List.not_mem_nil, or_false, forall_eq_or_imp, forall_eq, ne_eq, false_imp_iff, implies_true, and_true] at hF))
            have sm : IntKind.i64.wrap (z + x) = z + x := IntWalk.i64_in _ (by omega)
            have sn : IntKind.i64.wrap (z + x - 2) = z + x - 2 := IntWalk.i64_in _ (by omega)
            go_wp2_with (first | (go_at_call 99; apply own_at hO; (repeat (first | (with_reducible exact hO) | (with_reducible apply Own.alloc) | (with_reducible apply Own.drew) | ((with_reducible apply Own.set_at); (focus (show _ ≤ _; omega))))); have hG := hF; clear hF; clear hO; intro hO; refine own_call hO (fun hB => spellT_any _ _ _) ?_; clear hO; intro w1 hO; (try simp only [World.size_alloc1, World.size_drew, Nat.reduceAdd] at hO); (try simp only [upd, updI, List.map_cons, List.map_nil, eq_self, if_true, if_false, reduceIte, Nat.add_eq_left, Nat.left_eq_add, Nat.reduceEqDiff, List.set_cons_zero, List.set_cons_succ, hG] at hO); clear hG; have hF := hO; (try simp only [Own, Item.Holds, apartI, CellsAt, Nat.reduceAdd, Nat.zero_add, List.mem_cons, List.not_mem_nil, or_false, forall_eq_or_imp, forall_eq, ne_eq, false_imp_iff, implies_true, and_true] at hF)) | (at_builtin; apply own_list hO; (repeat (first | (with_reducible exact hO) | (with_reducible apply Own.alloc) | (with_reducible apply Own.drew) | ((with_reducible apply Own.set_at); (focus (show _ ≤ _; omega))))); have hG := hF; clear hF; clear hO; intro hO; (try simp only [World.size_alloc1, World.size_drew, Nat.reduceAdd] at hO); (try simp only [upd, updI, List.map_cons, List.map_nil, eq_self, if_true, if_false, reduceIte, Nat.add_eq_left, Nat.left_eq_add, Nat.reduceEqDiff, List.set_cons_zero, List.set_cons_succ, hG] at hO); clear hG; (try simp only [World.size_setCell] at hO); have hF := hO; (try simp only [Own, Item.Holds, apartI, CellsAt, Nat.reduceAdd, Nat.zero_add, List.mem_cons, List.not_mem_nil, or_false, forall_eq_or_imp, forall_eq, ne_eq, false_imp_iff, implies_true, and_true] at hF); replace hO := Own.sub (.cons_cons _ (.cons _ (List.Sublist.refl _))) hO; refine wpList_append_item rfl _ _ 23 rfl 29 i0 (.agg #[.int .i64 0, .int .i64 0, .int .i64 0]) 3 24 Tryd.underlying23 hi0 hz0 hz1 hz2 rfl (by decide) rfl rfl hO rfl one3t (by unfold maxLen; omega) (by omega) ?_; clear hO hF; intro v' w3 hO _; have hF := True.intro))
            rw [pcC_snoc] at hO
            go_roundw
            case rel => exact ⟨k + 1, _, by omega, by go_num, by rw [List.length_append, hvk]; rfl, hid (ok_snoc hv.out (spT_ok _ _)), hO.mono hr0 (by omega)⟩
            case measure => simp [intOf]; omega
          · obtain rfl : x = 1 := by omega
            clear x0 x1 hx0
            go_wp2_with (at_builtin; apply own_list hO; (repeat (first | (with_reducible exact hO) | (with_reducible apply Own.alloc) | (with_reducible apply Own.drew) | ((with_reducible apply Own.set_at); (focus (show _ ≤ _; omega))))); have hG := hF; clear hF; clear hO; intro hO; (try simp only [World.size_alloc1, World.size_drew, Nat.reduceAdd] at hO); (try simp only [upd, updI, List.map_cons, List.map_nil, eq_self, if_true, if_false, reduceIte, Nat.add_eq_left, Nat.left_eq_add, Nat.reduceEqDiff, List.set_cons_zero, List.set_cons_succ, hG] at hO); clear hG; (try simp only [World.size_setCell] at hO); have hF := hO; (try simp only [Own, Item.Holds, apartI, CellsAt, Nat.reduceAdd, Nat.zero_add, List.mem_cons, List.not_mem_nil, or_false, forall_eq_or_imp, forall_eq, ne_eq, false_imp_iff, implies_true, and_true] at hF); replace hO := Own.sub (.cons_cons _ (.cons _ (List.Sublist.refl _))) hO; refine wpList_append_item rfl _ _ 23 rfl 29 i0 (.agg #[.int .i64 0, .int .i64 0, .int .i64 0]) 3 24 Tryd.underlying23 hi0 hz0 hz1 hz2 rfl (by decide) rfl rfl hO rfl one3t (by unfold maxLen; omega) (by omega) ?_; clear hO hF; intro v' w3 hO _; have hF := True.intro)
            rw [pcC_snoc] at hO
            go_roundw
            case rel => exact ⟨k + 1, _, by omega, by go_num, by rw [List.length_append, hvk]; rfl, hid (ok_snoc hv.out HOK.out), hO.mono hr0 (by omega)⟩
            case measure => simp [intOf]; omega

/-- What drawing four voices for a law leaves: one chord; two chords. -/
def DrewMv (w : World) (e : Ending) (w' : World) : Prop :=
  ∃ (u : Value) (a : List Pt) (u2 : Value) (b : List Pt), (∀ x ∈ a, ptOk x) ∧ (∀ x ∈ b, ptOk x) ∧ a.length ≤ 13 ∧ b.length ≤ 13 ∧ e = .returned (.tuple #[u, u2]) ∧ SlAt w' u a.length 3 (pcC a) ∧ SlAt w' u2 b.length 3 (pcC b) ∧ Below w.heap.size w w'
theorem own_next {r : Nat} {w0 W : World} {P : Int} {L : List Item} {K : Ending → World → Prop} {va : Value} {a : List Pt} (hO : Own w0.heap.size (Bd r w0 P) W L) (hr : r < w0.heap.size) (hP : P ≤ 700000) (hs : SlAt W va a.length 3 (pcC a)) (hne : va.ownBlock ≠ some r) (hv : ∀ x ∈ a, ptOk x) (ha : a.length ≤ 4)
    (h : ∀ (u : Value) (l : List Pt) w1, l.length = a.length → (∀ x ∈ l, ptOk x) → Own w0.heap.size (Bd r w0 (P + 100)) w1 (.row 29 3 u a.length (pcC l) :: L) → K (.returned u) w1) :
    Calls Tryd.prog 66 #[.pointer (some ⟨r, 0, none⟩), va] W K :=
  (l20Next_any r P va a W hO.base.2 hP hs hne hv ha).mono fun e w1 ⟨u, l, h1, h2, he, hrow, hR, hb⟩ => by
    subst he
    have h4 := hO.but hr (Stab.bd hr) ⟨hO.base.1.trans hb, hR⟩ hb
    refine h u l w1 h1 h2 ⟨⟨ownsRow_mono hrow hO.low, fun x hx => .of fun g hg e => ?_⟩, h4⟩
    have a := (hO.lt x hx g hg).2
    have b := (World.ownsRow.lt hrow g e).1
    omega