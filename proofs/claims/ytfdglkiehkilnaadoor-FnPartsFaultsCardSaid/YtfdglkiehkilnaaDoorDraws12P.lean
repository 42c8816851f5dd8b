/- The function that draws for the laws of PartsFaults: chords of four voices. -/
import Derived.Test.YtfdglkiehkilnaaDoorDraws12
import Derived.Test.YtfdglkiehkilnaaDoorStks
namespace Go.Proofs.YtfdglkiehkilnaaDoor
set_option linter.unusedSimpArgs false
set_option linter.unusedVariables false
set_option maxRecDepth 8000
open Go.RowKit

theorem StkV.at' {n : Nat} {w : World} {u u' : Value} {l l' : List Pt} (h : StkV u l u' l') (h4 : l'.length = 4) (hr : w.ownsRow n 29 3 u' 4 (pcC l')) : SlAt w u l.length 3 (pcC l) := by
  have hs := SlAt.of_row hr
  rcases h with ⟨rfl, rfl⟩ | ⟨q, cap, rfl, rfl, rfl⟩
  · rw [h4]; exact hs
  · rw [List.length_drop, h4]
    exact slAt_dropP hs h4 (by omega)
theorem StkV.block' {n r : Nat} {w : World} {u u' : Value} {l l' : List Pt} (h : StkV u l u' l') (hrow : w.ownsRow n 29 3 u' 4 (pcC l')) (hr : r < n) : u.ownBlock ≠ some r := by
  rcases h with ⟨rfl, rfl⟩ | ⟨q, cap, rfl, rfl, rfl⟩
  · intro e
    have := (World.ownsRow.lt hrow r e).1
    omega
  · intro e
    have := (World.ownsRow.lt hrow r (by simpa [Value.ownBlock] using e)).1
    omega
/-- A chord that was drawn: its value, its pitches, what is owned of it. -/
def EntP (e : Value × List Pt × Item) : Prop :=
  (∀ x ∈ e.2.1, ptOk x) ∧ e.2.1.length ≤ 4 ∧ ∀ (n : Nat) (w : World), e.2.2.Holds n w → SlAt w e.1 e.2.1.length 3 (pcC e.2.1) ∧ ∀ r, r < n → e.1.ownBlock ≠ some r
theorem EntP.stk {u u' : Value} {l l' : List Pt} (h : StkV u l u' l') (h4 : l'.length = 4) (hv : ∀ x ∈ l', ptOk x) : EntP (u, l, .row 29 3 u' 4 (pcC l')) :=
  ⟨(h.ok h4 hv).1, (h.ok h4 hv).2, fun _ _ hr => ⟨h.at' h4 hr, fun _ hlt => h.block' hr hlt⟩⟩
theorem EntP.nxt {u : Value} {l : List Pt} {k : Nat} (hk : l.length = k) (h4 : k ≤ 4) (hv : ∀ x ∈ l, ptOk x) : EntP (u, l, .row 29 3 u k (pcC l)) := by
  subst hk
  exact ⟨hv, h4, fun _ _ hr => ⟨SlAt.of_row hr, fun r hlt e => by have := (World.ownsRow.lt hr r e).1; omega⟩⟩
theorem ent_snoc {es : List (Value × List Pt × Item)} {e : Value × List Pt × Item} (hv : ∀ z ∈ es, EntP z) (hx : EntP e) : ∀ z ∈ es ++ [e], EntP z := fun z hz => by
  rcases List.mem_append.1 hz with h | h
  · exact hv z h
  · simp at h; subst h; exact hx
theorem StkR.of_ent {n : Nat} {B : World → Prop} {w : World} {u : Value} {es : List (Value × List Pt × Item)} (hv : ∀ z ∈ es, EntP z) (hO : Own n B w (.row 23 1 u es.length (es.map (·.1)) :: es.map (·.2.2))) : StkR w u (es.map (·.2.1)) := by
  refine ⟨es.map (·.1), by simp, ?_, fun k l ev hs hev => ?_⟩
  · have := SlAt.of_row hO.1.1
    rwa [List.length_map]
  · rw [List.getElem?_map] at hs hev
    obtain ⟨p, hp, rfl⟩ := Option.map_eq_some_iff.1 hs
    rw [hp] at hev
    cases hev
    have hm := List.mem_of_getElem? hp
    exact ((hv p hm).2.2 n w (hO.2.holds p.2.2 (List.mem_map_of_mem hm))).1
theorem one1s {A : Option Addr} {k c : Nat} : ∀ u ∈ [Value.slice A k c], u.oneCell' = true := by
  intro u hu
  simp at hu
  subst hu
  rfl
theorem stkR_nil (n : Nat) {m : Nat} {B : World → Prop} {w : World} {u : Value} {L : List Item} (hO : Own m B w (.row 23 1 u n (List.replicate n (.slice none 0 0)) :: L)) : StkR w u (List.replicate n []) := by
  refine ⟨List.replicate n (.slice none 0 0), by simp, ?_, fun k l ev hs hev => ?_⟩
  · have := SlAt.of_row hO.1.1
    rwa [List.length_replicate]
  · have h1 := (List.mem_replicate.1 (List.mem_of_getElem? hs)).2
    have h2 := (List.mem_replicate.1 (List.mem_of_getElem? hev)).2
    subst h1 h2
    exact ⟨rfl, Or.inl ⟨rfl, rfl⟩⟩
/-- What drawing chords of four voices leaves. -/
def DrewPa (w : World) (e : Ending) (w' : World) : Prop :=
  ∃ (u : Value) (ll : List (List Pt)), (∀ l ∈ ll, ∀ x ∈ l, ptOk x) ∧ (∀ l ∈ ll, l.length ≤ 4) ∧ ll.length ≤ 9 ∧ e = .returned u ∧ StkR w' u ll ∧ Below w.heap.size w w'

set_option maxRecDepth 20000 in
set_option maxHeartbeats 8000000 in
theorem DrawPartsFaults_any (v : Value) (n : Nat) (w : World) (hn : n ≤ maxLen) (h : BytesB w w.heap.size v n) :
    Calls Tryd.prog 31 #[v] w (DrewPa w) := by
  go_enter Tryd.func31, Tryd.ntmps31
  go_wp2_with fail
  refine (open_any v n _ hn h).mono ?_
  rintro e wd ⟨r, hr, rfl, hR, hb⟩
  have hr0 := hR.lt
  have HB := hid (And.intro hb hr)
  have hO := Own.startD hR
  have hF := True.intro
  obtain ⟨i0, hi, hz0, hz1, hz2⟩ := info_parts infoSt
  clear hR hb h hn hr
  go_wp2_with fail
  replace hO := hO.allocRow (e := 23) (cur := #[]) (k := 0) (cap := 0) 1 (by omega) (by unfold maxLen; omega) rfl
  rw [show List.take (0 * 1) (#[] : Array Value).toList = [] from rfl] at hO
  (go_at_call 65; apply own_at hO; (repeat (first | (with_reducible exact hO) | (with_reducible apply Own.alloc) | (with_reducible apply Own.drew) | ((with_reducible apply Own.set_at); (focus (show _ ≤ _; omega))))); have hG := hF; clear hF; clear hO; intro hO; refine own_pick (k := 6) hO hr0 (by omega) (by omega) (by omega) ?_; clear hO; intro x w1 x0 x1 hO; (try simp only [World.size_alloc1, World.size_drew, Nat.reduceAdd] at hO); (try simp only [upd, updI, List.map_cons, List.map_nil, eq_self, if_true, if_false, reduceIte, Nat.add_eq_left, Nat.left_eq_add, Nat.reduceEqDiff, List.set_cons_zero, List.set_cons_succ, hG] at hO); clear hG; have hF := hO; (try simp only [Own, Item.Holds, apartI, CellsAt, Nat.reduceAdd, Nat.zero_add, List.mem_cons, List.not_mem_nil, or_false, forall_eq_or_imp, forall_eq, ne_eq, false_imp_iff, implies_true, and_true] at hF))
  go_wp2_with fail
  go_loopw [4, 5] (fun u t wr => ∃ (m : Int) (es : List (Value × List Pt × Item)), 0 ≤ m ∧ m ≤ 5 ∧ t = .int .i64 m ∧ (es.length : Int) + m ≤ 5 ∧ Hid (∀ e ∈ es, EntP e) ∧ Own wd.heap.size (Bd r wd (1 + 101 * (5 - m))) wr (.row 23 1 u es.length (es.map (·.1)) :: es.map (·.2.2))) (fun _ t _ => (intOf t).toNat)
  case atStart => exact ⟨x, [], x0, by omega, rfl, by simp; omega, hid (fun z hz => (by cases hz)), hO.mono hr0 (by omega)⟩
  case round =>
    clear hO hF x0 x1
    obtain ⟨m, es, m0, m1, rfl, hem, hv, hO⟩ := hrel
    have hF := True.intro
    have wm : IntKind.i64.wrap (m - 1) = m - 1 := IntWalk.i64_in _ (by omega)
    obtain ⟨A, c, hu⟩ := (SlAt.of_row hO.1.1).form
    subst hu
    by_cases hm : m = 0
    · subst hm
      clear wm
      go_wp2_with fail
      (go_at_call 68; apply own_at hO; (repeat (first | (with_reducible exact hO) | (with_reducible apply Own.alloc) | (with_reducible apply Own.drew) | ((with_reducible apply Own.set_at); (focus (show _ ≤ _; omega))))); have hG := hF; clear hF; clear hO; intro hO; refine own_odd hO hr0 (by omega) (by omega) (by omega) ?_; clear hO; intro x w1 hO; (try simp only [World.size_alloc1, World.size_drew, Nat.reduceAdd] at hO); (try simp only [upd, updI, List.map_cons, List.map_nil, eq_self, if_true, if_false, reduceIte, Nat.add_eq_left, Nat.left_eq_add, Nat.reduceEqDiff, List.set_cons_zero, List.set_cons_succ, hG] at hO); clear hG; have hF := hO; (try simp only [Own, Item.Holds, apartI, CellsAt, Nat.reduceAdd, Nat.zero_add, List.mem_cons, List.not_mem_nil, or_false, forall_eq_or_imp, forall_eq, ne_eq, false_imp_iff, implies_true, and_true] at hF))
      cases x
      · have HS := hid (And.intro (StkR.of_ent hv.out hO) (hO.base.1.below HB.out.1 HB.out.2))
        clear hO hF
        go_wp2
        go_ret
        refine ⟨.slice A es.length c, es.map (·.2.1), fun l hl => ?_, fun l hl => ?_, by rw [List.length_map]; omega, rfl, HS.out.1, HS.out.2⟩
        · obtain ⟨e, he, rfl⟩ := List.mem_map.1 hl
          exact (hv.out e he).1
        · obtain ⟨e, he, rfl⟩ := List.mem_map.1 hl
          exact (hv.out e he).2.1
      · go_wp2_with (at_make; go_loud (refine wpList_make_item rfl _ _ 49 rfl 23 i0 (.slice none 0 0) 1 24 Tryd.underlying49 hi hz0 hz1 hz2 _ _ _ _ 9 rfl rfl rfl rfl (by omega) (by unfold maxLen; omega) (by (repeat (first | (with_reducible exact hO) | (with_reducible apply Own.alloc) | (with_reducible apply Own.drew) | ((with_reducible apply Own.set_at); (focus (show _ ≤ _; omega)))))) ?_); clear hO hF; intro q w2 hO; have hF := True.intro)
        rw [madeSt 9] at hO
        have HS := hid (And.intro (stkR_nil 9 hO) (hO.base.1.below HB.out.1 HB.out.2))
        clear hO hF
        go_wp2
        go_ret
        refine ⟨.slice (some ⟨q, 0, none⟩) 9 9, List.replicate 9 [], fun l hl => ?_, fun l hl => ?_, by simp, rfl, HS.out.1, HS.out.2⟩
        · rw [(List.mem_replicate.1 hl).2]
          intro x hx
          cases hx
        · rw [(List.mem_replicate.1 hl).2]
          simp
    · have hm1 : 0 < m := by omega
      clear hm
      by_cases he : es.length = 0
      · obtain rfl : es = [] := List.eq_nil_of_length_eq_zero he
        simp only [List.length_nil, List.map_nil] at hO hem ⊢
        go_wp2_with (first | (go_at_call 67; refine own_stack hO hr0 (by omega) (by omega) (by omega) ?_; clear hO; intro u l u' l' w2 h1 h2 h3 hO; obtain ⟨Au, cu, hu⟩ := (h3.at h2 hO).form; subst hu; have HE := hid (EntP.stk h3 h2 h1); clear h1 h2 h3) | (at_builtin; have hO2 := hO.alloc (t := 23) (vs := [.slice Au l.length cu]); clear hO; have hO := hO2.perm (List.Perm.cons _ (List.Perm.swap _ _ _)); clear hO2; refine wpList_append_item rfl _ _ 49 rfl 23 i0 (.slice none 0 0) 1 24 Tryd.underlying49 hi hz0 hz1 hz2 rfl (by decide) rfl rfl hO rfl one1s (by unfold maxLen; omega) (by omega) ?_; clear hO; intro v' w3 hO _))
        go_roundw
        case rel => exact ⟨m - 1, [(.slice Au l.length cu, l, .row 29 3 u' 4 (pcC l'))], by omega, by omega, rfl, by simp; omega, hid (ent_snoc (es := []) (fun z hz => (by cases hz)) HE.out), hO.mono hr0 (by omega)⟩
        case measure => simp [intOf]; omega
      · have he1 : (0 : Int) < (es.length : Int) := by omega
        obtain ⟨q, cap, hu, hq1, hq2⟩ := hO.row_open (by omega)
        cases hu
        unfold maxLen at hq2
        go_wp2_with fail
        (go_at_call 65; apply own_at hO; (repeat (first | (with_reducible exact hO) | (with_reducible apply Own.alloc) | (with_reducible apply Own.drew) | ((with_reducible apply Own.set_at); (focus (show _ ≤ _; omega))))); have hG := hF; clear hF; clear hO; intro hO; refine own_pick (k := 3) hO hr0 (by omega) (by omega) (by omega) ?_; clear hO; intro x w1 x0 x1 hO; (try simp only [World.size_alloc1, World.size_drew, Nat.reduceAdd] at hO); (try simp only [upd, updI, List.map_cons, List.map_nil, eq_self, if_true, if_false, reduceIte, Nat.add_eq_left, Nat.left_eq_add, Nat.reduceEqDiff, List.set_cons_zero, List.set_cons_succ, hG] at hO); clear hG; have hF := hO; (try simp only [Own, Item.Holds, apartI, CellsAt, Nat.reduceAdd, Nat.zero_add, List.mem_cons, List.not_mem_nil, or_false, forall_eq_or_imp, forall_eq, ne_eq, false_imp_iff, implies_true, and_true] at hF))
        by_cases hx : x = 0
        · subst hx
          clear x0 x1
          go_wp2_with (first | (go_at_call 67; refine own_stack hO hr0 (by omega) (by omega) (by omega) ?_; clear hO; intro u l u' l' w2 h1 h2 h3 hO; obtain ⟨Au, cu, hu⟩ := (h3.at h2 hO).form; subst hu; have HE := hid (EntP.stk h3 h2 h1); clear h1 h2 h3) | (at_builtin; have hO2 := hO.alloc (t := 23) (vs := [.slice Au l.length cu]); clear hO; have hO := hO2.perm (List.Perm.cons _ (List.Perm.swap _ _ _)); clear hO2; refine wpList_append_item rfl _ _ 49 rfl 23 i0 (.slice none 0 0) 1 24 Tryd.underlying49 hi hz0 hz1 hz2 rfl (by decide) rfl rfl hO rfl one1s (by unfold maxLen; omega) (by omega) ?_; clear hO; intro v' w3 hO _))
          go_roundw
          case rel => exact ⟨m - 1, es ++ [(.slice Au l.length cu, l, .row 29 3 u' 4 (pcC l'))], by omega, by omega, rfl, by rw [List.length_append]; simp; omega, hid (ent_snoc hv.out HE.out), by
            rw [List.length_append, List.map_append, List.map_append]
            exact (hO.perm (List.Perm.cons _ (List.perm_append_comm (l₁ := [_])))).mono hr0 (by omega)⟩
          case measure => simp [intOf]; omega
        · have hx2 : 0 < x := by omega
          obtain ⟨⟨u0, l0, it0⟩, hev⟩ : ∃ e, es[es.length - 1]? = some e := ⟨_, List.getElem?_eq_getElem (by omega)⟩
          have hmem := List.mem_of_getElem? hev
          have HE0 := hid (show ∀ (n : Nat) (B : World → Prop) (W : World) (X : Item), Own n B W (X :: es.map (·.2.2)) → SlAt W u0 l0.length 3 (pcC l0) ∧ ∀ r, r < n → u0.ownBlock ≠ some r from fun n B W X h => (hv.out _ hmem).2.2 n W (h.2.holds it0 (List.mem_map_of_mem (f := fun e => e.2.2) hmem)))
          have HL := hid (show (∀ x ∈ l0, ptOk x) ∧ l0.length ≤ 4 from And.intro (hv.out _ hmem).1 (hv.out _ hmem).2.1)
          have c0 := hO.row_cell (i := es.length - 1) (u := u0) (by rw [List.getElem?_map, hev]; rfl)
          obtain ⟨A0, cp0, hu0⟩ := (HE0.out _ _ _ _ hO).1.form
          subst hu0
          have tn : ((es.length : Int) - 1).toNat = es.length - 1 := by omega
          have b1 : (0 : Int) ≤ (es.length : Int) - 1 := by omega
          have b2 : (es.length : Int) - 1 < (es.length : Int) := by omega
          have wl : IntKind.i64.wrap ((es.length : Int) - 1) = (es.length : Int) - 1 := IntWalk.i64_in _ (by omega)
          clear hev hmem hx x0 x1
          go_wp2_with (first | (go_at_call 66; refine own_next (a := l0) hO hr0 (by omega) (HE0.out _ _ _ _ hO).1 ((HE0.out _ _ _ _ hO).2 _ hr0) HL.out.1 HL.out.2 ?_; clear hO; intro u l w2 h1 h2 hO; obtain ⟨Au, cu, hu⟩ := (SlAt.of_row hO.1.1).form; subst hu; have HE := hid (EntP.nxt (u := .slice Au l0.length cu) h1 HL.out.2 h2); clear h1 h2) | (at_builtin; have hO2 := hO.alloc (t := 23) (vs := [.slice Au l0.length cu]); clear hO; have hO := hO2.perm (List.Perm.cons _ (List.Perm.swap _ _ _)); clear hO2; refine wpList_append_item rfl _ _ 49 rfl 23 i0 (.slice none 0 0) 1 24 Tryd.underlying49 hi hz0 hz1 hz2 rfl (by decide) rfl rfl hO rfl one1s (by unfold maxLen; omega) (by omega) ?_; clear hO; intro v' w3 hO _))
          go_roundw
          case rel => exact ⟨m - 1, es ++ [(.slice Au l0.length cu, l, .row 29 3 (.slice Au l0.length cu) l0.length (pcC l))], by omega, by omega, rfl, by rw [List.length_append]; simp; omega, hid (ent_snoc hv.out HE.out), by
            rw [List.length_append, List.map_append, List.map_append]
            exact (hO.perm (List.Perm.cons _ (List.perm_append_comm (l₁ := [_])))).mono hr0 (by omega)⟩
          case measure => simp [intOf]; omega
end Go.Proofs.YtfdglkiehkilnaaDoor
