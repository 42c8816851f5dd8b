/- Chords in memory: slices of slices of pitches; those that came in; the rows that a call has made. -/
import Derived.Test.YtfdglkiehkilnaaDoorWalksPt
namespace Go.Proofs.YtfdglkiehkilnaaDoor
set_option linter.unusedSimpArgs false
set_option linter.unusedVariables false
set_option maxRecDepth 8000
open Go.RowKit

/-- The rows of chords: a value, its pitches. -/
def rwP (es : List (Value × List Pt)) : List Item := es.map fun p => .row 29 3 p.1 p.2.length (pcC p.2)
theorem rwP_append (a b : List (Value × List Pt)) : rwP (a ++ b) = rwP a ++ rwP b := by simp [rwP]
abbrev vsO (es : List (Value × List Pt)) : List Value := es.map (·.1)
abbrev lsO (es : List (Value × List Pt)) : List (List Pt) := es.map (·.2)

/-- Chords that a call has made. -/
def StkR (w : World) (va : Value) (ll : List (List Pt)) : Prop := ∃ evs : List Value, evs.length = ll.length ∧ SlAt w va ll.length 1 evs ∧ ∀ (k : Nat) (l : List Pt) (ev : Value), ll[k]? = some l → evs[k]? = some ev → SlAt w ev l.length 3 (pcC l)
/-- Chords that came in. -/
def StkIn (w : World) (va : Value) (ll : List (List Pt)) : Prop := (ll = [] ∧ ∃ a c, va = .slice a 0 c) ∨ ∃ evs : List Value, evs.length = ll.length ∧ SlAt w va ll.length 1 evs ∧ ∀ (k : Nat) (l : List Pt) (ev : Value), ll[k]? = some l → evs[k]? = some ev → PtsAt w ev l
theorem StkR.below {w w' : World} {va : Value} {ll : List (List Pt)} (h : StkR w va ll) (hb : Below w.heap.size w w') : StkR w' va ll := by
  obtain ⟨evs, h1, h2, h3⟩ := h
  exact ⟨evs, h1, h2.below hb, fun k l ev a b => (h3 k l ev a b).below hb⟩
theorem StkIn.below {w w' : World} {va : Value} {ll : List (List Pt)} (h : StkIn w va ll) (hb : Below w.heap.size w w') : StkIn w' va ll :=
  h.imp id fun ⟨evs, h1, h2, h3⟩ => ⟨evs, h1, h2.below hb, fun k l ev a b => (h3 k l ev a b).below hb⟩
theorem StkR.in {w : World} {va : Value} {ll : List (List Pt)} (h : StkR w va ll) : StkIn w va ll := by
  obtain ⟨evs, h1, h2, h3⟩ := h
  exact Or.inr ⟨evs, h1, h2, fun k l ev a b => Or.inr (h3 k l ev a b)⟩
/-- Opened: the slice, and each chord's value. -/
theorem StkR.open {w : World} {va : Value} {ll : List (List Pt)} (h : StkR w va ll) : ∃ A c, va = .slice A ll.length c ∧ (ll.length : Int) ≤ 9223372036854775807 ∧ (0 < ll.length → ∃ b off, A = some ⟨b, off, none⟩ ∧ ll.length ≤ c ∧ c ≤ 9223372036854775807 ∧ b < w.heap.size ∧
    ∀ (k : Nat) (l : List Pt), ll[k]? = some l → ∃ (A1 : Option Addr) (c1 : Nat), SlAt w (.slice A1 l.length c1) l.length 3 (pcC l) ∧ w.cell? ⟨b, off + k, none⟩ = .some (.slice A1 l.length c1)) := by
  obtain ⟨evs, h1, h2, h3⟩ := h
  obtain ⟨A, c, rfl, nb, hA⟩ := h2.open
  refine ⟨A, c, rfl, nb, fun hp => ?_⟩
  obtain ⟨b, off, rfl, g1, g2, g3⟩ := hA hp
  refine ⟨b, off, rfl, g1, g2, g3, fun k l hk => ?_⟩
  have hlt := (List.getElem?_eq_some_iff.1 hk).1
  obtain ⟨ev, hev⟩ : ∃ ev, evs[k]? = .some ev := ⟨_, List.getElem?_eq_getElem (by omega)⟩
  have hs := h3 k l ev hk hev
  obtain ⟨A1, c1, rfl⟩ := hs.form
  exact ⟨A1, c1, hs, h2.cellAt hev⟩
theorem PtsAt.form {w : World} {v : Value} {l : List Pt} (h : PtsAt w v l) : ∃ a c, v = .slice a l.length c := by
  rcases h with ⟨rfl, a, c, rfl⟩ | h
  · exact ⟨a, c, rfl⟩
  · exact h.form
theorem StkIn.open {w : World} {va : Value} {ll : List (List Pt)} (h : StkIn w va ll) : ∃ A c, va = .slice A ll.length c ∧ (ll.length : Int) ≤ 9223372036854775807 ∧ (0 < ll.length → ∃ b off, A = some ⟨b, off, none⟩ ∧ ll.length ≤ c ∧ c ≤ 9223372036854775807 ∧ b < w.heap.size ∧
    ∀ (k : Nat) (l : List Pt), ll[k]? = some l → ∃ (A1 : Option Addr) (c1 : Nat), PtsAt w (.slice A1 l.length c1) l ∧ w.cell? ⟨b, off + k, none⟩ = .some (.slice A1 l.length c1)) := by
  rcases h with ⟨rfl, a, c, rfl⟩ | ⟨evs, h1, h2, h3⟩
  · exact ⟨a, c, rfl, by simp, fun h => by simp at h⟩
  · obtain ⟨A, c, rfl, nb, hA⟩ := h2.open
    refine ⟨A, c, rfl, nb, fun hp => ?_⟩
    obtain ⟨b, off, rfl, g1, g2, g3⟩ := hA hp
    refine ⟨b, off, rfl, g1, g2, g3, fun k l hk => ?_⟩
    have hlt := (List.getElem?_eq_some_iff.1 hk).1
    obtain ⟨ev, hev⟩ : ∃ ev, evs[k]? = .some ev := ⟨_, List.getElem?_eq_getElem (by omega)⟩
    have hs := h3 k l ev hk hev
    obtain ⟨A1, c1, rfl⟩ := hs.form
    exact ⟨A1, c1, hs, h2.cellAt hev⟩
theorem StkR.of_own {n : Nat} {B : World → Prop} {w : World} {v : Value} {es : List (Value × List Pt)} {L : List Item} (h : Own n B w (.row 23 1 v es.length (vsO es) :: (rwP es ++ L))) : StkR w v (lsO es) := by
  refine ⟨vsO es, by simp, ?_, fun k l ev hs hev => ?_⟩
  · have := SlAt.of_row h.1.1
    rwa [List.length_map]
  · rw [List.getElem?_map] at hs hev
    obtain ⟨p, hp, rfl⟩ := Option.map_eq_some_iff.1 hs
    rw [hp] at hev
    cases hev
    exact SlAt.of_row (h.2.holds (.row 29 3 p.1 p.2.length (pcC p.2)) (List.mem_append_left _ (List.mem_map_of_mem (List.mem_of_getElem? hp))))

/-- What a call that hands back chords leaves. -/
def StkOut (ll : List (List Pt)) (w : World) (e : Ending) (w' : World) : Prop :=
  ∃ (v : Value) (es : List (Value × List Pt)), e = .returned v ∧ lsO es = ll ∧ Own w.heap.size (Below w.heap.size w) w' (.row 23 1 v es.length (vsO es) :: rwP es)
theorem StkOut.mk {w w' : World} {v : Value} {es : List (Value × List Pt)} {ll : List (List Pt)} {k : Nat} (hl : lsO es = ll) (hk : es.length = k) {L : List Item} (h : Own w.heap.size (Below w.heap.size w) w' (.row 23 1 v k (vsO es) :: (rwP es ++ L))) : StkOut ll w (.returned v) w' := by
  subst hk
  refine ⟨v, es, rfl, hl, ?_⟩
  have : ∀ (U L : List Item), Own w.heap.size (Below w.heap.size w) w' (U ++ L) → Own w.heap.size (Below w.heap.size w) w' U := by
    intro U
    induction U with
    | nil => intro L h; exact ⟨h.stab, h.base⟩
    | cons x U ih => intro L h; exact ⟨⟨h.1.1, fun y hy => h.1.2 y (List.mem_append_left _ hy)⟩, ih L h.2⟩
  exact this (.row 23 1 v es.length (vsO es) :: rwP es) L h
theorem Own.joinP {n : Nat} {B : World → Prop} {W w' : World} {L : List Item} (h : Own n B W L) : ∀ {L' : List Item}, Own W.heap.size (Below W.heap.size W) w' L' → Own n B w' (L' ++ L)
  | [], h' => h.below h'.2
  | x :: L', ⟨⟨h1, h2⟩, h3⟩ => by
    have hx : x.Holds n w' := by
      cases x with
      | blk b vs => exact ⟨h1.1, Nat.le_trans h.low h1.2.1, h1.2.2⟩
      | row e size v k xs => exact ownsRow_mono h1 h.low
    refine ⟨⟨hx, fun y hy => ?_⟩, h.joinP h3⟩
    rcases List.mem_append.1 hy with hy | hy
    · exact h2 y hy
    · exact .of fun g hg e => by
        have g1 := (Item.Holds.lt (x := x) h1 g e).1
        have g2 := (h.lt y hy g hg).2
        omega
theorem own_call_stk {P : Program} {f : FuncId} {args : Array Value} {n : Nat} {B : World → Prop} {W : World} {L : List Item} {ll : List (List Pt)} {K : Ending → World → Prop}
    (hO : Own n B W L) (h : B W → Calls P f args W (StkOut ll W)) (k' : ∀ v es w1, lsO es = ll → Own n B w1 (.row 23 1 v es.length (vsO es) :: (rwP es ++ L)) → K (.returned v) w1) : Calls P f args W K :=
  (h hO.base).mono fun e w1 ⟨v, es, he, hE, ho⟩ => by subst he; exact k' v es w1 hE (hO.joinP ho)

theorem infoSt : (Tryd.prog.info? 23).map (fun i => (i.zero, i.size, i.bytes)) = some (some (.slice none 0 0), 1, 24) := by kernel_rfl
theorem madeSt (n : Nat) : (madeCells (Value.slice none 0 0).cells (n * 1)).toList = List.replicate n (Value.slice none 0 0) := by
  have hz : (Value.slice none 0 0).cells = #[.slice none 0 0] := by kernel_rfl
  rw [hz]
  have := made_rep #[Value.slice none 0 0] (by decide) n
  rw [show (#[Value.slice none 0 0] : Array Value).size = 1 from rfl] at this
  rw [this]
  clear this hz
  induction n with
  | zero => rfl
  | succ n ih => rw [List.replicate_succ, List.flatten_cons, ih, List.replicate_succ]; rfl
/-- The first rows are laid, the others nil. -/
def mixSt (es : List (Value × List Pt)) (n : Nat) : List Value := vsO es ++ List.replicate (n - es.length) (.slice none 0 0)
theorem mixSt_put {es : List (Value × List Pt)} {n j : Nat} {p : Value × List Pt} (he : es.length = j) (hj : j < n) : (mixSt es n).set j p.1 = mixSt (es ++ [p]) n := by
  unfold mixSt
  rw [show n - es.length = (n - (j + 1)) + 1 by omega, List.replicate_succ, List.set_append, if_neg (by simp [he]), List.length_map, he, Nat.sub_self, List.set_cons_zero]
  rw [show n - (es ++ [p]).length = n - (j + 1) by rw [List.length_append, he]; rfl]
  simp [vsO]
theorem mixSt_len {es : List (Value × List Pt)} {n : Nat} (h : es.length ≤ n) : (mixSt es n).length = n := by simp [mixSt]; omega
theorem mixSt_full {es : List (Value × List Pt)} {n : Nat} (h : es.length = n) : mixSt es n = vsO es := by simp [mixSt, h]

set_option maxHeartbeats 4000000 in
theorem toPSS_any (va : Value) (ll : List (List Pt)) (w : World) (h : StkIn w va ll) (hn : ll.length ≤ 1048576) (hle : ∀ l ∈ ll, l.length ≤ 1048576) :
    Calls Tryd.prog 37 #[va] w (StkOut ll w) := by
  have hO := Own.start w
  have hF := True.intro
  obtain ⟨i0, hi, hz0, hz1, hz2⟩ := info_parts infoSt
  obtain ⟨A, c, rfl, nb, hA⟩ := h.open
  obtain ⟨n, hnl⟩ : ∃ n, ll.length = n := ⟨_, rfl⟩
  have HN := hid hnl
  have HLE := hid hle
  rw [hnl] at hn hA nb
  rw [hnl]
  clear hnl h hle
  go_enter Tryd.func37, Tryd.ntmps37
  go_wp2_with (at_make; go_loud (refine wpList_make_item rfl _ _ 49 rfl 23 i0 (.slice none 0 0) 1 24 Tryd.underlying49 hi hz0 hz1 hz2 _ _ _ _ n rfl rfl rfl rfl (by omega) (by unfold maxLen; omega) (by (repeat (first | (with_reducible exact hO) | (with_reducible apply Own.alloc) | (with_reducible apply Own.drew) | ((with_reducible apply Own.set_at); (focus (show _ ≤ _; omega)))))) ?_); clear hO hF; intro q w2 hO; have hF := True.intro)
  rw [madeSt n, show List.replicate n (Value.slice none 0 0) = mixSt [] n by simp [mixSt]] at hO
  go_loopw [4] (fun t wr => ∃ (j : Nat) (es : List (Value × List Pt)), j ≤ n ∧ t = .int .i64 j ∧ Hid (lsO es = ll.take j) ∧ Own w.heap.size (Below w.heap.size w) wr (.row 23 1 (.slice (some ⟨q, 0, none⟩) n n) n (mixSt es n) :: (rwP es ++ []))) (fun t _ => n - (intOf t).toNat)
  case atStart => exact ⟨0, [], by omega, rfl, rfl, hO⟩
  case round =>
    clear hO
    obtain ⟨j, es, hj, rfl, hE, hO⟩ := hrel
    have hF := True.intro
    have hel : es.length = j := by
      have := congrArg List.length hE.out
      rw [List.length_map, List.length_take] at this
      have := HN.out
      omega
    by_cases he : j = n
    · subst he
      rw [mixSt_full hel] at hO
      have HL := hid (show lsO es = ll by rw [hE.out, List.take_of_length_le (Nat.le_of_eq HN.out)])
      go_wp2_with fail
      go_ret
      exact StkOut.mk HL.out hel hO
    · have hlt : j < n := by omega
      have hlt2 : (j : Int) < n := by omega
      obtain ⟨b, off, rfl, hc1, hc2, hb, hcell⟩ := hA (by omega)
      obtain ⟨l, hl⟩ : ∃ s, ll[j]? = some s := ⟨_, List.getElem?_eq_getElem (by have := HN.out; omega)⟩
      obtain ⟨A1, c1, hev, d0⟩ := hcell j l hl
      have g0 := ((bcell hO.base).1 b (off + j) hb).trans d0
      have HT := hid (fun W (hW : Below w.heap.size w W) => toPS_any (.slice A1 l.length c1) l W (hev.below hW) (HLE.out l (List.mem_of_getElem? hl)))
      have HUP := hid (fun v => show lsO (es ++ [(v, l)]) = ll.take (j + 1) by rw [List.take_add_one, hl, ← hE.out]; simp [lsO])
      have HPUT := hid (fun v => mixSt_put (p := (v, l)) hel hlt)
      obtain ⟨z0, e0⟩ : ∃ z, (mixSt es n)[j]? = some z := ⟨_, List.getElem?_eq_getElem (by rw [mixSt_len (by omega)]; exact hlt)⟩
      have HEE := hid e0
      have HJ := hid (And.intro hj hlt)
      obtain ⟨m, hm⟩ : ∃ m, l.length = m := ⟨_, rfl⟩
      rw [hm] at HT g0
      have HM := hid hm
      clear he hl hcell hev d0 hel e0 hj hlt hm
      go_wp2_with (go_at_call 25; refine own_call_row hO (fun hB => HT.out _ hB) ?_; clear hO; intro v w1 hO; obtain ⟨A3, c3, hv3⟩ := (SlAt.of_row hO.1.1).form; subst hv3; replace hO := hO.perm (List.Perm.swap _ _ _); have c0 := hO.row_cell HEE.out; have r0 := hO.row_free j; have hO2 := hO.row_set j (.slice A3 m c3); rw [HPUT.out (.slice A3 m c3)] at hO2; clear hO hF)
      go_roundw
      case rel => exact ⟨j + 1, es ++ [(.slice A3 m c3, l)], by have := HJ.out; omega, by go_num, HUP.out _, by
        rw [rwP_append]
        refine hO2.perm (List.Perm.cons _ ?_)
        have : rwP [(.slice A3 m c3, l)] = [.row 29 3 (.slice A3 m c3) m (pcC l)] := by simp [rwP, HM.out]
        rw [this, List.append_nil, List.append_nil]
        exact (List.perm_append_comm (l₁ := [_]) (l₂ := rwP es))⟩
      case measure => have := HJ.out; simp [intOf]; omega
end Go.Proofs.YtfdglkiehkilnaaDoor
