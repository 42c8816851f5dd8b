/- Sections that a call has made: the row of the sections, and a row for each list of endings. -/
import Derived.Test.YtpfefbpmchigeaaDoorSecs
import Derived.Test.YtpfefbpmchigeaaDoorWalksPS
namespace Go.Proofs.YtpfefbpmchigeaaDoor
set_option linter.unusedSimpArgs false
set_option linter.unusedVariables false
open Go.RowKit

section
variable {n : Nat} {B : World → Prop} {w w' : World}

theorem Own.skip : ∀ {U V : List Item}, Own n B w (U ++ V) → Own n B w V
  | [], _, h => h
  | _ :: _, _, h => Own.skip (h.2)
theorem Item.Holds.mono {m : Nat} {x : Item} (h : x.Holds m w) (hn : n ≤ m) : x.Holds n w := by
  cases x with
  | blk b vs => exact ⟨h.1, Nat.le_trans hn h.2.1, h.2.2⟩
  | row e size v k xs => exact ownsRow_mono h hn
/-- What a call has made joins what is owned. -/
theorem Own.join {W : World} {L : List Item} (h : Own n B W L) : ∀ {L' : List Item}, Own W.heap.size (Below W.heap.size W) w' L' → Own n B w' (L' ++ L)
  | [], h' => h.below h'.base
  | it :: L', ⟨⟨h1, h2⟩, h3⟩ => ⟨⟨h1.mono h.low, fun x hx => show apartI x it by
      rcases List.mem_append.1 hx with hx | hx
      · exact h2 x hx
      · refine apartI.of (x := x) (y := it) fun g hg e => ?_
        have a := (Item.Holds.lt h1 g e).1
        have b := (h.lt x hx g hg).2
        omega⟩, h.join h3⟩
/-- What is owned is let go of: it stays as it is, and what is made from here on is owned anew. -/
theorem Own.anew {L : List Item} (h : Own n B w L) : Own w.heap.size (fun W => B W ∧ Below w.heap.size w W) w [] :=
  ⟨⟨fun W hW => hW.2.size, fun W W' r hB hg hr => ⟨h.stab.grown W W' r hB.1 hg fun g e => ⟨Nat.le_trans h.low (hr g e).1, (hr g e).2⟩, (Stab.plain w).grown W W' r hB.2 hg hr⟩⟩, h.base, Below.refl _ _⟩
end

/-- An append of one element, as an operation of a drawn region, or with a guard. -/
theorem wp_append_item {P : Program} {o : Oper} {a : Act} {Q : Exit → Act → World → Prop} {n : Nat} {B : World → Prop} {w : World} {L : List Item} {v : Value} {k q c : Nat} {xs news : List Value} {K : Act → World → Prop}
    (s x : Operand) (t : TypeId) (ho : o.op = .call { callee := .builtin .append, args := #[s, x], argTypes := #[t, t] })
    (e : TypeId) (i : TypeInfo) (z : Value) (size bytes : Nat) (ht : P.underlying t = some (.slice e)) (hi : P.info? e = some i) (hz : i.zero = some z)
    (hsize : i.size = size) (hby : i.bytes = bytes) (hzs : z.cells.size = size) (hsz : 0 < size)
    (hs : a.eval s = v) (hx : a.eval x = .slice (some ⟨q, 0, none⟩) 1 c) (hO : Own n B w (.blk q news :: .row e size v k xs :: L)) (hl : news.length = size) (h1 : ∀ u ∈ news, u.oneCell' = true)
    (h63 : k + 1 ≤ maxLen) (hbytes : (k + 1) * bytes ≤ 140737488355328)
    (h : ∀ v' w', Own n B w' (.row e size v' (k + 1) (xs ++ news) :: L) → K (a.put o.dst v') w') : o.wp P a w K Q := by
  have hown : w.ownsRow n e size v k xs := hO.2.1.1
  have hnews : ∀ j u, news[j]? = some u → w.cell? ((⟨q, 0, none⟩ : Addr).add j) = some u := fun j u hj => by
    rw [add_flat]
    have := (hO.cells (b := q) (vs := news) (by simp)).get hj
    simpa using this
  obtain ⟨v', w', hr, h2, h3, h4⟩ := run_append_own (P := P) w n t o.type e i z size bytes ht hi hz hsize hby hzs hsz v k xs hown ⟨q, 0, none⟩ 1 c news (by simpa using hl) hnews h1 h63 hbytes hO.low
  have h5 := append_block ht hi hz hsize hby hown (by omega) (by simpa using hl) hnews h1 h63 hbytes hr
  unfold Oper.wp execOp
  simp only [ho, resolve, invoke, builtin, Sem.run_bind, Sem.run_pure, Result.andThen_ok, List.map_toArray, List.map_cons, List.map_nil, hs, hx, hr]
  exact h v' w' (hO.2.regrown h3 h2 h5)
/-- 'append(s, v...)' so. -/
theorem wp_append_slice {P : Program} {o : Oper} {a : Act} {Q : Exit → Act → World → Prop} {n : Nat} {B : World → Prop} {w : World} {L : List Item} {v xv : Value} {k m : Nat} {xs news : List Value} {K : Act → World → Prop}
    (s x : Operand) (t : TypeId) (ho : o.op = .call { callee := .builtin .append, args := #[s, x], argTypes := #[t, t] })
    (e : TypeId) (i : TypeInfo) (z : Value) (size bytes : Nat) (ht : P.underlying t = some (.slice e)) (hi : P.info? e = some i) (hz : i.zero = some z)
    (hsize : i.size = size) (hby : i.bytes = bytes) (hzs : z.cells.size = size) (hsz : 0 < size)
    (hs : a.eval s = v) (hx : a.eval x = xv) (hO : Own n B w (.row e size v k xs :: L)) (hv : SlAt w xv m size news) (h1 : ∀ u ∈ news, u.oneCell' = true)
    (h63 : k + m ≤ maxLen) (hbytes : (k + m) * bytes ≤ 140737488355328)
    (h : ∀ v' w', Own n B w' (.row e size v' (k + m) (xs ++ news) :: L) → K (a.put o.dst v') w') : o.wp P a w K Q := by
  have hown : w.ownsRow n e size v k xs := hO.1.1
  rcases hv.2 with ⟨rfl, rfl⟩ | ⟨b, off, c, rfl, _, _, _, hc⟩
  · have hr := run_append_owned_none (P := P) (w := w) n t o.type e i size ht hi v k xs hown
    have hn : news = [] := List.eq_nil_of_length_eq_zero (by simpa using hv.1)
    subst hn
    unfold Oper.wp execOp
    simp only [ho, resolve, invoke, builtin, Sem.run_bind, Sem.run_pure, Result.andThen_ok, List.map_toArray, List.map_cons, List.map_nil, hs, hx, hr]
    exact h v w (by simpa using hO)
  · obtain ⟨v', w', hr, h2, h3, h4, h5⟩ := run_append_own_at (P := P) w n t o.type e i z size bytes ht hi hz hsize hby hzs hsz v k xs hown ⟨b, off, none⟩ m c news hv.1 (fun j u hj => by rw [add_any]; exact hc j u hj) h1 h63 hbytes hO.low
    unfold Oper.wp execOp
    simp only [ho, resolve, invoke, builtin, Sem.run_bind, Sem.run_pure, Result.andThen_ok, List.map_toArray, List.map_cons, List.map_nil, hs, hx, hr]
    exact h v' w' (hO.regrown h3 h2 h5)
/-- An operation whose guard holds. -/
theorem wpList_wanted {P : Program} {ops : Array Oper} {rest : List Oper} {o : Oper} {a : Act} {Q : Exit → Act → World → Prop} {w : World} (hw : Region.wanted o (yielded ops a.tmps) = true) (h : o.wp P a w (wpList P ops Q rest) Q) : wpList P ops Q (o :: rest) a w := by
  unfold wpList
  rw [if_pos hw]
  exact .inl h

/-- Numbers as cells. -/
abbrev inC (l : List Int) : List Value := l.map (Value.int .i64)
theorem madeI (n : Nat) : (madeCells (Value.int .i64 0).cells (n * 1)).toList = inC (List.replicate n 0) := by
  have hz : (Value.int .i64 0).cells = #[.int .i64 0] := by kernel_rfl
  rw [hz]
  have := made_rep #[Value.int .i64 0] (by decide) n
  rw [show (#[Value.int .i64 0] : Array Value).size = 1 from rfl] at this
  rw [this]
  show _ = List.map (Value.int .i64) (List.replicate n 0)
  rw [List.map_replicate]
  clear this hz
  induction n with
  | zero => rfl
  | succ n ih => rw [List.replicate_succ, List.flatten_cons, ih, List.replicate_succ]; rfl
/-- The rows of endings: a value, its cells. -/
def rwI (es : List (Value × List Value)) : List Item := es.map fun p => .row 3 1 p.1 p.2.length p.2
theorem rwI_append (a b : List (Value × List Value)) : rwI (a ++ b) = rwI a ++ rwI b := by simp [rwI]
/-- The rows hold the endings of sections. -/
def EsOf (l : List Sec) (es : List (Value × List Value)) : Prop := es.length = l.length ∧ ∀ (k : Nat) (s : Sec) (p : Value × List Value), l[k]? = some s → es[k]? = some p → p.2 = inC s.e
theorem EsOf.nil : EsOf [] [] := ⟨rfl, fun k s p h => by simp at h⟩
theorem EsOf.snoc {l : List Sec} {es : List (Value × List Value)} (h : EsOf l es) (s : Sec) (ev : Value) : EsOf (l ++ [s]) (es ++ [(ev, inC s.e)]) := by
  refine ⟨by simp [h.1], fun k z p hz hp => ?_⟩
  by_cases hk : k < l.length
  · rw [List.getElem?_append_left hk] at hz
    rw [List.getElem?_append_left (by rw [h.1]; exact hk)] at hp
    exact h.2 k z p hz hp
  · have hl := (List.getElem?_eq_some_iff.1 hz).1
    simp at hl
    obtain rfl : k = l.length := by omega
    rw [List.getElem?_append_right (Nat.le_refl _), Nat.sub_self] at hz
    rw [← h.1, List.getElem?_append_right (Nat.le_refl _), Nat.sub_self] at hp
    simp at hz hp
    subst hz hp
    rfl
/-- Sections that a call has made lie in memory so, even if there is none. -/
def SecsR (w : World) (va : Value) (l : List Sec) : Prop := ∃ evs : List Value, evs.length = l.length ∧ SlAt w va l.length 3 (scC l evs) ∧ ∀ (k : Nat) (s : Sec) (ev : Value), l[k]? = some s → evs[k]? = some ev → IntsAt w ev s.e
theorem SecsR.at {w : World} {va : Value} {l : List Sec} (h : SecsR w va l) : SecsAt w va l := Or.inr h
theorem SecsR.below {w w' : World} {va : Value} {l : List Sec} (h : SecsR w va l) (hb : Below w.heap.size w w') : SecsR w' va l := by
  obtain ⟨evs, h1, h2, h3⟩ := h
  exact ⟨evs, h1, h2.below hb, fun k s ev a b => (h3 k s ev a b).below hb⟩
theorem SecsR.of_own {n : Nat} {B : World → Prop} {w : World} {v : Value} {l : List Sec} {es : List (Value × List Value)} {L : List Item} (h : Own n B w (.row 25 3 v l.length (scC l (es.map (·.1))) :: (rwI es ++ L))) (he : EsOf l es) : SecsR w v l := by
  have h0 : w.ownsRow n 25 3 v l.length (scC l (es.map (·.1))) := h.1.1
  refine ⟨es.map (·.1), by rw [List.length_map, he.1], SlAt.of_row h0, fun k s ev hs hev => ?_⟩
  rw [List.getElem?_map] at hev
  obtain ⟨p, hp, rfl⟩ := Option.map_eq_some_iff.1 hev
  have hx := h.2.holds (.row 3 1 p.1 p.2.length p.2) (List.mem_append_left _ (List.mem_map_of_mem (List.mem_of_getElem? hp)))
  have e := he.2 k s p hs hp
  have hlen : p.2.length = s.e.length := by rw [e, List.length_map]
  have := SlAt.of_row hx
  rw [hlen, e] at this
  exact Or.inr this
theorem SecsAt.of_own {n : Nat} {B : World → Prop} {w : World} {v : Value} {l : List Sec} {es : List (Value × List Value)} {L : List Item} (h : Own n B w (.row 25 3 v l.length (scC l (es.map (·.1))) :: (rwI es ++ L))) (he : EsOf l es) : SecsAt w v l := (SecsR.of_own h he).at
theorem scC_append : ∀ {u v : List Sec} {es fs : List Value}, es.length = u.length → scC (u ++ v) (es ++ fs) = scC u es ++ scC v fs
  | [], v, [], fs, _ => rfl
  | [], _, _ :: _, _, h => by simp at h
  | _ :: _, _, [], _, h => by simp at h
  | s :: u, v, e :: es, fs, h => by
    simp only [List.cons_append, scC, scC_append (u := u) (es := es) (by simpa using h)]
theorem scC_len : ∀ {u : List Sec} {es : List Value}, es.length = u.length → (scC u es).length = u.length * 3
  | [], [], _ => rfl
  | [], _ :: _, h => by simp at h
  | _ :: _, [], h => by simp at h
  | s :: u, e :: es, h => by
    simp only [scC, List.length_cons, scC_len (u := u) (es := es) (by simpa using h)]
    omega
/-- Section j is laid. -/
theorem scC_put {u r : List Sec} {z s : Sec} {vs ys : List Value} {y ev : Value} {j : Nat} (hu : u.length = j) (hv : vs.length = j) :
    (((scC (u ++ z :: r) (vs ++ y :: ys)).set (j * 3) (.int .i64 s.b)).set (j * 3 + 1) (.int .i64 s.t)).set (j * 3 + 2) ev = scC (u ++ s :: r) (vs ++ ev :: ys) := by
  have h1 := scC_len (u := u) (es := vs) (by omega)
  rw [scC_append (by omega), scC_append (by omega)]
  show (((scC u vs ++ (_ :: _ :: _ :: scC r ys)).set _ _).set _ _).set _ _ = _
  rw [set3 (by omega), List.append_assoc]
  rfl
theorem scC_cells : ∀ {u : List Sec} {es : List Value}, (∀ e ∈ es, e.oneCell' = true) → ∀ x ∈ scC u es, x.oneCell' = true
  | [], es, _, x, h => by cases es <;> cases h
  | _ :: _, [], _, x, h => by cases h
  | s :: u, e :: es, he, x, h => by
    simp only [scC, List.mem_cons] at h
    rcases h with rfl | rfl | rfl | h
    · rfl
    · rfl
    · exact he _ (by simp)
    · exact scC_cells (fun z hz => he z (by simp [hz])) x h

theorem scC_size : ∀ (l : List (Sec × Value)), (scC (l.map (·.1)) (l.map (·.2))).length = l.length * 3
  | [] => rfl
  | x :: l => by simp only [List.map_cons, scC, List.length_cons, scC_size l]; omega
theorem scC_of : ∀ {l : List (Sec × Value)} {j : Nat} {u : Value}, (scC (l.map (·.1)) (l.map (·.2)))[j]? = some u → ∃ x, l[j / 3]? = some x ∧ [Value.int .i64 x.1.b, .int .i64 x.1.t, x.2][j % 3]? = some u
  | [], _, _, h => by simp [scC] at h
  | x :: l, 0, u, h => ⟨x, rfl, h⟩
  | x :: l, 1, u, h => ⟨x, rfl, h⟩
  | x :: l, 2, u, h => ⟨x, rfl, h⟩
  | x :: l, j + 3, u, h => by
    obtain ⟨y, h1, h2⟩ := scC_of (l := l) (j := j) (u := u) (by simpa [scC] using h)
    exact ⟨y, by rw [show (j + 3) / 3 = j / 3 + 1 by omega]; exact h1, by rw [show (j + 3) % 3 = j % 3 by omega]; exact h2⟩

/-- A section behind others; sections behind others. -/
theorem SecsR.join {w : World} {v : Value} {a b : List Sec} {ea eb : List Value} (ha : ea.length = a.length) (hb : eb.length = b.length) (h : SlAt w v (a.length + b.length) 3 (scC a ea ++ scC b eb)) (h1 : ∀ (k : Nat) (s : Sec) (ev : Value), a[k]? = some s → ea[k]? = some ev → IntsAt w ev s.e) (h2 : ∀ (k : Nat) (s : Sec) (ev : Value), b[k]? = some s → eb[k]? = some ev → IntsAt w ev s.e) : SecsR w v (a ++ b) := by
  refine ⟨ea ++ eb, by rw [List.length_append, List.length_append, ha, hb], by rw [List.length_append, scC_append ha]; exact h, fun k s ev hs he => ?_⟩
  by_cases hk : k < a.length
  · rw [List.getElem?_append_left hk] at hs
    rw [List.getElem?_append_left (by omega)] at he
    exact h1 k s ev hs he
  · rw [List.getElem?_append_right (by omega)] at hs
    rw [List.getElem?_append_right (by omega), ha] at he
    exact h2 _ s ev hs he
theorem scC_one {w : World} {l : List Sec} {evs : List Value} (h1 : evs.length = l.length) (h3 : ∀ (k : Nat) (s : Sec) (ev : Value), l[k]? = some s → evs[k]? = some ev → IntsAt w ev s.e) : ∀ x ∈ scC l evs, x.oneCell' = true := by
  refine scC_cells fun e he => ?_
  obtain ⟨k, hk⟩ := List.getElem?_of_mem he
  have hkl := (List.getElem?_eq_some_iff.1 hk).1
  rcases h3 k l[k] e (List.getElem?_eq_getElem (by omega)) hk with ⟨_, a, c, rfl⟩ | h
  · rfl
  · obtain ⟨a, c, rfl⟩ := SlAt.form h
    rfl
theorem SecsR.take {w : World} {A : Option Addr} {c : Nat} {l : List Sec} (h : SecsR w (.slice A l.length c) l) (k : Nat) (hk : k ≤ l.length) : SecsAt w (.slice A k c) (l.take k) := by
  obtain ⟨evs, h1, h2, h3⟩ := h
  have htl : (l.take k).length = k := by rw [List.length_take]; omega
  by_cases h0 : k = 0
  · subst h0
    exact Or.inl ⟨by simp, _, _, rfl⟩
  · refine Or.inr ⟨evs.take k, by rw [List.length_take, htl]; omega, ?_, fun j s ev hs he => ?_⟩
    · rw [htl]
      have hx : scC l evs = scC (l.take k) (evs.take k) ++ scC (l.drop k) (evs.drop k) := by
        rw [← scC_append (by rw [List.length_take, htl]; omega), List.take_append_drop, List.take_append_drop]
      refine ⟨by rw [scC_len (by rw [List.length_take, htl]; omega), htl], ?_⟩
      rcases h2.2 with ⟨_, h4⟩ | ⟨b, off, cap, e, h5, h6, h7, h8⟩
      · omega
      · cases e
        refine Or.inr ⟨b, off, c, rfl, by omega, h6, h7, fun j u hj => h8 j u ?_⟩
        rw [hx, List.getElem?_append_left (List.getElem?_eq_some_iff.1 hj).1]
        exact hj
    · have a1 := List.getElem?_eq_some_iff.1 hs
      have a2 := List.getElem?_eq_some_iff.1 he
      refine h3 j s ev ?_ ?_
      · rw [← hs, List.getElem?_take_of_lt (by have := a1.1; rw [htl] at this; exact this)]
      · rw [← he, List.getElem?_take_of_lt (by have := a1.1; rw [htl] at this; exact this)]

/-- What a call that hands back sections leaves. -/
def SecsOut (l : List Sec) (w : World) (e : Ending) (w' : World) : Prop :=
  ∃ (v : Value) (es : List (Value × List Value)), e = .returned v ∧ EsOf l es ∧ Own w.heap.size (Below w.heap.size w) w' (.row 25 3 v l.length (scC l (es.map (·.1))) :: rwI es)
/-- .. one section. -/
def SecOut (s : Sec) (w : World) (e : Ending) (w' : World) : Prop :=
  ∃ (A : Option Addr) (c : Nat), e = .returned (.agg #[.int .i64 s.b, .int .i64 s.t, .slice A s.e.length c]) ∧ w'.ownsRow w.heap.size 3 1 (.slice A s.e.length c) s.e.length (inC s.e) ∧ Below w.heap.size w w'

theorem own_call_secs {P : Program} {f : FuncId} {args : Array Value} {n : Nat} {B : World → Prop} {W : World} {L : List Item} {l : List Sec} {K : Ending → World → Prop}
    (hO : Own n B W L) (h : B W → Calls P f args W (SecsOut l W)) (k' : ∀ v es w1, EsOf l es → Own n B w1 (.row 25 3 v l.length (scC l (es.map (·.1))) :: (rwI es ++ L)) → K (.returned v) w1) : Calls P f args W K :=
  (h hO.base).mono fun e w1 ⟨v, es, he, hE, ho⟩ => by subst he; exact k' v es w1 hE (hO.join ho)
/-- .. that are read at once, and let go of. -/
theorem own_call_tmp {P : Program} {f : FuncId} {args : Array Value} {n : Nat} {B : World → Prop} {W : World} {L : List Item} {l : List Sec} {K : Ending → World → Prop}
    (hO : Own n B W L) (h : B W → Calls P f args W (SecsOut l W)) (k' : ∀ v w1, SecsAt w1 v l → Own n B w1 L → K (.returned v) w1) : Calls P f args W K :=
  (h hO.base).mono fun e w1 ⟨v, es, he, hE, ho⟩ => by
    subst he
    have h := hO.join ho
    exact k' v w1 (SecsAt.of_own h hE) h.2.skip
theorem own_call_sec {P : Program} {f : FuncId} {args : Array Value} {n : Nat} {B : World → Prop} {W : World} {L : List Item} {s : Sec} {K : Ending → World → Prop}
    (hO : Own n B W L) (h : B W → Calls P f args W (SecOut s W)) (k' : ∀ A c w1, Own n B w1 (.row 3 1 (.slice A s.e.length c) s.e.length (inC s.e) :: L) → K (.returned (.agg #[.int .i64 s.b, .int .i64 s.t, .slice A s.e.length c])) w1) : Calls P f args W K :=
  (h hO.base).mono fun e w1 ⟨A, c, he, hr, hb⟩ => by subst he; exact k' A c w1 (hO.addRow hb hr)
end Go.Proofs.YtpfefbpmchigeaaDoor
