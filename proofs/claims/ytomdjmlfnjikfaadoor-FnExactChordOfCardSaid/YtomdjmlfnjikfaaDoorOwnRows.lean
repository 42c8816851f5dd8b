/- Slices that a call has made: what append, make and a call that hands one back do to what is owned. No program in it. -/
import Derived.Test.YtomdjmlfnjikfaaDoorOwn
import Derived.OwnWalk
namespace Go.Proofs.YtomdjmlfnjikfaaDoor
set_option linter.unusedSimpArgs false
set_option linter.unusedVariables false
open Go.RowKit

theorem ownsRow_mono {w : World} {b n : Nat} {e : TypeId} {size : Nat} {v : Value} {k : Nat} {xs : List Value} (h : w.ownsRow b e size v k xs) (hn : n ≤ b) : w.ownsRow n e size v k xs := by
  obtain ⟨h1, h2⟩ := h
  refine ⟨h1, ?_⟩
  rcases h2 with h2 | ⟨g, cap, cur, h3, h4, h5⟩
  · exact Or.inl h2
  · exact Or.inr ⟨g, cap, cur, h3, Nat.le_trans hn h4, h5⟩

section
variable {n : Nat} {B : World → Prop} {w w' : World} {L : List Item}

theorem Own.perm {L' : List Item} (hp : L.Perm L') (h : Own n B w L) : Own n B w L' := by
  induction hp with
  | nil => exact h
  | cons x _ ih => exact ⟨⟨h.1.1, fun y hy => h.1.2 y ((List.Perm.mem_iff ‹_›).2 hy)⟩, ih h.2⟩
  | swap x y l =>
    obtain ⟨⟨h1, h2⟩, ⟨⟨h3, h4⟩, h5⟩⟩ := h
    refine ⟨⟨h3, fun z hz => ?_⟩, ⟨⟨h1, fun z hz => h2 z (List.mem_cons_of_mem _ hz)⟩, h5⟩⟩
    rcases List.mem_cons.1 hz with rfl | hz
    · exact (h2 x (by simp)).symm
    · exact h4 z hz
  | trans _ _ ih1 ih2 => exact ih2 (ih1 h)

/-- A row at the head is written, or laid anew: what else is owned is as it was. -/
theorem Own.regrown {e e' : TypeId} {size size' : Nat} {v v' : Value} {k k' : Nat} {xs xs' : List Value} (h : Own n B w (.row e size v k xs :: L)) (hg : w.grownBy w' v.ownBlock) (hr : w'.ownsRow n e' size' v' k' xs') (hv : v'.ownBlock = v.ownBlock ∨ v'.ownBlock = some w.heap.size) : Own n B w' (.row e' size' v' k' xs' :: L) := by
  obtain ⟨⟨h1, h2⟩, h3⟩ := h
  have hn : ∀ g, v.ownBlock = some g → n ≤ g ∧ Tame w w' g := fun g e => ⟨(Item.Holds.lt (x := .row _ _ _ _ _) h1 g e).1, by
    rcases (h1 : w.ownsRow n _ size v k xs).2 with ⟨h0, _⟩ | ⟨q, cap, cur, h0, _, hq, _⟩
    · subst h0; cases e
    · subst h0; cases e; exact tame_cells hq⟩
  refine ⟨⟨hr, fun x hx => .of fun g hx1 e => ?_⟩, ?_⟩
  · have hlt := (h3.lt x hx g hx1).2
    have hap := (h2 x hx).to g hx1
    simp only [Item.at?] at e hap
    rcases hv with hv | hv
    · exact hap (by rw [← hv]; exact e)
    · rw [hv] at e; cases e; omega
  · have hap : ∀ x ∈ L, ∀ g, x.at? = some g → v.ownBlock ≠ some g := fun x hx g hg => (h2 x hx).to g hg
    clear h2 hr hv
    induction L with
    | nil => exact ⟨h3.1, h3.1.grown _ _ _ h3.2 hg hn⟩
    | cons y L ih =>
      obtain ⟨⟨g1, g2⟩, g3⟩ := h3
      exact ⟨⟨g1.grown hg (hap y (by simp)), g2⟩, ih g3 (fun x hx => hap x (List.mem_cons_of_mem _ hx))⟩

/-- A new row, of a call or of make. -/
theorem Own.addRow {e : TypeId} {size : Nat} {v : Value} {k : Nat} {xs : List Value} (h : Own n B w L) (hb : Below w.heap.size w w') (hr : w'.ownsRow w.heap.size e size v k xs) : Own n B w' (.row e size v k xs :: L) :=
  ⟨⟨ownsRow_mono hr h.low, fun x hx => .of fun g hx1 e => by
    have h1 := (h.lt x hx g hx1).2
    have h2 := (World.ownsRow.lt hr g e).1
    omega⟩, h.below hb⟩
/-- An array laid for a slice of its own. -/
theorem Own.allocRow {e : TypeId} (size : Nat) {cur : Array Value} {k cap : Nat} (h : Own n B w L) (hk : k ≤ cap) (hm : cap ≤ maxLen) (hs : cur.size = cap * size) :
    Own n B (w.alloc (.cells cur e)) (.row e size (.slice (some ⟨w.heap.size, 0, none⟩) k cap) k (cur.toList.take (k * size)) :: L) :=
  h.addRow (below1 _) ⟨by simp [hs, Nat.min_eq_left (Nat.mul_le_mul_right size hk)], .inr ⟨w.heap.size, cap, cur, rfl, Nat.le_refl _, heap_alloc_new w _, hk, hm, hs, rfl⟩⟩
theorem Own.drop {x : Item} (h : Own n B w (x :: L)) : Own n B w L := h.2
end

theorem append_block {P : Program} {w : World} {base : Nat} {t ty e : TypeId} {i : TypeInfo} {z : Value} {size bytes : Nat} (ht : P.underlying t = some (.slice e)) (hi : P.info? e = some i) (hz : i.zero = some z)
    (hsize : i.size = size) (hby : i.bytes = bytes) {v : Value} {n : Nat} {xs : List Value} (hown : w.ownsRow base e size v n xs)
    {a : Addr} {m c : Nat} {news : List Value} (hm : 0 < m) (hl : news.length = m * size) (hnews : ∀ j u, news[j]? = some u → w.cell? (a.add j) = some u) (h1 : ∀ u ∈ news, u.oneCell' = true)
    (h63 : n + m ≤ maxLen) (hbytes : (n + m) * bytes ≤ 140737488355328) {v' : Value} {w' : World} (hr : (Builtin.append_ #[t, t] ty #[v, .slice (some a) m c]).run P w = .ok v' w') :
    v'.ownBlock = v.ownBlock ∨ v'.ownBlock = some w.heap.size := by
  subst hsize
  subst hby
  have hsmall : n + m ≤ 9223372036854775807 := by simp only [maxLen] at h63; omega
  rcases hown.2 with ⟨rfl, rfl⟩ | ⟨g, cap, cur, rfl, hbg, hg, hnc, hcm, hcs, htake⟩
  · have hr1 := run_append_nil (P := P) w t ty e i z ht hi hz a m c news hl hnews hm (by omega) (by have hb := hbytes; simp only [Nat.zero_add] at hb; omega)
    rw [hr1] at hr
    cases hr
    exact Or.inr rfl
  · by_cases hroom : n + m ≤ cap
    · have hfit : n * i.size + news.length ≤ cur.size := by rw [hl, hcs, ← Nat.add_mul]; exact Nat.mul_le_mul_right _ hroom
      have hr1 := run_append_room (P := P) w t ty e i ht hi g n cap cur hg a m c news hl hnews h1 hroom hfit
      rw [hr1] at hr
      cases hr
      exact Or.inl rfl
    · have holds : ∀ j u, xs[j]? = some u → w.cell? ((⟨g, 0, none⟩ : Addr).add j) = some u := hown.cells (g := g) rfl
      have hr1 := run_append_grow (P := P) w t ty e i z ht hi hz ⟨g, 0, none⟩ n cap xs hown.1 holds a m c news hl hnews (by omega) (by omega) (growslice_fits (by omega) hbytes)
      rw [hr1] at hr
      cases hr
      exact Or.inr rfl

theorem add_flat (b j : Nat) : (⟨b, 0, none⟩ : Addr).add j = ⟨b, j, none⟩ := by unfold Addr.add; split <;> simp_all

/-- 'out = append(out, x)': the one element lies in a block of its own at the head, the row behind it. -/
theorem wpList_append_item {P : Program} {ops : Array Oper} {rest : List Oper} {o : Oper} {a : Act} {Q : Exit → Act → World → Prop} {n : Nat} {B : World → Prop} {w : World} {L : List Item} {v : Value} {k q c : Nat} {xs news : List Value}
    (hgd : o.guard = none) (s x : Operand) (t : TypeId) (ho : o.op = .call { callee := .builtin .append, args := #[s, x], argTypes := #[t, t] })
    (e : TypeId) (i : TypeInfo) (z : Value) (size bytes : Nat) (ht : P.underlying t = some (.slice e)) (hi : P.info? e = some i) (hz : i.zero = some z)
    (hsize : i.size = size) (hby : i.bytes = bytes) (hzs : z.cells.size = size) (hsz : 0 < size)
    (hs : a.eval s = v) (hx : a.eval x = .slice (some ⟨q, 0, none⟩) 1 c) (hO : Own n B w (.blk q news :: .row e size v k xs :: L)) (hl : news.length = size) (h1 : ∀ u ∈ news, u.oneCell' = true)
    (h63 : k + 1 ≤ maxLen) (hbytes : (k + 1) * bytes ≤ 140737488355328)
    (h : ∀ v' w', Own n B w' (.row e size v' (k + 1) (xs ++ news) :: L) → (v' = .slice none 0 0 → False) → wpList P ops Q rest (a.put o.dst v') w') : wpList P ops Q (o :: rest) a w := by
  refine wpList_plain hgd fun K hK => ?_
  have hown : w.ownsRow n e size v k xs := hO.2.1.1
  have hnews : ∀ j u, news[j]? = some u → w.cell? ((⟨q, 0, none⟩ : Addr).add j) = some u := fun j u hj => by
    rw [add_flat]
    have := (hO.cells (b := q) (vs := news) (by simp)).get hj
    simpa using this
  obtain ⟨v', w', hr, h2, h3, h4⟩ := run_append_own (P := P) w n t o.type e i z size bytes ht hi hz hsize hby hzs hsz v k xs hown ⟨q, 0, none⟩ 1 c news (by simpa using hl) hnews h1 h63 hbytes hO.low
  have h5 := append_block ht hi hz hsize hby hown (by omega) (by simpa using hl) hnews h1 h63 hbytes hr
  unfold Oper.wp execOp
  simp only [ho, resolve, invoke, builtin, Sem.run_bind, Sem.run_pure, Result.andThen_ok, List.map_toArray, List.map_cons, List.map_nil, hs, hx, hr]
  exact hK _ _ (h v' w' (hO.2.regrown h3 h2 h5) (fun e => by have := h4.1 e; omega))

/-- What a call that hands back a slice of its own leaves. -/
def RowOut (e : TypeId) (size k : Nat) (xs : List Value) (w : World) (e' : Ending) (w' : World) : Prop := ∃ v, e' = .returned v ∧ w'.ownsRow w.heap.size e size v k xs ∧ Below w.heap.size w w'
theorem RowOut.mk {e : TypeId} {size k : Nat} {xs : List Value} {w w' : World} {v : Value} {L : List Item} (hO : Own w.heap.size (Below w.heap.size w) w' (.row e size v k xs :: L)) : RowOut e size k xs w (.returned v) w' := ⟨v, rfl, hO.1.1, hO.base⟩
/-- A call that hands back a slice that it has made. -/
theorem own_call_row {P : Program} {f : FuncId} {args : Array Value} {n : Nat} {B : World → Prop} {W : World} {L : List Item} {e : TypeId} {size k : Nat} {xs : List Value} {K : Ending → World → Prop}
    (hO : Own n B W L) (h : B W → Calls P f args W (RowOut e size k xs W)) (k' : ∀ v w1, Own n B w1 (.row e size v k xs :: L) → K (.returned v) w1) : Calls P f args W K :=
  (h hO.base).mono fun e' w' ⟨v, he, hr, hb⟩ => by subst he; exact k' v w' (hO.addRow hb hr)

/-- A call whose contract asks what is owned. -/
theorem own_callO {P : Program} {f : FuncId} {args : Array Value} {n : Nat} {B : World → Prop} {W : World} {L : List Item} {v : Value} {K : Ending → World → Prop}
    (hO : Own n B W L) (h : Own n B W L → Calls P f args W fun e w' => e = .returned v ∧ Below W.heap.size W w') (k : ∀ w1, Own n B w1 L → K (.returned v) w1) : Calls P f args W K :=
  own_call hO (fun _ => h hO) k
/-- A slice lies in memory: k elements of size cells each, xs their cells. -/
def SlAt (w : World) (v : Value) (k size : Nat) (xs : List Value) : Prop :=
  xs.length = k * size ∧ ((v = .slice none 0 0 ∧ k = 0) ∨ ∃ b off cap, v = .slice (some ⟨b, off, none⟩) k cap ∧ k ≤ cap ∧ cap ≤ maxLen ∧ b < w.heap.size ∧ ∀ j u, xs[j]? = some u → w.cell? ⟨b, off + j, none⟩ = some u)
theorem SlAt.of_row {w : World} {n : Nat} {e : TypeId} {size : Nat} {v : Value} {k : Nat} {xs : List Value} (h : w.ownsRow n e size v k xs) : SlAt w v k size xs := by
  refine ⟨h.1, ?_⟩
  rcases h.2 with h2 | ⟨g, cap, cur, rfl, h4, h5, h6, h7, h8⟩
  · exact Or.inl h2
  · exact Or.inr ⟨g, 0, cap, rfl, h6, h7, (Array.getElem?_eq_some_iff.1 h5).1, fun j u hj => by
      have := h.cells (g := g) rfl j u hj
      rw [add_flat] at this
      simpa using this⟩
theorem SlAt.below {w w' : World} {v : Value} {k size : Nat} {xs : List Value} (h : SlAt w v k size xs) (hb : Below w.heap.size w w') : SlAt w' v k size xs := by
  obtain ⟨h1, h2⟩ := h
  refine ⟨h1, ?_⟩
  rcases h2 with h2 | ⟨b, off, cap, h3, h4, h5, h6, h7⟩
  · exact Or.inl h2
  · exact Or.inr ⟨b, off, cap, h3, h4, h5, Nat.lt_of_lt_of_le h6 hb.size, fun j u hj => by rw [(bcell hb).1 _ _ h6]; exact h7 j u hj⟩
end Go.Proofs.YtomdjmlfnjikfaaDoor
