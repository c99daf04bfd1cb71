import PyProof.Rows.All
import Wide.All
import OpenK.AllK
import Wide.FinOn
import HandS.ForMost
import HandS.Evl
import HandS.Codes
import HandS.IsInst
import HandS.SortInts
import HandS.Strs
import HandS.Zip
import HandS.Exc
import HandS.Flow
import HandS.More
import PySem.Challenge.RW_stuckbell_k02_rounds
set_option Elab.async false
set_option linter.all false
set_option maxRecDepth 100000
set_option maxHeartbeats 4000000
/-! Stuckbell: rounds in plain Lean. A wait is none (goes on) or (true: all, false: any) and the hands waited for. -/
namespace Sb
abbrev Wt := Option (Bool × List Nat)
abbrev Rds := List (Option Nat)
def rd (rs : Rds) (h : Nat) : Option Nat := rs.getD h none
def come (hs : List Nat) (rs : Rds) : List Nat := hs.filterMap (rd rs)
def minL : List Nat → Nat
  | [] => 0
  | [a] => a
  | a :: b :: r => min a (minL (b :: r))
def maxL : List Nat → Nat
  | [] => 0
  | a :: r => max a (maxL r)
theorem minL_mem : ∀ {l : List Nat}, l ≠ [] → minL l ∈ l
  | [], h => absurd rfl h
  | [a], _ => List.mem_cons_self
  | a :: b :: r, _ => by
    have ih := minL_mem (l := b :: r) (List.cons_ne_nil _ _)
    show min a (minL (b :: r)) ∈ a :: b :: r
    by_cases h : a ≤ minL (b :: r)
    · rw [Nat.min_eq_left h]; exact List.mem_cons_self
    · rw [Nat.min_eq_right (by omega)]; exact List.mem_cons_of_mem _ ih
theorem minL_le : ∀ {l : List Nat} {y : Nat}, y ∈ l → minL l ≤ y
  | [], _, h => nomatch h
  | [a], y, h => by
    have e : y = a := by simpa using h
    subst e; exact Nat.le_refl _
  | a :: b :: r, y, h => by
    show min a (minL (b :: r)) ≤ y
    rcases List.mem_cons.mp h with e | h2
    · subst e; exact Nat.min_le_left _ _
    · exact Nat.le_trans (Nat.min_le_right _ _) (minL_le h2)
theorem maxL_mem : ∀ {l : List Nat}, l ≠ [] → maxL l ∈ l
  | [], h => absurd rfl h
  | [a], _ => by show max a 0 ∈ [a]; rw [Nat.max_eq_left (Nat.zero_le _)]; exact List.mem_cons_self
  | a :: b :: r, _ => by
    have ih := maxL_mem (l := b :: r) (List.cons_ne_nil _ _)
    show max a (maxL (b :: r)) ∈ a :: b :: r
    by_cases h : maxL (b :: r) ≤ a
    · rw [Nat.max_eq_left h]; exact List.mem_cons_self
    · rw [Nat.max_eq_right (by omega)]; exact List.mem_cons_of_mem _ ih
theorem le_maxL : ∀ {l : List Nat} {y : Nat}, y ∈ l → y ≤ maxL l
  | [], _, h => nomatch h
  | a :: r, y, h => by
    show y ≤ max a (maxL r)
    rcases List.mem_cons.mp h with e | h2
    · subst e; exact Nat.le_max_left _ _
    · exact Nat.le_trans (le_maxL h2) (Nat.le_max_right _ _)
theorem minL_eq {l : List Nat} {m : Nat} (h : m ∈ l) (hm : ∀ y ∈ l, m ≤ y) : minL l = m :=
  Nat.le_antisymm (minL_le h) (hm _ (minL_mem (List.ne_nil_of_mem h)))
theorem maxL_eq {l : List Nat} {m : Nat} (h : m ∈ l) (hm : ∀ y ∈ l, y ≤ m) : maxL l = m :=
  Nat.le_antisymm (hm _ (maxL_mem (List.ne_nil_of_mem h))) (le_maxL h)
/-- the round that is due to a hand, the others' rounds given -/
def due (w : Wt) (rs : Rds) : Option Nat := match w with
  | none => some 0
  | some (false, hs) => if come hs rs = [] then none else some (1 + minL (come hs rs))
  | some (true, hs) => if (come hs rs).length = hs.length then some (1 + maxL (come hs rs)) else none
theorem due_any (hs : List Nat) (rs : Rds) : due (some (false, hs)) rs = if come hs rs = [] then none else some (1 + minL (come hs rs)) := rfl
theorem due_all (hs : List Nat) (rs : Rds) : due (some (true, hs)) rs = if (come hs rs).length = hs.length then some (1 + maxL (come hs rs)) else none := rfl
def stepR (ws : List Wt) (rs : Rds) : Rds := ws.map fun w => due w rs
def itR (ws : List Wt) : Nat → Rds
  | 0 => List.replicate ws.length none
  | k + 1 => stepR ws (itR ws k)
def plain (ws : List Wt) : Rds := itR ws ws.length
/-- the hands waited for: one at least, each a hand -/
def GoodW (n : Nat) (w : Wt) : Prop := ∀ b hs, w = some (b, hs) → hs ≠ [] ∧ hs.Nodup ∧ ∀ h ∈ hs, h < n
def Good (ws : List Wt) : Prop := ∀ w ∈ ws, GoodW ws.length w

theorem itR_len (ws : List Wt) (k : Nat) : (itR ws k).length = ws.length := by
  cases k with
  | zero => exact List.length_replicate
  | succ k => exact List.length_map _
theorem rd_none {rs : Rds} {h : Nat} (hl : rs.length ≤ h) : rd rs h = none := by
  unfold rd
  rw [List.getD_eq_getElem?_getD, List.getElem?_eq_none hl] <;> rfl
theorem rd_step {ws : List Wt} {rs : Rds} {i : Nat} {w : Wt} (h : ws[i]? = some w) : rd (stepR ws rs) i = due w rs := by
  unfold rd stepR
  rw [List.getD_eq_getElem?_getD, List.getElem?_map, h] <;> rfl
theorem rd_zero (ws : List Wt) (h : Nat) : rd (itR ws 0) h = none := by
  unfold rd
  rw [List.getD_eq_getElem?_getD]
  show ((List.replicate ws.length none)[h]?).getD none = none
  rw [List.getElem?_replicate]
  split <;> rfl
theorem mem_come {hs : List Nat} {rs : Rds} {r : Nat} : r ∈ come hs rs ↔ ∃ h ∈ hs, rd rs h = some r := by
  unfold come
  rw [List.mem_filterMap]
theorem come_len {hs : List Nat} {rs : Rds} : (come hs rs).length = hs.length ↔ ∀ h ∈ hs, rd rs h ≠ none := by
  induction hs with
  | nil => exact ⟨fun _ _ h => (nomatch h), fun _ => rfl⟩
  | cons a r ih =>
    have le : ∀ l : List Nat, (come l rs).length ≤ l.length := fun l => List.length_filterMap_le _ _
    cases e : rd rs a with
    | none =>
      have e1 : come (a :: r) rs = come r rs := by unfold come; rw [List.filterMap_cons, e]
      rw [e1]
      refine ⟨fun h => ?_, fun h => absurd e (h a List.mem_cons_self)⟩
      have := le r
      rw [List.length_cons] at h
      omega
    | some x =>
      have e1 : come (a :: r) rs = x :: come r rs := by unfold come; rw [List.filterMap_cons, e]
      rw [e1, List.length_cons, List.length_cons]
      refine ⟨fun h b hb => ?_, fun h => ?_⟩
      · rcases List.mem_cons.mp hb with e2 | h2
        · subst e2; rw [e]; exact fun z => nomatch z
        · exact ih.mp (by omega) b h2
      · rw [ih.mpr fun b hb => h b (List.mem_cons_of_mem _ hb)]
theorem come_nil {hs : List Nat} {rs : Rds} : come hs rs = [] ↔ ∀ h ∈ hs, rd rs h = none := by
  refine ⟨fun h a ha => ?_, fun h => ?_⟩
  · cases e : rd rs a with
    | none => rfl
    | some r =>
      have z : r ∈ come hs rs := mem_come.mpr ⟨a, ha, e⟩
      rw [h] at z
      cases z
  · cases e : come hs rs with
    | nil => rfl
    | cons r t =>
      have z : r ∈ come hs rs := by rw [e]; exact List.mem_cons_self
      obtain ⟨a, ha, ea⟩ := mem_come.mp z
      rw [h a ha] at ea
      cases ea
theorem come_same {hs : List Nat} {rs rs' : Rds} (h : ∀ a ∈ hs, rd rs a = rd rs' a) : come hs rs = come hs rs' := by
  unfold come
  induction hs with
  | nil => rfl
  | cons a r ih =>
    rw [List.filterMap_cons, List.filterMap_cons, h a List.mem_cons_self, ih fun b hb => h b (List.mem_cons_of_mem _ hb)]
/-- what is told in turn k stays told, and what is new has just the round k -/
structure Nx (k : Nat) (rs rs' : Rds) : Prop where
  keep : ∀ h r, rd rs h = some r → rd rs' h = some r
  new : ∀ h r, rd rs h = none → rd rs' h = some r → r = k
  lt : ∀ h r, rd rs h = some r → r < k
theorem Nx.lt' {k : Nat} {rs rs' : Rds} (N : Nx k rs rs') : ∀ h r, rd rs' h = some r → r < k + 1 := fun h r e => by
  cases e0 : rd rs h with
  | none => rw [N.new h r e0 e]; omega
  | some r0 =>
    have z := N.keep h r0 e0
    rw [e] at z
    have z2 := N.lt h r0 e0
    have z3 : r = r0 := Option.some.inj z
    omega
theorem due_keep {w : Wt} {k : Nat} {rs rs' : Rds} (N : Nx k rs rs') {r : Nat} (h : due w rs = some r) : due w rs' = some r := by
  cases w with
  | none => exact h
  | some p =>
    obtain ⟨b, hs⟩ := p
    cases b with
    | false =>
      rw [due_any] at h ⊢
      by_cases e : come hs rs = []
      · rw [if_pos e] at h; cases h
      · rw [if_neg e] at h
        obtain ⟨a, ha, ea⟩ := mem_come.mp (minL_mem e)
        have hm : minL (come hs rs) ∈ come hs rs' := mem_come.mpr ⟨a, ha, N.keep a _ ea⟩
        have hlt := N.lt a _ ea
        have e2 : minL (come hs rs') = minL (come hs rs) := minL_eq hm fun y hy => by
          obtain ⟨c, hc, ec⟩ := mem_come.mp hy
          cases e0 : rd rs c with
          | none => rw [N.new c y e0 ec]; omega
          | some y0 =>
            have z := N.keep c y0 e0
            rw [ec] at z
            have z3 : y = y0 := Option.some.inj z
            subst z3
            exact minL_le (mem_come.mpr ⟨c, hc, e0⟩)
        rw [if_neg (List.ne_nil_of_mem hm), e2]
        exact h
    | true =>
      rw [due_all] at h ⊢
      by_cases e : (come hs rs).length = hs.length
      · rw [if_pos e] at h
        have al := come_len.mp e
        have e2 : come hs rs = come hs rs' := come_same fun a ha => by
          cases e0 : rd rs a with
          | none => exact absurd e0 (al a ha)
          | some r0 => exact (N.keep a r0 e0).symm
        rw [← e2, if_pos e]
        exact h
      · rw [if_neg e] at h; cases h
theorem due_new {w : Wt} {k : Nat} {rs rs' : Rds} (N : Nx k rs rs') {r : Nat} (h : due w rs = none) (h' : due w rs' = some r) : r = k + 1 := by
  cases w with
  | none => cases h
  | some p =>
    obtain ⟨b, hs⟩ := p
    cases b with
    | false =>
      rw [due_any] at h h'
      by_cases e : come hs rs = []
      · by_cases e' : come hs rs' = []
        · rw [if_pos e'] at h'; cases h'
        · rw [if_neg e'] at h'
          obtain ⟨a, ha, ea⟩ := mem_come.mp (minL_mem e')
          have := N.new a _ (come_nil.mp e a ha) ea
          have := Option.some.inj h'
          omega
      · rw [if_neg e] at h; cases h
    | true =>
      rw [due_all] at h h'
      by_cases e : (come hs rs).length = hs.length
      · rw [if_pos e] at h; cases h
      · by_cases e' : (come hs rs').length = hs.length
        · rw [if_pos e'] at h'
          have al := come_len.mp e'
          have ex : ∃ a ∈ hs, rd rs a = none := by
            refine Classical.byContradiction fun z => e (come_len.mpr fun a ha q => z ⟨a, ha, q⟩)
          obtain ⟨a, ha, ea⟩ := ex
          cases e1 : rd rs' a with
          | none => exact absurd e1 (al a ha)
          | some r1 =>
            have z1 := N.new a r1 ea e1
            have z2 : maxL (come hs rs') = k := maxL_eq (by rw [← z1]; exact mem_come.mpr ⟨a, ha, e1⟩) fun y hy => by
              obtain ⟨c, hc, ec⟩ := mem_come.mp hy
              have := N.lt' c y ec
              omega
            have := Option.some.inj h'
            omega
        · rw [if_neg e'] at h'; cases h'
theorem rd_some_lt {rs : Rds} {h r : Nat} (e : rd rs h = some r) : h < rs.length := by
  refine Nat.lt_of_not_le fun z => ?_
  rw [rd_none z] at e
  cases e
theorem due_zero {n : Nat} {w : Wt} (G : GoodW n w) {ws : List Wt} {r : Nat} (e2 : due w (itR ws 0) = some r) : w = none ∧ r = 0 := by
  cases w with
  | none => exact ⟨rfl, (Option.some.inj e2).symm⟩
  | some p =>
    obtain ⟨b, hs⟩ := p
    have hn : come hs (itR ws 0) = [] := come_nil.mpr fun a _ => rd_zero ws a
    cases b with
    | false =>
      rw [due_any, if_pos hn] at e2
      cases e2
    | true =>
      rw [due_all, hn] at e2
      cases hs with
      | nil => exact absurd rfl (G true [] rfl).1
      | cons a t =>
        rw [if_neg (by intro z; cases z)] at e2
        cases e2
theorem good_at {ws : List Wt} (G : Good ws) {i : Nat} {w : Wt} (h : ws[i]? = some w) : GoodW ws.length w := G w (List.mem_of_getElem? h)
theorem rd_it {ws : List Wt} {k h r : Nat} (e : rd (itR ws (k + 1)) h = some r) : ∃ w, ws[h]? = some w ∧ due w (itR ws k) = some r := by
  have hl : h < ws.length := by have := rd_some_lt e; rw [itR_len] at this; exact this
  have hw : ws[h]? = some ws[h] := List.getElem?_eq_getElem hl
  exact ⟨ws[h], hw, by rw [← rd_step hw]; exact e⟩
theorem nx {ws : List Wt} (G : Good ws) : ∀ k, Nx k (itR ws k) (itR ws (k + 1))
  | 0 => {
      keep := fun h r e => by rw [rd_zero] at e; cases e
      lt := fun h r e => by rw [rd_zero] at e; cases e
      new := fun h r _ e => by
        obtain ⟨w, hw, e2⟩ := rd_it e
        exact (due_zero (good_at G hw) e2).2 }
  | k + 1 => by
    have N := nx G k
    exact {
      keep := fun h r e => by
        obtain ⟨w, hw, e2⟩ := rd_it e
        show rd (stepR ws (itR ws (k + 1))) h = some r
        rw [rd_step hw]
        exact due_keep N e2
      lt := N.lt'
      new := fun h r e e' => by
        obtain ⟨w, hw, e2⟩ := rd_it e'
        have e1 : due w (itR ws k) = none := by
          rw [← rd_step hw]
          exact e
        exact due_new N e1 e2 }
/-- once nothing is new, nothing is new ever after -/
theorem it_fix {ws : List Wt} {k : Nat} (h : itR ws k = itR ws (k + 1)) : ∀ m, itR ws (k + m) = itR ws k
  | 0 => rfl
  | m + 1 => by
    show stepR ws (itR ws (k + m)) = _
    rw [it_fix h m]
    exact h.symm
def cnt (rs : Rds) : Nat := (rs.filter Option.isSome).length
theorem cnt_le (rs : Rds) : cnt rs ≤ rs.length := List.length_filter_le _ _
theorem rd_cons_zero {o : Option Nat} {t : Rds} : rd (o :: t) 0 = o := rfl
theorem rd_cons_succ {o : Option Nat} {t : Rds} {h : Nat} : rd (o :: t) (h + 1) = rd t h := rfl
theorem cnt_cons {o : Option Nat} {t : Rds} : cnt (o :: t) = (if o.isSome = true then 1 else 0) + cnt t := by
  unfold cnt
  rw [List.filter_cons]
  split
  · rw [List.length_cons]; omega
  · omega
theorem cnt_mono : ∀ {rs rs' : Rds}, rs.length = rs'.length → (∀ h r, rd rs h = some r → rd rs' h = some r) → cnt rs ≤ cnt rs' ∧ (cnt rs = cnt rs' → rs = rs')
  | [], [], _, _ => ⟨Nat.le_refl _, fun _ => rfl⟩
  | [], _ :: _, h, _ => by cases h
  | _ :: _, [], h, _ => by cases h
  | o :: t, o' :: t', hl, hk => by
    have ih := cnt_mono (rs := t) (rs' := t') (by simpa using hl) fun h r e => by
      have := hk (h + 1) r
      rw [rd_cons_succ, rd_cons_succ] at this
      exact this e
    have h0 := hk 0
    rw [cnt_cons, cnt_cons]
    cases o with
    | none =>
      cases o' with
      | none =>
        refine ⟨by simpa using ih.1, fun e => ?_⟩
        rw [ih.2 (by simpa using e)]
      | some r' =>
        refine ⟨?_, fun e => ?_⟩
        · have := ih.1; simp only [Option.isSome]; simp; omega
        · have := ih.1; simp at e; omega
    | some r =>
      have e1 : o' = some r := h0 r rfl
      subst e1
      refine ⟨by have := ih.1; omega, fun e => ?_⟩
      rw [ih.2 (by omega)]
theorem it_grows {ws : List Wt} (G : Good ws) (k : Nat) : itR ws k = itR ws (k + 1) ∨ cnt (itR ws k) < cnt (itR ws (k + 1)) := by
  have h := cnt_mono (rs := itR ws k) (rs' := itR ws (k + 1)) (by rw [itR_len, itR_len]) (nx G k).keep
  by_cases e : cnt (itR ws k) = cnt (itR ws (k + 1))
  · exact .inl (h.2 e)
  · exact .inr (by have := h.1; omega)
theorem it_many {ws : List Wt} (G : Good ws) : ∀ k, (∃ j, j ≤ k ∧ itR ws j = itR ws (j + 1)) ∨ k ≤ cnt (itR ws k)
  | 0 => .inr (Nat.zero_le _)
  | k + 1 => by
    rcases it_many G k with ⟨j, hj, e⟩ | h
    · exact .inl ⟨j, by omega, e⟩
    · rcases it_grows G k with e | h2
      · exact .inl ⟨k, by omega, e⟩
      · exact .inr (by omega)
/-- as many turns as hands suffice -/
theorem plain_fix {ws : List Wt} (G : Good ws) : itR ws ws.length = itR ws (ws.length + 1) := by
  rcases it_many G ws.length with ⟨j, hj, e⟩ | h
  · have e1 := it_fix e (ws.length - j)
    have e2 := it_fix e (ws.length + 1 - j)
    rw [show j + (ws.length - j) = ws.length by omega] at e1
    rw [show j + (ws.length + 1 - j) = ws.length + 1 by omega] at e2
    rw [e1, e2]
  · rcases it_grows G ws.length with e | h2
    · exact e
    · have := cnt_le (itR ws (ws.length + 1))
      rw [itR_len] at this
      omega
theorem plain_is {ws : List Wt} (G : Good ws) {k : Nat} (h : itR ws k = itR ws (k + 1)) : plain ws = itR ws k := by
  have e1 := it_fix h ws.length
  have e2 := it_fix (plain_fix G) k
  rw [Nat.add_comm] at e1
  exact (e2.symm.trans e1)
/-- the fixed point itself -/
theorem plain_step {ws : List Wt} (G : Good ws) : stepR ws (plain ws) = plain ws := (plain_fix G).symm
/-! ### the program's way -/
def goes (w : Wt) (rs : Rds) : Bool := match w with
  | none => true
  | some (true, hs) => hs.all fun h => (rd rs h).isSome
  | some (false, hs) => hs.any fun h => (rd rs h).isSome
def isReady (ws : List Wt) (rs : Rds) (i : Nat) : Bool := (rd rs i).isNone && goes (ws.getD i none) rs
def ready (ws : List Wt) (rs : Rds) : List Nat := (List.range ws.length).filter (isReady ws rs)
def rounds0 (ws : List Wt) : Rds := ws.map fun w => match w with | none => some 0 | some _ => none
def mark (rs : Rds) (hs : List Nat) (t : Nat) : Rds := hs.foldl (fun rs h => rs.set h (some t)) rs
theorem due_iff {w : Wt} {rs : Rds} : (due w rs).isSome = goes w rs := by
  cases w with
  | none => rfl
  | some p =>
    obtain ⟨b, hs⟩ := p
    cases b with
    | false =>
      show (if come hs rs = [] then none else some (1 + minL (come hs rs))).isSome = hs.any fun h => (rd rs h).isSome
      by_cases e : come hs rs = []
      · rw [if_pos e]
        symm
        rw [Option.isSome_none, List.any_eq_false]
        intro a ha
        rw [come_nil.mp e a ha]
        decide
      · rw [if_neg e]
        symm
        rw [Option.isSome_some, List.any_eq_true]
        obtain ⟨a, ha, ea⟩ := mem_come.mp (minL_mem e)
        exact ⟨a, ha, by rw [ea] <;> rfl⟩
    | true =>
      show (if (come hs rs).length = hs.length then some (1 + maxL (come hs rs)) else none).isSome = hs.all fun h => (rd rs h).isSome
      by_cases e : (come hs rs).length = hs.length
      · rw [if_pos e]
        symm
        rw [Option.isSome_some, List.all_eq_true]
        intro a ha
        have := come_len.mp e a ha
        cases q : rd rs a with
        | none => exact absurd q this
        | some r => rfl
      · rw [if_neg e]
        symm
        rw [Option.isSome_none, List.all_eq_false]
        refine Classical.byContradiction fun z => e (come_len.mpr fun a ha q => z ⟨a, ha, ?_⟩)
        rw [q]
        decide
theorem rounds0_is {ws : List Wt} (G : Good ws) : rounds0 ws = itR ws 1 := by
  unfold rounds0
  show _ = ws.map fun w => due w (itR ws 0)
  refine List.map_congr_left fun w hw => ?_
  cases e : due w (itR ws 0) with
  | none =>
    cases w with
    | none => cases e
    | some p => rfl
  | some r =>
    obtain ⟨rfl, rfl⟩ := due_zero (G w hw) e
    rfl
theorem mark_len (t : Nat) : ∀ (hs : List Nat) (rs : Rds), (mark rs hs t).length = rs.length
  | [], _ => rfl
  | h :: r, rs => by
    show (mark (rs.set h (some t)) r t).length = _
    rw [mark_len t r, List.length_set]
theorem mark_rd (t : Nat) {i : Nat} : ∀ (hs : List Nat) (rs : Rds), i < rs.length → rd (mark rs hs t) i = if i ∈ hs then some t else rd rs i
  | [], _, _ => by rw [if_neg (List.not_mem_nil)] <;> rfl
  | h :: r, rs, hi => by
    show rd (mark (rs.set h (some t)) r t) i = _
    rw [mark_rd t r _ (by rw [List.length_set]; exact hi)]
    by_cases e : i ∈ r
    · rw [if_pos e, if_pos (List.mem_cons_of_mem _ e)]
    · rw [if_neg e]
      by_cases e2 : i = h
      · subst e2
        rw [if_pos List.mem_cons_self]
        unfold rd
        rw [List.getD_eq_getElem?_getD, List.getElem?_set_self hi] <;> rfl
      · rw [if_neg (by intro z; rcases List.mem_cons.mp z with z | z; exact e2 z; exact e z)]
        unfold rd
        rw [List.getD_eq_getElem?_getD, List.getD_eq_getElem?_getD, List.getElem?_set_ne (Ne.symm e2)]
theorem rds_ext {rs rs' : Rds} (hl : rs.length = rs'.length) (h : ∀ i, i < rs.length → rd rs i = rd rs' i) : rs = rs' := by
  refine List.ext_getElem hl fun i h1 h2 => ?_
  have := h i h1
  unfold rd at this
  rw [List.getD_eq_getElem?_getD, List.getD_eq_getElem?_getD, List.getElem?_eq_getElem h1, List.getElem?_eq_getElem h2] at this
  exact this
theorem mem_ready {ws : List Wt} {rs : Rds} {i : Nat} : i ∈ ready ws rs ↔ i < ws.length ∧ isReady ws rs i = true := by
  unfold ready
  rw [List.mem_filter, List.mem_range]
/-- one turn of the program's loop is one turn of the plain one -/
theorem mark_is {ws : List Wt} (G : Good ws) (k : Nat) : mark (itR ws k) (ready ws (itR ws k)) k = itR ws (k + 1) := by
  refine rds_ext (by rw [mark_len, itR_len, itR_len]) fun i hi => ?_
  rw [mark_len] at hi
  have hl : i < ws.length := by rw [itR_len] at hi; exact hi
  rw [mark_rd k _ _ hi]
  have N := nx G k
  have hw : ws[i]? = some ws[i] := List.getElem?_eq_getElem hl
  have hd : ws.getD i none = ws[i] := by rw [List.getD_eq_getElem?_getD, hw] <;> rfl
  have hs : rd (itR ws (k + 1)) i = due ws[i] (itR ws k) := rd_step hw
  by_cases e : i ∈ ready ws (itR ws k)
  · rw [if_pos e]
    obtain ⟨_, e2⟩ := mem_ready.mp e
    unfold isReady at e2
    rw [Bool.and_eq_true, hd, ← due_iff] at e2
    obtain ⟨r, hr⟩ := Option.isSome_iff_exists.mp e2.2
    have := N.new i r (Option.isNone_iff_eq_none.mp e2.1) (by rw [hs]; exact hr)
    rw [hs, hr, this]
  · rw [if_neg e]
    cases e0 : rd (itR ws k) i with
    | some r => exact (N.keep i r e0).symm
    | none =>
      have z : goes ws[i] (itR ws k) = false := by
        cases q : goes ws[i] (itR ws k) with
        | false => rfl
        | true =>
          exact absurd (mem_ready.mpr ⟨hl, by unfold isReady; rw [e0, hd, q] <;> rfl⟩) e
      rw [← due_iff] at z
      rw [hs]
      cases q : due ws[i] (itR ws k) with
      | none => rfl
      | some r => rw [q] at z; cases z
theorem ready_nil {ws : List Wt} (G : Good ws) {k : Nat} (h : ready ws (itR ws k) = []) : plain ws = itR ws k := by
  refine plain_is G ?_
  have := mark_is G k
  rw [h] at this
  exact this
/-- a turn that frees somebody: the hands without a round become fewer -/
theorem ready_cons {ws : List Wt} (G : Good ws) {k : Nat} (h : ready ws (itR ws k) ≠ []) : cnt (itR ws k) < cnt (itR ws (k + 1)) := by
  rcases it_grows G k with e | h2
  · refine absurd ?_ h
    obtain ⟨i, hi⟩ := List.exists_mem_of_ne_nil _ h
    have hl := (mem_ready.mp hi).1
    have h1 := mark_rd k (ready ws (itR ws k)) (itR ws k) (i := i) (by rw [itR_len]; exact hl)
    rw [mark_is G k, if_pos hi, ← e] at h1
    have h2 := (mem_ready.mp hi).2
    unfold isReady at h2
    rw [h1] at h2
    cases h2
  · exact h2
def stuckL (ws : List Wt) : List Nat := (List.range ws.length).filter fun h => (rd (plain ws) h).isNone
end Sb
/-! Stuckbell: words over the hand layer. -/
namespace Sb
open PySem PySem.Spec PyProof.Rows L2 Evl
/-- what evaluates to some value of which P holds -/
def EvP (te : TE) (σ : L2.St) (H : Hp) (P : V → Hp → Prop) : Prop := ∀ H1, Ex H H1 → ∀ Q : VK, (∀ v H2, Ex H1 H2 → P v H2 → Q v H2) → te σ H1 Q
def RetP (P : V → Hp → Prop) (H : Hp) (Q : VK) : Prop := ∀ v H2, Ex H H2 → P v H2 → Q v H2
theorem ev_any {te : TE} {σ : L2.St} {H : Hp} {v : V} {P : V → Hp → Prop} (h : Ev te σ H v) (p : ∀ H2, Ex H H2 → P v H2) : EvP te σ H P := fun H1 e Q q => h H1 e Q fun H2 e2 => q v H2 e2 (p H2 (e.trans e2))
section
variable {K : PySem.W.Frag} {σ : L2.St} {H H' : Hp} {ta tb te : TE} {t u : TT} {x y z v : V} {r : R2}
/-- len of a list or a tuple -/
theorem rc_len {p : Addr} {xs : List V} (h : SqL K H p xs ∨ SqT K H p xs) : RC (fun vs H Q => ∃ p ys, vs = [.ref p] ∧ (SqL K H p ys ∨ SqT K H p ys) ∧ Q (.int ys.length) H) [.ref p] H (.int (xs.length : Nat)) := fun H1 e Q q =>
  ⟨p, xs, rfl, h.elim (fun h => .inl (ex_l e h)) (fun h => .inr (ex_t e h)), q H1 (Ex.refl H1)⟩
theorem tyx_ex {H H' : Hp} {x : V} {t : Value} (e : Ex H H') (h : TyX K H x t) : TyX K H' x t := by
  cases h with
  | base b =>
    refine .base ?_
    cases b with
    | non => exact .non
    | bl y => exact .bl y
    | int i => exact .int i
    | str y => exact .str y
    | flt y => exact .flt y
    | lst ea => exact .lst (e _ _ ea)
    | frz ea => exact .frz (e _ _ ea)
    | tup ea => exact .tup (e _ _ ea)
    | dK ea => exact .dK (e _ _ ea)
    | dT ea => exact .dT (e _ _ ea)
    | ins ea cl ha hn htk hm => exact .ins (e _ _ ea) cl ha hn htk hm
  | byt b => exact .byt b
  | set ea => exact .set (e _ _ ea)
  | kList ea c => exact .kList ea c
  | kTuple ea c => exact .kTuple ea c
  | kDict ea c => exact .kDict ea c
  | fTuple ea => exact .fTuple (e _ _ ea)
  | fDict ea => exact .fDict (e _ _ ea)
/-- isinstance(x, a built-in type) -/
theorem rc_isi {n m : String} {b : Bool} (h : TyX K H x (.type n)) (k : kitB n m = some b) : RC (rIsi K) [x, .ty m] H (.bl b) := fun H1 e Q q =>
  ⟨x, .ty m, .type n, .type m, b, rfl, .ty m, tyx_ex e h, kit_ty k, q H1 (Ex.refl H1)⟩
theorem rv_isN : RV (fun x y H Q => y = .non ∧ Q (.bl (decide (x = .non))) H) x .non H (.bl (decide (x = .non))) := fun H1 _ _ q => ⟨rfl, q H1 (Ex.refl H1)⟩
theorem rv_notN : RV (fun x y H Q => y = .non ∧ Q (.bl (!decide (x = .non))) H) x .non H (.bl (!decide (x = .non))) := fun H1 _ _ q => ⟨rfl, q H1 (Ex.refl H1)⟩
theorem ev_chain {r' : R2} {b b' : Bool} {tc : TE} (ha : Ev ta σ H x) (hb : Ev tb σ H y) (hr : RV r x y H (.bl b)) (hc : b = true → Ev tc σ H z) (hr' : b = true → RV r' y z H (.bl b')) : Ev (tChain r r' ta tb tc) σ H (.bl (b && b')) := fun H1 e Q q =>
  ha H1 e _ fun H2 e2 => hb H2 (e.trans e2) _ fun H3 e3 => hr H3 ((e.trans e2).trans e3) _ fun H4 e4 => ⟨b, rfl, by
    have ee := ((e.trans e2).trans e3).trans e4
    cases b with
    | true =>
      show tc σ H4 _
      exact hc rfl H4 ee _ fun H5 e5 => hr' rfl H5 (ee.trans e5) Q fun H6 e6 => q H6 ((((e2.trans e3).trans e4).trans e5).trans e6)
    | false =>
      show Q (.bl false) H4
      exact q H4 ((e2.trans e3).trans e4)⟩
end
end Sb
/-! Data in, data out: a heap's known part B, what is there H, and what is new. -/
namespace Sb
open PySem PySem.Spec PyProof.Rows L2 Evl
mutual
theorem dp_ex {K : PySem.W.Frag} {H H' : Hp} (e : Ex H H') : ∀ (d : PyData) (v : V), Dp K H v d → Dp K H' v d
  | .none, _, h => by cases h; exact .non
  | .bool b, _, h => by cases h; exact .bl b
  | .int i, _, h => by cases h; exact .int i
  | .str x, _, h => by cases h; exact .str x
  | .list ds, _, h => by cases h with | lst hs ha => exact .lst (ex_l e hs) (dpa_ex e ds _ ha)
  | .tuple ds, _, h => by cases h with | tup hs ha => exact .tup (ex_t e hs) (dpa_ex e ds _ ha)
  | .dict _, _, h => by cases h
theorem dpa_ex {K : PySem.W.Frag} {H H' : Hp} (e : Ex H H') : ∀ (ds : List PyData) (vs : List V), DpAll K H vs ds → DpAll K H' vs ds
  | [], _, h => by cases h; exact .nil
  | d :: ds, _, h => by cases h with | cons h1 h2 => exact .cons (dp_ex e d _ h1) (dpa_ex e ds _ h2)
end
theorem dpa_len {K : PySem.W.Frag} {H : Hp} : ∀ {ds : List PyData} {vs : List V}, DpAll K H vs ds → vs.length = ds.length
  | [], _, h => by cases h; rfl
  | d :: ds, _, h => by cases h with | cons h1 h2 => rw [List.length_cons, List.length_cons, dpa_len h2]
theorem dpa_get {K : PySem.W.Frag} {H : Hp} : ∀ {ds : List PyData} {vs : List V}, DpAll K H vs ds → ∀ {i : Nat} {v : V}, vs[i]? = some v → ∃ d, ds[i]? = some d ∧ Dp K H v d
  | [], _, h, i, v, e => by cases h; simp at e
  | d :: ds, _, h, i, v, e => by
    cases h with
    | cons h1 h2 =>
      cases i with
      | zero =>
        have e2 := Option.some.inj e
        subst e2
        exact ⟨d, rfl, h1⟩
      | succ i => exact dpa_get h2 e
theorem dpa_get' {K : PySem.W.Frag} {H : Hp} : ∀ {ds : List PyData} {vs : List V}, DpAll K H vs ds → ∀ {i : Nat} {d : PyData}, ds[i]? = some d → ∃ v, vs[i]? = some v ∧ Dp K H v d
  | [], _, h, i, v, e => by simp at e
  | d :: ds, _, h, i, v, e => by
    cases h with
    | cons h1 h2 =>
      cases i with
      | zero =>
        have e2 := Option.some.inj e
        subst e2
        exact ⟨_, rfl, h1⟩
      | succ i => exact dpa_get' h2 e
theorem dpa_app {K : PySem.W.Frag} {H : Hp} : ∀ {ds ds' : List PyData} {vs vs' : List V}, DpAll K H vs ds → DpAll K H vs' ds' → DpAll K H (vs ++ vs') (ds ++ ds')
  | [], _, _, _, h, h' => by cases h; exact h'
  | d :: ds, _, _, _, h, h' => by cases h with | cons h1 h2 => exact .cons h1 (dpa_app h2 h')
theorem dpa_one {K : PySem.W.Frag} {H : Hp} {v : V} {d : PyData} (h : Dp K H v d) : DpAll K H [v] [d] := .cons h .nil
theorem dpa_ints {K : PySem.W.Frag} {H : Hp} : ∀ {ns : List Int} {vs : List V}, DpAll K H vs (ns.map PyData.int) → vs = ns.map V.int
  | [], _, h => by cases h; rfl
  | n :: ns, _, h => by
    cases h with
    | cons h1 h2 =>
      cases h1
      rw [dpa_ints h2] <;> rfl
theorem ints_dpa {K : PySem.W.Frag} {H : Hp} : ∀ (ns : List Int), DpAll K H (ns.map V.int) (ns.map PyData.int)
  | [] => .nil
  | n :: ns => .cons (.int n) (ints_dpa ns)
theorem dpa_bls {K : PySem.W.Frag} {H : Hp} : ∀ {bs : List Bool} {vs : List V}, DpAll K H vs (bs.map PyData.bool) → vs = bs.map V.bl
  | [], _, h => by cases h; rfl
  | n :: ns, _, h => by
    cases h with
    | cons h1 h2 =>
      cases h1
      rw [dpa_bls h2] <;> rfl
theorem bls_dpa {K : PySem.W.Frag} {H : Hp} : ∀ (ns : List Bool), DpAll K H (ns.map V.bl) (ns.map PyData.bool)
  | [] => .nil
  | n :: ns => .cons (.bl n) (bls_dpa ns)
theorem dpa1 {K : PySem.W.Frag} {H : Hp} {vs : List V} {a : PyData} (h : DpAll K H vs [a]) : ∃ v, vs = [v] ∧ Dp K H v a := by
  cases h with | cons h1 h => cases h; exact ⟨_, rfl, h1⟩
theorem dpa2 {K : PySem.W.Frag} {H : Hp} {vs : List V} {a b : PyData} (h : DpAll K H vs [a, b]) : ∃ v w, vs = [v, w] ∧ Dp K H v a ∧ Dp K H w b := by
  cases h with | cons h1 h => cases h with | cons h2 h => cases h; exact ⟨_, _, rfl, h1, h2⟩
theorem dpa3 {K : PySem.W.Frag} {H : Hp} {vs : List V} {a b c : PyData} (h : DpAll K H vs [a, b, c]) : ∃ u v w, vs = [u, v, w] ∧ Dp K H u a ∧ Dp K H v b ∧ Dp K H w c := by
  cases h with | cons h1 h => cases h with | cons h2 h => cases h with | cons h3 h => cases h; exact ⟨_, _, _, rfl, h1, h2, h3⟩
theorem dpa4 {K : PySem.W.Frag} {H : Hp} {vs : List V} {a b c d : PyData} (h : DpAll K H vs [a, b, c, d]) : ∃ t u v w, vs = [t, u, v, w] ∧ Dp K H t a ∧ Dp K H u b ∧ Dp K H v c ∧ Dp K H w d := by
  cases h with | cons h1 h => cases h with | cons h2 h => cases h with | cons h3 h => cases h with | cons h4 h => cases h; exact ⟨_, _, _, _, rfl, h1, h2, h3, h4⟩
theorem dp_int {K : PySem.W.Frag} {H : Hp} {v : V} {i : Int} (h : Dp K H v (.int i)) : v = .int i := by cases h; rfl
theorem dp_bl {K : PySem.W.Frag} {H : Hp} {v : V} {i : Bool} (h : Dp K H v (.bool i)) : v = .bl i := by cases h; rfl
theorem dp_str {K : PySem.W.Frag} {H : Hp} {v : V} {i : Str} (h : Dp K H v (.str i)) : v = .str i := by cases h; rfl
theorem dp_non {K : PySem.W.Frag} {H : Hp} {v : V} (h : Dp K H v .none) : v = .non := by cases h; rfl
/-- G: the known part B with some of what is new since H; H2: what is there now -/
structure Nw (B H G H2 : Hp) : Prop where
  ex : Ex H H2
  sub : Ex B G
  up : Ex G H2
  fr : ∀ a, G a ≠ none → B a ≠ none ∨ H a = none
theorem Nw.base {B H : Hp} (e : Ex B H) : Nw B H B H := ⟨Ex.refl H, Ex.refl B, e, fun _ h => .inl h⟩
theorem Nw.trans {B H G H2 G' H3 : Hp} (a : Nw B H G H2) (b : Nw G H2 G' H3) : Nw B H G' H3 := ⟨a.ex.trans b.ex, a.sub.trans b.sub, b.up, fun x h => by
  rcases b.fr x h with h | h
  · exact a.fr x h
  · exact .inr (fresh_back a.ex h)⟩
theorem Nw.later {B H G H2 H3 : Hp} (a : Nw B H G H2) (e : Ex H2 H3) : Nw B H G H3 := ⟨a.ex.trans e, a.sub, a.up.trans e, a.fr⟩
/-- the known part was taken too large: less is known -/
theorem Nw.less {B0 B H G H2 : Hp} (e : Ex B0 B) (a : Nw B H G H2) (f : ∀ x, B x ≠ none → B0 x ≠ none ∨ H x = none) : Nw B0 H G H2 := ⟨a.ex, e.trans a.sub, a.up, fun x h => by
  rcases a.fr x h with h | h
  · exact f x h
  · exact .inr h⟩
/-- an object new at H comes in -/
theorem Nw.new {B H : Hp} {p : Addr} {o : HO} (e : Ex B H) (h : H p = none) : Nw B H (upd B p o) (upd H p o) := ⟨Ex.new h, Ex.new (fresh_back e h), fun a u q => by
    by_cases z : a = p
    · subst z
      rw [upd_same] at q ⊢
      exact q
    · rw [upd_ne z] at q ⊢
      exact e a u q, fun a q => by
    by_cases z : a = p
    · exact .inr (by rw [z]; exact h)
    · rw [upd_ne z] at q
      exact .inl q⟩
def RetG (K : PySem.W.Frag) (B H : Hp) (d : PyData) (Q : VK) : Prop := ∀ v H2 G, Nw B H G H2 → Dp K G v d → Q v H2
/-- te gives the data d -/
def EvG (K : PySem.W.Frag) (te : TE) (σ : L2.St) (B : Hp) (d : PyData) : Prop := ∀ H, Ex B H → ∀ Q : VK, RetG K B H d Q → te σ H Q
def EvGA (K : PySem.W.Frag) (ta : TA) (σ : L2.St) (B : Hp) (ds : List PyData) : Prop := ∀ H, Ex B H → ∀ Q : List V → Hp → Prop, (∀ vs H2 G, Nw B H G H2 → DpAll K G vs ds → Q vs H2) → ta σ H Q
/-- a new list at a, its items data that G knows (a itself stands outside of G) -/
def RetNL (K : PySem.W.Frag) (B H : Hp) (ds : List PyData) (Q : VK) : Prop := ∀ a vs H2 G, Nw B H G H2 → H a = none → G a = none → H2 a = some (.lst vs) → DpAll K G vs ds → Q (.ref a) H2
def EvNL (K : PySem.W.Frag) (te : TE) (σ : L2.St) (B : Hp) (ds : List PyData) : Prop := ∀ H, Ex B H → ∀ Q : VK, RetNL K B H ds Q → te σ H Q
def spNL (K : PySem.W.Frag) (R : List PyData → List PyData → Prop) : Sp := fun vs H Q _ => ∃ B ds r, Ex B H ∧ DpAll K B vs ds ∧ R ds r ∧ RetNL K B H r Q
/-- the promise of a def that makes data of data -/
def spD (K : PySem.W.Frag) (R : List PyData → PyData → Prop) : Sp := fun vs H Q _ => ∃ B ds d, Ex B H ∧ DpAll K B vs ds ∧ R ds d ∧ RetG K B H d Q
theorem spD_len {K : PySem.W.Frag} {R : List PyData → PyData → Prop} {n : Nat} (hR : ∀ ds d, R ds d → ds.length = n) {vs : List V} {H : Hp} {Q : VK} {E : XK} (h : spD K R vs H Q E) : vs.length = n := by
  obtain ⟨B, ds, d, _, a, r, _⟩ := h
  rw [dpa_len a, hR _ _ r]
section
variable {K : PySem.W.Frag} {σ : L2.St} {B B' H H' : Hp} {ta tb te : TE} {t u : TT} {x y z v : V} {r : R2} {d : PyData}
theorem Nw.put {G H2 : Hp} {a : Addr} {o : HO} (n : Nw B H G H2) (h : H a = none) (g : G a = none) (p : H2 a = some o) : Nw B H (upd G a o) H2 := ⟨n.ex, n.sub.trans (Ex.new g), fun b u z => by
  by_cases e : b = a
  · subst e
    rw [upd_same] at z
    rw [p]
    exact z
  · rw [upd_ne e] at z
    exact n.up b u z, fun b z => by
  by_cases e : b = a
  · exact .inr (by rw [e]; exact h)
  · rw [upd_ne e] at z
    exact n.fr b z⟩
theorem RetG.nl {ds : List PyData} {Q : VK} (q : RetG K B H (.list ds) Q) : RetNL K B H ds Q := fun a vs H2 G n h g p pa => q _ H2 (upd G a (.lst vs)) (n.put h g p) (.lst (sq_of upd_same) (dpa_ex (Ex.new g) _ _ pa))
theorem EvNL.eg {ds : List PyData} (h : EvNL K te σ B ds) : EvG K te σ B (.list ds) := fun H e Q q => h H e Q q.nl
theorem RetNL.at {ds : List PyData} {Q : VK} (q : RetNL K B H ds Q) {H1 : Hp} (e : Ex H H1) : RetNL K B H1 ds Q := fun a vs H2 G n h g p pa => q a vs H2 G ⟨e.trans n.ex, n.sub, n.up, fun x hx => (n.fr x hx).imp id (fresh_back e)⟩ (fresh_back e h) g p pa
theorem RetNL.sub {ds : List PyData} {Q : VK} (q : RetNL K B H ds Q) {G H2 : Hp} (n : Nw B H G H2) : RetNL K G H2 ds Q := fun a vs H3 G' n' h g p pa => q a vs H3 G' (n.trans n') (fresh_back n.ex h) g p pa
theorem RetG.sub {Q : VK} (k : RetG K B H d Q) {G H2 : Hp} (n : Nw B H G H2) : RetG K G H2 d Q := fun v H3 G' m p => k v H3 G' (n.trans m) p
theorem EvG.mono (e : Ex B B') (h : EvG K te σ B d) : EvG K te σ B' d := fun H a Q q => by
  refine h H (e.trans a) Q fun v H2 G n p => ?_
  -- G with what B' knows besides
  let J : Hp := fun x => match B' x with | some o => some o | none => G x
  have jb : Ex B' J := fun x o q => by
    show (match B' x with | some o => some o | none => G x) = some o
    rw [q]
  have jg : Ex G J := fun x o q => by
    show (match B' x with | some o => some o | none => G x) = some o
    cases q1 : B' x with
    | none => exact q
    | some o1 =>
      have z1 := n.ex x o1 (a x o1 q1)
      rw [n.up x o q] at z1
      exact z1.symm
  have ju : Ex J H2 := fun x o q => by
    have q0 : (match B' x with | some o => some o | none => G x) = some o := q
    cases q1 : B' x with
    | none => rw [q1] at q0; exact n.up x o q0
    | some o1 => rw [q1] at q0; exact n.ex x o (a x o (by rw [q1]; exact q0))
  refine q v H2 J ⟨n.ex, jb, ju, fun x hx => ?_⟩ (dp_ex jg d v p)
  cases q1 : B' x with
  | some o1 => exact .inl (fun z => by cases z)
  | none =>
    have : J x = G x := by
      show (match B' x with | some o => some o | none => G x) = G x
      rw [q1]
    rw [this] at hx
    rcases n.fr x hx with h1 | h1
    · exfalso
      cases q2 : B x with
      | none => exact h1 q2
      | some o2 =>
        rw [e x o2 q2] at q1
        cases q1
    · exact .inr h1
theorem eg_ev (h : Ev te σ B v) (p : Dp K B v d) : EvG K te σ B d := fun H e Q q => h H e Q fun H2 e2 => q v H2 B ⟨e2, Ex.refl B, e.trans e2, fun _ h => .inl h⟩ p
theorem eg_int {i : Int} (h : Ev te σ B (.int i)) : EvG K te σ B (.int i) := eg_ev h (.int i)
theorem eg_bl {b : Bool} (h : Ev te σ B (.bl b)) : EvG K te σ B (.bool b) := eg_ev h (.bl b)
theorem eg_str {s : Str} (h : Ev te σ B (.str s)) : EvG K te σ B (.str s) := eg_ev h (.str s)
theorem eg_non (h : Ev te σ B .non) : EvG K te σ B .none := eg_ev h .non
theorem eg_var {i : Nat} (h : σ[i]? = some (some v)) (p : Dp K B v d) : EvG K (tVar i) σ B d := eg_ev (ev_var h) p
theorem ev_gint {i : Int} (h : EvG K te σ B (.int i)) : Ev te σ B (.int i) := fun H e Q q => h H e Q fun v H2 G n p => by
  cases p
  exact q H2 n.ex
theorem ev_gbl {b : Bool} (h : EvG K te σ B (.bool b)) : Ev te σ B (.bl b) := fun H e Q q => h H e Q fun v H2 G n p => by
  cases p
  exact q H2 n.ex
theorem ev_gstr {s : Str} (h : EvG K te σ B (.str s)) : Ev te σ B (.str s) := fun H e Q q => h H e Q fun v H2 G n p => by
  cases p
  exact q H2 n.ex
theorem ev_gnon (h : EvG K te σ B .none) : Ev te σ B .non := fun H e Q q => h H e Q fun v H2 G n p => by
  cases p
  exact q H2 n.ex
theorem ega_nil : EvGA K tNil σ B [] := fun H e Q q => q [] H B (Nw.base e) .nil
theorem ega_cons {ta' : TA} {ds : List PyData} (h : EvG K te σ B d) (hr : EvGA K ta' σ B ds) : EvGA K (tCons te ta') σ B (d :: ds) := fun H e Q q =>
  h H e _ fun v H2 G n p => by
    -- the rest is evaluated with what B knows; then both are known
    refine hr H2 (n.sub.trans n.up) _ fun vs H3 G' n' p' => ?_
    let J : Hp := fun x => match G x with | some o => some o | none => G' x
    have jg : Ex G J := fun x o q => by
      show (match G x with | some o => some o | none => G' x) = some o
      rw [q]
    have jg' : Ex G' J := fun x o q => by
      show (match G x with | some o => some o | none => G' x) = some o
      cases q1 : G x with
      | none => exact q
      | some o1 =>
        have z1 := n'.ex x o1 (n.up x o1 q1)
        rw [n'.up x o q] at z1
        exact z1.symm
    have ju : Ex J H3 := fun x o q => by
      have q0 : (match G x with | some o => some o | none => G' x) = some o := q
      cases q1 : G x with
      | none => rw [q1] at q0; exact n'.up x o q0
      | some o1 => rw [q1] at q0; exact n'.ex x o (n.up x o (by rw [q1]; exact q0))
    refine q (v :: vs) H3 J ⟨n.ex.trans n'.ex, n.sub.trans jg, ju, fun x hx => ?_⟩ (.cons (dp_ex jg d v p) (dpa_ex jg' ds vs p'))
    cases q1 : G x with
    | some o1 => exact n.fr x (by rw [q1]; exact fun z => by cases z)
    | none =>
      have : J x = G' x := by
        show (match G x with | some o => some o | none => G' x) = G' x
        rw [q1]
      rw [this] at hx
      rcases n'.fr x hx with h1 | h1
      · exact .inl h1
      · exact .inr (fresh_back n.ex h1)
theorem eg_call {R : List PyData → PyData → Prop} {ds : List PyData} {E : XK} {tA : TA} (h : EvGA K tA σ B ds) (hR : R ds d) : EvG K (tCall (spD K R) [] E tA) σ B d := fun H e Q q =>
  h H e _ fun vs H2 G n p => by
    show spD K R (vs ++ []) H2 Q E
    rw [List.append_nil]
    exact ⟨G, ds, d, n.up, p, hR, q.sub n⟩
theorem nl_call {R : List PyData → List PyData → Prop} {ds r : List PyData} {E : XK} {tA : TA} (h : EvGA K tA σ B ds) (hR : R ds r) : EvNL K (tCall (spNL K R) [] E tA) σ B r := fun H e Q q =>
  h H e _ fun vs H2 G n p => by
    show spNL K R (vs ++ []) H2 Q E
    rw [List.append_nil]
    exact ⟨G, ds, r, n.up, p, hR, q.sub n⟩
/-- a new tuple, a new list -/
theorem eg_tup {tA : TA} {ds : List PyData} (h : EvGA K tA σ B ds) (hl : ds.length ≤ 100000) : EvG K (tTup tA) σ B (.tuple ds) := fun H e Q q =>
  h H e _ fun vs H2 G n p => ⟨sz_of (by rw [dpa_len p]; exact hl), fun a ha => q _ _ (upd G a (.tup vs)) (n.trans (Nw.new n.up ha)) (.tup (st_of upd_same) (dpa_ex (Ex.new (fresh_back n.up ha)) ds vs p))⟩
theorem nl_lst {tA : TA} {ds : List PyData} (h : EvGA K tA σ B ds) (hl : ds.length ≤ 100000) : EvNL K (tLst tA) σ B ds := fun H e Q q =>
  h H e _ fun vs H2 G n p => ⟨sz_of (by rw [dpa_len p]; exact hl), fun a ha => q a vs _ G (n.later (Ex.new ha)) (fresh_back n.ex ha) (fresh_back n.up ha) upd_same p⟩
theorem eg_lst {tA : TA} {ds : List PyData} (h : EvGA K tA σ B ds) (hl : ds.length ≤ 100000) : EvG K (tLst tA) σ B (.list ds) := fun H e Q q =>
  h H e _ fun vs H2 G n p => ⟨sz_of (by rw [dpa_len p]; exact hl), fun a ha => q _ _ (upd G a (.lst vs)) (n.trans (Nw.new n.up ha)) (.lst (sq_of upd_same) (dpa_ex (Ex.new (fresh_back n.up ha)) ds vs p))⟩
/-- an item of a list, of a tuple -/
theorem eg_ixL {i : Nat} {ds : List PyData} (h : EvG K ta σ B (.list ds)) (hi : Ev tb σ B (.int (i : Nat))) (hd : ds[i]? = some d) : EvG K (tOp (rIxL K) ta tb) σ B d := fun H e Q q =>
  h H e _ fun v H2 G n p => by
    cases p with
    | lst hs ha =>
      obtain ⟨w, hw, pw⟩ := dpa_get' ha hd
      exact hi H2 (n.sub.trans n.up) _ fun H3 e3 => ⟨_, _, (i : Int), w, rfl, rfl, ex_l (n.up.trans e3) hs, atI_nat hw, q w H3 G (n.later e3) pw⟩
theorem eg_ixT {i : Nat} {ds : List PyData} (h : EvG K ta σ B (.tuple ds)) (hi : Ev tb σ B (.int (i : Nat))) (hd : ds[i]? = some d) : EvG K (tOp (rIxT K) ta tb) σ B d := fun H e Q q =>
  h H e _ fun v H2 G n p => by
    cases p with
    | tup hs ha =>
      obtain ⟨w, hw, pw⟩ := dpa_get' ha hd
      exact hi H2 (n.sub.trans n.up) _ fun H3 e3 => ⟨_, _, (i : Int), w, rfl, rfl, ex_t (n.up.trans e3) hs, atI_nat hw, q w H3 G (n.later e3) pw⟩
theorem eg_if {b : Bool} (h : EvT t σ B b) (h1 : b = true → EvG K ta σ B d) (h2 : b = false → EvG K tb σ B d) : EvG K (tIf t ta tb) σ B d := fun H e Q q => h H e _ fun H2 e2 => by
  have q2 : RetG K B H2 d Q := fun v H3 G n p => q v H3 G ⟨e2.trans n.ex, n.sub, n.up, fun x hx => (n.fr x hx).imp id (fresh_back e2)⟩ p
  cases b with
  | true =>
    show ta σ H2 Q
    exact h1 rfl H2 (e.trans e2) Q q2
  | false =>
    show tb σ H2 Q
    exact h2 rfl H2 (e.trans e2) Q q2
/-- len -/
theorem ev_lenG {ds : List PyData} (h : EvG K ta σ B (.list ds)) : Ev (tCB (fun vs H Q => ∃ p ys, vs = [.ref p] ∧ (SqL K H p ys ∨ SqT K H p ys) ∧ Q (.int ys.length) H) (tCons ta tNil)) σ B (.int (ds.length : Nat)) := fun H e Q q =>
  h H e _ fun v H2 G n p => by
    cases p with
    | lst hs ha => exact ⟨_, _, rfl, .inl (ex_l n.up hs), by rw [dpa_len ha]; exact q H2 n.ex⟩
theorem ev_lenT {ds : List PyData} (h : EvG K ta σ B (.tuple ds)) : Ev (tCB (fun vs H Q => ∃ p ys, vs = [.ref p] ∧ (SqL K H p ys ∨ SqT K H p ys) ∧ Q (.int ys.length) H) (tCons ta tNil)) σ B (.int (ds.length : Nat)) := fun H e Q q =>
  h H e _ fun v H2 G n p => by
    cases p with
    | tup hs ha => exact ⟨_, _, rfl, .inr (ex_t n.up hs), by rw [dpa_len ha]; exact q H2 n.ex⟩
theorem ev_any' {bs : List Bool} (h : EvG K ta σ B (.list (bs.map PyData.bool))) : Ev (tCB (rAny K) (tCons ta tNil)) σ B (.bl (bs.any id)) := fun H e Q q =>
  h H e _ fun v H2 G n p => by
    cases p with
    | lst hs ha =>
      rw [dpa_bls ha] at hs
      exact ⟨_, bs, rfl, ex_l n.up hs, q H2 n.ex⟩
theorem ev_all' {bs : List Bool} (h : EvG K ta σ B (.list (bs.map PyData.bool))) : Ev (tCB (rAll K) (tCons ta tNil)) σ B (.bl (bs.all id)) := fun H e Q q =>
  h H e _ fun v H2 G n p => by
    cases p with
    | lst hs ha =>
      rw [dpa_bls ha] at hs
      exact ⟨_, bs, rfl, ex_l n.up hs, q H2 n.ex⟩
/-- == and != of data -/
theorem ev_eqD {e' : PyData} (h1 : EvG K ta σ B d) (h2 : EvG K tb σ B e') (s1 : SeqAt.shaped d = true) (s2 : SeqAt.shaped e' = true) : Ev (tOp (rEqD K) ta tb) σ B (.bl (PyData.eqv d e')) := fun H e Q q =>
  h1 H e _ fun v H2 G n p => h2 H2 (n.sub.trans n.up) _ fun w H3 G' n' p' => ⟨d, e', dp_ex (n.up.trans n'.ex) d v p, dp_ex n'.up e' w p', s1, s2, q H3 (n.ex.trans n'.ex)⟩
theorem ev_neD {e' : PyData} (h1 : EvG K ta σ B d) (h2 : EvG K tb σ B e') (s1 : SeqAt.shaped d = true) (s2 : SeqAt.shaped e' = true) : Ev (tOp (rNeD K) ta tb) σ B (.bl (!PyData.eqv d e')) := fun H e Q q =>
  h1 H e _ fun v H2 G n p => h2 H2 (n.sub.trans n.up) _ fun w H3 G' n' p' => ⟨d, e', dp_ex (n.up.trans n'.ex) d v p, dp_ex n'.up e' w p', s1, s2, q H3 (n.ex.trans n'.ex)⟩
theorem RetG.val {Q : VK} (q : RetG K B H d Q) (eB : Ex B H) {H1 : Hp} (e : Ex H H1) (p : Dp K B v d) : Q v H1 := q v H1 B ⟨e, Ex.refl B, eB.trans e, fun _ h => .inl h⟩ p
theorem RetG.at {Q : VK} (q : RetG K B H d Q) {H1 : Hp} (e : Ex H H1) : RetG K B H1 d Q := fun v H2 G n p => q v H2 G ⟨e.trans n.ex, n.sub, n.up, fun x hx => (n.fr x hx).imp id (fresh_back e)⟩ p
/-! ### comprehensions -/
def givenD (n : Nat) (f : Nat → Bool) (dv : Nat → PyData) : List PyData := ((List.range n).filter f).map dv
theorem givenD_yes {n : Nat} {f : Nat → Bool} {dv : Nat → PyData} (h : f n = true) : givenD (n + 1) f dv = givenD n f dv ++ [dv n] := by
  unfold givenD
  rw [List.range_succ, List.filter_append, List.map_append, List.filter_cons, if_pos h] <;> rfl
theorem givenD_no {n : Nat} {f : Nat → Bool} {dv : Nat → PyData} (h : f n = false) : givenD (n + 1) f dv = givenD n f dv := by
  unfold givenD
  rw [List.range_succ, List.filter_append, List.map_append, List.filter_cons, if_neg (by rw [h]; decide)]
  show _ ++ [] = _
  rw [List.append_nil]
theorem givenD_len (n : Nat) (f : Nat → Bool) (dv : Nat → PyData) : (givenD n f dv).length ≤ n := by
  unfold givenD
  rw [List.length_map]
  have h := List.length_filter_le f (List.range n)
  rw [List.length_range] at h
  exact h
/-- what holds between two turns: Dl the list in the making -/
def Cg (K : PySem.W.Frag) (B H : Hp) (f : Nat → Bool) (dv : Nat → PyData) (Dl : Addr) (i : Nat) (H' : Hp) : Prop :=
  H Dl = none ∧ Ex H H' ∧ ∃ G vs, H' Dl = some (.lst vs) ∧ G Dl = none ∧ Ex B G ∧ Ex G H' ∧ (∀ a, G a ≠ none → B a ≠ none ∨ H a = none) ∧ DpAll K G vs (givenD i f dv)
theorem cg_start {f : Nat → Bool} {dv : Nat → PyData} {Dl : Addr} (e : Ex B H) (h : H Dl = none) : Cg K B H f dv Dl 0 (upd H Dl (.lst [])) :=
  ⟨h, Ex.new h, B, [], upd_same, fresh_back e h, Ex.refl B, e.trans (Ex.new h), fun _ q => .inl q, .nil⟩
theorem cg_turn {f : Nat → Bool} {dv : Nat → PyData} {Dl : Addr} {i : Nat} {σ2 : L2.St} (p : Cg K B H f dv Dl i H') (hi : i < 50000) (ht : EvT t σ2 B (f i)) (he : f i = true → EvG K te σ2 B (dv i)) :
    t σ2 H' fun b H3 => if b = true then te σ2 H3 fun y H4 => ∃ acc, H4 Dl = some (.lst acc) ∧ acc.length < sizeLine ∧ Cg K B H f dv Dl (i + 1) (upd H4 Dl (.lst (acc ++ [y]))) else Cg K B H f dv Dl (i + 1) H3 := by
  obtain ⟨p0, p1, G, vs, p2, p3, p4, p5, p6, p7⟩ := p
  refine ht H' (p4.trans p5) _ fun H3 e3 => ?_
  cases hf : f i with
  | true =>
    show te σ2 H3 fun y H4 => ∃ acc, H4 Dl = some (.lst acc) ∧ acc.length < sizeLine ∧ Cg K B H f dv Dl (i + 1) (upd H4 Dl (.lst (acc ++ [y])))
    refine (he hf).mono p4 H3 (p5.trans e3) _ fun y H4 G' n p => ?_
    have g0 : G' Dl = none := by
      cases q : G' Dl with
      | none => rfl
      | some o =>
        rcases n.fr Dl (by rw [q]; exact fun z => by cases z) with z | z
        · exact absurd p3 z
        · rw [e3 Dl _ p2] at z; cases z
    refine ⟨vs, n.ex Dl _ (e3 Dl _ p2), sz_lt (by rw [dpa_len p7]; have := givenD_len i f dv; omega), p0, Ex.mut ((p1.trans e3).trans n.ex) p0, G', vs ++ [y], upd_same, g0, p4.trans n.sub, fun a o q => ?_, fun a q => ?_, ?_⟩
    · rw [upd_ne (fun z => by rw [z, g0] at q; cases q)]
      exact n.up a o q
    · rcases n.fr a q with z | z
      · exact p6 a z
      · exact .inr (fresh_back (p1.trans e3) z)
    · rw [givenD_yes hf]
      exact dpa_app (dpa_ex n.sub _ _ p7) (dpa_one p)
  | false =>
    show Cg K B H f dv Dl (i + 1) H3
    refine ⟨p0, p1.trans e3, G, vs, e3 Dl _ p2, p3, p4, p5.trans e3, p6, ?_⟩
    rw [givenD_no hf]
    exact p7
theorem cg_end {f : Nat → Bool} {dv : Nat → PyData} {Dl : Addr} {n : Nat} {Q : VK} (p : Cg K B H f dv Dl n H') (q : RetNL K B H (givenD n f dv) Q) : Q (.ref Dl) H' := by
  obtain ⟨p0, p1, G, vs, p2, p3, p4, p5, p6, p7⟩ := p
  exact q Dl vs H' G ⟨p1, p4, p5, p6⟩ p0 p3 p2 p7
theorem nl_lcR1 {tA : TA} {j : Nat} {vs : List Nat} {n : Nat} (f : Nat → Bool) (dv : Nat → PyData) (h : EvA tA σ B [.int (n : Nat)]) (hn : n ≤ 40000) (hw : ∀ x, wipe ((wipe σ vs).set j (some x)) vs = wipe σ vs)
    (ht : ∀ i : Nat, i < n → EvT t ((wipe σ vs).set j (some (.int (i : Nat)))) B (f i)) (he : ∀ i : Nat, i < n → f i = true → EvG K te ((wipe σ vs).set j (some (.int (i : Nat)))) B (dv i)) :
    EvNL K (tLc (iRng1 tA) (gName j) t te vs) σ B (givenD n f dv) := fun H0 e Q q => h H0 e _ fun H1 e1 => ⟨(n : Int), rfl, by omega, by omega, fun Dl hD =>
  lc_range (lo := 0) (n := n) (Cg K B H1 f dv Dl) (cg_start (e.trans e1) hD) (fun i H' hi p => by
    have e0 : (0 : Int) + (i : Int) = (i : Int) := Int.zero_add _
    show wipe ((wipe σ vs).set j (some (.int ((0 : Int) + (i : Int))))) vs = wipe σ vs ∧ t ((wipe σ vs).set j (some (.int ((0 : Int) + (i : Int))))) H' fun b H3 => if b = true then te ((wipe σ vs).set j (some (.int ((0 : Int) + (i : Int))))) H3 fun y H4 => ∃ acc, H4 Dl = some (.lst acc) ∧ acc.length < sizeLine ∧ Cg K B H1 f dv Dl (i + 1) (upd H4 Dl (.lst (acc ++ [y]))) else Cg K B H1 f dv Dl (i + 1) H3
    rw [e0]
    exact ⟨hw _, cg_turn p (by omega) (ht i hi) (he i hi)⟩) (fun H' p => cg_end p (q.at e1))⟩
theorem nl_lcL {ds : List PyData} {tl : TE} {j : Nat} {vs : List Nat} (f : Nat → Bool) (dv : Nat → PyData) (h : EvG K tl σ B (.list ds)) (hn : ds.length ≤ 40000) (hw : ∀ x, wipe ((wipe σ vs).set j (some x)) vs = wipe σ vs)
    (ht : ∀ (i : Nat) (x : V) (d : PyData) B', Ex B B' → ds[i]? = some d → Dp K B' x d → EvT t ((wipe σ vs).set j (some x)) B' (f i)) (he : ∀ (i : Nat) (x : V) (d : PyData) B', Ex B B' → ds[i]? = some d → Dp K B' x d → f i = true → EvG K te ((wipe σ vs).set j (some x)) B' (dv i)) :
    EvNL K (tLc (iList K tl) (gName j) t te vs) σ B (givenD ds.length f dv) := fun H0 e Q q => h H0 e _ fun v H1 G n p => by
  cases p with
  | @lst a xs _ hs ha =>
    refine ⟨_, rfl, ⟨_, ex_l n.up hs⟩, fun Dl hD => ?_⟩
    have hl := dpa_len ha
    refine lc_list (K := K) (xs := xs) (Cg K G H1 f dv Dl) (cg_start n.up hD) (fun i H' _ p => ex_l (n.up.trans p.2.1) hs) (fun i x H' hi p => ⟨hw x, ?_⟩) (fun H' p => ?_)
    · obtain ⟨d, hd, pd⟩ := dpa_get ha hi
      have := (List.getElem?_eq_some_iff.mp hi).1
      exact cg_turn p (by omega) (ht i x d G n.sub hd pd) (he i x d G n.sub hd pd)
    · rw [hl] at p
      exact cg_end p (q.sub n)
end
end Sb
/-! Rules and readings beyond the layer's: isinstance of data, truth, in, sets of ints, enumerate. -/
namespace Sb
open PySem PySem.Spec PyProof.Rows L2 Evl
def tagD : PyData → String
  | .none => "NoneType"
  | .bool _ => "bool"
  | .int _ => "int"
  | .str _ => "str"
  | .list _ => "list"
  | .tuple _ => "tuple"
  | .dict _ => "dict"
theorem tyx_dp {K : PySem.W.Frag} {H : Hp} {v : V} {d : PyData} (h : Dp K H v d) : TyX K H v (.type (tagD d)) := by
  cases h with
  | non => exact .base .non
  | bl b => exact .base (.bl b)
  | int i => exact .base (.int i)
  | str x => exact .base (.str x)
  | lst hs ha =>
    rcases hs with (h | ⟨o, h⟩) | ⟨o, its, n, hk, hc, _⟩
    · exact .base (.lst h)
    · exact .base (.frz h)
    · exact .kList hk hc
  | tup hs ha =>
    rcases hs with (h | ⟨o, h⟩) | ⟨o, its, n, hk, hc, _⟩
    · exact .base (.tup h)
    · exact .fTuple h
    · exact .kTuple hk hc
def isD (m : String) (d : PyData) : Option Bool := kitB (tagD d) m
section
variable {K : PySem.W.Frag} {σ : L2.St} {B B' H H' : Hp} {ta tb te : TE} {t u : TT} {x y z v : V} {r : R2} {d : PyData}
/-- isinstance(x, a built-in type) -/
theorem ev_isi {m : String} {b : Bool} (h : EvG K ta σ B d) (k : isD m d = some b) : Ev (tCB (rIsi K) (tCons ta (tCons (tC (.ty m)) tNil))) σ B (.bl b) := fun H e Q q =>
  h H e _ fun v H2 G n p => ⟨v, .ty m, .type (tagD d), .type m, b, rfl, .ty m, tyx_ex n.up (tyx_dp p), kit_ty k, q H2 n.ex⟩
theorem tag_mem (d : PyData) : tagD d ∈ ["NoneType", "bool", "int", "str", "list", "tuple", "dict"] := by cases d <;> simp [tagD]
theorem isD_list (d : PyData) : isD "list" d = some (tagD d == "list") :=
  (by decide +kernel : ∀ t ∈ ["NoneType", "bool", "int", "str", "list", "tuple", "dict"], kitB t "list" = some (t == "list")) _ (tag_mem d)
theorem isD_tuple (d : PyData) : isD "tuple" d = some (tagD d == "tuple") :=
  (by decide +kernel : ∀ t ∈ ["NoneType", "bool", "int", "str", "list", "tuple", "dict"], kitB t "tuple" = some (t == "tuple")) _ (tag_mem d)
theorem isD_str (d : PyData) : isD "str" d = some (tagD d == "str") :=
  (by decide +kernel : ∀ t ∈ ["NoneType", "bool", "int", "str", "list", "tuple", "dict"], kitB t "str" = some (t == "str")) _ (tag_mem d)
theorem isD_bool (d : PyData) : isD "bool" d = some (tagD d == "bool") :=
  (by decide +kernel : ∀ t ∈ ["NoneType", "bool", "int", "str", "list", "tuple", "dict"], kitB t "bool" = some (t == "bool")) _ (tag_mem d)
theorem isD_int (d : PyData) : isD "int" d = some (tagD d == "int" || tagD d == "bool") :=
  (by decide +kernel : ∀ t ∈ ["NoneType", "bool", "int", "str", "list", "tuple", "dict"], kitB t "int" = some (t == "int" || t == "bool")) _ (tag_mem d)
/-- truth -/
theorem et_truL {ds : List PyData} (h : EvG K ta σ B (.list ds)) : EvT (fun σ H Q => ta σ H fun x H' => ∃ k, TruV K x H' k ∧ Q k H') σ B (!ds.isEmpty) := fun H e Q q =>
  h H e _ fun v H2 G n p => by
    cases p with
    | @lst a xs _ hs ha =>
      refine ⟨!ds.isEmpty, .inl ⟨xs, ex_l n.up hs, ?_⟩, q H2 n.ex⟩
      cases ha <;> rfl
theorem et_truB {b : Bool} (h : Ev ta σ B (.bl b)) : EvT (fun σ H Q => ta σ H fun x H' => ∃ k, TruV K x H' k ∧ Q k H') σ B b := fun H e Q q =>
  h H e _ fun H2 e2 => ⟨b, rfl, q H2 e2⟩
/-- is None -/
def noneD : PyData → Bool
  | .none => true
  | _ => false
theorem nonV_dp {H : Hp} {v : V} (h : Dp K H v d) : decide (v = .non) = noneD d := by
  cases h <;> rfl
theorem ev_isN (h : EvG K ta σ B d) : Ev (tOp (fun x y H Q => y = .non ∧ Q (.bl (decide (x = .non))) H) ta (tC .non)) σ B (.bl (noneD d)) := fun H e Q q =>
  h H e _ fun v H2 G n p => ⟨rfl, by rw [nonV_dp p]; exact q H2 n.ex⟩
theorem ev_notN (h : EvG K ta σ B d) : Ev (tOp (fun x y H Q => y = .non ∧ Q (.bl (!decide (x = .non))) H) ta (tC .non)) σ B (.bl (!noneD d)) := fun H e Q q =>
  h H e _ fun v H2 G n p => ⟨rfl, by rw [nonV_dp p]; exact q H2 n.ex⟩
/-- in a list of ints -/
theorem inV_ints (i : Int) (ns : List Int) : inV (.int i) (ns.map V.int) = ns.contains i := by
  unfold inV
  induction ns with
  | nil => rfl
  | cons n r ih =>
    rw [List.map_cons, List.any_cons, ih, List.contains_cons]
    congr 1
    show decide (n = i) = (i == n)
    by_cases e : i = n
    · subst e
      rw [decide_eq_true rfl, beq_self_eq_true]
    · rw [decide_eq_false (fun z => e z.symm), beq_eq_false_iff_ne.mpr e]
theorem flat_ints (ns : List Int) : (ns.map V.int).all flatV = true := by
  rw [List.all_eq_true]
  intro v hv
  obtain ⟨n, _, rfl⟩ := List.mem_map.mp hv
  rfl
theorem ev_inI {neg : Bool} {i : Int} {ns : List Int} (h1 : Ev ta σ B (.int i)) (h2 : EvG K tb σ B (.list (ns.map PyData.int))) : Ev (tOp (rIn K neg) ta tb) σ B (.bl (if neg then !ns.contains i else ns.contains i)) := fun H e Q q =>
  h1 H e _ fun H2 e2 => h2 H2 (e.trans e2) _ fun v H3 G n p => by
    cases p with
    | lst hs ha =>
      rw [dpa_ints ha] at hs
      refine ⟨_, _, rfl, .inl (ex_l n.up hs), rfl, flat_ints ns, ?_⟩
      rw [inV_ints]
      exact q H3 (e2.trans n.ex)
/-! ### enumerate -/
theorem nl_lcE {ds : List PyData} {tl : TE} {i j : Nat} {vs : List Nat} (f : Nat → Bool) (dv : Nat → PyData) (h : EvG K tl σ B (.list ds)) (hn : ds.length ≤ 40000) (hw : ∀ x y, wipe (((wipe σ vs).set i (some x)).set j (some y)) vs = wipe σ vs)
    (ht : ∀ (k : Nat) (x : V) (d : PyData) B', Ex B B' → ds[k]? = some d → Dp K B' x d → EvT t (((wipe σ vs).set i (some (.int (k : Nat)))).set j (some x)) B' (f k))
    (he : ∀ (k : Nat) (x : V) (d : PyData) B', Ex B B' → ds[k]? = some d → Dp K B' x d → f k = true → EvG K te (((wipe σ vs).set i (some (.int (k : Nat)))).set j (some x)) B' (dv k)) :
    EvNL K (tLc (iEnum K (tCons tl tNil)) (gTup K 2 (gCons (gName i) (gCons (gName j) gNil))) t te vs) σ B (givenD ds.length f dv) := fun H0 e Q q => h H0 e _ fun v H1 G n p => by
  cases p with
  | @lst a xs _ hs ha =>
    refine ⟨a, xs, rfl, ex_l n.up hs, fun Dl hD => ?_⟩
    have hl := dpa_len ha
    refine ⟨fun k m H' => m = xs.length - k ∧ k ≤ xs.length ∧ Cg K G H1 f dv Dl k H', ⟨xs.length, by simp, Nat.zero_le _, cg_start n.up hD⟩, ?_⟩
    rintro k m H' ⟨rfl, hk, p⟩
    have hs' : SqL K H' a xs := ex_l (n.up.trans p.2.1) hs
    by_cases hlt : k < xs.length
    · refine .inr ⟨⟨xs, xs[k], hs', by simp [hlt]⟩, Cg K G H1 f dv Dl (k + 1), fun H'' p' => ⟨xs.length - (k + 1), by omega, rfl, hlt, p'⟩, fun w H'' y => ?_⟩
      obtain ⟨T, x, rfl, nT, rfl, fx⟩ := y
      have hi := fx xs hs'
      obtain ⟨d, hd, pd⟩ := dpa_get ha hi
      have p2 : Cg K G H1 f dv Dl k (upd H' T (.tup [.int (k : Nat), x])) := by
        obtain ⟨p0, p1, G2, vs2, q2, q3, q4, q5, q6, q7⟩ := p
        refine ⟨p0, p1.trans (Ex.new nT), G2, vs2, ?_, q3, q4, q5.trans (Ex.new nT), q6, q7⟩
        rw [upd_ne (ne_of_none q2 nT)]
        exact q2
      refine ⟨T, _, rfl, st_of upd_same, rfl, .int (k : Nat), [x], rfl, x, [], rfl, rfl, hw _ _, ?_⟩
      exact cg_turn p2 (by omega) (ht k x d G n.sub hd pd) (he k x d G n.sub hd pd)
    · have ek : k = xs.length := by omega
      subst ek
      refine .inl ⟨⟨xs, hs', Nat.le_refl _⟩, ?_⟩
      rw [hl] at p
      exact cg_end p (q.sub n)
/-- for i, x in enumerate(a list of data): the body's Pv over the turn, the slots, the heap -/
theorem s_forE {ds : List PyData} {tl : TE} {i j : Nat} {D : Ends} {tu : TS} (h : Ev tl σ B v) (pv : Dp K B v (.list ds)) (e : Ex B H) (Pv : Nat → L2.St → Hp → Prop) (h0 : ∀ H1, Ex H H1 → Pv 0 σ H1) (hl : ∀ k σ' H', k ≤ ds.length → Pv k σ' H' → Ex B H')
    (hs : ∀ (k : Nat) (x : V) (d : PyData) σ' H' T, ds[k]? = some d → Dp K B x d → Pv k σ' H' → H' T = none → tu { D with nx := Pv (k + 1), ct := Pv (k + 1), bk := D.nx } ((σ'.set i (some (.int (k : Nat)))).set j (some x)) (upd H' T (.tup [.int (k : Nat), x])))
    (hd : ∀ σ' H', Pv ds.length σ' H' → D.nx σ' H') : tFor (iEnum K (tCons tl tNil)) (gTup K 2 (gCons (gName i) (gCons (gName j) gNil))) tu D σ H :=
  h H e _ fun H1 e1 => by
  cases pv with
  | @lst a xs _ hs0 ha =>
    have hz := dpa_len ha
    refine ⟨a, xs, rfl, ex_l (e.trans e1) hs0, fun k m σ' H' => m = xs.length - k ∧ k ≤ xs.length ∧ Pv k σ' H', ⟨xs.length, by simp, Nat.zero_le _, h0 H1 e1⟩, ?_⟩
    rintro k m σ' H' ⟨rfl, hk, p⟩
    have hs' : SqL K H' a xs := ex_l (hl k σ' H' (by omega) p) hs0
    by_cases hlt : k < xs.length
    · refine .inr ⟨⟨xs, xs[k], hs', by simp [hlt]⟩, Pv (k + 1), fun σ2 H2 p' => ⟨xs.length - (k + 1), by omega, rfl, hlt, p'⟩, fun w H'' y => ?_⟩
      obtain ⟨T, x, rfl, nT, rfl, fx⟩ := y
      obtain ⟨d, hd', pd⟩ := dpa_get ha (fx xs hs')
      exact ⟨T, _, rfl, st_of upd_same, rfl, .int (k : Nat), [x], rfl, x, [], rfl, rfl, hs k x d σ' H' T hd' pd p nT⟩
    · have ek : k = xs.length := by omega
      subst ek
      rw [hz] at p
      exact .inl ⟨⟨xs, hs', Nat.le_refl _⟩, hd σ' H' p⟩
/-- for x in a list of data -/
theorem s_forD {ds : List PyData} {tl : TE} {j : Nat} {D : Ends} {tu : TS} (h : EvG K tl σ B (.list ds)) (e : Ex B H) (Pv : Hp → Nat → L2.St → Hp → Prop) (h0 : ∀ G H1, Nw B H G H1 → Pv G 0 σ H1) (hl : ∀ G H1 k σ' H', Nw B H G H1 → k ≤ ds.length → Pv G k σ' H' → Ex G H')
    (hs : ∀ G H1 (k : Nat) (x : V) (d : PyData) σ' H', Nw B H G H1 → ds[k]? = some d → Dp K G x d → Pv G k σ' H' → tu { D with nx := Pv G (k + 1), ct := Pv G (k + 1), bk := D.nx } (σ'.set j (some x)) H')
    (hd : ∀ G H1 σ' H', Nw B H G H1 → Pv G ds.length σ' H' → D.nx σ' H') : tFor (iList K tl) (gName j) tu D σ H :=
  h H e _ fun v H1 G n pv => by
  cases pv with
  | @lst a xs _ hs0 ha =>
    have hz := dpa_len ha
    refine ⟨a, rfl, ⟨xs, ex_l n.up hs0⟩, for_list (K := K) (a := a) (xs := xs) (Pv G) (h0 G H1 n) (fun k σ' H' hk p => ex_l (hl G H1 k σ' H' n (by omega) p) hs0) (fun k x σ' H' hx p => ?_) (fun σ' H' p => ?_)⟩
    · obtain ⟨d, hd', pd⟩ := dpa_get ha hx
      exact hs G H1 k x d σ' H' n hd' pd p
    · rw [hz] at p
      exact hd G H1 σ' H' n p
theorem q_forE {ds : List PyData} {tl : TE} {i j : Nat} {D : Ends} {tu tz : TS} (h : Ev tl σ B v) (pv : Dp K B v (.list ds)) (e : Ex B H) (Pv : Nat → L2.St → Hp → Prop) (h0 : ∀ H1, Ex H H1 → Pv 0 σ H1) (hl : ∀ k σ' H', k ≤ ds.length → Pv k σ' H' → Ex B H')
    (hs : ∀ (k : Nat) (x : V) (d : PyData) σ' H' T, ds[k]? = some d → Dp K B x d → Pv k σ' H' → H' T = none → tu { D with nx := Pv (k + 1), ct := Pv (k + 1), bk := tz D } ((σ'.set i (some (.int (k : Nat)))).set j (some x)) (upd H' T (.tup [.int (k : Nat), x])))
    (hd : ∀ σ' H', Pv ds.length σ' H' → tz D σ' H') : tSeq (tFor (iEnum K (tCons tl tNil)) (gTup K 2 (gCons (gName i) (gCons (gName j) gNil))) tu) tz D σ H := s_forE (D := { D with nx := tz D }) h pv e Pv h0 hl hs hd
theorem q_forD {ds : List PyData} {tl : TE} {j : Nat} {D : Ends} {tu tz : TS} (h : EvG K tl σ B (.list ds)) (e : Ex B H) (Pv : Hp → Nat → L2.St → Hp → Prop) (h0 : ∀ G H1, Nw B H G H1 → Pv G 0 σ H1) (hl : ∀ G H1 k σ' H', Nw B H G H1 → k ≤ ds.length → Pv G k σ' H' → Ex G H')
    (hs : ∀ G H1 (k : Nat) (x : V) (d : PyData) σ' H', Nw B H G H1 → ds[k]? = some d → Dp K G x d → Pv G k σ' H' → tu { D with nx := Pv G (k + 1), ct := Pv G (k + 1), bk := tz D } (σ'.set j (some x)) H')
    (hd : ∀ G H1 σ' H', Nw B H G H1 → Pv G ds.length σ' H' → tz D σ' H') : tSeq (tFor (iList K tl) (gName j) tu) tz D σ H := s_forD (D := { D with nx := tz D }) h e Pv h0 hl hs hd
/-- for x in a name's list of data -/
theorem s_forV {ds : List PyData} {tl : TE} {j : Nat} {D : Ends} {tu : TS} (h : Ev tl σ B v) (pv : Dp K B v (.list ds)) (e : Ex B H) (Pv : Nat → L2.St → Hp → Prop) (h0 : ∀ H1, Ex H H1 → Pv 0 σ H1) (hl : ∀ k σ' H', k ≤ ds.length → Pv k σ' H' → Ex B H')
    (hs : ∀ (k : Nat) (x : V) (d : PyData) σ' H', ds[k]? = some d → Dp K B x d → Pv k σ' H' → tu { D with nx := Pv (k + 1), ct := Pv (k + 1), bk := D.nx } (σ'.set j (some x)) H')
    (hd : ∀ σ' H', Pv ds.length σ' H' → D.nx σ' H') : tFor (iList K tl) (gName j) tu D σ H :=
  h H e _ fun H1 e1 => by
  cases pv with
  | @lst a xs _ hs0 ha =>
    have hz := dpa_len ha
    refine ⟨a, rfl, ⟨xs, ex_l (e.trans e1) hs0⟩, for_list (K := K) (a := a) (xs := xs) Pv (h0 H1 e1) (fun k σ' H' hk p => ex_l (hl k σ' H' (by omega) p) hs0) (fun k x σ' H' hx p => ?_) (fun σ' H' p => ?_)⟩
    · obtain ⟨d, hd', pd⟩ := dpa_get ha hx
      exact hs k x d σ' H' hd' pd p
    · rw [hz] at p
      exact hd σ' H' p
theorem q_forV {ds : List PyData} {tl : TE} {j : Nat} {D : Ends} {tu tz : TS} (h : Ev tl σ B v) (pv : Dp K B v (.list ds)) (e : Ex B H) (Pv : Nat → L2.St → Hp → Prop) (h0 : ∀ H1, Ex H H1 → Pv 0 σ H1) (hl : ∀ k σ' H', k ≤ ds.length → Pv k σ' H' → Ex B H')
    (hs : ∀ (k : Nat) (x : V) (d : PyData) σ' H', ds[k]? = some d → Dp K B x d → Pv k σ' H' → tu { D with nx := Pv (k + 1), ct := Pv (k + 1), bk := tz D } (σ'.set j (some x)) H')
    (hd : ∀ σ' H', Pv ds.length σ' H' → tz D σ' H') : tSeq (tFor (iList K tl) (gName j) tu) tz D σ H := s_forV (D := { D with nx := tz D }) h pv e Pv h0 hl hs hd
/-- list(xs) -/
theorem nl_listof {ds : List PyData} (h : EvG K ta σ B (.list ds)) : EvNL K (tCB (fun xs H Q => ∃ p ys, xs = [.ref p] ∧ (SqL K H p ys ∨ SqT K H p ys) ∧ ∀ l, H l = none → Q (.ref l) (upd H l (.lst ys))) (tCons ta tNil)) σ B ds := fun H e Q q =>
  h H e _ fun v H2 G n p => by
    cases p with
    | @lst a xs _ hs ha => exact ⟨a, xs, rfl, .inl (ex_l n.up hs), fun l hl => q l xs _ G (n.later (Ex.new hl)) (fresh_back n.ex hl) (fresh_back n.up hl) upd_same ha⟩
end
theorem givenD_take {ds : List PyData} (p : PyData → Bool) (g : PyData → PyData) : ∀ k, k ≤ ds.length → givenD k (fun i => p (ds.getD i .none)) (fun i => g (ds.getD i .none)) = ((ds.take k).filter p).map g
  | 0, _ => rfl
  | k + 1, h => by
    have ih := givenD_take (ds := ds) p g k (by omega)
    have hk : k < ds.length := by omega
    have e1 : ds.getD k .none = ds[k] := by rw [List.getD_eq_getElem?_getD, List.getElem?_eq_getElem hk] <;> rfl
    have e2 : ds.take (k + 1) = ds.take k ++ [ds[k]] := by rw [List.take_add_one, List.getElem?_eq_getElem hk] <;> rfl
    cases q : p (ds.getD k .none) with
    | true =>
      rw [givenD_yes (f := fun i => p (ds.getD i .none)) q, ih, e2, List.filter_append, List.map_append]
      rw [e1] at q
      rw [List.filter_cons, if_pos q, e1] <;> rfl
    | false =>
      rw [givenD_no (f := fun i => p (ds.getD i .none)) q, ih, e2, List.filter_append, List.map_append]
      rw [e1] at q
      rw [List.filter_cons, if_neg (by rw [q]; decide)]
      show _ = _ ++ []
      rw [List.append_nil]
theorem givenD_all {ds : List PyData} (p : PyData → Bool) (g : PyData → PyData) : givenD ds.length (fun i => p (ds.getD i .none)) (fun i => g (ds.getD i .none)) = (ds.filter p).map g := by
  rw [givenD_take p g ds.length (Nat.le_refl _), List.take_length]
theorem getD_at {ds : List PyData} {i : Nat} {d : PyData} (h : ds[i]? = some d) : ds.getD i .none = d := by rw [List.getD_eq_getElem?_getD, h] <;> rfl
theorem et_yes {σ : L2.St} {B : Hp} : EvT tYes σ B true := fun H1 _ _ q => q H1 (Ex.refl H1)
section
variable {K : PySem.W.Frag} {σ : L2.St} {B B' H H' : Hp} {ta tb te : TE} {t u : TT}
/-- [e for x in xs], [e for x in xs if t] -/
theorem nl_lcM {ds : List PyData} {tl : TE} {j : Nat} {vs : List Nat} (g : PyData → PyData) (h : EvG K tl σ B (.list ds)) (hn : ds.length ≤ 40000) (hw : ∀ x, wipe ((wipe σ vs).set j (some x)) vs = wipe σ vs)
    (he : ∀ (x : V) (d : PyData) B', Ex B B' → d ∈ ds → Dp K B' x d → EvG K te ((wipe σ vs).set j (some x)) B' (g d)) :
    EvNL K (tLc (iList K tl) (gName j) tYes te vs) σ B (ds.map g) := by
  have e := givenD_all (ds := ds) (fun _ => true) g
  rw [List.filter_eq_self.mpr (fun _ _ => rfl)] at e
  rw [← e]
  refine nl_lcL _ _ h hn hw (fun _ _ _ _ _ _ _ => et_yes) fun i x d B' e1 hd p _ => ?_
  rw [getD_at hd]
  exact he x d B' e1 (List.mem_of_getElem? hd) p
theorem nl_lcF {ds : List PyData} {tl : TE} {j : Nat} {vs : List Nat} (p : PyData → Bool) (g : PyData → PyData) (h : EvG K tl σ B (.list ds)) (hn : ds.length ≤ 40000) (hw : ∀ x, wipe ((wipe σ vs).set j (some x)) vs = wipe σ vs)
    (ht : ∀ (x : V) (d : PyData) B', Ex B B' → d ∈ ds → Dp K B' x d → EvT t ((wipe σ vs).set j (some x)) B' (p d))
    (he : ∀ (x : V) (d : PyData) B', Ex B B' → d ∈ ds → Dp K B' x d → p d = true → EvG K te ((wipe σ vs).set j (some x)) B' (g d)) :
    EvNL K (tLc (iList K tl) (gName j) t te vs) σ B ((ds.filter p).map g) := by
  rw [← givenD_all p g]
  refine nl_lcL _ _ h hn hw (fun i x d B' e1 hd m => ?_) fun i x d B' e1 hd m hp => ?_
  · rw [getD_at hd]
    exact ht x d B' e1 (List.mem_of_getElem? hd) m
  · rw [getD_at hd] at hp ⊢
    exact he x d B' e1 (List.mem_of_getElem? hd) m hp
/-- [e for k in range(n)], with or without a test -/
theorem nl_lcRM {tA : TA} {j : Nat} {vs : List Nat} {n : Nat} (g : Nat → PyData) (h : EvA tA σ B [.int (n : Nat)]) (hn : n ≤ 40000) (hw : ∀ x, wipe ((wipe σ vs).set j (some x)) vs = wipe σ vs)
    (he : ∀ i : Nat, i < n → EvG K te ((wipe σ vs).set j (some (.int (i : Nat)))) B (g i)) :
    EvNL K (tLc (iRng1 tA) (gName j) tYes te vs) σ B ((List.range n).map g) := by
  have e : givenD n (fun _ => true) g = (List.range n).map g := by
    unfold givenD
    rw [List.filter_eq_self.mpr (fun _ _ => rfl)]
  rw [← e]
  exact nl_lcR1 _ _ h hn hw (fun _ _ => et_yes) fun i hi _ => he i hi
theorem nl_lcRF {tA : TA} {j : Nat} {vs : List Nat} {n : Nat} (f : Nat → Bool) (g : Nat → PyData) (h : EvA tA σ B [.int (n : Nat)]) (hn : n ≤ 40000) (hw : ∀ x, wipe ((wipe σ vs).set j (some x)) vs = wipe σ vs)
    (ht : ∀ i : Nat, i < n → EvT t ((wipe σ vs).set j (some (.int (i : Nat)))) B (f i))
    (he : ∀ i : Nat, i < n → f i = true → EvG K te ((wipe σ vs).set j (some (.int (i : Nat)))) B (g i)) :
    EvNL K (tLc (iRng1 tA) (gName j) t te vs) σ B (((List.range n).filter f).map g) := nl_lcR1 f g h hn hw ht he
end
section
variable {K : PySem.W.Frag} {σ : L2.St} {B B' H H' : Hp} {ta tb te : TE} {t u : TT} {D : Ends} {tz : TS}
theorem s_asgG {i : Nat} {d : PyData} {D : Ends} (h : EvG K te σ B d) (e : Ex B H) (k : ∀ v H1 G, Nw B H G H1 → Dp K G v d → D.nx (σ.set i (some v)) H1) : tAsg te (gName i) D σ H := h H e _ fun v H1 G n p => k v H1 G n p
theorem q_asgG {i : Nat} {d : PyData} (h : EvG K te σ B d) (e : Ex B H) (k : ∀ v H1 G, Nw B H G H1 → Dp K G v d → tz D (σ.set i (some v)) H1) : tSeq (tAsg te (gName i)) tz D σ H := h H e _ fun v H1 G n p => k v H1 G n p
theorem s_asgN {i : Nat} {ds : List PyData} {D : Ends} (h : EvNL K te σ B ds) (e : Ex B H) (k : ∀ a vs H1 G, Nw B H G H1 → H a = none → G a = none → H1 a = some (.lst vs) → DpAll K G vs ds → D.nx (σ.set i (some (.ref a))) H1) : tAsg te (gName i) D σ H := h H e _ k
theorem q_asgN {i : Nat} {ds : List PyData} (h : EvNL K te σ B ds) (e : Ex B H) (k : ∀ a vs H1 G, Nw B H G H1 → H a = none → G a = none → H1 a = some (.lst vs) → DpAll K G vs ds → tz D (σ.set i (some (.ref a))) H1) : tSeq (tAsg te (gName i)) tz D σ H := h H e _ k
theorem s_retG {d : PyData} {D : Ends} (h : EvG K te σ B d) (e : Ex B H) (q : RetG K B H d D.rt) : tRet te D σ H := h H e _ q
theorem s_retN {ds : List PyData} {D : Ends} (h : EvNL K te σ B ds) (e : Ex B H) (q : RetNL K B H ds D.rt) : tRet te D σ H := h H e _ q
/-- a, b = a pair -/
theorem q_pair {i j : Nat} {d1 d2 : PyData} (h : EvG K te σ B (.tuple [d1, d2])) (e : Ex B H) (k : ∀ v w H1 G, Nw B H G H1 → Dp K G v d1 → Dp K G w d2 → tz D ((σ.set i (some v)).set j (some w)) H1) :
    tSeq (tAsg te (gTup K 2 (gCons (gName i) (gCons (gName j) gNil)))) tz D σ H := h H e _ fun v H1 G n p => by
  cases p with
  | tup hs ha =>
    obtain ⟨x, y, rfl, p1, p2⟩ := dpa2 ha
    exact ⟨_, _, rfl, ex_t n.up hs, rfl, x, [y], rfl, y, [], rfl, rfl, k x y H1 G n p1 p2⟩
/-- w not in ('all', 'any') -/
theorem ev_notIn2 {w a b : Str} {te : TE} (h : Ev te σ B (.str w)) : Ev (tOp (rIn K true) te (tTup (tCons (tC (.str a)) (tCons (tC (.str b)) tNil)))) σ B (.bl (!(decide (w = a) || decide (w = b)))) := by
  refine ev_is (ev_niU h (eu_tup (ea_cons ev_c (ea_cons ev_c ea_nil)) (by show 2 ≤ 100000; decide)) rfl rfl) ?_
  show V.bl (!(decide (a = w) || (decide (b = w) || false))) = _
  rw [Bool.or_false]
  have e1 : decide (a = w) = decide (w = a) := decide_eq_decide.mpr ⟨Eq.symm, Eq.symm⟩
  have e2 : decide (b = w) = decide (w = b) := decide_eq_decide.mpr ⟨Eq.symm, Eq.symm⟩
  rw [e1, e2]
end
/-! ### the layer's rules, the written part said by name -/
section
variable {X : Cx} {K : PySem.W.Frag}
theorem ix_listK (h : X.K = K) : IxR X (rIxL K) := by subst h; exact ix_list
theorem ix_tupK (h : X.K = K) : IxR X (rIxT K) := by subst h; exact ix_tup
theorem sl_listK (h : X.K = K) : SlR X (rSlL K) := by subst h; exact sl_list
theorem isiK (h : X.K = K) : CallR X (.builtin "isinstance") (rIsi K) := by subst h; exact call_isi
theorem allK (h : X.K = K) (hc : X.calm = true) : CallR X (.builtin "all") (rAll K) := by subst h; exact cr_all hc
theorem anyK (h : X.K = K) (hc : X.calm = true) : CallR X (.builtin "any") (rAny K) := by subst h; exact cr_any hc
theorem minK (h : X.K = K) (hc : X.calm = true) : CallR X (.builtin "min") (rMin K) := by subst h; exact cr_min hc
theorem maxK (h : X.K = K) (hc : X.calm = true) : CallR X (.builtin "max") (rMax K) := by subst h; exact cr_max hc
theorem sortedK (h : X.K = K) : CallR X (.builtin "sorted") (rSortedI K) := by subst h; exact cr_sortedI
theorem lenK (h : X.K = K) : CallR X (.builtin "len") (fun xs H Q => ∃ p ys, xs = [.ref p] ∧ (SqL K H p ys ∨ SqT K H p ys) ∧ Q (.int ys.length) H) := by subst h; exact call_len_seq
theorem listK (h : X.K = K) : CallR X (.type "list") (fun xs H Q => ∃ p ys, xs = [.ref p] ∧ (SqL K H p ys ∨ SqT K H p ys) ∧ ∀ l, H l = none → Q (.ref l) (upd H l (.lst ys))) := by subst h; exact call_list_of
theorem tupleK (h : X.K = K) : CallR X (.type "tuple") (fun xs H Q => ∃ p ys, xs = [.ref p] ∧ ((SqL K H p ys ∧ ∀ l, H l = none → Q (.ref l) (upd H l (.tup ys))) ∨ (SqT K H p ys ∧ Q (.ref p) H))) := by subst h; exact call_tuple_of
theorem inK (h : X.K = K) : OpR X (compareOp .In) (rIn K false) := by subst h; exact op_in_seq
theorem notInK (h : X.K = K) : OpR X (compareOp .NotIn) (rIn K true) := by subst h; exact op_notIn_seq
theorem eqK (h : X.K = K) (hu : X.A.units + 64 < cLine) : OpR X (compareOp .Eq) (rEqD K) := by subst h; exact op_eqD hu
theorem neK (h : X.K = K) (hu : X.A.units + 64 < cLine) : OpR X (compareOp .NotEq) (rNeD K) := by subst h; exact op_neD hu
theorem pg_tupK {es : List Expr} {k : Nat} {t : TGs} {n : Nat} {pos : Pos} (h : X.K = K) (hc : X.calm = true) (hs : PGs X es t)
    (hn : (assignEach es X.env).length = n := by rfl) (hst : (assignEach es X.env).findIdx? (·.1) = none := by rfl) : PG X (.Tuple es k pos) (gTup K n t) := by subst h; exact pg_tup hc hs hn hst
theorem pi_listK {tg l : Expr} {tl : TE} (h : X.K = K) (hl : PE X l tl) : PI X tg l (iList K tl) := by subst h; exact pi_list hl
theorem pi_tupK {tg l : Expr} {tl : TE} (h : X.K = K) (hl : PE X l tl) : PI X tg l (iTup K tl) := by subst h; exact pi_tup hl
theorem pi_enumK {e : Expr} {ta : TA} {p pos tpos : Pos} {elts : List Expr} {kk : Nat} (h : X.K = K) (hg : Gl X "enumerate") (hm : X.mg "enumerate" = none) (ha : PA X [e] ta) (hs : starEach [e] X.env = [(false, eval e X.env)] := by rfl) :
    PI X (.Tuple elts kk tpos) (.Call (.Name "enumerate" p) [e] [] pos) (iEnum K ta) := by subst h; exact pi_enum hg hm ha hs
theorem pt_truthK {a : Expr} {ta : TE} (h : X.K = K) (ha : PE X a ta) (he : ∀ whole, isTrue a X.env whole = (do let v ← whole; standAt a.pos; holding [v] (truthy v)) := by intro _; rfl) :
    PT X a (fun σ H Q => ta σ H fun x H' => ∃ k, TruV K x H' k ∧ Q k H') := by subst h; exact pt_truth ha he
end
/-! ### len(set(xs)), sorted(set(xs)) of a list of ints -/
def dedupL (ns : List Int) : List Int := PyProof.Rows.firstMet (fun i => ns.getD i 0) ns.length
section
variable {X : Cx}
def tLenSetA (K : PySem.W.Frag) (ta : TE) : TE := fun σ H Q => ta σ H fun x H1 => ∃ (l : Addr) (ns : List Int), x = .ref l ∧ SqL K H1 l (ns.map V.int) ∧ ns.length ≤ 4000 ∧ Q (.int ((dedupL ns).length : Nat)) H1
theorem pe_lenSetA {a : Expr} {ta : TE} {p p2 q pos : Pos} (hg : Gl X "len") (hm : X.mg "len" = none) (hg2 : Gl X "set") (hm2 : X.mg "set" = none) (ha : PE X a ta) (hc : X.calm = true := by rfl)
    (na : starEach [a] X.env = (false, eval a X.env) :: starEach [] X.env := by rfl) : PE X (.Call (.Name "len" p) [.Call (.Name "set" p2) [a] [] q] [] pos) (tLenSetA X.K ta) := by
  refine ⟨fun pins s σ H Q I h => ?_⟩
  refine Call_ (ld_blt I hg hm boot_len ?_)
  refine PyProof.Rows.callWith_builtin1 (PyProof.Rows.args_cons ?_ rfl) rfl rfl
  refine Call_ (ld_blt I hg2 hm2 boot_set ?_)
  refine PyProof.Rows.callWith_type1 (PyProof.Rows.args_cons (thn (ha.run pins s σ H _ I h) fun v s1 ⟨x, H1, I1, r1, q1⟩ => PyProof.Rows.args_nil ?_) na) na rfl
  obtain ⟨l, ns, rfl, hq, hl, q1⟩ := q1
  cases r1
  obtain ⟨its, r, pl, hz⟩ := I1.list hq
  have hlen : its.toArray.size = ns.length := by rw [List.size_toArray, ← r.length, List.length_map]
  refine call_set_list (I1.ok.hd hc) pl.isList (by simpa using RZ.intsAre_vals r) (by rw [hlen]; unfold scanBound; omega) fun h' tk hS hk => ?_
  refine PyProof.Rows.args_nil ?_
  rw [hlen] at hS
  have hle := PyProof.Rows.firstMet_length_le (fun i => ns.getD i 0) ns.length
  obtain ⟨o, es, ep, t, ho, hex, hd, _, _, _, hf, hn⟩ := hS
  have I2 : Inv X pins σ H1 { s1 with heap := h', toks := tk } := I1.kept fun b o e => hk b o (Heap.lt_size e) e
  exact call_len_set ho hex hd hf (by rw [hn] <;> omega) ⟨.int ((dedupL ns).length : Nat), H1, I2.tok _, ⟨_, by rw [hn] <;> rfl⟩, q1⟩
end
theorem pe_lenSetK {X : Cx} {K : PySem.W.Frag} {a : Expr} {ta : TE} {p p2 q pos : Pos} (h : X.K = K) (hg : Gl X "len") (hm : X.mg "len" = none) (hg2 : Gl X "set") (hm2 : X.mg "set" = none) (ha : PE X a ta) (hc : X.calm = true := by rfl)
    (na : starEach [a] X.env = (false, eval a X.env) :: starEach [] X.env := by rfl) : PE X (.Call (.Name "len" p) [.Call (.Name "set" p2) [a] [] q] [] pos) (tLenSetA K ta) := by subst h; exact pe_lenSetA hg hm hg2 hm2 ha hc na
section
variable {K : PySem.W.Frag} {σ : L2.St} {B : Hp} {ta : TE}
theorem ev_lenSet {ns : List Int} (h : EvG K ta σ B (.list (ns.map PyData.int))) (hl : ns.length ≤ 4000) : Ev (tLenSetA K ta) σ B (.int ((dedupL ns).length : Nat)) := fun H e Q q =>
  h H e _ fun v H2 G n p => by
    cases p with
    | lst hs ha =>
      rw [dpa_ints ha] at hs
      exact ⟨_, ns, rfl, ex_l n.up hs, hl, q H2 n.ex⟩
end
/-! ### type(x) is T -/
theorem typeK {X : Cx} {K : PySem.W.Frag} (h : X.K = K) : CallR X (.type "type") (rTyp K) := by subst h; exact call_type1
theorem tyb_dp {K : PySem.W.Frag} {H : Hp} {v : V} {d : PyData} (h : Dp K H v d) : TyB K H v (tagD d) := by
  cases h with
  | non => exact .non
  | bl b => exact .bl b
  | int i => exact .int i
  | str x => exact .str x
  | lst hs ha => exact .lst hs
  | tup hs ha => exact .tup hs
section
variable {K : PySem.W.Frag} {σ : L2.St} {B H : Hp} {ta : TE} {d : PyData} {m : String}
theorem ev_typ (h : EvG K ta σ B d) : Ev (tCB (rTyp K) (tCons ta tNil)) σ B (.ty (tagD d)) := fun H e Q q =>
  h H e _ fun v H2 G n p => ⟨v, tagD d, rfl, tyb_dp (dp_ex n.up _ _ p), q H2 n.ex⟩
theorem dec_beq (a b : String) : decide (a = b) = (a == b) := by
  by_cases e : a = b
  · rw [decide_eq_true e, beq_iff_eq.mpr e]
  · rw [decide_eq_false e, beq_eq_false_iff_ne.mpr e]
theorem ev_tyI (h : EvG K ta σ B d) : Ev (tOp (fun x y H Q => ∃ a b, x = .ty a ∧ y = .ty b ∧ Q (.bl (decide (a = b))) H) (tCB (rTyp K) (tCons ta tNil)) (tC (.ty m))) σ B (.bl (tagD d == m)) := fun H e Q q =>
  ev_typ h H e _ fun H2 e2 => ⟨_, _, rfl, rfl, by rw [dec_beq]; exact q H2 e2⟩
theorem ev_tyN (h : EvG K ta σ B d) : Ev (tOp rNT (tCB (rTyp K) (tCons ta tNil)) (tC (.ty m))) σ B (.bl (!(tagD d == m))) := fun H e Q q =>
  ev_typ h H e _ fun H2 e2 => ⟨_, _, rfl, rfl, by rw [dec_beq]; exact q H2 e2⟩
end
end Sb
/-! What the program's defs make of data. -/
namespace Sb
open PySem PySem.Spec PyProof.Rows L2 Evl
def isHandD (n : Int) : PyData → Bool
  | .int i => decide (0 ≤ i) && decide (i < n)
  | _ => false
def intsOf (ds : List PyData) : List Int := ds.map fun d => match d with | .int i => i | _ => 0
def areD (n : Int) : PyData → Bool
  | .list ds => !ds.isEmpty && (ds.all (isHandD n) && decide (((dedupL (intsOf ds)).length : Int) = (ds.length : Int)))
  | _ => false
def isWaitD (n : Int) : PyData → Bool
  | .none => true
  | .tuple [.str w, d] => (decide (w = Str.ofString "all") || decide (w = Str.ofString "any")) && areD n d
  | _ => false
/-- lists of at most 4000 things, so far as they are looked at -/
def FewD : PyData → Prop
  | .list ds => ds.length ≤ 4000
  | .tuple [_, .list ds] => ds.length ≤ 4000
  | .tuple ds => ds.length ≤ 4000
  | _ => True
def R_is_below (ds : List PyData) (d : PyData) : Prop := ∃ x n, ds = [x, .int n] ∧ d = .bool (isHandD n x)
def R_are_waited_for (ds : List PyData) (d : PyData) : Prop := ∃ x n, ds = [x, .int n] ∧ (∀ xs, x = .list xs → xs.length ≤ 4000) ∧ d = .bool (areD n x)
def R_is_wait (ds : List PyData) (d : PyData) : Prop := ∃ x n, ds = [x, .int n] ∧ (∀ w xs, x = .tuple [w, .list xs] → xs.length ≤ 4000) ∧ d = .bool (isWaitD n x)
def R_need (ds : List PyData) (d : PyData) : Prop := ∃ xs, ds = [.list xs] ∧ 1 ≤ xs.length ∧ xs.length ≤ 40 ∧ (∀ x ∈ xs, isWaitD xs.length x = true ∧ ∀ w ys, x = .tuple [w, .list ys] → ys.length ≤ 4000) ∧ d = .bool true
def R_need_hand (ds : List PyData) (d : PyData) : Prop := ∃ x n, ds = [x, .int n] ∧ isHandD n x = true ∧ d = .none
def sp_need_hand (K : PySem.W.Frag) : Sp := spD K R_need_hand
def sp_is_below (K : PySem.W.Frag) : Sp := spD K R_is_below
def sp_are_waited_for (K : PySem.W.Frag) : Sp := spD K R_are_waited_for
def sp_is_wait (K : PySem.W.Frag) : Sp := spD K R_is_wait
def sp_need (K : PySem.W.Frag) : Sp := spD K R_need
def wordS (b : Bool) : Str := if b = true then Str.ofString "all" else Str.ofString "any"
def natD (h : Nat) : PyData := .int (h : Nat)
def dW : Wt → PyData
  | none => .none
  | some (b, hs) => .tuple [.str (wordS b), .list (hs.map natD)]
def dR : Option Nat → PyData
  | none => .none
  | some r => .int (r : Nat)
def R_is_let_go (ds : List PyData) (d : PyData) : Prop := ∃ b hs rs, ds = [dW (some (b, hs)), .list (rs.map dR)] ∧ (∀ h ∈ hs, h < rs.length) ∧ hs.length ≤ 40000 ∧ d = .bool (goes (some (b, hs)) rs)
structure Fit (ws : List Wt) (rs : Rds) : Prop where
  good : Good ws
  len : rs.length = ws.length
  few : ws.length ≤ 40
  none : ∀ i, ws[i]? = some none → rd rs i ≠ none
def R_ready_hands (ds : List PyData) (r : List PyData) : Prop := ∃ ws rs, ds = [.list (ws.map dW), .list (rs.map dR)] ∧ Fit ws rs ∧ r = (ready ws rs).map natD
def R_freed (ds : List PyData) (d : PyData) : Prop := ∃ ws, ds = [.list (ws.map dW)] ∧ Good ws ∧ 1 ≤ ws.length ∧ ws.length ≤ 40 ∧ d = .list ((plain ws).map dR)
def R_stuck (ds : List PyData) (d : PyData) : Prop := ∃ ws, ds = [.list (ws.map dW)] ∧ Good ws ∧ 1 ≤ ws.length ∧ ws.length ≤ 40 ∧ d = .list ((stuckL ws).map natD)
def sp_is_let_go (K : PySem.W.Frag) : Sp := spD K R_is_let_go
def sp_ready_hands (K : PySem.W.Frag) : Sp := spNL K R_ready_hands
def sp_freed (K : PySem.W.Frag) : Sp := spD K R_freed
def sp_stuck (K : PySem.W.Frag) : Sp := spD K R_stuck
theorem nodup_le : ∀ (n : Nat) (l : List Nat), l.Nodup → (∀ x ∈ l, x < n) → l.length ≤ n
  | 0, l, _, h => by
    cases l with
    | nil => exact Nat.le_refl _
    | cons a r => exact absurd (h a List.mem_cons_self) (Nat.not_lt_zero _)
  | n + 1, l, nd, h => by
    by_cases hn : n ∈ l
    · have ih := nodup_le n (l.erase n) (nd.erase n) fun x hx => by
        have h1 := h x (List.mem_of_mem_erase hx)
        have h2 : x ≠ n := fun e => by
          subst e
          exact (List.Nodup.not_mem_erase nd) hx
        omega
      rw [List.length_erase_of_mem hn] at ih
      omega
    · have ih := nodup_le n l nd fun x hx => by
        have h1 := h x hx
        have h2 : x ≠ n := fun e => by
          subst e
          exact hn hx
        omega
      omega
theorem GoodW.few {n : Nat} {w : Wt} (g : GoodW n w) {b : Bool} {hs : List Nat} (e : w = some (b, hs)) : hs.length ≤ n := nodup_le n hs (g b hs e).2.1 (g b hs e).2.2
theorem dR_at {rs : Rds} {h : Nat} (hl : h < rs.length) : (rs.map dR)[h]? = some (dR (rd rs h)) := by
  rw [List.getElem?_map, List.getElem?_eq_getElem hl]
  unfold rd
  rw [List.getD_eq_getElem?_getD, List.getElem?_eq_getElem hl] <;> rfl
theorem none_dR (o : Option Nat) : noneD (dR o) = o.isNone := by cases o <;> rfl
theorem dpaN {K : PySem.W.Frag} {H : Hp} : ∀ (hs : List Nat), DpAll K H (hs.map fun h => V.int (h : Nat)) (hs.map natD)
  | [] => .nil
  | _ :: hs => .cons (.int _) (dpaN hs)
theorem dedup_nodup {ns : List Int} (h : ns.Nodup) : dedupL ns = ns := by
  unfold dedupL
  rw [RZ.firstMet_nodup h ns.length (Nat.le_refl _), List.take_length]
theorem ints_natD (hs : List Nat) : intsOf (hs.map natD) = hs.map fun h : Nat => (h : Int) := by
  unfold intsOf
  rw [List.map_map] <;> rfl
theorem nodup_cast {hs : List Nat} (h : hs.Nodup) : (hs.map fun h : Nat => (h : Int)).Nodup := by
  rw [List.Nodup, List.pairwise_map]
  exact h.imp fun {a b} z e => z (by omega)
theorem isWait_good {n : Nat} {w : Wt} (g : GoodW n w) : isWaitD n (dW w) = true := by
  cases w with
  | none => rfl
  | some p =>
    obtain ⟨b, hs⟩ := p
    obtain ⟨g1, g2, g3⟩ := g b hs rfl
    show ((decide (wordS b = Str.ofString "all") || decide (wordS b = Str.ofString "any")) && areD n (.list (hs.map natD))) = true
    have e1 : (decide (wordS b = Str.ofString "all") || decide (wordS b = Str.ofString "any")) = true := by
      cases b with
      | true => rw [show wordS true = Str.ofString "all" from rfl, decide_eq_true rfl, Bool.true_or]
      | false => rw [show wordS false = Str.ofString "any" from rfl, decide_eq_true rfl, Bool.or_true]
    rw [e1, Bool.true_and]
    show (!(hs.map natD).isEmpty && ((hs.map natD).all (isHandD n) && decide (((dedupL (intsOf (hs.map natD))).length : Int) = ((hs.map natD).length : Int)))) = true
    have e2 : (hs.map natD).isEmpty = false := by
      cases hs with
      | nil => exact absurd rfl g1
      | cons => rfl
    have e3 : (hs.map natD).all (isHandD n) = true := by
      rw [List.all_eq_true]
      intro d hd
      obtain ⟨h, hh, rfl⟩ := List.mem_map.mp hd
      have := g3 h hh
      show (decide ((0 : Int) ≤ (h : Nat)) && decide (((h : Nat) : Int) < (n : Int))) = true
      rw [decide_eq_true (by omega), decide_eq_true (by omega)] <;> rfl
    rw [e2, e3, ints_natD, dedup_nodup (nodup_cast g2), List.length_map, List.length_map, decide_eq_true rfl] <;> rfl
theorem good_waits {ws : List Wt} (g : Good ws) (l2 : ws.length ≤ 40) : ∀ x ∈ ws.map dW, isWaitD (ws.map dW).length x = true ∧ ∀ w ys, x = .tuple [w, .list ys] → ys.length ≤ 4000 := by
  intro x hx
  obtain ⟨w, hw, rfl⟩ := List.mem_map.mp hx
  rw [List.length_map]
  refine ⟨isWait_good (g w hw), fun a ys e => ?_⟩
  cases w with
  | none => cases e
  | some p =>
    obtain ⟨b, hs⟩ := p
    have := (g _ hw).few rfl
    have e2 : ys = hs.map natD := by
      injection e with e
      injection e with e1 e
      injection e with e2 e
      injection e2 with e2
      exact e2.symm
    rw [e2, List.length_map]
    omega
end Sb
/-! What the laws' own helpers make of a script; lists that grow. -/
namespace Sb
open PySem PySem.Spec PyProof.Rows L2 Evl
def cellZ (ns : List Int) (k : Nat) : Int := ns.getD k 0
def mixN (a b m : Int) (ns : List Int) (k : Nat) (s : Int) : Nat := ((cellZ ns k * a + s * b) % m).toNat
def othersN (num size q c1 c2 : Nat) : Nat → List Nat
  | 0 => [num / q % size]
  | k + 1 => if (othersN num size q c1 c2 k).contains ((num / q % size + 1 + num / (c1 + c2 * k) % size) % size) then othersN num size q c1 c2 k else othersN num size q c1 c2 k ++ [(num / q % size + 1 + num / (c1 + c2 * k) % size) % size]
theorem others_ok {num size q c1 c2 : Nat} (hs : 0 < size) : ∀ k, othersN num size q c1 c2 k ≠ [] ∧ (othersN num size q c1 c2 k).Nodup ∧ (∀ h ∈ othersN num size q c1 c2 k, h < size) ∧ (othersN num size q c1 c2 k)[0]? = some (num / q % size) ∧ (othersN num size q c1 c2 k).length ≤ k + 1
  | 0 => by
    refine ⟨List.cons_ne_nil _ _, by simp [othersN], fun h hh => ?_, rfl, Nat.le_refl _⟩
    have e : h = num / q % size := by simpa [othersN] using hh
    rw [e]
    exact Nat.mod_lt _ hs
  | k + 1 => by
    obtain ⟨h1, h2, h3, h4, h5⟩ := others_ok (num := num) (q := q) (c1 := c1) (c2 := c2) hs k
    unfold othersN
    split
    · exact ⟨h1, h2, h3, h4, by omega⟩
    · rename_i hc
      refine ⟨by simp, ?_, ?_, ?_, by rw [List.length_append]; simp; omega⟩
      · rw [List.nodup_append]
        refine ⟨h2, by simp, fun a ha b hb e => hc ?_⟩
        have e2 := List.mem_singleton.mp hb
        rw [List.contains_iff_mem, ← e2, ← e]
        exact ha
      · intro h hh
        rcases List.mem_append.mp hh with hh | hh
        · exact h3 h hh
        · rw [List.mem_singleton.mp hh]
          exact Nat.mod_lt _ hs
      · rw [List.getElem?_append_left (List.length_pos_iff.mpr h1)]
        exact h4
def waitG (num size : Nat) (no : Bool) (q turns c1 c2 : Nat) (isAll : Bool) : Wt := if no = true then none else some (isAll, othersN num size q c1 c2 turns)
theorem goodW_waitG {num size : Nat} {no : Bool} {q turns c1 c2 : Nat} {isAll : Bool} (hs : 0 < size) : GoodW size (waitG num size no q turns c1 c2 isAll) := by
  intro b l e
  unfold waitG at e
  split at e
  · cases e
  · cases e
    obtain ⟨h1, h2, h3, _⟩ := others_ok (num := num) (q := q) (c1 := c1) (c2 := c2) hs turns
    exact ⟨h1, h2, h3⟩
def R_law_cell_at (ds : List PyData) (d : PyData) : Prop := ∃ (ns : List Int) (k : Nat), ds = [.list (ns.map .int), .int (k : Nat)] ∧ d = .int (cellZ ns k)
def R_mixed (a b m : Int) (ds : List PyData) (d : PyData) : Prop := ∃ (ns : List Int) (k : Nat) (s : Int), ds = [.list (ns.map .int), .int (k : Nat), .int s] ∧ d = .int (mixN a b m ns k s : Nat)
theorem ints_getD {ns : List Int} {k : Nat} (h : k < ns.length) : (ns.map PyData.int)[k]? = some (.int (cellZ ns k)) := by
  rw [List.getElem?_map, List.getElem?_eq_getElem h]
  unfold cellZ
  rw [List.getD_eq_getElem?_getD, List.getElem?_eq_getElem h] <;> rfl
theorem cell_out {ns : List Int} {k : Nat} (h : ¬ k < ns.length) : cellZ ns k = 0 := by
  unfold cellZ
  rw [List.getD_eq_getElem?_getD, List.getElem?_eq_none (by omega)] <;> rfl
theorem mix_nat {a b m : Int} {ns : List Int} {k : Nat} {s : Int} (hm : 0 < m) : (cellZ ns k * a + s * b) % m = ((mixN a b m ns k s : Nat) : Int) := by
  unfold mixN
  exact (Int.toNat_of_nonneg (Int.emod_nonneg _ (by omega))).symm
/-- 1 + cell % 7, or 1 + cell // 28 % 40 -/
def sizeN (c : Int) (a b m : Int) : Nat := if c / a % 4 = 1 then 1 + (c / b % 40).toNat else 1 + (c % m).toNat
/-! ### a list that grows -/
theorem dpa_set {K : PySem.W.Frag} {H : Hp} : ∀ {ds : List PyData} {vs : List V}, DpAll K H vs ds → ∀ {j : Nat} {v : V} {d : PyData}, Dp K H v d → DpAll K H (vs.set j v) (ds.set j d)
  | [], _, h, _, _, _, _ => by cases h; exact .nil
  | d :: ds, _, h, j, v, d', m => by
    cases h with
    | cons h1 h2 =>
      cases j with
      | zero => exact .cons m h2
      | succ j => exact .cons h1 (dpa_set h2 m)
def Gl (K : PySem.W.Frag) (B H : Hp) (p : Addr) (ds : List PyData) (H' : Hp) : Prop :=
  H p = none ∧ Ex H H' ∧ ∃ G vs, H' p = some (.lst vs) ∧ G p = none ∧ Ex B G ∧ Ex G H' ∧ (∀ a, G a ≠ none → B a ≠ none ∨ H a = none) ∧ DpAll K G vs ds
section
variable {K : PySem.W.Frag} {σ : L2.St} {B H H' : Hp} {ta te : TE} {d : PyData} {D : Ends} {tz : TS} {ds : List PyData} {p : Addr}
theorem Gl.ex (g : Gl K B H p ds H') {H2 : Hp} (e : Ex H' H2) : Gl K B H p ds H2 := by
  obtain ⟨p0, p1, G, vs, p2, p3, p4, p5, p6, p7⟩ := g
  exact ⟨p0, p1.trans e, G, vs, e _ _ p2, p3, p4, p5.trans e, p6, p7⟩
theorem Gl.sub (g : Gl K B H p ds H') : Ex B H' := by
  obtain ⟨p0, p1, G, vs, p2, p3, p4, p5, p6, p7⟩ := g
  exact p4.trans p5
theorem Gl.mk0 {vs : List V} {G H1 : Hp} (n : Nw B H G H1) (h : H p = none) (g : G p = none) (e : H1 p = some (.lst vs)) (a : DpAll K G vs ds) : Gl K B H p ds H1 := ⟨h, n.ex, G, vs, e, g, n.sub, n.up, n.fr, a⟩
theorem Gl.ret {Q : VK} (g : Gl K B H p ds H') (q : RetNL K B H ds Q) : Q (.ref p) H' := by
  obtain ⟨p0, p1, G, vs, p2, p3, p4, p5, p6, p7⟩ := g
  exact q p vs H' G ⟨p1, p4, p5, p6⟩ p0 p3 p2 p7
theorem Gl.known (g : Gl K B H p ds H') : ∃ G, Nw B H G H' ∧ Dp K G (.ref p) (.list ds) := by
  obtain ⟨p0, p1, G, vs, p2, p3, p4, p5, p6, p7⟩ := g
  exact ⟨upd G p (.lst vs), Nw.put ⟨p1, p4, p5, p6⟩ p0 p3 p2, .lst (sq_of upd_same) (dpa_ex (Ex.new p3) _ _ p7)⟩
/-- xs.append(e) -/
theorem s_appG (g : Gl K B H p ds H') (ha : Ev ta σ B (.ref p)) (h : EvG K te σ B d) (hz : ds.length < 100000) (k : ∀ H2, Ex H H2 → Gl K B H p (ds ++ [d]) H2 → D.nx σ H2) : tDrop (tBM K "list" rAppend ta (tCons te tNil)) D σ H' := by
  obtain ⟨p0, p1, G, vs, p2, p3, p4, p5, p6, p7⟩ := g
  refine ha H' (p4.trans p5) _ fun H2 e2 => ⟨Or.inl ⟨rfl, vs, sq_of (e2 p _ p2)⟩, ?_⟩
  refine h.mono p4 H2 (p5.trans e2) _ fun v H3 G' n m => ?_
  have g0 : G' p = none := by
    cases q : G' p with
    | none => rfl
    | some o =>
      rcases n.fr p (by rw [q]; exact fun z => by cases z) with z | z
      · exact absurd p3 z
      · rw [e2 _ _ p2] at z; cases z
  have ee : Ex H H3 := (p1.trans e2).trans n.ex
  refine ⟨p, vs, v, rfl, rfl, n.ex _ _ (e2 _ _ p2), sz_lt (by rw [dpa_len p7]; exact hz), k _ (Ex.mut ee p0) ⟨p0, Ex.mut ee p0, G', vs ++ [v], upd_same, g0, p4.trans n.sub, fun a o q => ?_, fun a q => ?_, dpa_app (dpa_ex n.sub _ _ p7) (dpa_one m)⟩⟩
  · rw [upd_ne (fun z => by rw [z, g0] at q; cases q)]
    exact n.up a o q
  · rcases n.fr a q with z | z
    · exact p6 a z
    · exact .inr (fresh_back (p1.trans e2) z)
theorem ixN_at {n j : Nat} (hj : j < n) : ixN n ((j : Nat) : Int) = some j := Evl.ixN_nat hj
/-- xs[j] = e -/
theorem s_setG {j : Nat} {to ti : TE} (g : Gl K B H p ds H') (ho : Ev to σ B (.ref p)) (hi : Ev ti σ B (.int (j : Nat))) (h : EvG K te σ B d) (hj : j < ds.length) (k : ∀ H2, Ex H H2 → Gl K B H p (ds.set j d) H2 → D.nx σ H2) : tAsg te (gSub to ti rSetL) D σ H' := by
  obtain ⟨p0, p1, G, vs, p2, p3, p4, p5, p6, p7⟩ := g
  refine h.mono p4 H' p5 _ fun v H2 G' n m => ?_
  have b2 : Ex B H2 := p4.trans (p5.trans n.ex)
  refine ho H2 b2 _ fun H3 e3 => hi H3 (b2.trans e3) _ fun H4 e4 => ?_
  have g0 : G' p = none := by
    cases q : G' p with
    | none => rfl
    | some o =>
      rcases n.fr p (by rw [q]; exact fun z => by cases z) with z | z
      · exact absurd p3 z
      · rw [p2] at z; cases z
  have ee : Ex H H4 := ((p1.trans n.ex).trans e3).trans e4
  refine ⟨p, vs, (j : Nat), j, rfl, rfl, e4 _ _ (e3 _ _ (n.ex _ _ p2)), ixN_at (by rw [dpa_len p7]; exact hj), k _ (Ex.mut ee p0) ⟨p0, Ex.mut ee p0, G', vs.set j v, upd_same, g0, p4.trans n.sub, fun a o q => ?_, fun a q => ?_, dpa_set (dpa_ex n.sub _ _ p7) m⟩⟩
  · rw [upd_ne (fun z => by rw [z, g0] at q; cases q)]
    exact e4 _ _ (e3 _ _ (n.up a o q))
  · rcases n.fr a q with z | z
    · exact p6 a z
    · exact .inr (fresh_back p1 z)
/-- xs + ys, both new -/
theorem nl_cat {tb : TE} {ds' : List PyData} (h1 : EvNL K ta σ B ds) (h2 : EvNL K tb σ B ds') (hz : ds.length + ds'.length ≤ 100000) : EvNL K (tOp rCat ta tb) σ B (ds ++ ds') := fun H0 e Q q =>
  h1 H0 e _ fun a vs H2 G n ha ga pa da => by
    have h2' : EvNL K tb σ G ds' := fun H5 e5 Q' q' => by
      refine h2 H5 (n.sub.trans e5) Q' fun b ws H6 G6 n6 hb gb pb db => ?_
      -- what G knows besides
      let J : Hp := fun x => match G x with | some o => some o | none => G6 x
      have jg : Ex G J := fun x o q => by
        show (match G x with | some o => some o | none => G6 x) = some o
        rw [q]
      have jg' : Ex G6 J := fun x o q => by
        show (match G x with | some o => some o | none => G6 x) = some o
        cases q1 : G x with
        | none => exact q
        | some o1 =>
          have z1 := n6.ex x o1 (e5 x o1 q1)
          rw [n6.up x o q] at z1
          exact z1.symm
      have ju : Ex J H6 := fun x o q => by
        have q0 : (match G x with | some o => some o | none => G6 x) = some o := q
        cases q1 : G x with
        | none => rw [q1] at q0; exact n6.up x o q0
        | some o1 => rw [q1] at q0; exact n6.ex x o (e5 x o (by rw [q1]; exact q0))
      refine q' b ws H6 J ⟨n6.ex, jg, ju, fun x hx => ?_⟩ hb ?_ pb (dpa_ex jg' _ _ db)
      · cases q1 : G x with
        | some o1 => exact .inl (fun z => by cases z)
        | none =>
          have : J x = G6 x := by
            show (match G x with | some o => some o | none => G6 x) = G6 x
            rw [q1]
          rw [this] at hx
          rcases n6.fr x hx with z | z
          · exfalso
            cases q2 : B x with
            | none => exact z q2
            | some o2 => rw [n.sub x o2 q2] at q1; cases q1
          · exact .inr z
      · show (match G b with | some o => some o | none => G6 b) = none
        rw [fresh_back e5 hb]
        exact gb
    refine h2' H2 n.up _ fun b ws H3 G' n' hb gb pb db => ?_
    exact ⟨a, b, vs, ws, rfl, rfl, n'.ex _ _ pa, pb, sz_of (by rw [dpa_len da, dpa_len db]; exact hz), fun c hc => q c (vs ++ ws) _ G' ((n.trans n').later (Ex.new hc)) (fresh_back (n.ex.trans n'.ex) hc) (fresh_back n'.up hc) upd_same (dpa_app (dpa_ex n'.sub _ _ da) db)⟩
/-- [x] * n -/
theorem flat_rep {v : V} : ∀ n : Nat, (List.replicate n [v]).flatten = List.replicate n v
  | 0 => rfl
  | n + 1 => by rw [List.replicate_succ, List.flatten_cons, flat_rep n] <;> rfl
theorem dpa_rep {G : Hp} {v : V} (h : Dp K G v d) : ∀ n : Nat, DpAll K G (List.replicate n v) (List.replicate n d)
  | 0 => .nil
  | n + 1 => .cons h (dpa_rep h n)
theorem nl_rep {tb : TE} {n : Nat} (h1 : EvNL K ta σ B [d]) (h2 : Ev tb σ B (.int (n : Nat))) (hz : n ≤ 100000) : EvNL K (tOp rRep ta tb) σ B (List.replicate n d) := fun H0 e Q q =>
  h1 H0 e _ fun a vs H2 G m ha ga pa da => by
    obtain ⟨v, rfl, dv⟩ := dpa1 da
    refine h2 H2 (m.sub.trans m.up) _ fun H3 e3 => ⟨a, (n : Nat), [v], rfl, rfl, e3 _ _ pa, by omega, by omega, sz_of (by show 1 * ((n : Nat) : Int).toNat ≤ 100000; omega), fun c hc => ?_⟩
    rw [Int.toNat_natCast, flat_rep n]
    exact q c _ _ G ((m.later e3).later (Ex.new hc)) (fresh_back (m.ex.trans e3) hc) (fresh_back (m.up.trans e3) hc) upd_same (dpa_rep dv n)
/-- int(a truth) -/
theorem ev_intB {b : Bool} (h : Ev ta σ B (.bl b)) : Ev (tCB (fun xs H Q => (∃ i, xs = [.int i] ∧ Q (.int i) H) ∨ ∃ k, xs = [.bl k] ∧ Q (.int (if k then 1 else 0)) H) (tCons ta tNil)) σ B (.int (if b = true then 1 else 0)) := fun H1 e Q q =>
  h H1 e _ fun H2 e2 => .inr ⟨b, rfl, q H2 e2⟩
end
theorem PW_and2 {σ : L2.St} {B : Hp} {t u : TT} {a b : Bool} (h1 : EvT t σ B a) (h2 : EvT u σ B b) : EvT (tAnd t u) σ B (a && b) := et_and h1 fun _ => h2
def Shp (n : Nat) (d : PyData) : Prop := d.canLay0 = true ∧ d.depth ≤ n
theorem can_all : ∀ {ds : List PyData}, (∀ d ∈ ds, d.canLay0 = true) → PyData.canLayAll0 ds = true
  | [], _ => by simp only [PyData.canLayAll0]
  | d :: ds, h => by
    simp only [PyData.canLayAll0]
    rw [h d List.mem_cons_self, can_all fun x hx => h x (List.mem_cons_of_mem _ hx)]
    rfl
theorem depth_all {n : Nat} : ∀ {ds : List PyData}, (∀ d ∈ ds, d.depth ≤ n) → PyData.depthAll ds ≤ n
  | [], _ => by simp only [PyData.depthAll]; exact Nat.zero_le _
  | d :: ds, h => by
    simp only [PyData.depthAll]
    exact Nat.max_le.mpr ⟨h d List.mem_cons_self, depth_all fun x hx => h x (List.mem_cons_of_mem _ hx)⟩
theorem shp_list {n : Nat} {ds : List PyData} (h : ∀ d ∈ ds, Shp n d) : Shp (n + 1) (.list ds) := by
  refine ⟨?_, ?_⟩
  · simp only [PyData.canLay0]
    exact can_all fun d hd => (h d hd).1
  · simp only [PyData.depth]
    have := depth_all fun d hd => (h d hd).2
    omega
theorem shp_tup {n : Nat} {ds : List PyData} (h : ∀ d ∈ ds, Shp n d) : Shp (n + 1) (.tuple ds) := by
  refine ⟨?_, ?_⟩
  · simp only [PyData.canLay0]
    exact can_all fun d hd => (h d hd).1
  · simp only [PyData.depth]
    have := depth_all fun d hd => (h d hd).2
    omega
theorem shp_int {n : Nat} (i : Int) : Shp n (.int i) := ⟨by simp only [PyData.canLay0], by simp only [PyData.depth]; exact Nat.zero_le _⟩
theorem shp_bl {n : Nat} (i : Bool) : Shp n (.bool i) := ⟨by simp only [PyData.canLay0], by simp only [PyData.depth]; exact Nat.zero_le _⟩
theorem shp_non {n : Nat} : Shp n .none := ⟨by simp only [PyData.canLay0], by simp only [PyData.depth]; exact Nat.zero_le _⟩
theorem shp_str {n : Nat} {s : Str} (h : PyData.canLay0 (.str s) = true) : Shp n (.str s) := ⟨h, by simp only [PyData.depth]; exact Nat.zero_le _⟩
theorem Shp.shaped {n : Nat} {d : PyData} (h : Shp n d) (hn : n ≤ 64) : SeqAt.shaped d = true := by
  unfold SeqAt.shaped
  rw [h.1, decide_eq_true (by have := h.2; omega)]
  rfl
theorem shp_nats {n : Nat} (l : List Nat) : Shp (n + 1) (.list (l.map natD)) := shp_list fun d hd => by
  obtain ⟨h, _, rfl⟩ := List.mem_map.mp hd
  exact shp_int _
theorem shp_rs {n : Nat} (l : Rds) : Shp (n + 1) (.list (l.map dR)) := shp_list fun d hd => by
  obtain ⟨h, _, rfl⟩ := List.mem_map.mp hd
  cases h <;> first | exact shp_non | exact shp_int _
theorem shp_w {n : Nat} (w : Wt) : Shp (n + 2) (dW w) := by
  cases w with
  | none => exact shp_non
  | some p =>
    obtain ⟨b, hs⟩ := p
    refine shp_tup fun d hd => ?_
    rcases List.mem_cons.mp hd with rfl | hd
    · exact shp_str (by cases b <;> decide +kernel)
    · rw [List.mem_singleton.mp hd]
      exact shp_nats hs
theorem shp_ws {n : Nat} (ws : List Wt) : Shp (n + 3) (.list (ws.map dW)) := shp_list fun d hd => by
  obtain ⟨h, _, rfl⟩ := List.mem_map.mp hd
  exact shp_w h
theorem shaped_nats (l : List Nat) : SeqAt.shaped (.list (l.map natD)) = true := (shp_nats (n := 0) l).shaped (by decide)
theorem shaped_rs (l : Rds) : SeqAt.shaped (.list (l.map dR)) = true := (shp_rs (n := 0) l).shaped (by decide)
theorem shaped_ws (l : List Wt) : SeqAt.shaped (.list (l.map dW)) = true := (shp_ws (n := 0) l).shaped (by decide)
theorem eqv_nil (l : List Nat) : PyData.eqv (.list (l.map natD)) (.list []) = l.isEmpty := by
  cases l <;> rfl
mutual
theorem eqv_self : ∀ d : PyData, d.canLay0 = true → PyData.eqv d d = true
  | .none, _ => by simp only [PyData.eqv]
  | .bool b, _ => by simp only [PyData.eqv, beq_self_eq_true]
  | .int i, _ => by simp only [PyData.eqv, beq_self_eq_true]
  | .str x, _ => by simp only [PyData.eqv, beq_self_eq_true]
  | .list ds, h => by
    simp only [PyData.canLay0] at h
    simp only [PyData.eqv]
    exact eqv_selfs ds h
  | .tuple ds, h => by
    simp only [PyData.canLay0] at h
    simp only [PyData.eqv]
    exact eqv_selfs ds h
  | .dict _, h => by simp only [PyData.canLay0] at h; cases h
theorem eqv_selfs : ∀ ds : List PyData, PyData.canLayAll0 ds = true → PyData.eqvAll ds ds = true
  | [], _ => by simp only [PyData.eqvAll]
  | d :: ds, h => by
    simp only [PyData.canLayAll0, Bool.and_eq_true] at h
    simp only [PyData.eqvAll]
    rw [eqv_self d h.1, eqv_selfs ds h.2]
    rfl
end
theorem stuck_le (ws : List Wt) : (stuckL ws).length ≤ ws.length := by
  unfold stuckL
  have := List.length_filter_le (fun h => (rd (plain ws) h).isNone) (List.range ws.length)
  rw [List.length_range] at this
  exact this
def natP (f : Nat → Bool) : PyData → Bool
  | .int i => f i.toNat
  | _ => false
theorem filt_nat (f : Nat → Bool) (hs : List Nat) : ((hs.map natD).filter (natP f)).map (fun d => d) = (hs.filter f).map natD := by
  rw [List.map_id']
  induction hs with
  | nil => rfl
  | cons h r ih =>
    have e : natP f (natD h) = f h := by
      show f ((h : Nat) : Int).toNat = f h
      rw [Int.toNat_natCast]
    rw [List.map_cons, List.filter_cons, List.filter_cons, e, ih]
    split <;> rfl
theorem word_any (b : Bool) : decide (V.str (wordS b) = V.str (Str.ofString "any")) = !b := by
  cases b with
  | false => exact decide_eq_true rfl
  | true => decide +kernel
theorem ints_lt (a b : Nat) : decide (((a : Nat) : Int) < ((b : Nat) : Int)) = decide (a < b) := decide_eq_decide.mpr ⟨fun z => by omega, fun z => by omega⟩
theorem cast_q (num size q : Nat) : ((num : Int) / (q : Int)) % (size : Int) = ((num / q % size : Nat) : Int) := by push_cast; rfl
theorem word_ix (n : Nat) : ([PyData.str (Str.ofString "all"), PyData.str (Str.ofString "any")])[n % 2]? = some (.str (wordS (decide (n % 2 = 0)))) := by
  have : n % 2 = 0 ∨ n % 2 = 1 := by omega
  rcases this with e | e <;> rw [e] <;> rfl
theorem more_cast (num size q c1 c2 k : Nat) : ((((num / q % size : Nat) : Int) + 1) + ((num : Int) / ((c1 : Int) + (c2 : Int) * (k : Int))) % (size : Int)) % (size : Int) = (((num / q % size + 1 + num / (c1 + c2 * k) % size) % size : Nat) : Int) := by push_cast; rfl
theorem contains_cast (l : List Nat) (m : Nat) : (l.map fun h : Nat => (h : Int)).contains ((m : Nat) : Int) = l.contains m := by
  induction l with
  | nil => rfl
  | cons a r ih =>
    rw [List.map_cons, List.contains_cons, List.contains_cons, ih]
    congr 1
    by_cases e : m = a
    · subst e; rw [beq_self_eq_true, beq_self_eq_true]
    · rw [beq_eq_false_iff_ne.mpr e, beq_eq_false_iff_ne.mpr (fun z => e (by omega))]
theorem ints_nat (l : List Nat) : l.map natD = (l.map fun h : Nat => (h : Int)).map PyData.int := by
  rw [List.map_map] <;> rfl
end Sb
namespace Sb
open PySem PySem.Spec PyProof.Rows L2 Evl
/-! ### the text -/
def topS (i : Nat) : Stmt := PySem.Challenge.pw_stuckbell_k02_rounds.main.body.getD i (.Pass ⟨0, 0, 0, 0⟩)
abbrev s_need : Stmt := topS 5
theorem sc_need : FnScope ["waits", "at", "wait"] ["waits"] (defScope s_need) := ⟨rfl, rfl, rfl, by decide +kernel, rfl, by decide +kernel, by decide +kernel⟩
abbrev s_freed : Stmt := topS 6
theorem sc_freed : FnScope ["waits", "rounds", "turn", "ready", "hand", "wait"] ["waits"] (defScope s_freed) := ⟨rfl, rfl, rfl, by decide +kernel, rfl, by decide +kernel, by decide +kernel⟩
abbrev s_stuck : Stmt := topS 7
theorem sc_stuck : FnScope ["waits", "hand", "turn"] ["waits"] (defScope s_stuck) := ⟨rfl, rfl, rfl, by decide +kernel, rfl, by decide +kernel, by decide +kernel⟩
abbrev s_is_below : Stmt := topS 8
theorem sc_is_below : FnScope ["number", "many"] ["number", "many"] (defScope s_is_below) := ⟨rfl, rfl, rfl, by decide +kernel, rfl, by decide +kernel, by decide +kernel⟩
abbrev s_is_wait : Stmt := topS 9
theorem sc_is_wait : FnScope ["wait", "many", "word", "hands"] ["wait", "many"] (defScope s_is_wait) := ⟨rfl, rfl, rfl, by decide +kernel, rfl, by decide +kernel, by decide +kernel⟩
abbrev s_are_waited_for : Stmt := topS 10
theorem sc_are_waited_for : FnScope ["hands", "many", "hand"] ["hands", "many"] (defScope s_are_waited_for) := ⟨rfl, rfl, rfl, by decide +kernel, rfl, by decide +kernel, by decide +kernel⟩
abbrev s_ready_hands : Stmt := topS 11
theorem sc_ready_hands : FnScope ["waits", "rounds", "hand", "wait"] ["waits", "rounds"] (defScope s_ready_hands) := ⟨rfl, rfl, rfl, by decide +kernel, rfl, by decide +kernel, by decide +kernel⟩
abbrev s_is_let_go : Stmt := topS 12
theorem sc_is_let_go : FnScope ["wait", "rounds", "word", "hands", "told", "hand"] ["wait", "rounds"] (defScope s_is_let_go) := ⟨rfl, rfl, rfl, by decide +kernel, rfl, by decide +kernel, by decide +kernel⟩
abbrev s_law_cell_at : Stmt := topS 14
theorem sc_law_cell_at : FnScope ["_law_script", "_law_k"] ["_law_script", "_law_k"] (defScope s_law_cell_at) := ⟨rfl, rfl, rfl, by decide +kernel, rfl, by decide +kernel, by decide +kernel⟩
abbrev s_law_mixed : Stmt := topS 15
theorem sc_law_mixed : FnScope ["_law_script", "_law_k", "_law_salt"] ["_law_script", "_law_k", "_law_salt"] (defScope s_law_mixed) := ⟨rfl, rfl, rfl, by decide +kernel, rfl, by decide +kernel, by decide +kernel⟩
abbrev s_law_wait_by : Stmt := topS 16
theorem sc_law_wait_by : FnScope ["_law_number", "_law_size", "_law_few", "_law_others", "_law_k", "_law_more"] ["_law_number", "_law_size", "_law_few"] (defScope s_law_wait_by) := ⟨rfl, rfl, rfl, by decide +kernel, rfl, by decide +kernel, by decide +kernel⟩
abbrev s_law_waits : Stmt := topS 17
theorem sc_law_waits : FnScope ["_law_script", "_law_cell", "_law_size", "_law_few", "_law_waits_here", "_law_wide", "_law_k"] ["_law_script"] (defScope s_law_waits) := ⟨rfl, rfl, rfl, by decide +kernel, rfl, by decide +kernel, by decide +kernel⟩
abbrev s_law_copy : Stmt := topS 18
theorem sc_law_copy : FnScope ["_law_waits_here", "_law_found", "_law_wait"] ["_law_waits_here"] (defScope s_law_copy) := ⟨rfl, rfl, rfl, by decide +kernel, rfl, by decide +kernel, by decide +kernel⟩
abbrev s_law_due : Stmt := topS 19
theorem sc_law_due : FnScope ["_law_wait", "_law_rounds", "_law_come", "_law_one"] ["_law_wait", "_law_rounds"] (defScope s_law_due) := ⟨rfl, rfl, rfl, by decide +kernel, rfl, by decide +kernel, by decide +kernel⟩
abbrev s_law_plain : Stmt := topS 20
theorem sc_law_plain : FnScope ["_law_waits_here", "_law_rounds", "_law_turn", "_law_due_here", "_law_wait", "_law_one"] ["_law_waits_here"] (defScope s_law_plain) := ⟨rfl, rfl, rfl, by decide +kernel, rfl, by decide +kernel, by decide +kernel⟩
abbrev s_law : Stmt := topS 21
theorem sc_law : FnScope ["_law_script", "_law_waits_here", "_law_handed", "_law_rounds", "_law_one", "_law_found", "_law_hand"] ["_law_script"] (defScope s_law) := ⟨rfl, rfl, rfl, by decide +kernel, rfl, by decide +kernel, by decide +kernel⟩
structure Bn (K : PySem.W.Frag) (mg : Str → Option Value) (tk : Nat) : Prop where
  g_MOST_HANDS : mg "MOST_HANDS" = some (.int 40 tk)
  m_all : mg "all" = none
  m_any : mg "any" = none
  m_bool : mg "bool" = none
  m_enumerate : mg "enumerate" = none
  m_int : mg "int" = none
  m_isinstance : mg "isinstance" = none
  m_len : mg "len" = none
  m_list : mg "list" = none
  m_max : mg "max" = none
  m_min : mg "min" = none
  m_range : mg "range" = none
  m_set : mg "set" = none
  m_str : mg "str" = none
  m_tuple : mg "tuple" = none
  m_type : mg "type" = none
section
variable {P : Program} {w : World} {K : PySem.W.Frag} {mg : Str → Option Value} {base : Heap} {tk : Nat}
end
end Sb
namespace Sb
open PySem PySem.Spec PyProof.Rows L2 Evl
/-! ### what the law's defs make -/
def sp_law_cell_at (K : PySem.W.Frag) : Sp := spD K R_law_cell_at
def sp_law_mixed (K : PySem.W.Frag) : Sp := spD K (R_mixed 48271 7919 999983)
def wait2 (num size few : Nat) : Wt := waitG num size (decide (num % (if few = 0 then 5 else 9) = 0)) 45 (num / 9 % 3) 900 97 (decide (num / 3 % 2 = 0))
def R_law_wait_by (ds : List PyData) (d : PyData) : Prop := ∃ num size few : Nat, ds = [.int (num : Nat), .int (size : Nat), .int (few : Nat)] ∧ 0 < size ∧ size ≤ 40 ∧ few < 2 ∧ d = dW (wait2 num size few)
def sp_law_wait_by (K : PySem.W.Frag) : Sp := spD K R_law_wait_by
/-! ### the waits of a script -/
def few2 (ns : List Int) : Nat := if cellZ ns 1 % 3 = 0 then 1 else 0
def size2 (ns : List Int) : Nat := sizeN (cellZ ns 0) 7 28 7
def wide2 (ns : List Int) : Int := cellZ ns 1 / 3
def rowN (size : Nat) (w : Int) : List Nat := (List.range size).map fun k : Nat => (((size : Int) + w / 4 - (k : Int)) % (size : Int)).toNat
def base2 (ns : List Int) : List Wt := (List.range (size2 ns)).map fun k => wait2 (mixN 48271 7919 999983 ns (2 + k % 40) (k : Nat)) (size2 ns) (few2 ns)
def mid2 (ns : List Int) : List Wt := if wide2 ns % 4 = 1 then (base2 ns).set (wide2 ns / 4 % (size2 ns : Int)).toNat (some (decide (wide2 ns / 4 % 2 = 0), rowN (size2 ns) (wide2 ns))) else base2 ns
def chainW (n : Nat) : List Wt := ((List.range (n - 1)).map fun k => some (false, [k + 1])) ++ [none]
def ws2 (ns : List Int) : List Wt := if wide2 ns % 8 = 2 then chainW (size2 ns) else mid2 ns
theorem size2_pos (ns : List Int) : 1 ≤ size2 ns ∧ size2 ns ≤ 40 := by
  unfold size2 sizeN
  split <;> omega
theorem base2_len (ns : List Int) : (base2 ns).length = size2 ns := by
  unfold base2
  rw [List.length_map, List.length_range]
theorem mid2_len (ns : List Int) : (mid2 ns).length = size2 ns := by
  unfold mid2
  split
  · rw [List.length_set, base2_len]
  · exact base2_len ns
theorem chainW_len {n : Nat} (h : 1 ≤ n) : (chainW n).length = n := by
  unfold chainW
  rw [List.length_append, List.length_map, List.length_range]
  show n - 1 + 1 = n
  omega
theorem ws2_len (ns : List Int) : (ws2 ns).length = size2 ns := by
  unfold ws2
  split
  · exact chainW_len (size2_pos ns).1
  · exact mid2_len ns
theorem rowN_lt {size : Nat} {w : Int} (hs : 0 < size) : ∀ h ∈ rowN size w, h < size := by
  intro h hh
  obtain ⟨k, _, rfl⟩ := List.mem_map.mp hh
  have h1 := Int.emod_nonneg ((size : Int) + w / 4 - (k : Int)) (show (size : Int) ≠ 0 by omega)
  have h2 := Int.emod_lt_of_pos ((size : Int) + w / 4 - (k : Int)) (show (0 : Int) < size by omega)
  omega
theorem rowN_nodup {size : Nat} {w : Int} (hs : 0 < size) : (rowN size w).Nodup := by
  unfold rowN
  rw [List.Nodup, List.pairwise_map]
  have base : (List.range size).Pairwise fun a b => a < b := List.pairwise_lt_range
  refine List.Pairwise.imp_of_mem ?_ base
  intro a b ha hb hab e
  have ha := List.mem_range.mp ha
  have hb := List.mem_range.mp hb
  have p1 := Int.emod_nonneg ((size : Int) + w / 4 - (a : Int)) (show (size : Int) ≠ 0 by omega)
  have p2 := Int.emod_nonneg ((size : Int) + w / 4 - (b : Int)) (show (size : Int) ≠ 0 by omega)
  have e1 : ((size : Int) + w / 4 - (a : Int)) % (size : Int) = ((size : Int) + w / 4 - (b : Int)) % (size : Int) := by omega
  have e2 := Int.emod_emod_of_dvd
  have e3 : (((size : Int) + w / 4 - (a : Int)) - ((size : Int) + w / 4 - (b : Int))) % (size : Int) = 0 := Int.emod_eq_emod_iff_emod_sub_eq_zero.mp e1
  have e4 : ((size : Int) + w / 4 - (a : Int)) - ((size : Int) + w / 4 - (b : Int)) = (b : Int) - (a : Int) := by omega
  rw [e4, Int.emod_eq_of_lt (by omega) (by omega)] at e3
  omega
theorem base2_good (ns : List Int) : ∀ w ∈ base2 ns, GoodW (size2 ns) w := by
  intro w hw
  obtain ⟨k, _, rfl⟩ := List.mem_map.mp hw
  exact goodW_waitG (size2_pos ns).1
theorem good2 (ns : List Int) : Good (ws2 ns) := by
  intro w hw
  rw [ws2_len]
  have hs := size2_pos ns
  unfold ws2 at hw
  split at hw
  · unfold chainW at hw
    rcases List.mem_append.mp hw with hw | hw
    · obtain ⟨k, hk, rfl⟩ := List.mem_map.mp hw
      have hk := List.mem_range.mp hk
      intro b l e
      cases e
      refine ⟨List.cons_ne_nil _ _, by simp, fun h hh => ?_⟩
      have : h = k + 1 := by simpa using hh
      omega
    · rw [List.mem_singleton.mp hw]
      intro b l e
      cases e
  · unfold mid2 at hw
    split at hw
    · rcases List.mem_or_eq_of_mem_set hw with hw | rfl
      · exact base2_good ns w hw
      · intro b l e
        cases e
        refine ⟨?_, rowN_nodup hs.1, rowN_lt hs.1⟩
        intro z
        have : (rowN (size2 ns) (wide2 ns)).length = 0 := by rw [z] <;> rfl
        unfold rowN at this
        rw [List.length_map, List.length_range] at this
        omega
    · exact base2_good ns w hw
def R_law_waits (ds : List PyData) (d : PyData) : Prop := ∃ ns : List Int, ds = [.list (ns.map .int)] ∧ d = .list ((ws2 ns).map dW)
def sp_law_waits (K : PySem.W.Frag) : Sp := spD K R_law_waits
def R_law_copy (ds : List PyData) (d : PyData) : Prop := ∃ ws : List Wt, ds = [.list (ws.map dW)] ∧ ws.length ≤ 40 ∧ d = .list (ws.map dW)
def sp_law_copy (K : PySem.W.Frag) : Sp := spD K R_law_copy
def R_law_due (ds : List PyData) (d : PyData) : Prop := ∃ w rs, ds = [dW w, .list (rs.map dR)] ∧ GoodW rs.length w ∧ rs.length ≤ 40 ∧ d = dR (due w rs)
def sp_law_due (K : PySem.W.Frag) : Sp := spD K R_law_due
def R_law_plain (ds : List PyData) (d : PyData) : Prop := ∃ ws : List Wt, ds = [.list (ws.map dW)] ∧ Good ws ∧ ws.length ≤ 40 ∧ d = .list ((plain ws).map dR)
def sp_law_plain (K : PySem.W.Frag) : Sp := spD K R_law_plain
def R_law (ds : List PyData) (d : PyData) : Prop := ∃ ns : List Int, ds = [.list (ns.map .int)] ∧ d = .bool true
def sp_law (K : PySem.W.Frag) : Sp := spD K R_law
end Sb
namespace Sb
open PySem PySem.Spec PyProof.Rows L2 Evl
section
variable {P : Program} {w : World} {K : PySem.W.Frag} {mg : Str → Option Value} {base : Heap} {tk : Nat}
theorem ok_is_below {f : Addr} {fd : FuncData} (F : L2.Fun K "is_below" "is_below" s_is_below f fd) (B : Bn K mg tk) : FnOk P w K mg base CX0 1 f fd ["number", "many"] (sp_is_below K) := by
  refine F.ok (k := 0) sc_is_below (fun vs H Q E h => ?_) (fun cdv A outer s H vs Q E hr h => ?_)
  · exact spD_len (n := 2) (fun ds d ⟨x, n, e, _⟩ => by rw [e] <;> rfl) h
  · obtain ⟨B0, ds, d, eB, a, ⟨x, n, rfl, rfl⟩, q⟩ := h
    obtain ⟨v, w, rfl, a1, a2⟩ := dpa2 a
    obtain rfl := dp_int a2
    refine ⟨_, (pss_one (ps_ret (pe_and (pe_cmpR op_isTyB (pe_callTy (typeK (K := K) rfl) (by rfl) B.m_type boot_type (pa_cons (pv 0) pa_nil)) (pe_bltn (v := .ty "int") (by rfl) B.m_int boot_int rfl) (nomark _)) (pe_one (pe_chain op_le op_lt pe_int (pv 0) (pv 1)))))), ?_⟩
    by_cases hI : ∃ i, x = .int i
    · obtain ⟨i, rfl⟩ := hI
      obtain rfl := dp_int a1
      exact s_retG (K := K) (eg_bl (ev_is (ev_andV (ev_tyI (eg_var rfl a1)) fun _ => ev_chain ev_c (ev_var rfl) rv_I0 (fun _ => ev_var rfl) fun _ => rv_I0) rfl)) eB q
    · have z : isHandD n x = false := by
        cases x <;> first | rfl | (exact (hI ⟨_, rfl⟩).elim)
      have z1 : (tagD x == "int") = false := by
        cases x <;> first | rfl | (exact (hI ⟨_, rfl⟩).elim)
      rw [z] at q
      exact s_retG (K := K) (eg_bl (ev_is (ev_andV (a := tagD x == "int") (b := false) (ev_tyI (eg_var rfl a1)) fun hb => by rw [z1] at hb; cases hb) (by rw [z1] <;> rfl))) eB q
end
end Sb
namespace Sb
open PySem PySem.Spec PyProof.Rows L2 Evl
theorem all_hands {n : Int} {ds : List PyData} (h : ds.all (isHandD n) = true) : ds = (intsOf ds).map PyData.int := by
  unfold intsOf
  rw [List.map_map]
  conv => lhs; rw [← List.map_id ds]
  refine List.map_congr_left fun d hd => ?_
  have z := List.all_eq_true.mp h d hd
  cases d <;> first | rfl | cases z
theorem map_bool (f : PyData → Bool) (ds : List PyData) : ds.map (fun d => PyData.bool (f d)) = (ds.map f).map PyData.bool := by
  rw [List.map_map] <;> rfl
section
variable {P : Program} {w : World} {K : PySem.W.Frag} {mg : Str → Option Value} {base : Heap} {tk : Nat}
theorem ok_are_waited_for {f : Addr} {fd : FuncData} (F : L2.Fun K "are_waited_for" "are_waited_for" s_are_waited_for f fd) (B : Bn K mg tk) (c_is_below : C8.Cal P w K mg base 1 "is_below" (sp_is_below K) []) : FnOk P w K mg base CX0 2 f fd ["hands", "many"] (sp_are_waited_for K) := by
  refine F.ok (k := 1) sc_are_waited_for (fun vs H Q E h => ?_) (fun cdv A outer s H vs Q E hr h => ?_)
  · exact spD_len (n := 2) (fun ds d ⟨x, n, e, _⟩ => by rw [e] <;> rfl) h
  · obtain ⟨B0, ds, d, eB, a, ⟨x, n, rfl, hx, rfl⟩, q⟩ := h
    obtain ⟨v, w', rfl, a1, a2⟩ := dpa2 a
    obtain rfl := dp_int a2
    refine ⟨_, (pss_cons (ps_if (PW.pt (pw_or (pt_cmpR op_notTyB (pe_callTy (typeK (K := K) rfl) (by rfl) B.m_type boot_type (pa_cons (pv 0) pa_nil)) (pe_bltn (v := .ty "list") (by rfl) B.m_list boot_list rfl) (nomark _)) (pw_or1 (pt_not (pt_truthK (K := K) rfl (pv 0)))))) 
        (pss_one (ps_ret pe_bl)) pss_nil)
      (pss_cons (ps_if (pt_not (pt_val (pe_callB (allK (K := K) rfl rfl) (by rfl) B.m_all (by decide +kernel) (pa_cons (pe_lc (own := [("hand", 2)]) (by rfl) sc_are_waited_for.nd (pi_listK (K := K) rfl (pv 0)) (blkOk_by (own := [("hand", 2)]) (N := ["hands", "many", "hand"]) (sc := defScope s_are_waited_for) (by decide +kernel)) (fun _ _ _ _ _ => by exact (pg_name (i := 2) sc_are_waited_for.nd rfl (Or.inl rfl))) (fun _ _ _ _ _ => by exact pts_nil) (fun _ _ _ _ _ => by exact (C8.pe_c c_is_below hr (by decide) (by rfl) (pa_cons (pv 2) (pa_cons (pv 1) pa_nil))))) pa_nil)))) 
        (pss_one (ps_ret pe_bl)) pss_nil)
      (pss_one (ps_ret (pe_cmpR op_eq (pe_lenSetK (K := K) rfl (by rfl) B.m_len (by rfl) B.m_set (pv 0)) (pe_callB (lenK (K := K) rfl) (by rfl) B.m_len PySem.boot_len (pa_cons (pv 0) pa_nil)) (nomark _)))))), ?_⟩
    by_cases hL : ∃ xs, x = .list xs
    case' neg =>
      have z : tagD x = "list" → False := by
        cases x <;> first | (intro z; exact hL ⟨_, rfl⟩) | (intro z; revert z; simp [tagD])
      have z1 : (tagD x == "list") = false := by simpa using z
      have z2 : areD n x = false := by
        cases x <;> first | rfl | (exact (hL ⟨_, rfl⟩).elim)
      refine q_when (b := true) (EvT.mono eB (et_is (et_or (b := true) (et_test (ev_tyN (eg_var rfl a1))) fun hb => ?_) ?_)) (fun hb H1 e1 => s_ret ev_c fun H2 e2 => q.val eB (e1.trans e2) ?_) (fun hb => by cases hb)
      · rw [z1] at hb; cases hb
      · rw [z1]; rfl
      · rw [z2]; exact .bl false
    obtain ⟨xs, rfl⟩ := hL
    have hz := hx xs rfl
    refine q_when (EvT.mono eB (et_or (et_test (ev_tyN (eg_var rfl a1))) fun _ => et_not (et_truL (eg_var rfl a1)))) (fun hb H1 e1 => s_ret ev_c fun H2 e2 => q.val eB (e1.trans e2) ?_) (fun hb H1 e1 => ?_)
    · cases xs with
      | nil => exact .bl false
      | cons => simp [tagD] at hb
    · have hne : xs.isEmpty = false := by simpa [tagD] using hb
      have L : EvG K (tLc (iList K (tVar 0)) (gName 2) tYes (tCall (sp_is_below K) [] E0 (tCons (tVar 2) (tCons (tVar 1) tNil))) [2]) (start ["hands", "many", "hand"] [v, .int n]) B0 (.list (xs.map fun d => .bool (isHandD n d))) :=
        (nl_lcM _ (eg_var rfl a1) (by omega) (fun _ => rfl) fun x d B' e' hd p => eg_call (ega_cons (eg_var rfl p) (ega_cons (eg_int (ev_var rfl)) ega_nil)) ⟨d, n, rfl, rfl⟩).eg
      rw [map_bool] at L
      refine q_when (EvT.mono (eB.trans e1) (et_not (et_B (ev_all' L)))) (fun hb2 H2 e2 => s_ret ev_c fun H3 e3 => q.val eB (e1.trans (e2.trans e3)) ?_) (fun hb2 H2 e2 => ?_)
      · have z : areD n (.list xs) = false := by
          have z1 : xs.all (isHandD n) = false := by simpa [List.all_map] using hb2
          show (!xs.isEmpty && (xs.all (isHandD n) && _)) = false
          rw [z1, hne] <;> rfl
        rw [z]
        exact .bl false
      · have z1 : xs.all (isHandD n) = true := by simpa [List.all_map] using hb2
        have e4 := all_hands z1
        have a1' : Dp K B0 v (.list ((intsOf xs).map PyData.int)) := by rw [← e4]; exact a1
        have hl : (intsOf xs).length = xs.length := by unfold intsOf; rw [List.length_map]
        refine s_ret (Ev.mono (eB.trans (e1.trans e2)) (ev_op (ev_lenSet (eg_var rfl a1') (by omega)) (ev_lenG (eg_var rfl a1)) (rv_eq rfl))) fun H3 e3 => q.val eB (e1.trans (e2.trans e3)) ?_
        have z : areD n (.list xs) = decide (V.int ((dedupL (intsOf xs)).length : Nat) = V.int (xs.length : Nat)) := by
          show (!xs.isEmpty && (xs.all (isHandD n) && decide (((dedupL (intsOf xs)).length : Int) = (xs.length : Int)))) = _
          rw [z1, hne]
          simp
        rw [z]
        exact .bl _
end
end Sb
namespace Sb
open PySem PySem.Spec PyProof.Rows L2 Evl
theorem isWait_tup {n : Int} {ds : List PyData} (h : ds.length ≠ 2) : isWaitD n (.tuple ds) = false := by
  match ds, h with
  | [], _ => rfl
  | [a], _ => cases a <;> rfl
  | [_, _], h => exact absurd rfl h
  | _ :: _ :: _ :: _, _ => unfold isWaitD; simp
theorem isWait_str {n : Int} {a b : PyData} (h : tagD a ≠ "str") : isWaitD n (.tuple [a, b]) = false := by
  cases a <;> first | rfl | exact absurd rfl h
section
variable {P : Program} {w : World} {K : PySem.W.Frag} {mg : Str → Option Value} {base : Heap} {tk : Nat}
theorem ok_is_wait {f : Addr} {fd : FuncData} (F : L2.Fun K "is_wait" "is_wait" s_is_wait f fd) (B : Bn K mg tk) (c_are_waited_for : C8.Cal P w K mg base 2 "are_waited_for" (sp_are_waited_for K) []) : FnOk P w K mg base CX0 3 f fd ["wait", "many"] (sp_is_wait K) := by
  refine F.ok (k := 2) sc_is_wait (fun vs H Q E h => ?_) (fun cdv A outer s H vs Q E hr h => ?_)
  · exact spD_len (n := 2) (fun ds d ⟨x, n, e, _⟩ => by rw [e] <;> rfl) h
  · obtain ⟨B0, ds, d, eB, a, ⟨x, n, rfl, hx, rfl⟩, q⟩ := h
    obtain ⟨v, w', rfl, a1, a2⟩ := dpa2 a
    obtain rfl := dp_int a2
    refine ⟨_, (pss_cons (ps_if (pt_cmpR op_isN (pv 0) pe_non (nomark _)) 
        (pss_one (ps_ret pe_bl)) pss_nil)
      (pss_cons (ps_if (PW.pt (pw_or (pt_cmpR op_notTyB (pe_callTy (typeK (K := K) rfl) (by rfl) B.m_type boot_type (pa_cons (pv 0) pa_nil)) (pe_bltn (v := .ty "tuple") (by rfl) B.m_tuple boot_tuple rfl) (nomark _)) (pw_or1 (pt_cmpR op_ne (pe_callB (lenK (K := K) rfl) (by rfl) B.m_len PySem.boot_len (pa_cons (pv 0) pa_nil)) pe_int (nomark _))))) 
        (pss_one (ps_ret pe_bl)) pss_nil)
      (pss_cons (ps_asg (pv 0) (pg_tupK (K := K) (n := 2) rfl (by rfl) (pgs_cons (pg_name (i := 2) sc_is_wait.nd rfl (Or.inl rfl)) (pgs_cons (pg_name (i := 3) sc_is_wait.nd rfl (Or.inl rfl)) pgs_nil))))
      (pss_cons (ps_if (PW.pt (pw_or (pt_cmpR op_notTyB (pe_callTy (typeK (K := K) rfl) (by rfl) B.m_type boot_type (pa_cons (pv 2) pa_nil)) (pe_bltn (v := .ty "str") (by rfl) B.m_str boot_str rfl) (nomark _)) (pw_or1 (pt_cmpR (notInK (K := K) rfl) (pv 2) (pe_tup (pa_cons pe_str (pa_cons pe_str pa_nil))) (by rfl))))) 
        (pss_one (ps_ret pe_bl)) pss_nil)
      (pss_one (ps_ret (C8.pe_c c_are_waited_for hr (by decide) (by rfl) (pa_cons (pv 3) (pa_cons (pv 1) pa_nil))))))))), ?_⟩
    refine q_when (EvT.mono eB (et_test (ev_isN (eg_var rfl a1)))) (fun hb H1 e1 => s_ret ev_c fun H2 e2 => q.val eB (e1.trans e2) ?_) (fun hb H1 e1 => ?_)
    · cases x <;> first | exact .bl true | cases hb
    by_cases hL : ∃ ds, x = .tuple ds
    case' neg =>
      have z : tagD x = "tuple" → False := by
        cases x <;> first | (intro z; exact hL ⟨_, rfl⟩) | (intro z; revert z; simp [tagD])
      have z1 : (tagD x == "tuple") = false := by simpa using z
      have z2 : isWaitD n x = false := by
        cases x <;> first | rfl | (exact (hL ⟨_, rfl⟩).elim) | cases hb
      refine q_when (b := true) (EvT.mono (eB.trans e1) (et_is (et_or (b := true) (et_test (ev_tyN (eg_var rfl a1))) fun hb => ?_) ?_)) (fun hb H2 e2 => s_ret ev_c fun H3 e3 => q.val eB (e1.trans (e2.trans e3)) ?_) (fun hb => by cases hb)
      · rw [z1] at hb; cases hb
      · rw [z1]; rfl
      · rw [z2]; exact .bl false
    obtain ⟨ds, rfl⟩ := hL
    refine q_when (EvT.mono (eB.trans e1) (et_or (et_test (ev_tyN (eg_var rfl a1))) fun _ => et_test (ev_op (ev_lenT (eg_var rfl a1)) ev_c (rv_ne rfl)))) (fun hb2 H2 e2 => s_ret ev_c fun H3 e3 => q.val eB (e1.trans (e2.trans e3)) ?_) (fun hb2 H2 e2 => ?_)
    · have z : ds.length ≠ 2 := fun z => by
        rw [z] at hb2
        simp [tagD] at hb2
      rw [isWait_tup z]
      exact .bl false
    · have z : ds.length = 2 := by
        have z1 : V.int (ds.length : Nat) = V.int 2 := by simpa [tagD] using hb2
        have z2 : ((ds.length : Nat) : Int) = 2 := V.int.inj z1
        omega
      obtain ⟨x1, x2, rfl⟩ : ∃ x1 x2, ds = [x1, x2] := by
        match ds, z with
        | [a, b], _ => exact ⟨a, b, rfl⟩
      refine q_pair (eg_var rfl a1) (eB.trans (e1.trans e2)) fun v1 v2 H3 G n3 p1 p2 => ?_
      have q3 := (q.at (e1.trans e2)).sub n3
      by_cases hS : ∃ s, x1 = .str s
      case' neg =>
        have z3 : tagD x1 ≠ "str" := by
          cases x1 <;> first | (intro z; exact hS ⟨_, rfl⟩) | (intro z; revert z; simp [tagD])
        have z1 : (tagD x1 == "str") = false := by simpa using z3
        refine q_when (b := true) (EvT.mono n3.up (et_is (et_or (b := true) (et_test (ev_tyN (eg_var rfl p1))) fun hb => ?_) ?_)) (fun hb H2 e2 => s_ret ev_c fun H3 e3 => q3.val n3.up (e2.trans e3) ?_) (fun hb => by cases hb)
        · rw [z1] at hb; cases hb
        · rw [z1]; rfl
        · rw [isWait_str z3]; exact .bl false
      obtain ⟨s, rfl⟩ := hS
      obtain rfl := dp_str p1
      refine q_when (EvT.mono n3.up (et_or (et_test (ev_tyN (eg_var rfl p1))) fun _ => et_test (ev_notIn2 (ev_var rfl)))) (fun hb3 H4 e4 => s_ret ev_c fun H5 e5 => q3.val n3.up (e4.trans e5) ?_) (fun hb3 H4 e4 => ?_)
      · have z : (decide (s = Str.ofString "all") || decide (s = Str.ofString "any")) = false := by
          generalize (decide (s = Str.ofString "all") || decide (s = Str.ofString "any")) = b at hb3 ⊢
          revert hb3
          cases b <;> simp [tagD]
        have z2 : isWaitD n (.tuple [.str s, x2]) = false := by
          show ((decide (s = Str.ofString "all") || decide (s = Str.ofString "any")) && areD n x2) = false
          rw [z] <;> rfl
        rw [z2]
        exact .bl false
      · have z : (decide (s = Str.ofString "all") || decide (s = Str.ofString "any")) = true := by
          generalize (decide (s = Str.ofString "all") || decide (s = Str.ofString "any")) = b at hb3 ⊢
          revert hb3
          cases b <;> simp [tagD]
        have z2 : isWaitD n (.tuple [.str s, x2]) = areD n x2 := by
          show ((decide (s = Str.ofString "all") || decide (s = Str.ofString "any")) && areD n x2) = _
          rw [z] <;> rfl
        rw [z2] at q3
        exact eg_call (ega_cons (eg_var rfl p2) (ega_cons (eg_int (ev_var rfl)) ega_nil)) ⟨x2, n, rfl, fun xs e => hx (.str s) xs (by rw [e]), rfl⟩ H4 (n3.up.trans e4) _ (q3.at e4)
end
end Sb
namespace Sb
open PySem PySem.Spec PyProof.Rows L2 Evl
section
variable {P : Program} {w : World} {K : PySem.W.Frag} {mg : Str → Option Value} {base : Heap} {tk : Nat}
theorem ok_need {f : Addr} {fd : FuncData} (F : L2.Fun K "need" "need" s_need f fd) (B : Bn K mg tk) (c_is_wait : C8.Cal P w K mg base 3 "is_wait" (sp_is_wait K) []) : FnOk P w K mg base CX0 4 f fd ["waits"] (sp_need K) := by
  refine F.ok (k := 3) sc_need (fun vs H Q E h => ?_) (fun cdv A outer s H vs Q E hr h => ?_)
  · exact spD_len (n := 1) (fun ds d ⟨x, e, _⟩ => by rw [e] <;> rfl) h
  · obtain ⟨B0, ds, d, eB, a, ⟨xs, rfl, hl1, hl2, hx, rfl⟩, q⟩ := h
    obtain ⟨v, rfl, a1⟩ := dpa1 a
    refine ⟨_, (pss_cons (ps_if (PW.pt (pw_or (pt_cmpR op_notTyB (pe_callTy (typeK (K := K) rfl) (by rfl) B.m_type boot_type (pa_cons (pv 0) pa_nil)) (pe_bltn (v := .ty "list") (by rfl) B.m_list boot_list rfl) (nomark _)) (pw_or1 (pt_not (pt_chain op_le op_le pe_int (pe_callB (lenK (K := K) rfl) (by rfl) B.m_len PySem.boot_len (pa_cons (pv 0) pa_nil)) (pe_glob (v := .int 40) rfl B.g_MOST_HANDS ⟨_, rfl⟩)))))) 
        (pss_one ps_never) pss_nil)
      (pss_cons (ps_for PassesOwn.never rfl (pi_enumK (K := K) rfl (by rfl) B.m_enumerate (pa_cons (pv 0) pa_nil)) (pg_tupK (K := K) (n := 2) rfl (by rfl) (pgs_cons (pg_name (i := 1) sc_need.nd rfl (Or.inl rfl)) (pgs_cons (pg_name (i := 2) sc_need.nd rfl (Or.inl rfl)) pgs_nil))) 
        (pss_one (ps_if (pt_not (pt_val (C8.pe_c c_is_wait hr (by decide) (by rfl) (pa_cons (pv 2) (pa_cons (pe_callB (lenK (K := K) rfl) (by rfl) B.m_len PySem.boot_len (pa_cons (pv 0) pa_nil)) pa_nil))))) 
          (pss_one ps_never) pss_nil)))
      (pss_one (ps_ret pe_bl)))), ?_⟩
    refine q_when (b := false) (EvT.mono eB (et_is (et_or (et_test (ev_tyN (eg_var rfl a1))) fun _ => et_not (et_test (ev_chain ev_c (ev_lenG (eg_var rfl a1)) rv_I0 (fun _ => ev_c) fun _ => rv_I0))) ?_)) (fun hb => by cases hb) (fun hb H1 e1 => ?_)
    · have z1 : decide ((1 : Int) ≤ (xs.length : Nat)) = true := decide_eq_true (by omega)
      have z2 : decide (((xs.length : Nat) : Int) ≤ 40) = true := decide_eq_true (by omega)
      rw [z1, z2]
      rfl
    refine q_forE (ev_var rfl) a1 (eB.trans e1) (fun _ σ' H' => Ex H H' ∧ ∃ x y, σ' = [some v, x, y]) (fun H2 e2 => ⟨e1.trans e2, _, _, rfl⟩) (fun _ _ _ _ p => eB.trans p.1) (fun k x d σ' H' T hd pd p hT => ?_) (fun σ' H' p => ?_)
    · obtain ⟨e2, x1, x2, rfl⟩ := p
      obtain ⟨h1, h2⟩ := hx d (List.mem_of_getElem? hd)
      refine s_when (b := false) (EvT.mono (eB.trans (e2.trans (Ex.new hT))) (et_is (et_not (et_B (ev_gbl (eg_call (d := .bool (isWaitD xs.length d)) (ega_cons (eg_var rfl pd) (ega_cons (eg_int (ev_lenG (eg_var rfl a1))) ega_nil)) ⟨d, _, rfl, h2, rfl⟩)))) ?_)) (fun hb => by cases hb) (fun _ H3 e3 => ⟨e2.trans ((Ex.new hT).trans e3), _, _, rfl⟩)
      rw [h1] <;> rfl
    · obtain ⟨e2, x1, x2, rfl⟩ := p
      exact s_ret ev_c fun H3 e3 => q.val eB (e2.trans e3) (.bl true)
end
end Sb
namespace Sb
open PySem PySem.Spec PyProof.Rows L2 Evl
theorem word_all (b : Bool) : decide (V.str (wordS b) = V.str (Str.ofString "all")) = b := by
  cases b with
  | true => exact decide_eq_true rfl
  | false => decide +kernel
theorem map_bools (f : Nat → Bool) (hs : List Nat) : hs.map (fun h => PyData.bool (f h)) = (hs.map f).map PyData.bool := by
  rw [List.map_map] <;> rfl
section
variable {P : Program} {w : World} {K : PySem.W.Frag} {mg : Str → Option Value} {base : Heap} {tk : Nat}
theorem ok_is_let_go {f : Addr} {fd : FuncData} (F : L2.Fun K "is_let_go" "is_let_go" s_is_let_go f fd) (B : Bn K mg tk) : FnOk P w K mg base CX0 1 f fd ["wait", "rounds"] (sp_is_let_go K) := by
  refine F.ok (k := 0) sc_is_let_go (fun vs H Q E h => ?_) (fun cdv A outer s H vs Q E hr h => ?_)
  · exact spD_len (n := 2) (fun ds d ⟨b, hs, rs, e, _⟩ => by rw [e] <;> rfl) h
  · obtain ⟨B0, ds, d, eB, a, ⟨b, hs, rs, rfl, hlt, hfew, rfl⟩, q⟩ := h
    obtain ⟨v, w', rfl, a1, a2⟩ := dpa2 a
    refine ⟨_, (pss_cons (ps_asg (pv 0) (pg_tupK (K := K) (n := 2) rfl (by rfl) (pgs_cons (pg_name (i := 2) sc_is_let_go.nd rfl (Or.inl rfl)) (pgs_cons (pg_name (i := 3) sc_is_let_go.nd rfl (Or.inl rfl)) pgs_nil))))
      (pss_cons (ps_setLc (i := 4) (own := [("hand", 5)]) (by rfl) sc_is_let_go.nd rfl rfl (sw_true rfl rfl rfl (by decide +kernel)) (pi_listK (K := K) rfl (pv 3)) (blkOk_by (own := [("hand", 5)]) (N := ["wait", "rounds", "word", "hands", "told", "hand"]) (sc := defScope s_is_let_go) (by decide +kernel)) (fun _ _ _ _ _ => by exact (pg_name (i := 5) sc_is_let_go.nd rfl (Or.inl rfl))) (fun _ _ _ _ _ => by exact pts_nil) (fun _ _ _ _ _ => by exact (pe_cmpR op_notN (pe_ix (ix_listK (K := K) rfl) (pv 1) (pv 5) (fun _ _ => rfl)) pe_non (nomark _))))
      (pss_cons (ps_if (pt_cmpR op_eq (pv 2) pe_str (nomark _)) 
        (pss_one (ps_ret (pe_callB (allK (K := K) rfl rfl) (by rfl) B.m_all (by decide +kernel) (pa_cons (pv 4) pa_nil)))) pss_nil)
      (pss_one (ps_ret (pe_callB (anyK (K := K) rfl rfl) (by rfl) B.m_any (by decide +kernel) (pa_cons (pv 4) pa_nil))))))), ?_⟩
    refine q_pair (eg_var rfl a1) eB fun v1 v2 H1 G n1 p1 p2 => ?_
    obtain rfl := dp_str p1
    have q1 := q.sub n1
    have a2' := dp_ex n1.sub _ _ a2
    have L : EvNL K (tLc (iList K (tVar 3)) (gName 5) tYes (tOp (fun x y H Q => y = .non ∧ Q (.bl (!decide (x = .non))) H) (tOp (rIxL K) (tVar 1) (tVar 5)) (tC .non)) [5]) [some v, some w', some (.str (wordS b)), some v2, none, none] G ((hs.map natD).map fun d => match d with | .int i => .bool (rd rs i.toNat).isSome | _ => .none) := by
      refine nl_lcM _ (eg_var rfl p2) (by rw [List.length_map]; exact hfew) (fun _ => rfl) fun x d B' e' hd p => ?_
      obtain ⟨h, hh, rfl⟩ := List.mem_map.mp hd
      obtain rfl := dp_int p
      have e2 : (!noneD (dR (rd rs h))) = (rd rs h).isSome := by
        rw [none_dR]
        cases rd rs h <;> rfl
      show EvG K _ _ B' (.bool (rd rs h).isSome)
      rw [← e2]
      exact eg_bl (ev_notN (eg_ixL (eg_var rfl (dp_ex e' _ _ a2')) (ev_var rfl) (dR_at (hlt h hh))))
    have e3 : ((hs.map natD).map fun d => match d with | .int i => PyData.bool (rd rs i.toNat).isSome | _ => .none) = (hs.map fun h => (rd rs h).isSome).map PyData.bool := by
      rw [List.map_map, List.map_map] <;> rfl
    rw [e3] at L
    refine q_asgG L.eg n1.up fun v3 H2 G2 n2 p3 => ?_
    have q2 := q1.sub n2
    refine q_when (EvT.mono n2.up (et_test (ev_op (ev_var rfl) ev_c (rv_eq rfl)))) (fun hb H3 e3 => s_retG (K := K) (eg_bl (ev_all' (eg_var rfl p3))) (n2.up.trans e3) ?_) (fun hb H3 e3 => s_retG (K := K) (eg_bl (ev_any' (eg_var rfl p3))) (n2.up.trans e3) ?_)
    · rw [word_all] at hb
      subst hb
      have z : (hs.map fun h => (rd rs h).isSome).all id = goes (some (true, hs)) rs := by
        rw [List.all_map] <;> rfl
      rw [z]
      exact q2.at e3
    · rw [word_all] at hb
      subst hb
      have z : (hs.map fun h => (rd rs h).isSome).any id = goes (some (false, hs)) rs := by
        rw [List.any_map] <;> rfl
      rw [z]
      exact q2.at e3
end
end Sb
namespace Sb
open PySem PySem.Spec PyProof.Rows L2 Evl
theorem dW_at {ws : List Wt} {i : Nat} {d : PyData} (h : (ws.map dW)[i]? = some d) : ∃ w, ws[i]? = some w ∧ d = dW w := by
  rw [List.getElem?_map] at h
  cases e : ws[i]? with
  | none => rw [e] at h; cases h
  | some w => rw [e] at h; exact ⟨w, rfl, (Option.some.inj h).symm⟩
section
variable {P : Program} {w : World} {K : PySem.W.Frag} {mg : Str → Option Value} {base : Heap} {tk : Nat}
theorem ok_ready_hands {f : Addr} {fd : FuncData} (F : L2.Fun K "ready_hands" "ready_hands" s_ready_hands f fd) (B : Bn K mg tk) (c_is_let_go : C8.Cal P w K mg base 1 "is_let_go" (sp_is_let_go K) []) : FnOk P w K mg base CX0 2 f fd ["waits", "rounds"] (sp_ready_hands K) := by
  refine F.ok (k := 1) sc_ready_hands (fun vs H Q E h => ?_) (fun cdv A outer s H vs Q E hr h => ?_)
  · obtain ⟨B0, ds, r, _, a, ⟨ws, rs, rfl, _⟩, _⟩ := h
    rw [dpa_len a] <;> rfl
  · obtain ⟨B0, ds, r, eB, a, ⟨ws, rs, rfl, F0, rfl⟩, q⟩ := h
    obtain ⟨v, w', rfl, a1, a2⟩ := dpa2 a
    refine ⟨_, (pss_one (ps_ret (pe_lc (own := [("hand", 2), ("wait", 3)]) (by rfl) sc_ready_hands.nd (pi_enumK (K := K) rfl (by rfl) B.m_enumerate (pa_cons (pv 0) pa_nil)) (blkOk_by (own := [("hand", 2), ("wait", 3)]) (N := ["waits", "rounds", "hand", "wait"]) (sc := defScope s_ready_hands) (by decide +kernel)) (fun _ _ _ _ _ => by exact (pg_tupK (K := K) (n := 2) rfl (by rfl) (pgs_cons (pg_name (i := 2) sc_ready_hands.nd rfl (Or.inl rfl)) (pgs_cons (pg_name (i := 3) sc_ready_hands.nd rfl (Or.inl rfl)) pgs_nil)))) (fun _ _ _ _ _ => by exact (pts_one (PW.pt (pw_and (pt_cmpR op_isN (pe_ix (ix_listK (K := K) rfl) (pv 1) (pv 2) (fun _ _ => rfl)) pe_non (nomark _)) (pw_and1 (pt_val (C8.pe_c c_is_let_go hr (by decide) (by rfl) (pa_cons (pv 3) (pa_cons (pv 1) pa_nil))))))))) (fun _ _ _ _ _ => by exact (pv 2))))), ?_⟩
    have hlen : (ws.map dW).length = ws.length := List.length_map _
    have e0 : (ready ws rs).map natD = givenD (ws.map dW).length (isReady ws rs) (fun k => natD k) := by
      rw [hlen] <;> rfl
    rw [e0] at q
    have few := F0.few
    refine s_retN (nl_lcE (isReady ws rs) (fun k => natD k) (eg_var rfl a1) (by rw [hlen]; omega) (fun _ _ => rfl) (fun k x d B' e' hd p => ?_) (fun k x d B' e' hd p _ => eg_int (ev_var rfl))) eB q
    obtain ⟨w, hw, rfl⟩ := dW_at hd
    have hk : k < ws.length := (List.getElem?_eq_some_iff.mp hw).1
    have hk' : k < rs.length := by rw [F0.len]; exact hk
    have a2' := dp_ex e' _ _ a2
    have e1 : isReady ws rs k = ((rd rs k).isNone && goes w rs) := by
      unfold isReady
      rw [List.getD_eq_getElem?_getD, hw] <;> rfl
    rw [e1, ← none_dR]
    refine et_and (et_test (ev_isN (eg_ixL (eg_var rfl a2') (ev_var rfl) (dR_at hk')))) fun hb => ?_
    rw [none_dR] at hb
    cases w with
    | none => exact absurd (Option.isNone_iff_eq_none.mp hb) (F0.none k hw)
    | some bh =>
      obtain ⟨b, hs⟩ := bh
      have g := good_at F0.good hw
      refine et_B (ev_gbl (eg_call (ega_cons (eg_var rfl p) (ega_cons (eg_var rfl a2') ega_nil)) ⟨b, hs, rs, rfl, fun h hh => by rw [F0.len]; exact (g b hs rfl).2.2 h hh, ?_, rfl⟩))
      have := g.few rfl
      omega
end
end Sb
namespace Sb
open PySem PySem.Spec PyProof.Rows L2 Evl
def vR : Option Nat → V
  | none => .non
  | some r => .int (r : Nat)
theorem dpa_vR {K : PySem.W.Frag} {H : Hp} : ∀ {rs : Rds} {vs : List V}, DpAll K H vs (rs.map dR) → vs = rs.map vR
  | [], _, h => by cases h; rfl
  | r :: rs, _, h => by
    cases h with
    | cons h1 h2 =>
      rw [dpa_vR h2]
      cases r <;> cases h1 <;> rfl
theorem vR_dpa {K : PySem.W.Frag} {H : Hp} : ∀ (rs : Rds), DpAll K H (rs.map vR) (rs.map dR)
  | [] => .nil
  | r :: rs => .cons (by cases r <;> first | exact .non | exact .int _) (vR_dpa rs)
def vN (h : Nat) : V := .int (h : Nat)
theorem dpa_vN {K : PySem.W.Frag} {H : Hp} : ∀ {hs : List Nat} {vs : List V}, DpAll K H vs (hs.map natD) → vs = hs.map vN
  | [], _, h => by cases h; rfl
  | r :: rs, _, h => by
    cases h with
    | cons h1 h2 =>
      rw [dpa_vN h2]
      cases h1
      rfl
theorem mark_vR (rs : Rds) (h t : Nat) : (rs.set h (some t)).map vR = (rs.map vR).set h (.int (t : Nat)) := by
  rw [List.map_set] <;> rfl
theorem mark_app (rs : Rds) (hs : List Nat) (h t : Nat) : mark rs (hs ++ [h]) t = (mark rs hs t).set h (some t) := by
  unfold mark
  rw [List.foldl_append] <;> rfl
theorem fit_it {ws : List Wt} (g : Good ws) (l2 : ws.length ≤ 40) (k : Nat) : Fit ws (itR ws (k + 1)) where
  good := g
  len := itR_len ws _
  few := l2
  none := fun i hi => by
    rw [show itR ws (k + 1) = stepR ws (itR ws k) from rfl, rd_step hi]
    exact fun z => by cases z
theorem cnt_bound (ws : List Wt) (k : Nat) : cnt (itR ws k) ≤ ws.length := by
  have := cnt_le (itR ws k)
  rw [itR_len] at this
  exact this
section
variable {P : Program} {w : World} {K : PySem.W.Frag} {mg : Str → Option Value} {base : Heap} {tk : Nat}
theorem ok_freed {f : Addr} {fd : FuncData} (F : L2.Fun K "freed" "freed" s_freed f fd) (B : Bn K mg tk) (c_need : C8.Cal P w K mg base 4 "need" (sp_need K) []) (c_ready_hands : C8.Cal P w K mg base 2 "ready_hands" (sp_ready_hands K) []) : FnOk P w K mg base CX0 5 f fd ["waits"] (sp_freed K) := by
  refine F.ok (k := 4) sc_freed (fun vs H Q E h => ?_) (fun cdv A outer s H vs Q E hr h => ?_)
  · exact spD_len (n := 1) (fun ds d ⟨ws, e, _⟩ => by rw [e] <;> rfl) h
  · obtain ⟨B0, ds, d, eB, a, ⟨ws, rfl, g, l1, l2, rfl⟩, q⟩ := h
    obtain ⟨v, rfl, a1⟩ := dpa1 a
    refine ⟨_, (pss_cons (ps_expr (C8.pe_c c_need hr (by decide) (by rfl) (pa_cons (pv 0) pa_nil)))
      (pss_cons (ps_setLc (i := 1) (own := [("wait", 5)]) (by rfl) sc_freed.nd rfl rfl (sw_true rfl rfl rfl (by decide +kernel)) (pi_listK (K := K) rfl (pv 0)) (blkOk_by (own := [("wait", 5)]) (N := ["waits", "rounds", "turn", "ready", "hand", "wait"]) (sc := defScope s_freed) (by decide +kernel)) (fun _ _ _ _ _ => by exact (pg_name (i := 5) sc_freed.nd rfl (Or.inl rfl))) (fun _ _ _ _ _ => by exact pts_nil) (fun _ _ _ _ _ => by exact (pe_ifExp (pt_cmpR op_isN (pv 5) pe_non (nomark _)) pe_int pe_non)))
      (pss_cons (ps_set (i := 2) sc_freed.nd rfl (Or.inl rfl) pe_int)
      (pss_cons (ps_set (i := 3) sc_freed.nd rfl (Or.inl rfl) (C8.pe_c c_ready_hands hr (by decide) (by rfl) (pa_cons (pv 0) (pa_cons (pv 1) pa_nil))))
      (pss_cons (ps_while PassesOwn.never (pt_truthK (K := K) rfl (pv 3)) 
        (pss_cons (ps_for PassesOwn.never rfl (pi_listK (K := K) rfl (pv 3)) (pg_name (i := 4) sc_freed.nd rfl (Or.inl rfl)) 
          (pss_one (ps_asg (pv 2) (pg_sub (pv 1) (pv 4) set_list))))
        (pss_cons (ps_aug (i := 2) sc_freed.nd rfl (Or.inl rfl) pe_int ip_add)
        (pss_one (ps_set (i := 3) sc_freed.nd rfl (Or.inl rfl) (C8.pe_c c_ready_hands hr (by decide) (by rfl) (pa_cons (pv 0) (pa_cons (pv 1) pa_nil))))))))
      (pss_one (ps_ret (pv 1)))))))), ?_⟩
    have hlen : (ws.map dW).length = ws.length := List.length_map _
    refine q_drop (Ev.mono eB (ev_gbl (eg_call (ega_cons (eg_var rfl a1) ega_nil) (d := .bool true) ⟨ws.map dW, rfl, by omega, by omega, good_waits g l2, rfl⟩))) fun H1 e1 => ?_
    -- rounds = [0 if wait is None else None ..]
    have L : EvNL K (tLc (iList K (tVar 0)) (gName 5) tYes (tIf (tTest (tOp (fun x y H Q => y = .non ∧ Q (.bl (decide (x = .non))) H) (tVar 5) (tC .non))) (tC (.int 0)) (tC .non)) [5]) [some v, none, none, none, none, none] B0 ((ws.map dW).map fun d => if noneD d = true then .int 0 else .none) := by
      refine nl_lcM _ (eg_var rfl a1) (by omega) (fun _ => rfl) fun x d B' e' hd p => ?_
      refine eg_if (et_test (ev_isN (eg_var rfl p))) (fun hb => ?_) (fun hb => ?_)
      · rw [if_pos hb]; exact eg_int ev_c
      · rw [if_neg (by rw [hb]; decide)]; exact eg_non ev_c
    have e0 : ((ws.map dW).map fun d => if noneD d = true then PyData.int 0 else .none) = (itR ws 1).map dR := by
      rw [← rounds0_is g]
      unfold rounds0
      rw [List.map_map, List.map_map]
      refine List.map_congr_left fun w _ => ?_
      cases w <;> rfl
    rw [e0] at L
    refine q_asgN L (eB.trans e1) fun p vs H2 G n1 hp gp hv pv => ?_
    have hp0 : H p = none := fresh_back e1 hp
    have hb0 : B0 p = none := fresh_back eB hp0
    obtain rfl := dpa_vR pv
    refine q_asg ev_c fun H3 e3 => ?_
    -- what the call ready_hands(waits, rounds) is handed
    have call : ∀ (k : Nat) (σ : L2.St) (H4 : Hp), Ex H H4 → H4 p = some (.lst ((itR ws (k + 1)).map vR)) → σ[0]? = some (some v) → σ[1]? = some (some (.ref p)) →
        ∃ B4, Ex B4 H4 ∧ EvNL K (tCall (sp_ready_hands K) [] C8.E0 (tCons (tVar 0) (tCons (tVar 1) tNil))) σ B4 ((ready ws (itR ws (k + 1))).map natD) := by
      intro k σ H4 e4 h4 s0 s1
      refine ⟨upd B0 p (.lst ((itR ws (k + 1)).map vR)), fun b o z => ?_, ?_⟩
      · by_cases e : b = p
        · subst e
          rw [upd_same] at z
          rw [h4]
          exact z
        · rw [upd_ne e] at z
          exact e4 b o (eB b o z)
      · exact nl_call (ega_cons (eg_var s0 (dp_ex (Ex.new hb0) _ _ a1)) (ega_cons (eg_var s1 (.lst (sq_of upd_same) (vR_dpa _))) ega_nil)) ⟨ws, itR ws (k + 1), rfl, fit_it g l2 k, rfl⟩
    obtain ⟨B4, eb4, c4⟩ := call 0 [some v, some (.ref p), some (.int 1), none, none, none] H3 ((e1.trans n1.ex).trans e3) (e3 _ _ hv) rfl rfl
    refine q_asgN c4 eb4 fun l ls H5 G5 n5 hl gl hlv plv => ?_
    obtain rfl := dpa_vN plv
    refine q_while (fun m σ' H' => ∃ k l y4 y5, m = ws.length - cnt (itR ws (k + 1)) ∧ σ' = [some v, some (.ref p), some (.int ((k + 1 : Nat) : Int)), some (.ref l), y4, y5] ∧ Ex H H' ∧ l ≠ p ∧ H l = none ∧ H' p = some (.lst ((itR ws (k + 1)).map vR)) ∧ H' l = some (.lst ((ready ws (itR ws (k + 1))).map vN))) (ws.length - cnt (itR ws 1)) ?_ ?_
    · refine ⟨0, l, none, none, rfl, rfl, ((e1.trans n1.ex).trans e3).trans n5.ex, ?_, fresh_back ((e1.trans n1.ex).trans e3) hl, n5.ex _ _ (e3 _ _ hv), hlv⟩
      exact ne_of_none (H := fun x => if x = p then H3 p else none) (a := p) (b := l) (o := .lst ((itR ws 1).map vR)) (by rw [if_pos rfl]; exact e3 _ _ hv) (by
        by_cases e : l = p
        · subst e
          rw [e3 _ _ hv] at hl
          cases hl
        · rw [if_neg e]) |>.symm
    · rintro m σ' H' ⟨k, l, y4, y5, rfl, rfl, eH, hlp, hHl, hp', hl'⟩
      refine ⟨!((ready ws (itR ws (k + 1))).map natD).isEmpty, et_truL (eg_var rfl (.lst (sq_of hl') (dpaN _))), fun hb H6 e6 => ?_, fun hb H6 e6 => ?_⟩
      · have hne : ready ws (itR ws (k + 1)) ≠ [] := by
          intro z
          rw [z] at hb
          cases hb
        have grow := ready_cons g hne
        have bnd := cnt_bound ws (k + 1 + 1)
        refine ⟨fun σ2 H2 => ∃ l y4 y5, σ2 = [some v, some (.ref p), some (.int ((k + 1 + 1 : Nat) : Int)), some (.ref l), y4, y5] ∧ Ex H H2 ∧ l ≠ p ∧ H l = none ∧ H2 p = some (.lst ((itR ws (k + 1 + 1)).map vR)) ∧ H2 l = some (.lst ((ready ws (itR ws (k + 1 + 1))).map vN)), fun σ2 H2 ⟨l, y4, y5, a1, a2, a3, a4, a5, a6⟩ => ⟨ws.length - cnt (itR ws (k + 1 + 1)), by omega, k + 1, l, y4, y5, rfl, a1, a2, a3, a4, a5, a6⟩, ?_⟩
        refine q_forLn (a := l) (xs := (ready ws (itR ws (k + 1))).map vN) (ev_var rfl) (sq_of (e6 _ _ hl')) (fun i σ2 H2 => (∃ y4, σ2 = [some v, some (.ref p), some (.int ((k + 1 : Nat) : Int)), some (.ref l), y4, y5]) ∧ Ex H H2 ∧ H2 p = some (.lst ((mark (itR ws (k + 1)) ((ready ws (itR ws (k + 1))).take i) (k + 1)).map vR)) ∧ H2 l = some (.lst ((ready ws (itR ws (k + 1))).map vN))) (fun H7 e7 => ⟨⟨y4, rfl⟩, (eH.trans e6).trans e7, (e6.trans e7) _ _ hp', (e6.trans e7) _ _ hl'⟩) (fun i σ2 H2 _ z => sq_of z.2.2.2) (fun i x σ2 H2 hx z => ?_) (fun σ2 H2 z => ?_)
        · obtain ⟨⟨y4', rfl⟩, z2, z3, z4⟩ := z
          rw [List.getElem?_map] at hx
          obtain ⟨h, hh, rfl⟩ : ∃ h, (ready ws (itR ws (k + 1)))[i]? = some h ∧ x = vN h := by
            cases q1 : (ready ws (itR ws (k + 1)))[i]? with
            | none => rw [q1] at hx; cases hx
            | some h => rw [q1] at hx; exact ⟨h, rfl, (Option.some.inj hx).symm⟩
          have hlt : h < ws.length := (mem_ready.mp (List.mem_of_getElem? hh)).1
          refine s_setL (j := h) z3 (ev_var rfl) (ev_var rfl) (ev_var rfl) (by rw [List.length_map, mark_len, itR_len]; exact hlt) fun H7 e7 => ⟨⟨_, rfl⟩, Ex.mut (z2.trans e7) hp0, ?_, ?_⟩
          · have e8 : (ready ws (itR ws (k + 1))).take (i + 1) = (ready ws (itR ws (k + 1))).take i ++ [h] := by
              rw [List.take_add_one, hh] <;> rfl
            rw [upd_same, e8, mark_app, mark_vR]
          · rw [upd_ne hlp]
            exact e7 _ _ z4
        · obtain ⟨⟨y4', rfl⟩, z2, z3, z4⟩ := z
          rw [List.length_map, List.take_length, mark_is g] at z3
          refine q_aug rfl ev_c fun H7 e7 => ?_
          obtain ⟨B8, eb8, c8⟩ := call (k + 1) [some v, some (.ref p), some (.int (((k + 1 : Nat) : Int) + 1)), some (.ref l), y4', y5] H7 (z2.trans e7) (e7 _ _ z3) rfl rfl
          refine s_asgN c8 eb8 fun l2 ls2 H8 G8 n8 hl2 gl2 hlv2 plv2 => ?_
          obtain rfl := dpa_vN plv2
          refine ⟨l2, y4', y5, rfl, (z2.trans e7).trans n8.ex, ?_, fresh_back (z2.trans e7) hl2, n8.ex _ _ (e7 _ _ z3), hlv2⟩
          intro e
          subst e
          rw [e7 _ _ z3] at hl2
          cases hl2
      · have hnil : ready ws (itR ws (k + 1)) = [] := by
          cases q1 : ready ws (itR ws (k + 1)) with
          | nil => rfl
          | cons a r => rw [q1] at hb; cases hb
        rw [ready_nil g hnil] at q
        refine s_ret (ev_var rfl) fun H7 e7 => ?_
        refine q _ _ (upd B0 p (.lst ((itR ws (k + 1)).map vR))) ⟨(eH.trans e6).trans e7, Ex.new hb0, fun b o z => ?_, fun b z => ?_⟩ (.lst (sq_of upd_same) (vR_dpa _))
        · by_cases e : b = p
          · subst e
            rw [upd_same] at z
            rw [(e6.trans e7) _ _ hp']
            exact z
          · rw [upd_ne e] at z
            exact ((eH.trans e6).trans e7) b o (eB b o z)
        · by_cases e : b = p
          · exact .inr (by rw [e]; exact hp0)
          · rw [upd_ne e] at z
            exact .inl z
end
end Sb
namespace Sb
open PySem PySem.Spec PyProof.Rows L2 Evl
theorem dR_get {rs : Rds} {i : Nat} {d : PyData} (h : (rs.map dR)[i]? = some d) : d = dR (rd rs i) := by
  have hl : i < rs.length := by
    have := (List.getElem?_eq_some_iff.mp h).1
    rw [List.length_map] at this
    exact this
  rw [dR_at hl] at h
  exact (Option.some.inj h).symm
section
variable {P : Program} {w : World} {K : PySem.W.Frag} {mg : Str → Option Value} {base : Heap} {tk : Nat}
theorem ok_stuck {f : Addr} {fd : FuncData} (F : L2.Fun K "stuck" "stuck" s_stuck f fd) (B : Bn K mg tk) (c_freed : C8.Cal P w K mg base 5 "freed" (sp_freed K) []) : FnOk P w K mg base CX0 6 f fd ["waits"] (sp_stuck K) := by
  refine F.ok (k := 5) sc_stuck (fun vs H Q E h => ?_) (fun cdv A outer s H vs Q E hr h => ?_)
  · exact spD_len (n := 1) (fun ds d ⟨ws, e, _⟩ => by rw [e] <;> rfl) h
  · obtain ⟨B0, ds, d, eB, a, ⟨ws, rfl, g, l1, l2, rfl⟩, q⟩ := h
    obtain ⟨v, rfl, a1⟩ := dpa1 a
    refine ⟨_, (pss_one (ps_ret (pe_lc (own := [("hand", 1), ("turn", 2)]) (by rfl) sc_stuck.nd (pi_enumK (K := K) rfl (by rfl) B.m_enumerate (pa_cons (C8.pe_c c_freed hr (by decide) (by rfl) (pa_cons (pv 0) pa_nil)) pa_nil)) (blkOk_by (own := [("hand", 1), ("turn", 2)]) (N := ["waits", "hand", "turn"]) (sc := defScope s_stuck) (by decide +kernel)) (fun _ _ _ _ _ => by exact (pg_tupK (K := K) (n := 2) rfl (by rfl) (pgs_cons (pg_name (i := 1) sc_stuck.nd rfl (Or.inl rfl)) (pgs_cons (pg_name (i := 2) sc_stuck.nd rfl (Or.inl rfl)) pgs_nil)))) (fun _ _ _ _ _ => by exact (pts_one (pt_cmpR op_isN (pv 2) pe_non (nomark _)))) (fun _ _ _ _ _ => by exact (pv 1))))), ?_⟩
    have hlen : ((plain ws).map dR).length = ws.length := by
      rw [List.length_map]
      exact itR_len ws _
    have e0 : (stuckL ws).map natD = givenD ((plain ws).map dR).length (fun k => (rd (plain ws) k).isNone) (fun k => natD k) := by
      rw [hlen] <;> rfl
    rw [e0] at q
    refine s_retG (EvNL.eg (nl_lcE (fun k => (rd (plain ws) k).isNone) (fun k => natD k) (eg_call (ega_cons (eg_var rfl a1) ega_nil) ⟨ws, rfl, g, l1, l2, rfl⟩) (by rw [hlen]; omega) (fun _ _ => rfl) (fun k x d B' e' hd p => ?_) (fun k x d B' e' hd p _ => eg_int (ev_var rfl)))) eB q
    rw [dR_get hd] at p
    rw [← none_dR]
    exact et_test (ev_isN (eg_var rfl p))
end
end Sb
namespace Sb
open PySem PySem.Spec PyProof.Rows L2 Evl
section
variable {P : Program} {w : World} {K : PySem.W.Frag} {mg : Str → Option Value} {base : Heap} {tk : Nat}
theorem ok_law_cell_at {f : Addr} {fd : FuncData} (F : L2.Fun K "_law_cell_at" "_law_cell_at" s_law_cell_at f fd) (B : Bn K mg tk) : FnOk P w K mg base CX0 1 f fd ["_law_script", "_law_k"] (sp_law_cell_at K) := by
  refine F.ok (k := 0) sc_law_cell_at (fun vs H Q E h => ?_) (fun cdv A outer s H vs Q E hr h => ?_)
  · exact spD_len (n := 2) (fun ds d ⟨ns, k, e, _⟩ => by rw [e] <;> rfl) h
  · obtain ⟨B0, ds, d, eB, a, ⟨ns, k, rfl, rfl⟩, q⟩ := h
    obtain ⟨v, w', rfl, a1, a2⟩ := dpa2 a
    obtain rfl := dp_int a2
    refine ⟨_, (pss_cons (ps_if (pt_cmpR op_lt (pv 1) (pe_callB (lenK (K := K) rfl) (by rfl) B.m_len PySem.boot_len (pa_cons (pv 0) pa_nil)) (nomark _)) 
        (pss_one (ps_ret (pe_ix (ix_listK (K := K) rfl) (pv 0) (pv 1) (fun _ _ => rfl)))) pss_nil)
      (pss_one (ps_ret pe_int))), ?_⟩
    refine q_when (EvT.mono eB (et_test (ev_op (ev_var rfl) (ev_lenG (eg_var rfl a1)) rv_I0))) (fun hb H1 e1 => ?_) (fun hb H1 e1 => ?_)
    · have hk : k < ns.length := by
        have z := of_decide_eq_true hb
        rw [List.length_map] at z
        omega
      exact s_retG (eg_ixL (eg_var rfl a1) (ev_var rfl) (ints_getD hk)) (eB.trans e1) (q.at e1)
    · have hk : ¬ k < ns.length := fun z => by
        have z2 := of_decide_eq_false hb
        rw [List.length_map] at z2
        omega
      rw [cell_out hk] at q
      exact s_retG (K := K) (eg_int ev_c) (eB.trans e1) (q.at e1)
end
end Sb
namespace Sb
open PySem PySem.Spec PyProof.Rows L2 Evl
section
variable {P : Program} {w : World} {K : PySem.W.Frag} {mg : Str → Option Value} {base : Heap} {tk : Nat}
theorem ok_law_wait_by {f : Addr} {fd : FuncData} (F : L2.Fun K "_law_wait_by" "_law_wait_by" s_law_wait_by f fd) (B : Bn K mg tk) : FnOk P w K mg base CX0 1 f fd ["_law_number", "_law_size", "_law_few"] (sp_law_wait_by K) := by
  refine F.ok (k := 0) sc_law_wait_by (fun vs H Q E h => ?_) (fun cdv A outer s H vs Q E hr h => ?_)
  · exact spD_len (n := 3) (fun ds d ⟨ns, k, s, e, _⟩ => by rw [e] <;> rfl) h
  · obtain ⟨B0, ds, d, eB, a, ⟨num, size, few, rfl, hs, hs2, hf, rfl⟩, q⟩ := h
    obtain ⟨v, w', w2, rfl, a1, a2, a3⟩ := dpa3 a
    obtain rfl := dp_int a1
    obtain rfl := dp_int a2
    obtain rfl := dp_int a3
    refine ⟨_, (pss_cons (ps_if (pt_cmpR op_eq (pe_op op_mod (pv 0) (pe_ix (ix_listK (K := K) rfl) (pe_lst (pa_cons pe_int (pa_cons pe_int pa_nil))) (pv 2) (fun _ _ => rfl))) pe_int (nomark _)) 
        (pss_one (ps_ret pe_non)) pss_nil)
      (pss_cons (ps_set (i := 3) sc_law_wait_by.nd rfl (Or.inl rfl) (pe_lst (pa_cons (pe_op op_mod (pe_op op_fdiv (pv 0) pe_int) (pv 1)) pa_nil)))
      (pss_cons (ps_for PassesOwn.never rfl (pi_range1 (by rfl) B.m_range (pa_cons (pe_op op_mod (pe_op op_fdiv (pv 0) pe_int) pe_int) pa_nil)) (pg_name (i := 4) sc_law_wait_by.nd rfl (Or.inl rfl)) 
        (pss_cons (ps_set (i := 5) sc_law_wait_by.nd rfl (Or.inl rfl) (pe_op op_mod (pe_op op_add (pe_op op_add (pe_ix (ix_listK (K := K) rfl) (pv 3) pe_int (fun _ _ => rfl)) pe_int) (pe_op op_mod (pe_op op_fdiv (pv 0) (pe_op op_add pe_int (pe_op op_mul pe_int (pv 4)))) (pv 1))) (pv 1)))
        (pss_one (ps_if (pt_cmpR (notInK (K := K) rfl) (pv 5) (pv 3) (by rfl)) 
          (pss_one (ps_expr (pe_bm PySem.F.plainAttrs_list PySem.F.slot_list_append PySem.F.type_list_append mt_append (pv 3) (pa_cons (pv 5) pa_nil)))) pss_nil))))
      (pss_one (ps_ret (pe_tup (pa_cons (pe_ix (ix_listK (K := K) rfl) (pe_lst (pa_cons pe_str (pa_cons pe_str pa_nil))) (pe_op op_mod (pe_op op_fdiv (pv 0) pe_int) pe_int) (fun _ _ => rfl)) (pa_cons (pv 3) pa_nil)))))))), ?_⟩
    have hix : ([PyData.int 5, PyData.int 9])[few]? = some (.int ((if few = 0 then 5 else 9 : Nat) : Nat)) := by
      have : few = 0 ∨ few = 1 := by omega
      rcases this with e | e <;> rw [e] <;> rfl
    have hp : (0 : Int) < ((if few = 0 then 5 else 9 : Nat) : Nat) := by split <;> decide
    have hsz : (0 : Int) < (size : Int) := by omega
    refine q_when (EvT.mono eB (et_test (ev_op (ev_op (ev_var rfl) (ev_gint (eg_ixL (K := K) (eg_lst (ega_cons (eg_int ev_c) (ega_cons (eg_int ev_c) ega_nil)) (by decide)) (ev_var rfl) hix)) (rv_I hp)) ev_c (rv_eq rfl)))) (fun hb H1 e1 => ?_) (fun hb H1 e1 => ?_)
    · have z : wait2 num size few = none := by
        have z1 := V.int.inj (of_decide_eq_true hb)
        unfold wait2 waitG
        rw [if_pos]
        refine decide_eq_true ?_
        have z2 : ((num % (if few = 0 then 5 else 9) : Nat) : Int) = 0 := by rw [← z1]; push_cast; rfl
        omega
      rw [z] at q
      exact s_retG (K := K) (eg_non ev_c) (eB.trans e1) (q.at e1)
    · have z : wait2 num size few = some (decide (num / 3 % 2 = 0), othersN num size 45 900 97 (num / 9 % 3)) := by
        unfold wait2 waitG
        rw [if_neg]
        intro z1
        have z1 := of_decide_eq_true z1
        refine (of_decide_eq_false hb) (congrArg V.int ?_)
        have z2 : ((num % (if few = 0 then 5 else 9) : Nat) : Int) = 0 := by rw [z1] <;> rfl
        rw [← z2]; push_cast; rfl
      rw [z] at q
      have eB1 := eB.trans e1
      have num0 : Ev (tOp (rI (fun _ j => 0 < j) fun i j => V.int (i % j)) (tOp (rI CDiv fun i j => V.int (i / j)) (tVar 0) (tC (.int 45))) (tVar 1)) [some (.int (num : Nat)), some (.int (size : Nat)), some (.int (few : Nat)), none, none, none] B0 (.int ((num / 45 % size : Nat) : Nat)) :=
        ev_is (ev_op (ev_op (ev_var rfl) ev_c (rv_I ⟨by decide, by decide⟩)) (ev_var rfl) (rv_I hsz)) (congrArg V.int (cast_q num size 45))
      refine q_asgN (K := K) (nl_lst (ds := [.int ((num / 45 % size : Nat) : Nat)]) (ega_cons (eg_int num0) ega_nil) (by show 1 ≤ 100000; decide)) eB1 fun p vs H2 G n1 hp0 gp hv pv => ?_
      have hl0 := Gl.mk0 n1 hp0 gp hv pv
      have turns : ((num : Int) / 9) % 3 = ((num / 9 % 3 : Nat) : Int) := by push_cast; rfl
      refine q_forR1 (n := ((num / 9 % 3 : Nat) : Int)) (EvA.mono (n1.sub.trans n1.up) (ea_cons (ev_is (ev_op (ev_op (ev_var rfl) ev_c (rv_I ⟨by decide, by decide⟩)) ev_c (rv_I (by decide))) (congrArg V.int turns)) ea_nil)) (by omega)
        (fun i σ' H' => (∃ y4 y5, σ' = [some (.int (num : Nat)), some (.int (size : Nat)), some (.int (few : Nat)), some (.ref p), y4, y5]) ∧ Gl K B0 H1 p ((othersN num size 45 900 97 i).map natD) H') (fun H3 e3 => ⟨⟨_, _, rfl⟩, hl0.ex e3⟩) (fun i σ' H' hi z => ?_) (fun σ' H' z => ?_)
      · obtain ⟨⟨y4, y5, rfl⟩, gl⟩ := z
        obtain ⟨o1, o2, o3, o4, o5⟩ := others_ok (num := num) (q := 45) (c1 := 900) (c2 := 97) hs i
        obtain ⟨G2, n2, k2⟩ := gl.known
        have hi3 : i < 3 := by omega
        have div : CDiv (num : Int) (900 + 97 * (i : Int)) := ⟨by omega, by omega⟩
        have o4' : ((othersN num size 45 900 97 i).map natD)[0]? = some (natD (num / 45 % size)) := by rw [List.getElem?_map, o4] <;> rfl
        refine q_asg (v := .int (((num / 45 % size + 1 + num / (900 + 97 * i) % size) % size : Nat) : Nat)) (Ev.mono n2.up (ev_is (ev_op (ev_op (ev_op (ev_gint (eg_ixL (i := 0) (eg_var rfl k2) ev_c o4')) ev_c rv_I0) (ev_op (ev_op (ev_var rfl) (ev_op ev_c (ev_op ev_c (ev_var rfl) (rv_I (.inl ⟨by decide, by decide⟩))) rv_I0) (rv_I div)) (ev_var rfl) (rv_I hsz)) rv_I0) (ev_var rfl) (rv_I hsz)) (congrArg V.int (more_cast num size 45 900 97 i)))) fun H3 e3 => ?_
        have k2' : Dp K G2 (.ref p) (.list (((othersN num size 45 900 97 i).map fun h : Nat => (h : Int)).map PyData.int)) := by rw [← ints_nat]; exact k2
        refine s_when (EvT.mono (n2.up.trans e3) (et_test (ev_inI (neg := true) (ev_var rfl) (eg_var rfl k2')))) (fun hb2 H4 e4 => ?_) (fun hb2 H4 e4 => ?_)
        · rw [if_pos rfl, contains_cast] at hb2
          refine s_appG ((gl.ex e3).ex e4) (ev_var rfl) (eg_int (ev_var rfl)) (by rw [List.length_map]; omega) fun H5 e5 g5 => ⟨⟨_, _, rfl⟩, ?_⟩
          unfold othersN
          rw [if_neg (by intro z; rw [z] at hb2; cases hb2), List.map_append]
          exact g5
        · rw [if_pos rfl, contains_cast] at hb2
          refine ⟨⟨_, _, rfl⟩, ?_⟩
          unfold othersN
          rw [if_pos (by simpa using hb2)]
          exact (gl.ex e3).ex e4
      · obtain ⟨⟨y4, y5, rfl⟩, gl⟩ := z
        rw [Int.toNat_natCast] at gl
        obtain ⟨G2, n2, k2⟩ := gl.known
        refine s_retG (eg_tup (ega_cons (eg_ixL (i := num / 3 % 2) (eg_lst (ega_cons (eg_str ev_c) (ega_cons (eg_str ev_c) ega_nil)) (by show 2 ≤ 100000; decide)) (ev_is (ev_op (ev_op (ev_var rfl) ev_c (rv_I ⟨by decide, by decide⟩)) ev_c (rv_I (by decide))) (congrArg V.int (by push_cast; rfl))) (word_ix _)) (ega_cons (eg_var rfl k2) ega_nil)) (by show 2 ≤ 100000; decide)) n2.up ((q.at e1).sub n2)
end
end Sb
namespace Sb
open PySem PySem.Spec PyProof.Rows L2 Evl
section
variable {P : Program} {w : World} {K : PySem.W.Frag} {mg : Str → Option Value} {base : Heap} {tk : Nat}
theorem ok_law_mixed {f : Addr} {fd : FuncData} (F : L2.Fun K "_law_mixed" "_law_mixed" s_law_mixed f fd) (B : Bn K mg tk) (c__law_cell_at : C8.Cal P w K mg base 1 "_law_cell_at" (sp_law_cell_at K) []) : FnOk P w K mg base CX0 2 f fd ["_law_script", "_law_k", "_law_salt"] (sp_law_mixed K) := by
  refine F.ok (k := 1) sc_law_mixed (fun vs H Q E h => ?_) (fun cdv A outer s H vs Q E hr h => ?_)
  · exact spD_len (n := 3) (fun ds d ⟨ns, k, s, e, _⟩ => by rw [e] <;> rfl) h
  · obtain ⟨B0, ds, d, eB, a, ⟨ns, k, s0, rfl, rfl⟩, q⟩ := h
    obtain ⟨v, w', w2, rfl, a1, a2, a3⟩ := dpa3 a
    obtain rfl := dp_int a3
    refine ⟨_, (pss_one (ps_ret (pe_op op_mod (pe_op op_add (pe_op op_mul (C8.pe_c c__law_cell_at hr (by decide) (by rfl) (pa_cons (pv 0) (pa_cons (pv 1) pa_nil))) pe_int) (pe_op op_mul (pv 2) pe_int)) pe_int))), ?_⟩
    exact s_retG (K := K) (eg_int (ev_is (ev_op (ev_op (ev_op (ev_gint (eg_call (ega_cons (eg_var rfl a1) (ega_cons (eg_var rfl a2) ega_nil)) ⟨ns, k, rfl, rfl⟩)) ev_c (rv_I (.inr ⟨by decide, by decide⟩))) (ev_op (ev_var rfl) ev_c (rv_I (.inr ⟨by decide, by decide⟩))) rv_I0) ev_c (rv_I (by decide))) (congrArg V.int (mix_nat (by decide))))) eB q
end
end Sb
namespace Sb
open PySem PySem.Spec PyProof.Rows L2 Evl
section
variable {P : Program} {w : World} {K : PySem.W.Frag} {mg : Str → Option Value} {base : Heap} {tk : Nat}
theorem ok_law_waits {f : Addr} {fd : FuncData} (F : L2.Fun K "_law_waits" "_law_waits" s_law_waits f fd) (B : Bn K mg tk) (c__law_cell_at : C8.Cal P w K mg base 1 "_law_cell_at" (sp_law_cell_at K) []) (c__law_wait_by : C8.Cal P w K mg base 1 "_law_wait_by" (sp_law_wait_by K) []) (c__law_mixed : C8.Cal P w K mg base 2 "_law_mixed" (sp_law_mixed K) []) : FnOk P w K mg base CX0 3 f fd ["_law_script"] (sp_law_waits K) := by
  refine F.ok (k := 2) sc_law_waits (fun vs H Q E h => ?_) (fun cdv A outer s H vs Q E hr h => ?_)
  · exact spD_len (n := 1) (fun ds d ⟨ns, e, _⟩ => by rw [e] <;> rfl) h
  · obtain ⟨B0, ds, d, eB, a, ⟨ns, rfl, rfl⟩, q⟩ := h
    obtain ⟨v, rfl, a1⟩ := dpa1 a
    refine ⟨_, (pss_cons (ps_set (i := 1) sc_law_waits.nd rfl (Or.inl rfl) (C8.pe_c c__law_cell_at hr (by decide) (by rfl) (pa_cons (pv 0) (pa_cons pe_int pa_nil))))
      (pss_cons (ps_set (i := 2) sc_law_waits.nd rfl (Or.inr rfl) (pe_op op_add pe_int (pe_op op_mod (pv 1) pe_int)))
      (pss_cons (ps_if (pt_cmpR op_eq (pe_op op_mod (pe_op op_fdiv (pv 1) pe_int) pe_int) pe_int (nomark _)) 
        (pss_one (ps_set (i := 2) sc_law_waits.nd rfl (Or.inr rfl) (pe_op op_add pe_int (pe_op op_mod (pe_op op_fdiv (pv 1) pe_int) pe_int)))) pss_nil)
      (pss_cons (ps_set (i := 3) sc_law_waits.nd rfl (Or.inr rfl) (pe_callTy call_int1 (by rfl) B.m_int boot_int (pa_cons (pe_cmpR op_eq (pe_op op_mod (C8.pe_c c__law_cell_at hr (by decide) (by rfl) (pa_cons (pv 0) (pa_cons pe_int pa_nil))) pe_int) pe_int (nomark _)) pa_nil)))
      (pss_cons (ps_setLc (i := 4) (own := [("_law_k", 6)]) (by rfl) sc_law_waits.nd rfl rfl (sw_true rfl rfl rfl (by decide +kernel)) (pi_range1 (by rfl) B.m_range (pa_cons (pv 2) pa_nil)) (blkOk_by (own := [("_law_k", 6)]) (N := ["_law_script", "_law_cell", "_law_size", "_law_few", "_law_waits_here", "_law_wide", "_law_k"]) (sc := defScope s_law_waits) (by decide +kernel)) (fun _ _ _ _ _ => by exact (pg_name (i := 6) sc_law_waits.nd rfl (Or.inl rfl))) (fun _ _ _ _ _ => by exact pts_nil) (fun _ _ _ _ _ => by exact (C8.pe_c c__law_wait_by hr (by decide) (by rfl) (pa_cons (C8.pe_c c__law_mixed hr (by decide) (by rfl) (pa_cons (pv 0) (pa_cons (pe_op op_add pe_int (pe_op op_mod (pv 6) pe_int)) (pa_cons (pv 6) pa_nil)))) (pa_cons (pv 2) (pa_cons (pv 3) pa_nil))))))
      (pss_cons (ps_set (i := 5) sc_law_waits.nd rfl (Or.inr rfl) (pe_op op_fdiv (C8.pe_c c__law_cell_at hr (by decide) (by rfl) (pa_cons (pv 0) (pa_cons pe_int pa_nil))) pe_int))
      (pss_cons (ps_if (pt_cmpR op_eq (pe_op op_mod (pv 5) pe_int) pe_int (nomark _)) 
        (pss_one (ps_asg (pe_tup (pa_cons (pe_ix (ix_listK (K := K) rfl) (pe_lst (pa_cons pe_str (pa_cons pe_str pa_nil))) (pe_op op_mod (pe_op op_fdiv (pv 5) pe_int) pe_int) (fun _ _ => rfl)) (pa_cons (pe_lc (own := [("_law_k", 6)]) (by rfl) sc_law_waits.nd (pi_range1 (by rfl) B.m_range (pa_cons (pv 2) pa_nil)) (blkOk_by (own := [("_law_k", 6)]) (N := ["_law_script", "_law_cell", "_law_size", "_law_few", "_law_waits_here", "_law_wide", "_law_k"]) (sc := defScope s_law_waits) (by decide +kernel)) (fun _ _ _ _ _ => by exact (pg_name (i := 6) sc_law_waits.nd rfl (Or.inl rfl))) (fun _ _ _ _ _ => by exact pts_nil) (fun _ _ _ _ _ => by exact (pe_op op_mod (pe_op op_sub (pe_op op_add (pv 2) (pe_op op_fdiv (pv 5) pe_int)) (pv 6)) (pv 2)))) pa_nil))) (pg_sub (pv 4) (pe_op op_mod (pe_op op_fdiv (pv 5) pe_int) (pv 2)) set_list))) pss_nil)
      (pss_cons (ps_if (pt_cmpR op_eq (pe_op op_mod (pv 5) pe_int) pe_int (nomark _)) 
        (pss_one (ps_set (i := 4) sc_law_waits.nd rfl (Or.inl rfl) (pe_op op_cat (pe_lc (own := [("_law_k", 6)]) (by rfl) sc_law_waits.nd (pi_range1 (by rfl) B.m_range (pa_cons (pe_op op_sub (pv 2) pe_int) pa_nil)) (blkOk_by (own := [("_law_k", 6)]) (N := ["_law_script", "_law_cell", "_law_size", "_law_few", "_law_waits_here", "_law_wide", "_law_k"]) (sc := defScope s_law_waits) (by decide +kernel)) (fun _ _ _ _ _ => by exact (pg_name (i := 6) sc_law_waits.nd rfl (Or.inl rfl))) (fun _ _ _ _ _ => by exact pts_nil) (fun _ _ _ _ _ => by exact (pe_tup (pa_cons pe_str (pa_cons (pe_lst (pa_cons (pe_op op_add (pv 6) pe_int) pa_nil)) pa_nil))))) (pe_lst (pa_cons pe_non pa_nil))))) pss_nil)
      (pss_one (ps_ret (pv 4))))))))))), ?_⟩
    have hs := size2_pos ns
    have c0 : ∀ (k : Nat) (σ : L2.St) (te : TE), σ[0]? = some (some v) → Ev te σ B0 (.int (k : Nat)) → Ev (tCall (sp_law_cell_at K) [] C8.E0 (tCons (tVar 0) (tCons te tNil))) σ B0 (.int (cellZ ns k)) :=
      fun k σ te s0 hk => ev_gint (eg_call (ega_cons (eg_var s0 a1) (ega_cons (eg_int hk) ega_nil)) ⟨ns, k, rfl, rfl⟩)
    refine q_asg (Ev.mono eB (c0 0 _ _ rfl ev_c)) fun H1 e1 => ?_
    refine q_asg (Ev.mono (eB.trans e1) (ev_op ev_c (ev_op (ev_var rfl) ev_c (rv_I (by decide))) rv_I0)) fun H2 e2 => ?_
    have sz : Evl.Ev (tC (.int ((size2 ns : Nat) : Int))) [] H2 (.int ((size2 ns : Nat) : Int)) := ev_c
    refine q_ifAsg (v := .int ((size2 ns : Nat) : Int)) (EvT.mono ((eB.trans e1).trans e2) (et_test (ev_op (ev_op (ev_op (ev_var rfl) ev_c (rv_I ⟨by decide, by decide⟩)) ev_c (rv_I (by decide))) ev_c (rv_eq rfl)))) (fun hb => Ev.mono ((eB.trans e1).trans e2) (ev_is (ev_op ev_c (ev_op (ev_op (ev_var rfl) ev_c (rv_I ⟨by decide, by decide⟩)) ev_c (rv_I (by decide))) rv_I0) ?_)) (fun hb => ?_) fun H3 e3 => ?_
    · have z := V.int.inj (of_decide_eq_true hb)
      unfold size2 sizeN
      rw [if_pos z]
      refine congrArg V.int ?_
      omega
    · have z : ¬ cellZ ns 0 / 7 % 4 = 1 := fun z => (of_decide_eq_false hb) (congrArg V.int z)
      have e : ((size2 ns : Nat) : Int) = 1 + cellZ ns 0 % 7 := by
        unfold size2 sizeN
        rw [if_neg z]
        omega
      rw [e] <;> rfl
    have eB3 := ((eB.trans e1).trans e2).trans e3
    -- few
    have fw : (if decide (V.int (cellZ ns 1 % 3) = V.int 0) = true then (1 : Int) else 0) = ((few2 ns : Nat) : Int) := by
      unfold few2
      by_cases z : cellZ ns 1 % 3 = 0
      · rw [if_pos z, if_pos (decide_eq_true (congrArg V.int z))] <;> rfl
      · rw [if_neg z, if_neg (fun y => z (V.int.inj (of_decide_eq_true y)))] <;> rfl
    refine q_asg (v := .int ((few2 ns : Nat) : Int)) (Ev.mono eB3 (ev_is (ev_intB (ev_op (ev_op (c0 1 _ _ rfl ev_c) ev_c (rv_I (by decide))) ev_c (rv_eq rfl))) (congrArg V.int fw))) fun H4 e4 => ?_
    have eB4 := eB3.trans e4
    -- the waits by cells
    refine q_asgN (K := K) (ds := (base2 ns).map dW) (σ := [some v, some (.int (cellZ ns 0)), some (.int ((size2 ns : Nat) : Int)), some (.int ((few2 ns : Nat) : Int)), none, none, none]) ?_ eB4 fun p vs H5 G n5 hp gp hv pv => ?_
    · have e : (base2 ns).map dW = (List.range (size2 ns)).map fun k => dW (wait2 (mixN 48271 7919 999983 ns (2 + k % 40) (k : Nat)) (size2 ns) (few2 ns)) := by
        unfold base2
        rw [List.map_map] <;> rfl
      rw [e]
      refine nl_lcRM _ (ea_cons (ev_var rfl) ea_nil) (by omega) (fun _ => rfl) fun i hi => ?_
      have ci : (2 : Int) + (i : Int) % 40 = ((2 + i % 40 : Nat) : Int) := by omega
      exact eg_call (ega_cons (eg_call (ega_cons (eg_var rfl a1) (ega_cons (eg_int (ev_is (ev_op ev_c (ev_op (ev_var rfl) ev_c (rv_I (by decide))) rv_I0) (congrArg V.int ci))) (ega_cons (eg_int (ev_var rfl)) ega_nil))) ⟨ns, 2 + i % 40, (i : Nat), rfl, rfl⟩) (ega_cons (eg_int (ev_var rfl)) (ega_cons (eg_int (ev_var rfl)) ega_nil))) ⟨_, _, _, rfl, hs.1, hs.2, by unfold few2; split <;> omega, rfl⟩
    have g5 := Gl.mk0 n5 hp gp hv pv
    have eH5 : Ex H H5 := (((e1.trans e2).trans e3).trans e4).trans n5.ex
    have eB5 : Ex B0 H5 := eB.trans eH5
    refine q_asg (v := .int (wide2 ns)) (Ev.mono eB5 (ev_op (c0 1 _ _ rfl ev_c) ev_c (rv_I ⟨by decide, by decide⟩))) fun H6 e6 => ?_
    -- what follows the first if
    have q' := q.at (((e1.trans e2).trans e3).trans e4)
    have tail : ∀ H7, Ex H4 H7 → Gl K B0 H4 p ((mid2 ns).map dW) H7 →
        tSeq (tIfS (tTest (tOp rEq (tOp (rI (fun _ j => 0 < j) fun i j => .int (i % j)) (tVar 5) (tC (.int 8))) (tC (.int 2))))
          (tAsg (tOp rCat (tLc (iRng1 (tCons (tOp (rI0 fun i j => .int (i - j)) (tVar 2) (tC (.int 1))) tNil)) (gName 6) tYes (tTup (tCons (tC (.str (Str.ofString "any"))) (tCons (tLst (tCons (tOp (rI0 fun i j => .int (i + j)) (tVar 6) (tC (.int 1))) tNil)) tNil))) [6]) (tLst (tCons (tC .non) tNil))) (gName 4)) tNext) (tRet (tVar 4))
          { nx := fun _ H' => Q .non H', rt := Q } [some v, some (.int (cellZ ns 0)), some (.int ((size2 ns : Nat) : Int)), some (.int ((few2 ns : Nat) : Int)), some (.ref p), some (.int (wide2 ns)), none] H7 := by
      intro H7 e7 g7
      refine q_when (EvT.mono g7.sub (et_test (ev_op (ev_op (ev_var rfl) ev_c (rv_I (by decide))) ev_c (rv_eq rfl)))) (fun hb H8 e8 => ?_) (fun hb H8 e8 => ?_)
      · have z := V.int.inj (of_decide_eq_true hb)
        have e : (ws2 ns).map dW = ((List.range (size2 ns - 1)).map fun k : Nat => PyData.tuple [.str (Str.ofString "any"), .list [.int ((k + 1 : Nat) : Int)]]) ++ [.none] := by
          unfold ws2 chainW
          rw [if_pos z, List.map_append, List.map_map] <;> rfl
        rw [e] at q'
        have cs : ((size2 ns : Nat) : Int) - 1 = ((size2 ns - 1 : Nat) : Int) := by omega
        refine s_asgN (K := K) (B := B0) (nl_cat (nl_lcRM (fun k : Nat => PyData.tuple [.str (Str.ofString "any"), .list [.int ((k + 1 : Nat) : Int)]]) (ea_cons (ev_is (ev_op (ev_var rfl) ev_c rv_I0) (congrArg V.int cs)) ea_nil) (by omega) (fun _ => rfl) fun i hi => ?_) (nl_lst (ega_cons (eg_non ev_c) ega_nil) (by show 1 ≤ 100000; decide)) (by rw [List.length_map, List.length_range]; show _ + 1 ≤ _; omega)) (g7.sub.trans e8) fun p2 vs2 H9 G9 n9 hp2 gp2 hv2 pv2 => ?_
        · exact eg_tup (ega_cons (eg_str ev_c) (ega_cons (eg_lst (ega_cons (eg_int (ev_is (ev_op (ev_var rfl) ev_c rv_I0) (congrArg V.int (by push_cast; rfl)))) ega_nil) (by show 1 ≤ 100000; decide)) ega_nil)) (by show 2 ≤ 100000; decide)
        · refine s_ret (ev_var rfl) fun H10 e10 => ?_
          exact ((q'.at (e7.trans e8)).nl p2 vs2 H10 G9 (n9.later e10) hp2 gp2 (e10 _ _ hv2) pv2)
      · have z : ¬ wide2 ns % 8 = 2 := fun z => (of_decide_eq_false hb) (congrArg V.int z)
        have e : ws2 ns = mid2 ns := by
          unfold ws2
          rw [if_neg z]
        rw [e] at q'
        exact s_ret (ev_var rfl) fun H9 e9 => ((g7.ex e8).ex e9).ret q'.nl
    refine q_when (EvT.mono (eB5.trans e6) (et_test (ev_op (ev_op (ev_var rfl) ev_c (rv_I (by decide))) ev_c (rv_eq rfl)))) (fun hb H7 e7 => ?_) (fun hb H7 e7 => ?_)
    · have z := V.int.inj (of_decide_eq_true hb)
      have e : (mid2 ns).map dW = ((base2 ns).map dW).set (wide2 ns / 4 % (size2 ns : Int)).toNat (dW (some (decide (wide2 ns / 4 % 2 = 0), rowN (size2 ns) (wide2 ns)))) := by
        unfold mid2
        rw [if_pos z, List.map_set]
      rw [e] at tail
      have hp2 : (0 : Int) < ((size2 ns : Nat) : Int) := by omega
      have ix : wide2 ns / 4 % ((size2 ns : Nat) : Int) = (((wide2 ns / 4 % ((size2 ns : Nat) : Int)).toNat : Nat) : Int) := (Int.toNat_of_nonneg (Int.emod_nonneg _ (by omega))).symm
      have lt : (wide2 ns / 4 % ((size2 ns : Nat) : Int)).toNat < size2 ns := by
        have := Int.emod_lt_of_pos (wide2 ns / 4) hp2
        omega
      have rw0 : (rowN (size2 ns) (wide2 ns)).map natD = (List.range (size2 ns)).map fun k : Nat => PyData.int (((((size2 ns : Nat) : Int) + wide2 ns / 4 - (k : Int)) % ((size2 ns : Nat) : Int)).toNat : Nat) := by
        unfold rowN
        rw [List.map_map] <;> rfl
      have wix : ([PyData.str (Str.ofString "all"), PyData.str (Str.ofString "any")])[(wide2 ns / 4 % 2).toNat]? = some (.str (wordS (decide (wide2 ns / 4 % 2 = 0)))) := by
        have : wide2 ns / 4 % 2 = 0 ∨ wide2 ns / 4 % 2 = 1 := by omega
        rcases this with e | e <;> rw [e] <;> rfl
      refine s_setG (K := K) ((g5.ex e6).ex e7) (ev_var rfl) (ev_is (ev_op (ev_op (ev_var rfl) ev_c (rv_I ⟨by decide, by decide⟩)) (ev_var rfl) (rv_I hp2)) (congrArg V.int ix)) (eg_tup (ega_cons (eg_ixL (i := (wide2 ns / 4 % 2).toNat) (eg_lst (ega_cons (eg_str ev_c) (ega_cons (eg_str ev_c) ega_nil)) (by show 2 ≤ 100000; decide)) (ev_is (ev_op (ev_op (ev_var rfl) ev_c (rv_I ⟨by decide, by decide⟩)) ev_c (rv_I (by decide))) (congrArg V.int (by omega))) wix) (ega_cons ?_ ega_nil)) (by show 2 ≤ 100000; decide)) (by rw [List.length_map, base2_len]; exact lt) fun H8 e8 g8 => tail H8 e8 g8
      rw [rw0]
      refine EvNL.eg (nl_lcRM _ (ea_cons (ev_var rfl) ea_nil) (by omega) (fun _ => rfl) fun i hi => eg_int (ev_is (ev_op (ev_op (ev_op (ev_var rfl) (ev_op (ev_var rfl) ev_c (rv_I ⟨by decide, by decide⟩)) rv_I0) (ev_var rfl) rv_I0) (ev_var rfl) (rv_I hp2)) (congrArg V.int ?_)))
      exact (Int.toNat_of_nonneg (Int.emod_nonneg _ (by omega))).symm
    · have z : ¬ wide2 ns % 4 = 1 := fun z => (of_decide_eq_false hb) (congrArg V.int z)
      have e : mid2 ns = base2 ns := by
        unfold mid2
        rw [if_neg z]
      rw [e] at tail
      exact tail H7 ((n5.ex.trans e6).trans e7) ((g5.ex e6).ex e7)
end
end Sb
namespace Sb
open PySem PySem.Spec PyProof.Rows L2 Evl
section
variable {P : Program} {w : World} {K : PySem.W.Frag} {mg : Str → Option Value} {base : Heap} {tk : Nat}
theorem ok_law_copy {f : Addr} {fd : FuncData} (F : L2.Fun K "_law_copy" "_law_copy" s_law_copy f fd) (B : Bn K mg tk) : FnOk P w K mg base CX0 1 f fd ["_law_waits_here"] (sp_law_copy K) := by
  refine F.ok (k := 0) sc_law_copy (fun vs H Q E h => ?_) (fun cdv A outer s H vs Q E hr h => ?_)
  · exact spD_len (n := 1) (fun ds d ⟨ns, e, _⟩ => by rw [e] <;> rfl) h
  · obtain ⟨B0, ds, d, eB, a, ⟨ws, rfl, hl, rfl⟩, q⟩ := h
    obtain ⟨v, rfl, a1⟩ := dpa1 a
    refine ⟨_, (pss_cons (ps_set (i := 1) sc_law_copy.nd rfl (Or.inl rfl) (pe_lst pa_nil))
      (pss_cons (ps_for PassesOwn.never rfl (pi_listK (K := K) rfl (pv 0)) (pg_name (i := 2) sc_law_copy.nd rfl (Or.inl rfl)) 
        (pss_one (ps_if (pt_cmpR op_isN (pv 2) pe_non (nomark _)) 
          (pss_one (ps_expr (pe_bm PySem.F.plainAttrs_list PySem.F.slot_list_append PySem.F.type_list_append mt_append (pv 1) (pa_cons pe_non pa_nil)))) 
          (pss_one (ps_expr (pe_bm PySem.F.plainAttrs_list PySem.F.slot_list_append PySem.F.type_list_append mt_append (pv 1) (pa_cons (pe_tup (pa_cons (pe_ix (ix_tupK (K := K) rfl) (pv 2) pe_int (fun _ _ => rfl)) (pa_cons (pe_callTy (listK (K := K) rfl) (by rfl) B.m_list boot_list (pa_cons (pe_ix (ix_tupK (K := K) rfl) (pv 2) pe_int (fun _ _ => rfl)) pa_nil)) pa_nil))) pa_nil)))))))
      (pss_one (ps_ret (pv 1))))), ?_⟩
    have hlen : (ws.map dW).length = ws.length := List.length_map _
    refine q_asgN (K := K) (nl_lst ega_nil (by show 0 ≤ 100000; decide)) eB fun p vs H1 G n1 hp gp hv pv => ?_
    have g1 := Gl.mk0 n1 hp gp hv pv
    refine q_forV (K := K) (ev_var rfl) a1 (n1.sub.trans n1.up) (fun i σ' H' => (∃ y, σ' = [some v, some (.ref p), y]) ∧ Gl K B0 H p ((ws.map dW).take i) H') (fun H2 e2 => ⟨⟨_, rfl⟩, g1.ex e2⟩) (fun i σ' H' hi z => z.2.sub) (fun i x d σ' H' hd pd z => ?_) (fun σ' H' z => ?_)
    · obtain ⟨⟨y, rfl⟩, gl⟩ := z
      obtain ⟨w, hw, rfl⟩ := dW_at hd
      have hi : i < ws.length := (List.getElem?_eq_some_iff.mp hw).1
      have e8 : (ws.map dW).take (i + 1) = (ws.map dW).take i ++ [dW w] := by
        rw [List.take_add_one, hd] <;> rfl
      have hz : ((ws.map dW).take i).length < 100000 := by
        rw [List.length_take]
        omega
      refine s_if (EvT.mono gl.sub (et_test (ev_isN (eg_var rfl pd)))) (fun hb H3 e3 => ?_) (fun hb H3 e3 => ?_)
      · have : w = none := by
          cases w with
          | none => rfl
          | some bh => cases hb
        subst this
        refine s_appG (gl.ex e3) (ev_var rfl) (eg_non ev_c) hz fun H4 e4 g4 => ⟨⟨_, rfl⟩, ?_⟩
        rw [e8]
        exact g4
      · cases w with
        | none => cases hb
        | some bh =>
          obtain ⟨b, hs⟩ := bh
          refine s_appG (d := dW (some (b, hs))) (gl.ex e3) (ev_var rfl) (eg_tup (ega_cons (eg_ixT (i := 0) (eg_var rfl pd) ev_c rfl) (ega_cons (nl_listof (eg_ixT (i := 1) (eg_var rfl pd) ev_c rfl)).eg ega_nil)) (by show 2 ≤ 100000; decide)) hz fun H4 e4 g4 => ⟨⟨_, rfl⟩, ?_⟩
          rw [e8]
          exact g4
    · obtain ⟨⟨y, rfl⟩, gl⟩ := z
      rw [List.take_length] at gl
      exact s_ret (ev_var rfl) fun H3 e3 => (gl.ex e3).ret q.nl
end
end Sb
namespace Sb
open PySem PySem.Spec PyProof.Rows L2 Evl
def pF (rs : Rds) : PyData → Bool
  | .int i => !noneD (dR (rd rs i.toNat))
  | _ => false
def gF (rs : Rds) : PyData → PyData
  | .int i => dR (rd rs i.toNat)
  | _ => .none
theorem pF_nat (rs : Rds) (h : Nat) : pF rs (natD h) = (rd rs h).isSome := by
  show (!noneD (dR (rd rs ((h : Nat) : Int).toNat))) = _
  rw [Int.toNat_natCast, none_dR]
  cases rd rs h <;> rfl
theorem gF_nat (rs : Rds) (h : Nat) : gF rs (natD h) = dR (rd rs h) := by
  show dR (rd rs ((h : Nat) : Int).toNat) = _
  rw [Int.toNat_natCast]
theorem filt_come {rs : Rds} (hs : List Nat) : ((hs.map natD).filter (pF rs)).map (gF rs) = (come hs rs).map natD := by
  induction hs with
  | nil => rfl
  | cons h r ih =>
    rw [List.map_cons, List.filter_cons, pF_nat]
    unfold come at ih ⊢
    rw [List.filterMap_cons]
    cases q : rd rs h with
    | none => exact ih
    | some x =>
      show (natD h :: (r.map natD).filter (pF rs)).map (gF rs) = (x :: r.filterMap (rd rs)).map natD
      rw [List.map_cons, List.map_cons, ih, gF_nat, q]
      rfl
theorem rcMin {K : PySem.W.Frag} {σ : L2.St} {B : Hp} {ta : TE} {l : List Nat} (h : EvG K ta σ B (.list (l.map natD))) (hl : l ≠ []) : Ev (tCB (rMin K) (tCons ta tNil)) σ B (.int ((minL l : Nat) : Int)) := fun H e Q q =>
  h H e _ fun v H2 G n p => by
    cases p with
    | lst hs ha =>
      rw [ints_nat] at ha
      rw [dpa_ints ha] at hs
      refine ⟨_, _, rfl, ex_l n.up hs, by rw [List.length_map]; exact List.length_pos_iff.mpr hl, fun m hm hle => ?_⟩
      obtain ⟨k, hk, rfl⟩ := List.mem_map.mp hm
      have e : minL l = k := minL_eq hk fun y hy => by
        have := hle (y : Int) (List.mem_map.mpr ⟨y, hy, rfl⟩)
        omega
      rw [e] at q
      exact q H2 n.ex
theorem rcMax {K : PySem.W.Frag} {σ : L2.St} {B : Hp} {ta : TE} {l : List Nat} (h : EvG K ta σ B (.list (l.map natD))) (hl : l ≠ []) : Ev (tCB (rMax K) (tCons ta tNil)) σ B (.int ((maxL l : Nat) : Int)) := fun H e Q q =>
  h H e _ fun v H2 G n p => by
    cases p with
    | lst hs ha =>
      rw [ints_nat] at ha
      rw [dpa_ints ha] at hs
      refine ⟨_, _, rfl, ex_l n.up hs, by rw [List.length_map]; exact List.length_pos_iff.mpr hl, fun m hm hle => ?_⟩
      obtain ⟨k, hk, rfl⟩ := List.mem_map.mp hm
      have e : maxL l = k := maxL_eq hk fun y hy => by
        have := hle (y : Int) (List.mem_map.mpr ⟨y, hy, rfl⟩)
        omega
      rw [e] at q
      exact q H2 n.ex
section
variable {P : Program} {w : World} {K : PySem.W.Frag} {mg : Str → Option Value} {base : Heap} {tk : Nat}
theorem ok_law_due {f : Addr} {fd : FuncData} (F : L2.Fun K "_law_due" "_law_due" s_law_due f fd) (B : Bn K mg tk) : FnOk P w K mg base CX0 1 f fd ["_law_wait", "_law_rounds"] (sp_law_due K) := by
  refine F.ok (k := 0) sc_law_due (fun vs H Q E h => ?_) (fun cdv A outer s H vs Q E hr h => ?_)
  · exact spD_len (n := 2) (fun ds d ⟨w, rs, e, _⟩ => by rw [e] <;> rfl) h
  · obtain ⟨B0, ds, d, eB, a, ⟨w, rs, rfl, gw, hl, rfl⟩, q⟩ := h
    obtain ⟨v, v2, rfl, a1, a2⟩ := dpa2 a
    refine ⟨_, (pss_cons (ps_if (pt_cmpR op_isN (pv 0) pe_non (nomark _)) 
        (pss_one (ps_ret pe_int)) pss_nil)
      (pss_cons (ps_setLc (i := 2) (own := [("_law_one", 3)]) (by rfl) sc_law_due.nd rfl rfl (sw_true rfl rfl rfl (by decide +kernel)) (pi_listK (K := K) rfl (pe_ix (ix_tupK (K := K) rfl) (pv 0) pe_int (fun _ _ => rfl))) (blkOk_by (own := [("_law_one", 3)]) (N := ["_law_wait", "_law_rounds", "_law_come", "_law_one"]) (sc := defScope s_law_due) (by decide +kernel)) (fun _ _ _ _ _ => by exact (pg_name (i := 3) sc_law_due.nd rfl (Or.inl rfl))) (fun _ _ _ _ _ => by exact (pts_one (pt_cmpR op_notN (pe_ix (ix_listK (K := K) rfl) (pv 1) (pv 3) (fun _ _ => rfl)) pe_non (nomark _)))) (fun _ _ _ _ _ => by exact (pe_ix (ix_listK (K := K) rfl) (pv 1) (pv 3) (fun _ _ => rfl))))
      (pss_cons (ps_if (PW.pt (pw_and (pt_cmpR op_eq (pe_ix (ix_tupK (K := K) rfl) (pv 0) pe_int (fun _ _ => rfl)) pe_str (nomark _)) (pw_and1 (pt_cmpR (neK (K := K) rfl hr.units) (pv 2) (pe_lst pa_nil) (nomark _))))) 
        (pss_one (ps_ret (pe_op op_add pe_int (pe_callB (minK (K := K) rfl rfl) (by rfl) B.m_min (by decide +kernel) (pa_cons (pv 2) pa_nil))))) pss_nil)
      (pss_cons (ps_if (PW.pt (pw_and (pt_cmpR op_eq (pe_ix (ix_tupK (K := K) rfl) (pv 0) pe_int (fun _ _ => rfl)) pe_str (nomark _)) (pw_and1 (pt_cmpR op_eq (pe_callB (lenK (K := K) rfl) (by rfl) B.m_len PySem.boot_len (pa_cons (pv 2) pa_nil)) (pe_callB (lenK (K := K) rfl) (by rfl) B.m_len PySem.boot_len (pa_cons (pe_ix (ix_tupK (K := K) rfl) (pv 0) pe_int (fun _ _ => rfl)) pa_nil)) (nomark _))))) 
        (pss_one (ps_ret (pe_op op_add pe_int (pe_callB (maxK (K := K) rfl rfl) (by rfl) B.m_max (by decide +kernel) (pa_cons (pv 2) pa_nil))))) pss_nil)
      (pss_one (ps_ret pe_non)))))), ?_⟩
    refine q_when (EvT.mono eB (et_test (ev_isN (eg_var rfl a1)))) (fun hb H1 e1 => ?_) (fun hb H1 e1 => ?_)
    · cases w with
      | none => exact s_retG (K := K) (eg_int (i := 0) ev_c) (eB.trans e1) (q.at e1)
      | some bh => cases hb
    cases w with
    | none => cases hb
    | some bh =>
      obtain ⟨b, hs⟩ := bh
      obtain ⟨g1, g2, g3⟩ := gw b hs rfl
      have hfew := nodup_le _ hs g2 g3
      have L : EvNL K (tLc (iList K (tOp (rIxT K) (tVar 0) (tC (.int 1)))) (gName 3) (tTest (tOp (fun x y H Q => y = .non ∧ Q (.bl (!decide (x = .non))) H) (tOp (rIxL K) (tVar 1) (tVar 3)) (tC .non))) (tOp (rIxL K) (tVar 1) (tVar 3)) [3]) [some v, some v2, none, none] B0 ((come hs rs).map natD) := by
        rw [← filt_come]
        refine nl_lcF _ _ (eg_ixT (i := 1) (eg_var rfl a1) ev_c rfl) (by rw [List.length_map]; omega) (fun _ => rfl) (fun x d B' e' hd p => ?_) (fun x d B' e' hd p _ => ?_)
        · obtain ⟨h, hh, rfl⟩ := List.mem_map.mp hd
          obtain rfl := dp_int p
          show EvT _ _ B' (!noneD (dR (rd rs ((h : Nat) : Int).toNat)))
          rw [Int.toNat_natCast]
          exact et_test (ev_notN (eg_ixL (eg_var rfl (dp_ex e' _ _ a2)) (ev_var rfl) (dR_at (g3 h hh))))
        · obtain ⟨h, hh, rfl⟩ := List.mem_map.mp hd
          obtain rfl := dp_int p
          show EvG K _ _ B' (dR (rd rs ((h : Nat) : Int).toNat))
          rw [Int.toNat_natCast]
          exact eg_ixL (eg_var rfl (dp_ex e' _ _ a2)) (ev_var rfl) (dR_at (g3 h hh))
      refine q_asgG L.eg (eB.trans e1) fun v3 H2 G2 n2 p3 => ?_
      have q2 := (q.at e1).sub n2
      have sh : SeqAt.shaped (.list ((come hs rs).map natD)) = true := shaped_nats _
      have emp : PyData.eqv (.list ((come hs rs).map natD)) (.list []) = (come hs rs).isEmpty := eqv_nil _
      have ap := dp_ex n2.sub _ _ a1
      refine q_when (EvT.mono n2.up (PW_and2 (et_test (ev_op (ev_gstr (eg_ixT (i := 0) (eg_var rfl ap) ev_c rfl)) ev_c (rv_eq rfl))) (et_test (ev_neD (eg_var rfl p3) (eg_lst ega_nil (by show 0 ≤ 100000; decide)) sh (by decide +kernel))))) (fun hb2 H3 e3 => ?_) (fun hb2 H3 e3 => ?_)
      · rw [word_any, emp, Bool.and_eq_true] at hb2
        cases b with
        | true => cases hb2.1
        | false =>
          have hne : come hs rs ≠ [] := fun z => by rw [z] at hb2; cases hb2.2
          rw [due_any, if_neg hne] at q2
          refine s_retG (K := K) (d := dR (some (1 + minL (come hs rs)))) (eg_int (ev_is (ev_op ev_c (rcMin (eg_var rfl p3) hne) rv_I0) (congrArg V.int (by push_cast; rfl)))) (n2.up.trans e3) (q2.at e3)
      · refine q_when (EvT.mono (n2.up.trans e3) (PW_and2 (et_test (ev_op (ev_gstr (eg_ixT (i := 0) (eg_var rfl ap) ev_c rfl)) ev_c (rv_eq rfl))) (et_test (ev_op (ev_lenG (eg_var rfl p3)) (ev_lenG (eg_ixT (i := 1) (eg_var rfl ap) ev_c rfl)) (rv_eq rfl))))) (fun hb3 H4 e4 => ?_) (fun hb3 H4 e4 => ?_)
        · rw [word_all, Bool.and_eq_true] at hb3
          obtain ⟨rfl, hb4⟩ := hb3
          have z := V.int.inj (of_decide_eq_true hb4)
          rw [List.length_map, List.length_map] at z
          have z2 : (come hs rs).length = hs.length := by omega
          have hne : come hs rs ≠ [] := fun z3 => by
            rw [z3] at z2
            exact g1 (List.eq_nil_of_length_eq_zero z2.symm)
          rw [due_all, if_pos z2] at q2
          refine s_retG (K := K) (d := dR (some (1 + maxL (come hs rs)))) (eg_int (ev_is (ev_op ev_c (rcMax (eg_var rfl p3) hne) rv_I0) (congrArg V.int (by push_cast; rfl)))) ((n2.up.trans e3).trans e4) (q2.at (e3.trans e4))
        · have e9 : due (some (b, hs)) rs = none := by
            cases b with
            | false =>
              rw [due_any]
              rw [word_any, emp] at hb2
              cases q9 : come hs rs with
              | nil => exact if_pos rfl
              | cons x r => rw [q9] at hb2; cases hb2
            | true =>
              rw [due_all, if_neg]
              intro z
              rw [word_all, List.length_map, List.length_map, z, decide_eq_true rfl] at hb3
              cases hb3
          rw [e9] at q2
          exact s_retG (K := K) (eg_non ev_c) ((n2.up.trans e3).trans e4) (q2.at (e3.trans e4))
end
end Sb
namespace Sb
open PySem PySem.Spec PyProof.Rows L2 Evl
section
variable {P : Program} {w : World} {K : PySem.W.Frag} {mg : Str → Option Value} {base : Heap} {tk : Nat}
theorem ok_law_plain {f : Addr} {fd : FuncData} (F : L2.Fun K "_law_plain" "_law_plain" s_law_plain f fd) (B : Bn K mg tk) (c__law_due : C8.Cal P w K mg base 1 "_law_due" (sp_law_due K) []) : FnOk P w K mg base CX0 2 f fd ["_law_waits_here"] (sp_law_plain K) := by
  refine F.ok (k := 1) sc_law_plain (fun vs H Q E h => ?_) (fun cdv A outer s H vs Q E hr h => ?_)
  · exact spD_len (n := 1) (fun ds d ⟨ns, e, _⟩ => by rw [e] <;> rfl) h
  · obtain ⟨B0, ds, d, eB, a, ⟨ws, rfl, gd, hl, rfl⟩, q⟩ := h
    obtain ⟨v, rfl, a1⟩ := dpa1 a
    refine ⟨_, (pss_cons (ps_set (i := 1) sc_law_plain.nd rfl (Or.inr rfl) (pe_op op_rep (pe_lst (pa_cons pe_non pa_nil)) (pe_callB (lenK (K := K) rfl) (by rfl) B.m_len PySem.boot_len (pa_cons (pv 0) pa_nil))))
      (pss_cons (ps_for PassesOwn.never rfl (pi_range1 (by rfl) B.m_range (pa_cons (pe_callB (lenK (K := K) rfl) (by rfl) B.m_len PySem.boot_len (pa_cons (pv 0) pa_nil)) pa_nil)) (pg_name (i := 2) sc_law_plain.nd rfl (Or.inl rfl)) 
        (pss_cons (ps_setLc (i := 3) (own := [("_law_wait", 4)]) (by rfl) sc_law_plain.nd rfl rfl (sw_true rfl rfl rfl (by decide +kernel)) (pi_listK (K := K) rfl (pv 0)) (blkOk_by (own := [("_law_wait", 4)]) (N := ["_law_waits_here", "_law_rounds", "_law_turn", "_law_due_here", "_law_wait", "_law_one"]) (sc := defScope s_law_plain) (by decide +kernel)) (fun _ _ _ _ _ => by exact (pg_name (i := 4) sc_law_plain.nd rfl (Or.inl rfl))) (fun _ _ _ _ _ => by exact pts_nil) (fun _ _ _ _ _ => by exact (C8.pe_c c__law_due hr (by decide) (by rfl) (pa_cons (pv 4) (pa_cons (pv 1) pa_nil)))))
        (pss_one (ps_set (i := 1) sc_law_plain.nd rfl (Or.inr rfl) (pe_lc (own := [("_law_one", 5)]) (by rfl) sc_law_plain.nd (pi_listK (K := K) rfl (pv 3)) (blkOk_by (own := [("_law_one", 5)]) (N := ["_law_waits_here", "_law_rounds", "_law_turn", "_law_due_here", "_law_wait", "_law_one"]) (sc := defScope s_law_plain) (by decide +kernel)) (fun _ _ _ _ _ => by exact (pg_name (i := 5) sc_law_plain.nd rfl (Or.inl rfl))) (fun _ _ _ _ _ => by exact pts_nil) (fun _ _ _ _ _ => by exact (pv 5)))))))
      (pss_one (ps_ret (pv 1))))), ?_⟩
    have hlen : (ws.map dW).length = ws.length := List.length_map _
    have r0 : List.replicate ws.length PyData.none = (itR ws 0).map dR := by
      show _ = (List.replicate ws.length none).map dR
      rw [List.map_replicate] <;> rfl
    refine q_asgG (K := K) (nl_rep (n := ws.length) (nl_lst (ega_cons (eg_non ev_c) ega_nil) (by show 1 ≤ 100000; decide)) (ev_is (ev_lenG (eg_var rfl a1)) (congrArg (fun n : Nat => V.int (n : Nat)) hlen)) (by omega)).eg eB fun v1 H1 G n1 p1 => ?_
    rw [r0] at p1
    have q1 := q.sub n1
    refine q_forR1 (n := ((ws.length : Nat) : Int)) (EvA.mono (n1.sub.trans n1.up) (ea_cons (ev_is (ev_lenG (eg_var rfl a1)) (congrArg (fun n : Nat => V.int (n : Nat)) hlen)) ea_nil)) (by omega)
      (fun k σ' H' => ∃ x y2 y3 y4 y5 G', σ' = [some v, some x, y2, y3, y4, y5] ∧ Nw B0 H G' H' ∧ Dp K G' x (.list ((itR ws k).map dR))) (fun H2 e2 => ⟨v1, none, none, none, none, G, rfl, n1.later e2, p1⟩) (fun k σ' H' hk z => ?_) (fun σ' H' z => ?_)
    · obtain ⟨x, y2, y3, y4, y5, G', rfl, n2, p2⟩ := z
      have a2 := dp_ex n2.sub _ _ a1
      have L : EvNL K (tLc (iList K (tVar 0)) (gName 4) tYes (tCall (sp_law_due K) [] C8.E0 (tCons (tVar 4) (tCons (tVar 1) tNil))) [4]) [some v, some x, some (.int (k : Nat)), y3, y4, y5] G' ((ws.map fun w => due w (itR ws k)).map dR) := by
        have e : (ws.map fun w => due w (itR ws k)).map dR = givenD (ws.map dW).length (fun _ => true) (fun i => dR (due (ws.getD i none) (itR ws k))) := by
          unfold givenD
          rw [List.filter_eq_self.mpr (fun _ _ => rfl), hlen, List.map_map]
          refine List.ext_getElem (by simp) fun i h1 h2 => ?_
          simp
          have hi : i < ws.length := by simpa using h1
          rw [List.getElem?_eq_getElem hi] <;> rfl
        rw [e]
        refine nl_lcL _ _ (eg_var rfl a2) (by omega) (fun _ => rfl) (fun _ _ _ _ _ _ _ => et_yes) fun i x' d B' e' hd p _ => ?_
        obtain ⟨w, hw, rfl⟩ := dW_at hd
        have ew : ws.getD i none = w := by rw [List.getD_eq_getElem?_getD, hw] <;> rfl
        rw [ew]
        exact eg_call (ega_cons (eg_var rfl p) (ega_cons (eg_var rfl (dp_ex e' _ _ p2)) ega_nil)) ⟨w, itR ws k, rfl, by rw [itR_len]; exact good_at gd hw, by rw [itR_len]; exact hl, rfl⟩
      refine q_asgG L.eg n2.up fun v3 H3 G3 n3 p3 => ?_
      have e3 : (ws.map fun w => due w (itR ws k)).map dR = (itR ws (k + 1)).map dR := rfl
      rw [e3] at p3
      have M : EvNL K (tLc (iList K (tVar 3)) (gName 5) tYes (tVar 5) [5]) [some v, some x, some (.int (k : Nat)), some v3, y4, y5] G3 ((itR ws (k + 1)).map dR) := by
        have e := nl_lcM (K := K) (σ := [some v, some x, some (.int (k : Nat)), some v3, y4, y5]) (j := 5) (vs := [5]) (te := tVar 5) (tl := tVar 3) (fun d => d) (eg_var rfl p3) (by rw [List.length_map, itR_len]; omega) (fun _ => rfl) fun x' d B' e' hd p => eg_var rfl p
        rw [List.map_id'] at e
        exact e
      refine s_asgG M.eg n3.up fun v4 H4 G4 n4 p4 => ?_
      exact ⟨v4, _, _, _, _, G4, rfl, (n2.trans n3).trans n4, p4⟩
    · obtain ⟨x, y2, y3, y4, y5, G', rfl, n2, p2⟩ := z
      rw [Int.toNat_natCast] at p2
      exact s_retG (eg_var rfl p2) n2.up (q.sub n2)
end
end Sb
namespace Sb
open PySem PySem.Spec PyProof.Rows L2 Evl
theorem dR_int (o : Option Nat) : noneD (dR o) = true ∨ ∃ r : Nat, dR o = .int (r : Nat) := by
  cases o with
  | none => exact .inl rfl
  | some r => exact .inr ⟨r, rfl⟩
theorem eqv_same {n : Nat} {d : PyData} (h : Shp n d) : PyData.eqv d d = true := eqv_self d h.1
theorem tag_int (i : Int) : tagD (.int i) = "int" := rfl
section
variable {P : Program} {w : World} {K : PySem.W.Frag} {mg : Str → Option Value} {base : Heap} {tk : Nat}
theorem ok_law {f : Addr} {fd : FuncData} (F : L2.Fun K "law" "law" s_law f fd) (B : Bn K mg tk) (c__law_waits : C8.Cal P w K mg base 3 "_law_waits" (sp_law_waits K) []) (c__law_copy : C8.Cal P w K mg base 1 "_law_copy" (sp_law_copy K) []) (c_freed : C8.Cal P w K mg base 5 "freed" (sp_freed K) []) (c_stuck : C8.Cal P w K mg base 6 "stuck" (sp_stuck K) []) (c__law_plain : C8.Cal P w K mg base 2 "_law_plain" (sp_law_plain K) []) : FnOk P w K mg base CX0 7 f fd ["_law_script"] (sp_law K) := by
  refine F.ok (k := 6) sc_law (fun vs H Q E h => ?_) (fun cdv A outer s H vs Q E hr h => ?_)
  · exact spD_len (n := 1) (fun ds d ⟨ns, e, _⟩ => by rw [e] <;> rfl) h
  · obtain ⟨B0, ds, d, eB, a, ⟨ns, rfl, rfl⟩, q⟩ := h
    obtain ⟨v, rfl, a1⟩ := dpa1 a
    refine ⟨_, (pss_cons (ps_set (i := 1) sc_law.nd rfl (Or.inl rfl) (C8.pe_c c__law_waits hr (by decide) (by rfl) (pa_cons (pv 0) pa_nil)))
      (pss_cons (ps_set (i := 2) sc_law.nd rfl (Or.inl rfl) (C8.pe_c c__law_copy hr (by decide) (by rfl) (pa_cons (pv 1) pa_nil)))
      (pss_cons (ps_set (i := 3) sc_law.nd rfl (Or.inr rfl) (C8.pe_c c_freed hr (by decide) (by rfl) (pa_cons (pv 2) pa_nil)))
      (pss_cons (ps_if (PW.pt (pw_or (pt_cmpR (neK (K := K) rfl hr.units) (pv 2) (pv 1) (nomark _)) (pw_or (pt_not (pt_val (pe_callB (isiK (K := K) rfl) (by rfl) B.m_isinstance boot_isinstance (pa_cons (pv 3) (pa_cons (pe_bltn (v := .ty "list") (by rfl) B.m_list boot_list rfl) pa_nil))))) (pw_or1 (pt_cmpR op_ne (pe_callB (lenK (K := K) rfl) (by rfl) B.m_len PySem.boot_len (pa_cons (pv 3) pa_nil)) (pe_callB (lenK (K := K) rfl) (by rfl) B.m_len PySem.boot_len (pa_cons (pv 1) pa_nil)) (nomark _)))))) 
        (pss_one (ps_ret pe_bl)) pss_nil)
      (pss_cons (ps_for PassesOwn.never rfl (pi_listK (K := K) rfl (pv 3)) (pg_name (i := 4) sc_law.nd rfl (Or.inl rfl)) 
        (pss_one (ps_if (PW.pt (pw_and (pt_cmpR op_notN (pv 4) pe_non (nomark _)) (pw_and1 (PW.pt (pw_or (pt_not (pt_val (pe_callB (isiK (K := K) rfl) (by rfl) B.m_isinstance boot_isinstance (pa_cons (pv 4) (pa_cons (pe_bltn (v := .ty "int") (by rfl) B.m_int boot_int rfl) pa_nil))))) (pw_or (pt_val (pe_callB (isiK (K := K) rfl) (by rfl) B.m_isinstance boot_isinstance (pa_cons (pv 4) (pa_cons (pe_bltn (v := .ty "bool") (by rfl) B.m_bool boot_bool rfl) pa_nil)))) (pw_or1 (pt_cmpR op_lt (pv 4) pe_int (nomark _))))))))) 
          (pss_one (ps_ret pe_bl)) pss_nil)))
      (pss_cons (ps_if (pt_cmpR (neK (K := K) rfl hr.units) (pv 3) (C8.pe_c c__law_plain hr (by decide) (by rfl) (pa_cons (pv 1) pa_nil)) (nomark _)) 
        (pss_one (ps_ret pe_bl)) pss_nil)
      (pss_cons (ps_set (i := 5) sc_law.nd rfl (Or.inl rfl) (C8.pe_c c_stuck hr (by decide) (by rfl) (pa_cons (pv 2) pa_nil)))
      (pss_cons (ps_if (PW.pt (pw_or (pt_cmpR (neK (K := K) rfl hr.units) (pv 2) (pv 1) (nomark _)) (pw_or1 (pt_not (pt_val (pe_callB (isiK (K := K) rfl) (by rfl) B.m_isinstance boot_isinstance (pa_cons (pv 5) (pa_cons (pe_bltn (v := .ty "list") (by rfl) B.m_list boot_list rfl) pa_nil)))))))) 
        (pss_one (ps_ret pe_bl)) pss_nil)
      (pss_cons (ps_if (pt_cmpR (neK (K := K) rfl hr.units) (pe_lc (own := [("_law_one", 4)]) (by rfl) sc_law.nd (pi_listK (K := K) rfl (pv 5)) (blkOk_by (own := [("_law_one", 4)]) (N := ["_law_script", "_law_waits_here", "_law_handed", "_law_rounds", "_law_one", "_law_found", "_law_hand"]) (sc := defScope s_law) (by decide +kernel)) (fun _ _ _ _ _ => by exact (pg_name (i := 4) sc_law.nd rfl (Or.inl rfl))) (fun _ _ _ _ _ => by exact (pts_one (PW.pt (pw_or (pt_val (pe_callB (isiK (K := K) rfl) (by rfl) B.m_isinstance boot_isinstance (pa_cons (pv 4) (pa_cons (pe_bltn (v := .ty "bool") (by rfl) B.m_bool boot_bool rfl) pa_nil)))) (pw_or1 (pt_not (pt_val (pe_callB (isiK (K := K) rfl) (by rfl) B.m_isinstance boot_isinstance (pa_cons (pv 4) (pa_cons (pe_bltn (v := .ty "int") (by rfl) B.m_int boot_int rfl) pa_nil)))))))))) (fun _ _ _ _ _ => by exact (pv 4))) (pe_lst pa_nil) (nomark _)) 
        (pss_one (ps_ret pe_bl)) pss_nil)
      (pss_one (ps_ret (pe_cmpR (eqK (K := K) rfl hr.units) (pv 5) (pe_lc (own := [("_law_hand", 6)]) (by rfl) sc_law.nd (pi_range1 (by rfl) B.m_range (pa_cons (pe_callB (lenK (K := K) rfl) (by rfl) B.m_len PySem.boot_len (pa_cons (pv 1) pa_nil)) pa_nil)) (blkOk_by (own := [("_law_hand", 6)]) (N := ["_law_script", "_law_waits_here", "_law_handed", "_law_rounds", "_law_one", "_law_found", "_law_hand"]) (sc := defScope s_law) (by decide +kernel)) (fun _ _ _ _ _ => by exact (pg_name (i := 6) sc_law.nd rfl (Or.inl rfl))) (fun _ _ _ _ _ => by exact (pts_one (pt_cmpR op_isN (pe_ix (ix_listK (K := K) rfl) (pv 3) (pv 6) (fun _ _ => rfl)) pe_non (nomark _)))) (fun _ _ _ _ _ => by exact (pv 6))) (nomark _))))))))))))), ?_⟩
    have hs := size2_pos ns
    have gd := good2 ns
    have wl := ws2_len ns
    have few : (ws2 ns).length ≤ 40 := by omega
    have one : 1 ≤ (ws2 ns).length := by omega
    have hlen : ((ws2 ns).map dW).length = (ws2 ns).length := List.length_map _
    have plen : ((plain (ws2 ns)).map dR).length = (ws2 ns).length := by
      rw [List.length_map]
      exact itR_len _ _
    refine q_asgG (K := K) (eg_call (ega_cons (eg_var rfl a1) ega_nil) ⟨ns, rfl, rfl⟩) eB fun v1 H1 G1 n1 p1 => ?_
    refine q_asgG (K := K) (eg_call (ega_cons (eg_var rfl p1) ega_nil) ⟨ws2 ns, rfl, few, rfl⟩) n1.up fun v2 H2 G2 n2 p2 => ?_
    refine q_asgG (K := K) (eg_call (ega_cons (eg_var rfl p2) ega_nil) ⟨ws2 ns, rfl, gd, one, few, rfl⟩) n2.up fun v3 H3 G3 n3 p3 => ?_
    have p1' := dp_ex (n2.sub.trans n3.sub) _ _ p1
    have p2' := dp_ex n3.sub _ _ p2
    have q3 := ((q.sub n1).sub n2).sub n3
    -- the first if
    refine q_when (b := false) (EvT.mono n3.up (et_is (et_or (et_test (ev_neD (eg_var rfl p2') (eg_var rfl p1') (shaped_ws _) (shaped_ws _))) fun _ => et_or (et_not (et_B (ev_isi (eg_var rfl p3) (isD_list _)))) fun _ => et_test (ev_op (ev_lenG (eg_var rfl p3)) (ev_lenG (eg_var rfl p1')) (rv_ne rfl))) ?_)) (fun hb => by cases hb) (fun hb H4 e4 => ?_)
    · rw [eqv_same (shp_ws (n := 0) _), plen, hlen, decide_eq_true rfl]
      rfl
    -- the rounds one by one
    refine q_forV (K := K) (ev_var rfl) p3 (n3.up.trans e4) (fun i σ' H' => (∃ y, σ' = [some v, some v1, some v2, some v3, y, none, none]) ∧ Ex H4 H') (fun H5 e5 => ⟨⟨_, rfl⟩, e5⟩) (fun i σ' H' _ z => (n3.up.trans e4).trans z.2) (fun i x d σ' H' hd pd z => ?_) (fun σ' H' z => ?_)
    · obtain ⟨⟨y, rfl⟩, e5⟩ := z
      have ed := dR_get hd
      subst ed
      have b5 := (n3.up.trans e4).trans e5
      rcases dR_int (rd (plain (ws2 ns)) i) with hn | ⟨r, hr⟩
      · refine s_when (b := false) (EvT.mono b5 (et_is (et_and (b := true) (et_test (ev_notN (eg_var rfl pd))) fun hb => ?_) ?_)) (fun hb => by cases hb) (fun _ H6 e6 => ⟨⟨_, rfl⟩, e5.trans e6⟩)
        · rw [hn] at hb; cases hb
        · rw [hn]; rfl
      · rw [hr] at pd
        obtain rfl := dp_int pd
        refine s_when (b := false) (EvT.mono b5 (et_is (et_and (et_test (ev_notN (eg_var rfl pd))) fun hb => et_or (et_not (et_B (ev_isi (eg_var rfl pd) (isD_int _)))) fun _ => et_or (et_B (ev_isi (eg_var rfl pd) (isD_bool _))) fun _ => et_test (ev_op (ev_var rfl) ev_c rv_I0)) ?_)) (fun hb => by cases hb) (fun _ H6 e6 => ⟨⟨_, rfl⟩, e5.trans e6⟩)
        rw [tag_int, decide_eq_false (show ¬ ((r : Nat) : Int) < 0 by omega)]
        rfl
    · obtain ⟨⟨y, rfl⟩, e5⟩ := z
      have b5 := (n3.up.trans e4).trans e5
      -- the plain rounds
      refine q_when (b := false) (EvT.mono b5 (et_is (et_test (ev_neD (eg_var rfl p3) (eg_call (ega_cons (eg_var rfl p1') ega_nil) ⟨ws2 ns, rfl, gd, few, rfl⟩) (shaped_rs _) (shaped_rs _))) ?_)) (fun hb => by cases hb) (fun hb H6 e6 => ?_)
      · rw [eqv_same (shp_rs (n := 0) _)]
        rfl
      have q4 := q3.at ((e4.trans e5).trans e6)
      refine q_asgG (K := K) (eg_call (ega_cons (eg_var rfl p2') ega_nil) ⟨ws2 ns, rfl, gd, one, few, rfl⟩) (b5.trans e6) fun v5 H7 G7 n7 p7 => ?_
      have p1'' := dp_ex n7.sub _ _ p1'
      have p2'' := dp_ex n7.sub _ _ p2'
      have p3'' := dp_ex n7.sub _ _ p3
      have q5 := q4.sub n7
      refine q_when (b := false) (EvT.mono n7.up (et_is (et_or (et_test (ev_neD (eg_var rfl p2'') (eg_var rfl p1'') (shaped_ws _) (shaped_ws _))) fun _ => et_not (et_B (ev_isi (eg_var rfl p7) (isD_list _)))) ?_)) (fun hb => by cases hb) (fun hb H8 e8 => ?_)
      · rw [eqv_same (shp_ws (n := 0) _)]
        rfl
      have L : EvNL K (tLc (iList K (tVar 5)) (gName 4) (tOr (tB (tCB (rIsi K) (tCons (tVar 4) (tCons (tC (.ty "bool")) tNil)))) (tNot (tB (tCB (rIsi K) (tCons (tVar 4) (tCons (tC (.ty "int")) tNil)))))) (tVar 4) [4]) [some v, some v1, some v2, some v3, y, some v5, none] G7 [] := by
        have e : (((stuckL (ws2 ns)).map natD).filter fun _ => false).map (fun d => d) = [] := by
          rw [List.filter_eq_nil_iff.mpr (fun _ _ => by decide)] <;> rfl
        rw [← e]
        refine nl_lcF _ _ (eg_var rfl p7) (by rw [List.length_map]; have := stuck_le (ws2 ns); omega) (fun _ => rfl) (fun x d B' e' hd p => ?_) (fun x d B' e' hd p hf => by cases hf)
        obtain ⟨h, _, rfl⟩ := List.mem_map.mp hd
        exact et_is (et_or (et_B (ev_isi (eg_var rfl p) (isD_bool _))) fun _ => et_not (et_B (ev_isi (eg_var rfl p) (isD_int _)))) rfl
      refine q_when (b := false) (EvT.mono (n7.up.trans e8) (et_is (et_test (ev_neD L.eg (eg_lst ega_nil (by show 0 ≤ 100000; decide)) (by decide +kernel) (by decide +kernel))) (by decide +kernel))) (fun hb => by cases hb) (fun hb H9 e9 => ?_)
      have M : EvNL K (tLc (iRng1 (tCons (tCB (fun xs H Q => ∃ p ys, xs = [.ref p] ∧ (SqL K H p ys ∨ SqT K H p ys) ∧ Q (.int ys.length) H) (tCons (tVar 1) tNil)) tNil)) (gName 6) (tTest (tOp (fun x y H Q => y = .non ∧ Q (.bl (decide (x = .non))) H) (tOp (rIxL K) (tVar 3) (tVar 6)) (tC .non))) (tVar 6) [6]) [some v, some v1, some v2, some v3, y, some v5, none] G7 ((stuckL (ws2 ns)).map natD) := by
        unfold stuckL
        refine nl_lcRF (n := (ws2 ns).length) _ _ (ea_cons (ev_is (ev_lenG (eg_var rfl p1'')) (congrArg (fun n : Nat => V.int (n : Nat)) hlen)) ea_nil) (by omega) (fun _ => rfl) (fun i hi => ?_) (fun i hi _ => eg_int (ev_var rfl))
        rw [← none_dR]
        exact et_test (ev_isN (eg_ixL (eg_var rfl p3'') (ev_var rfl) (dR_at (by rw [show (plain (ws2 ns)).length = (ws2 ns).length from itR_len _ _]; exact hi))))
      refine s_retG (K := K) (eg_bl (ev_is (ev_eqD (eg_var rfl p7) M.eg (shaped_nats _) (shaped_nats _)) ?_)) ((n7.up.trans e8).trans e9) (q5.at (e8.trans e9))
      rw [eqv_same (shp_nats (n := 0) _)]
end
end Sb
namespace Sb
open PySem PySem.Spec PyProof.Rows L2 Evl
section
theorem all_mk {l : PySem.W.OpenLaw} {w : World} {K : PySem.W.Frag} {h : Heap} {mg : Str → Option Value} {fa f0 f1 f2 f3 f4 f5 f6 f7 f8 f9 f10 f11 f12 f13 f14 f15 : Addr} {tk : Nat} (X : K.In h) (G : h.Ns mainGlobals mg) (hfa : mg "law" = some (.ref fa))
    {od0 od1 od2 od3 od4 od5 od6 od7 od8 od9 od10 od11 od12 od13 od14 od15 an0 an1 an2 an3 an4 an5 an6 an7 an8 an9 an10 an11 an12 an13 an14 an15 : Option Addr} {sl0 sl1 sl2 sl3 sl4 sl5 sl6 sl7 sl8 sl9 sl10 sl11 sl12 sl13 sl14 sl15 : Array (Option Value)} {oc0 kV0 dc0 pm0 cd0 ct0 oc1 kV1 dc1 pm1 cd1 ct1 oc2 kV2 dc2 pm2 cd2 ct2 oc3 kV3 dc3 pm3 cd3 ct3 oc4 kV4 dc4 pm4 cd4 ct4 oc5 kV5 dc5 pm5 cd5 ct5 oc6 kV6 dc6 pm6 cd6 ct6 oc7 kV7 dc7 pm7 cd7 ct7 oc8 kV8 dc8 pm8 cd8 ct8 oc9 kV9 dc9 pm9 cd9 ct9 oc10 kV10 dc10 pm10 cd10 ct10 oc11 kV11 dc11 pm11 cd11 ct11 oc12 kV12 dc12 pm12 cd12 ct12 oc13 kV13 dc13 pm13 cd13 ct13 oc14 kV14 dc14 pm14 cd14 ct14 oc15 kV15 dc15 pm15 cd15 ct15 : Value}
    (a0 : PySem.W.nsIn K mainGlobals "is_below" = some (some (.ref f0))) (l0 : K.lookup f0 = some ⟨oc0, od0, .func (PySem.W.fnOf "is_below" "is_below" (defArgs s_is_below) (defBody s_is_below) (defScope s_is_below) .none kV0 dc0 pm0 an0 cd0 ct0), sl0⟩) (c0 : PySem.W.codeIn K cd0 "is_below" = true) (k0 : PySem.W.keepIn K (.ref f0) = true)
    (a1 : PySem.W.nsIn K mainGlobals "are_waited_for" = some (some (.ref f1))) (l1 : K.lookup f1 = some ⟨oc1, od1, .func (PySem.W.fnOf "are_waited_for" "are_waited_for" (defArgs s_are_waited_for) (defBody s_are_waited_for) (defScope s_are_waited_for) .none kV1 dc1 pm1 an1 cd1 ct1), sl1⟩) (c1 : PySem.W.codeIn K cd1 "are_waited_for" = true) (k1 : PySem.W.keepIn K (.ref f1) = true)
    (a2 : PySem.W.nsIn K mainGlobals "is_wait" = some (some (.ref f2))) (l2 : K.lookup f2 = some ⟨oc2, od2, .func (PySem.W.fnOf "is_wait" "is_wait" (defArgs s_is_wait) (defBody s_is_wait) (defScope s_is_wait) .none kV2 dc2 pm2 an2 cd2 ct2), sl2⟩) (c2 : PySem.W.codeIn K cd2 "is_wait" = true) (k2 : PySem.W.keepIn K (.ref f2) = true)
    (a3 : PySem.W.nsIn K mainGlobals "need" = some (some (.ref f3))) (l3 : K.lookup f3 = some ⟨oc3, od3, .func (PySem.W.fnOf "need" "need" (defArgs s_need) (defBody s_need) (defScope s_need) .none kV3 dc3 pm3 an3 cd3 ct3), sl3⟩) (c3 : PySem.W.codeIn K cd3 "need" = true) (k3 : PySem.W.keepIn K (.ref f3) = true)
    (a4 : PySem.W.nsIn K mainGlobals "is_let_go" = some (some (.ref f4))) (l4 : K.lookup f4 = some ⟨oc4, od4, .func (PySem.W.fnOf "is_let_go" "is_let_go" (defArgs s_is_let_go) (defBody s_is_let_go) (defScope s_is_let_go) .none kV4 dc4 pm4 an4 cd4 ct4), sl4⟩) (c4 : PySem.W.codeIn K cd4 "is_let_go" = true) (k4 : PySem.W.keepIn K (.ref f4) = true)
    (a5 : PySem.W.nsIn K mainGlobals "ready_hands" = some (some (.ref f5))) (l5 : K.lookup f5 = some ⟨oc5, od5, .func (PySem.W.fnOf "ready_hands" "ready_hands" (defArgs s_ready_hands) (defBody s_ready_hands) (defScope s_ready_hands) .none kV5 dc5 pm5 an5 cd5 ct5), sl5⟩) (c5 : PySem.W.codeIn K cd5 "ready_hands" = true) (k5 : PySem.W.keepIn K (.ref f5) = true)
    (a6 : PySem.W.nsIn K mainGlobals "freed" = some (some (.ref f6))) (l6 : K.lookup f6 = some ⟨oc6, od6, .func (PySem.W.fnOf "freed" "freed" (defArgs s_freed) (defBody s_freed) (defScope s_freed) .none kV6 dc6 pm6 an6 cd6 ct6), sl6⟩) (c6 : PySem.W.codeIn K cd6 "freed" = true) (k6 : PySem.W.keepIn K (.ref f6) = true)
    (a7 : PySem.W.nsIn K mainGlobals "stuck" = some (some (.ref f7))) (l7 : K.lookup f7 = some ⟨oc7, od7, .func (PySem.W.fnOf "stuck" "stuck" (defArgs s_stuck) (defBody s_stuck) (defScope s_stuck) .none kV7 dc7 pm7 an7 cd7 ct7), sl7⟩) (c7 : PySem.W.codeIn K cd7 "stuck" = true) (k7 : PySem.W.keepIn K (.ref f7) = true)
    (a8 : PySem.W.nsIn K mainGlobals "_law_cell_at" = some (some (.ref f8))) (l8 : K.lookup f8 = some ⟨oc8, od8, .func (PySem.W.fnOf "_law_cell_at" "_law_cell_at" (defArgs s_law_cell_at) (defBody s_law_cell_at) (defScope s_law_cell_at) .none kV8 dc8 pm8 an8 cd8 ct8), sl8⟩) (c8 : PySem.W.codeIn K cd8 "_law_cell_at" = true) (k8 : PySem.W.keepIn K (.ref f8) = true)
    (a9 : PySem.W.nsIn K mainGlobals "_law_wait_by" = some (some (.ref f9))) (l9 : K.lookup f9 = some ⟨oc9, od9, .func (PySem.W.fnOf "_law_wait_by" "_law_wait_by" (defArgs s_law_wait_by) (defBody s_law_wait_by) (defScope s_law_wait_by) .none kV9 dc9 pm9 an9 cd9 ct9), sl9⟩) (c9 : PySem.W.codeIn K cd9 "_law_wait_by" = true) (k9 : PySem.W.keepIn K (.ref f9) = true)
    (a10 : PySem.W.nsIn K mainGlobals "_law_mixed" = some (some (.ref f10))) (l10 : K.lookup f10 = some ⟨oc10, od10, .func (PySem.W.fnOf "_law_mixed" "_law_mixed" (defArgs s_law_mixed) (defBody s_law_mixed) (defScope s_law_mixed) .none kV10 dc10 pm10 an10 cd10 ct10), sl10⟩) (c10 : PySem.W.codeIn K cd10 "_law_mixed" = true) (k10 : PySem.W.keepIn K (.ref f10) = true)
    (a11 : PySem.W.nsIn K mainGlobals "_law_waits" = some (some (.ref f11))) (l11 : K.lookup f11 = some ⟨oc11, od11, .func (PySem.W.fnOf "_law_waits" "_law_waits" (defArgs s_law_waits) (defBody s_law_waits) (defScope s_law_waits) .none kV11 dc11 pm11 an11 cd11 ct11), sl11⟩) (c11 : PySem.W.codeIn K cd11 "_law_waits" = true) (k11 : PySem.W.keepIn K (.ref f11) = true)
    (a12 : PySem.W.nsIn K mainGlobals "_law_copy" = some (some (.ref f12))) (l12 : K.lookup f12 = some ⟨oc12, od12, .func (PySem.W.fnOf "_law_copy" "_law_copy" (defArgs s_law_copy) (defBody s_law_copy) (defScope s_law_copy) .none kV12 dc12 pm12 an12 cd12 ct12), sl12⟩) (c12 : PySem.W.codeIn K cd12 "_law_copy" = true) (k12 : PySem.W.keepIn K (.ref f12) = true)
    (a13 : PySem.W.nsIn K mainGlobals "_law_due" = some (some (.ref f13))) (l13 : K.lookup f13 = some ⟨oc13, od13, .func (PySem.W.fnOf "_law_due" "_law_due" (defArgs s_law_due) (defBody s_law_due) (defScope s_law_due) .none kV13 dc13 pm13 an13 cd13 ct13), sl13⟩) (c13 : PySem.W.codeIn K cd13 "_law_due" = true) (k13 : PySem.W.keepIn K (.ref f13) = true)
    (a14 : PySem.W.nsIn K mainGlobals "_law_plain" = some (some (.ref f14))) (l14 : K.lookup f14 = some ⟨oc14, od14, .func (PySem.W.fnOf "_law_plain" "_law_plain" (defArgs s_law_plain) (defBody s_law_plain) (defScope s_law_plain) .none kV14 dc14 pm14 an14 cd14 ct14), sl14⟩) (c14 : PySem.W.codeIn K cd14 "_law_plain" = true) (k14 : PySem.W.keepIn K (.ref f14) = true)
    (a15 : PySem.W.nsIn K mainGlobals "law" = some (some (.ref f15))) (l15 : K.lookup f15 = some ⟨oc15, od15, .func (PySem.W.fnOf "law" "law" (defArgs s_law) (defBody s_law) (defScope s_law) .none kV15 dc15 pm15 an15 cd15 ct15), sl15⟩) (c15 : PySem.W.codeIn K cd15 "law" = true) (k15 : PySem.W.keepIn K (.ref f15) = true)
    (z_all : PySem.W.nsIn K mainGlobals "all" = some none)    (z_any : PySem.W.nsIn K mainGlobals "any" = some none)    (z_bool : PySem.W.nsIn K mainGlobals "bool" = some none)    (z_enumerate : PySem.W.nsIn K mainGlobals "enumerate" = some none)    (z_int : PySem.W.nsIn K mainGlobals "int" = some none)    (z_isinstance : PySem.W.nsIn K mainGlobals "isinstance" = some none)    (z_len : PySem.W.nsIn K mainGlobals "len" = some none)    (z_list : PySem.W.nsIn K mainGlobals "list" = some none)    (z_max : PySem.W.nsIn K mainGlobals "max" = some none)    (z_min : PySem.W.nsIn K mainGlobals "min" = some none)    (z_range : PySem.W.nsIn K mainGlobals "range" = some none)    (z_set : PySem.W.nsIn K mainGlobals "set" = some none)    (z_str : PySem.W.nsIn K mainGlobals "str" = some none)    (z_tuple : PySem.W.nsIn K mainGlobals "tuple" = some none)    (z_type : PySem.W.nsIn K mainGlobals "type" = some none) (m0 : PySem.W.nsIn K mainGlobals "MOST_HANDS" = some (some (.int 40 tk))) :
    ∃ fd : FuncData, (∀ (s : Shared) (v : Value), BindsTo s fd ⟨[v], []⟩ [("_law_script", v)]) ∧ ∀ base : Heap, K.In base → base.Ns mainGlobals mg → FnOk l.prog w K mg base CX0 7 fa fd ["_law_script"] (sp_law K) := by
  have e := hfa.symm.trans (PySem.W.mg_of X G a15)
  cases e
  have B : Bn K mg tk := { g_MOST_HANDS := PySem.W.mg_of X G m0, m_all := PySem.W.mg_none_of X G z_all, m_any := PySem.W.mg_none_of X G z_any, m_bool := PySem.W.mg_none_of X G z_bool, m_enumerate := PySem.W.mg_none_of X G z_enumerate, m_int := PySem.W.mg_none_of X G z_int, m_isinstance := PySem.W.mg_none_of X G z_isinstance, m_len := PySem.W.mg_none_of X G z_len, m_list := PySem.W.mg_none_of X G z_list, m_max := PySem.W.mg_none_of X G z_max, m_min := PySem.W.mg_none_of X G z_min, m_range := PySem.W.mg_none_of X G z_range, m_set := PySem.W.mg_none_of X G z_set, m_str := PySem.W.mg_none_of X G z_str, m_tuple := PySem.W.mg_none_of X G z_tuple, m_type := PySem.W.mg_none_of X G z_type }
  have F0 := fun_mk (st := s_is_below) l0 c0 k0
  have b0 := F0.binds (ps := ["number", "many"]) fun _ _ _ _ _ _ us hl => match us, hl with | [_, _], _ => rfl
  have F1 := fun_mk (st := s_are_waited_for) l1 c1 k1
  have b1 := F1.binds (ps := ["hands", "many"]) fun _ _ _ _ _ _ us hl => match us, hl with | [_, _], _ => rfl
  have F2 := fun_mk (st := s_is_wait) l2 c2 k2
  have b2 := F2.binds (ps := ["wait", "many"]) fun _ _ _ _ _ _ us hl => match us, hl with | [_, _], _ => rfl
  have F3 := fun_mk (st := s_need) l3 c3 k3
  have b3 := F3.binds (ps := ["waits"]) fun _ _ _ _ _ _ us hl => match us, hl with | [_], _ => rfl
  have F4 := fun_mk (st := s_is_let_go) l4 c4 k4
  have b4 := F4.binds (ps := ["wait", "rounds"]) fun _ _ _ _ _ _ us hl => match us, hl with | [_, _], _ => rfl
  have F5 := fun_mk (st := s_ready_hands) l5 c5 k5
  have b5 := F5.binds (ps := ["waits", "rounds"]) fun _ _ _ _ _ _ us hl => match us, hl with | [_, _], _ => rfl
  have F6 := fun_mk (st := s_freed) l6 c6 k6
  have b6 := F6.binds (ps := ["waits"]) fun _ _ _ _ _ _ us hl => match us, hl with | [_], _ => rfl
  have F7 := fun_mk (st := s_stuck) l7 c7 k7
  have b7 := F7.binds (ps := ["waits"]) fun _ _ _ _ _ _ us hl => match us, hl with | [_], _ => rfl
  have F8 := fun_mk (st := s_law_cell_at) l8 c8 k8
  have b8 := F8.binds (ps := ["_law_script", "_law_k"]) fun _ _ _ _ _ _ us hl => match us, hl with | [_, _], _ => rfl
  have F9 := fun_mk (st := s_law_wait_by) l9 c9 k9
  have b9 := F9.binds (ps := ["_law_number", "_law_size", "_law_few"]) fun _ _ _ _ _ _ us hl => match us, hl with | [_, _, _], _ => rfl
  have F10 := fun_mk (st := s_law_mixed) l10 c10 k10
  have b10 := F10.binds (ps := ["_law_script", "_law_k", "_law_salt"]) fun _ _ _ _ _ _ us hl => match us, hl with | [_, _, _], _ => rfl
  have F11 := fun_mk (st := s_law_waits) l11 c11 k11
  have b11 := F11.binds (ps := ["_law_script"]) fun _ _ _ _ _ _ us hl => match us, hl with | [_], _ => rfl
  have F12 := fun_mk (st := s_law_copy) l12 c12 k12
  have b12 := F12.binds (ps := ["_law_waits_here"]) fun _ _ _ _ _ _ us hl => match us, hl with | [_], _ => rfl
  have F13 := fun_mk (st := s_law_due) l13 c13 k13
  have b13 := F13.binds (ps := ["_law_wait", "_law_rounds"]) fun _ _ _ _ _ _ us hl => match us, hl with | [_, _], _ => rfl
  have F14 := fun_mk (st := s_law_plain) l14 c14 k14
  have b14 := F14.binds (ps := ["_law_waits_here"]) fun _ _ _ _ _ _ us hl => match us, hl with | [_], _ => rfl
  have F15 := fun_mk (st := s_law) l15 c15 k15
  have b15 := F15.binds (ps := ["_law_script"]) fun _ _ _ _ _ _ us hl => match us, hl with | [_], _ => rfl
  refine ⟨PySem.W.fnOf "law" "law" (defArgs s_law) (defBody s_law) (defScope s_law) .none kV15 dc15 pm15 an15 cd15 ct15, fun s v => .of_eq rfl, fun base _ _ => ?_⟩
  have Y0 : C8.Cal l.prog w K mg base 1 "is_below" (sp_is_below K) [] := ⟨_, _, _, [], ok_is_below F0 B , PySem.W.mg_of X G a0, k0, b0, .nil⟩
  have Y1 : C8.Cal l.prog w K mg base 2 "are_waited_for" (sp_are_waited_for K) [] := ⟨_, _, _, [], ok_are_waited_for F1 B Y0, PySem.W.mg_of X G a1, k1, b1, .nil⟩
  have Y2 : C8.Cal l.prog w K mg base 3 "is_wait" (sp_is_wait K) [] := ⟨_, _, _, [], ok_is_wait F2 B Y1, PySem.W.mg_of X G a2, k2, b2, .nil⟩
  have Y3 : C8.Cal l.prog w K mg base 4 "need" (sp_need K) [] := ⟨_, _, _, [], ok_need F3 B Y2, PySem.W.mg_of X G a3, k3, b3, .nil⟩
  have Y4 : C8.Cal l.prog w K mg base 1 "is_let_go" (sp_is_let_go K) [] := ⟨_, _, _, [], ok_is_let_go F4 B , PySem.W.mg_of X G a4, k4, b4, .nil⟩
  have Y5 : C8.Cal l.prog w K mg base 2 "ready_hands" (sp_ready_hands K) [] := ⟨_, _, _, [], ok_ready_hands F5 B Y4, PySem.W.mg_of X G a5, k5, b5, .nil⟩
  have Y6 : C8.Cal l.prog w K mg base 5 "freed" (sp_freed K) [] := ⟨_, _, _, [], ok_freed F6 B Y3 Y5, PySem.W.mg_of X G a6, k6, b6, .nil⟩
  have Y7 : C8.Cal l.prog w K mg base 6 "stuck" (sp_stuck K) [] := ⟨_, _, _, [], ok_stuck F7 B Y6, PySem.W.mg_of X G a7, k7, b7, .nil⟩
  have Y8 : C8.Cal l.prog w K mg base 1 "_law_cell_at" (sp_law_cell_at K) [] := ⟨_, _, _, [], ok_law_cell_at F8 B , PySem.W.mg_of X G a8, k8, b8, .nil⟩
  have Y9 : C8.Cal l.prog w K mg base 1 "_law_wait_by" (sp_law_wait_by K) [] := ⟨_, _, _, [], ok_law_wait_by F9 B , PySem.W.mg_of X G a9, k9, b9, .nil⟩
  have Y10 : C8.Cal l.prog w K mg base 2 "_law_mixed" (sp_law_mixed K) [] := ⟨_, _, _, [], ok_law_mixed F10 B Y8, PySem.W.mg_of X G a10, k10, b10, .nil⟩
  have Y11 : C8.Cal l.prog w K mg base 3 "_law_waits" (sp_law_waits K) [] := ⟨_, _, _, [], ok_law_waits F11 B Y8 Y9 Y10, PySem.W.mg_of X G a11, k11, b11, .nil⟩
  have Y12 : C8.Cal l.prog w K mg base 1 "_law_copy" (sp_law_copy K) [] := ⟨_, _, _, [], ok_law_copy F12 B , PySem.W.mg_of X G a12, k12, b12, .nil⟩
  have Y13 : C8.Cal l.prog w K mg base 1 "_law_due" (sp_law_due K) [] := ⟨_, _, _, [], ok_law_due F13 B , PySem.W.mg_of X G a13, k13, b13, .nil⟩
  have Y14 : C8.Cal l.prog w K mg base 2 "_law_plain" (sp_law_plain K) [] := ⟨_, _, _, [], ok_law_plain F14 B Y13, PySem.W.mg_of X G a14, k14, b14, .nil⟩
  exact ok_law F15 B Y11 Y12 Y6 Y7 Y14
end
theorem law_true (K : PySem.W.Frag) (H : Hp) (a : Addr) (ns : List Int) (hS : SqL K H a (ns.map V.int)) : sp_law K [.ref a] H (fun v _ => v = .bl true) fun _ _ _ => False :=
  ⟨H, [.list (ns.map .int)], .bool true, Ex.refl H, dpa_one (.lst hS (ints_dpa ns)), ⟨ns, rfl, rfl⟩, fun v H2 G n p => dp_bl p⟩
end Sb
open PySem PySem.W PyProof.Rows
set_option maxHeartbeats 0 in
theorem PySem.Challenge.cw_stuckbell_k02_rounds_holds : PySem.Challenge.rw_stuckbell_k02_rounds.Holds := by
  w_on; o_law; k_head; (case hw => w_witness2)
  k_fill
  refine L2.walk_ofK (l := PySem.Challenge.rw_stuckbell_k02_rounds) (n := 63) (k := 7) (x := "_law_script") (CX := L2.CX0) (sp := Sb.sp_law) rfl (by decide) rfl ⟨rfl, by decide, by decide⟩ (fun w h Y => PySem.W.kIn_of Y) ?F (fun K H a ns hl _ hS => Sb.law_true K H a ns hS) (fun _ _ _ _ h => h)
  case F =>
    intro w mg fa h KX G hmg
    refine' Sb.all_mk KX G hmg ?a0 ?l0 ?c0 ?k0 ?a1 ?l1 ?c1 ?k1 ?a2 ?l2 ?c2 ?k2 ?a3 ?l3 ?c3 ?k3 ?a4 ?l4 ?c4 ?k4 ?a5 ?l5 ?c5 ?k5 ?a6 ?l6 ?c6 ?k6 ?a7 ?l7 ?c7 ?k7 ?a8 ?l8 ?c8 ?k8 ?a9 ?l9 ?c9 ?k9 ?a10 ?l10 ?c10 ?k10 ?a11 ?l11 ?c11 ?k11 ?a12 ?l12 ?c12 ?k12 ?a13 ?l13 ?c13 ?k13 ?a14 ?l14 ?c14 ?k14 ?a15 ?l15 ?c15 ?k15 ?z_all ?z_any ?z_bool ?z_enumerate ?z_int ?z_isinstance ?z_len ?z_list ?z_max ?z_min ?z_range ?z_set ?z_str ?z_tuple ?z_type ?m0
    (case a0 => k_is)
    (case l0 => k_is)
    (case c0 => k_is)
    (case k0 => k_is)
    (case a1 => k_is)
    (case l1 => k_is)
    (case c1 => k_is)
    (case k1 => k_is)
    (case a2 => k_is)
    (case l2 => k_is)
    (case c2 => k_is)
    (case k2 => k_is)
    (case a3 => k_is)
    (case l3 => k_is)
    (case c3 => k_is)
    (case k3 => k_is)
    (case a4 => k_is)
    (case l4 => k_is)
    (case c4 => k_is)
    (case k4 => k_is)
    (case a5 => k_is)
    (case l5 => k_is)
    (case c5 => k_is)
    (case k5 => k_is)
    (case a6 => k_is)
    (case l6 => k_is)
    (case c6 => k_is)
    (case k6 => k_is)
    (case a7 => k_is)
    (case l7 => k_is)
    (case c7 => k_is)
    (case k7 => k_is)
    (case a8 => k_is)
    (case l8 => k_is)
    (case c8 => k_is)
    (case k8 => k_is)
    (case a9 => k_is)
    (case l9 => k_is)
    (case c9 => k_is)
    (case k9 => k_is)
    (case a10 => k_is)
    (case l10 => k_is)
    (case c10 => k_is)
    (case k10 => k_is)
    (case a11 => k_is)
    (case l11 => k_is)
    (case c11 => k_is)
    (case k11 => k_is)
    (case a12 => k_is)
    (case l12 => k_is)
    (case c12 => k_is)
    (case k12 => k_is)
    (case a13 => k_is)
    (case l13 => k_is)
    (case c13 => k_is)
    (case k13 => k_is)
    (case a14 => k_is)
    (case l14 => k_is)
    (case c14 => k_is)
    (case k14 => k_is)
    (case a15 => k_is)
    (case l15 => k_is)
    (case c15 => k_is)
    (case k15 => k_is)
    (case z_all => k_is)
    (case z_any => k_is)
    (case z_bool => k_is)
    (case z_enumerate => k_is)
    (case z_int => k_is)
    (case z_isinstance => k_is)
    (case z_len => k_is)
    (case z_list => k_is)
    (case z_max => k_is)
    (case z_min => k_is)
    (case z_range => k_is)
    (case z_set => k_is)
    (case z_str => k_is)
    (case z_tuple => k_is)
    (case z_type => k_is)
    (case m0 => k_is)
