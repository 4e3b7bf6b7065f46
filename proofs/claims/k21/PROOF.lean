import PyProof.Rows.All
import Wide.All
import OpenK.AllK
import Wide.FinOn
import HandS.ForMost
import HandS.OwnEq
import HandS.SortInts
import HandS.TupAny
import HandS.IsInst
import HandS.Flow
import HandS.Zip
import HandS.TupSets
import KE.GoesEnum
import PyProof.InstNe
import HandS.Conv
import HandS.Star
import HandS.Evl
import HandS.WideBits
import HandS.NoneIn
import HandS.DictComp
import HandS.Steps
import HandS.Sort
import PyProof.DictUpdate
import KE.SortData
import HandS.SetFor
import HandS.Strs
import PyProof.Rows.SortShellAny
import PyProof.AutoSeq1
import HandS.Deep
import HandS.RaiseMore
import HandS.ExcInit
import HandS.ExcIs
import HandS.ExcField
import HandS.ForExc
import KE.KExcIs
import HandS.Words
import HandS.DictSub
import KE.KRevSl
import PyProof.TupleOfSeq
import PySem.Challenge.RW_fullorring_k21_whole_pieces_beside_and_r
set_option Elab.async false
set_option maxRecDepth 100000
set_option maxHeartbeats 1000000
namespace Mt
open Classical
abbrev Rows := List (List Int)
def row (rows : Rows) (p : Nat) : List Int := rows[p]?.getD []
theorem row_lt {rows : Rows} {p : Nat} {t : Int} (h : t ∈ row rows p) : p < rows.length := by
  unfold row at h
  cases e : rows[p]? with
  | none => rw [e] at h; cases h
  | some r => exact (List.getElem?_eq_some_iff.mp e).1
theorem row_get {rows : Rows} {p : Nat} {r : List Int} (h : rows[p]? = some r) : row rows p = r := by
  unfold row
  rw [h]
  rfl
def fset {α β : Type} [DecidableEq α] (f : α → β) (a : α) (b : β) : α → β := fun x => if x = a then b else f x
theorem fset_same {α β : Type} [DecidableEq α] {f : α → β} {a : α} {b : β} : fset f a b a = b := if_pos rfl
theorem fset_ne {α β : Type} [DecidableEq α] {f : α → β} {a x : α} {b : β} (h : x ≠ a) : fset f a b x = f x := if_neg h
theorem len_le {α : Type} [DecidableEq α] : ∀ {l1 l2 : List α}, l1.Nodup → (∀ x ∈ l1, x ∈ l2) → l1.length ≤ l2.length
  | [], _, _, _ => Nat.zero_le _
  | x :: l1, l2, hn, hs => by
    have hx := hs x List.mem_cons_self
    have h2 := List.nodup_cons.mp hn
    have ih := len_le (l1 := l1) (l2 := l2.erase x) h2.2 fun y hy => (List.mem_erase_of_ne (fun (e : y = x) => h2.1 (e ▸ hy))).mpr (hs y (List.mem_cons_of_mem _ hy))
    rw [List.length_erase_of_mem hx] at ih
    have : 0 < l2.length := List.length_pos_of_mem hx
    rw [List.length_cons]
    omega
theorem all_in {α : Type} [DecidableEq α] {l1 l2 : List α} (hn : l1.Nodup) (hs : ∀ x ∈ l1, x ∈ l2) (hl : l2.length ≤ l1.length) : ∀ y ∈ l2, y ∈ l1 := by
  intro y hy
  refine Classical.byContradiction fun hc => ?_
  have h := len_le (l2 := l2.erase y) hn fun x hx => (List.mem_erase_of_ne (fun (e : x = y) => hc (e ▸ hx))).mpr (hs x hx)
  rw [List.length_erase_of_mem hy] at h
  have : 0 < l2.length := List.length_pos_of_mem hy
  omega
theorem nodup_map {α β : Type} {f : α → β} : ∀ {l : List α}, l.Nodup → (∀ x ∈ l, ∀ y ∈ l, f x = f y → x = y) → (l.map f).Nodup
  | [], _, _ => List.nodup_nil
  | x :: l, hn, hi => by
    have h2 := List.nodup_cons.mp hn
    rw [List.map_cons, List.nodup_cons]
    refine ⟨fun hm => ?_, nodup_map h2.2 fun a ha b hb => hi a (List.mem_cons_of_mem _ ha) b (List.mem_cons_of_mem _ hb)⟩
    obtain ⟨y, hy, e⟩ := List.mem_map.mp hm
    have := hi y (List.mem_cons_of_mem _ hy) x List.mem_cons_self e
    exact h2.1 (this ▸ hy)
/-- no map into itself that is one to one leaves one out -/
theorem no_room {n : Nat} {R : Nat → Prop} {f : Nat → Nat} {p : Nat} (hp : p < n) (hR : R p) (hf : ∀ x, x < n → R x → f x < n ∧ R (f x) ∧ f x ≠ p) (hi : ∀ x y, x < n → y < n → R x → R y → f x = f y → x = y) : False := by
  obtain ⟨L, eL⟩ : ∃ L, L = (List.range n).filter (fun x => decide (R x)) := ⟨_, rfl⟩
  have memL : ∀ x, x ∈ L ↔ x < n ∧ R x := fun x => by
    rw [eL, List.mem_filter, List.mem_range, decide_eq_true_iff]
  have nd : L.Nodup := by rw [eL]; exact List.Pairwise.filter _ List.nodup_range
  have nm : (L.map f).Nodup := nodup_map nd fun x hx y hy e => hi x y ((memL x).mp hx).1 ((memL y).mp hy).1 ((memL x).mp hx).2 ((memL y).mp hy).2 e
  have hs : ∀ y ∈ L.map f, y ∈ L.erase p := fun y hy => by
    obtain ⟨x, hx, rfl⟩ := List.mem_map.mp hy
    have h := (memL x).mp hx
    obtain ⟨a, b, c⟩ := hf x h.1 h.2
    exact (List.mem_erase_of_ne c).mpr ((memL _).mpr ⟨a, b⟩)
  have h := len_le nm hs
  have hpL : p ∈ L := (memL p).mpr ⟨hp, hR⟩
  rw [List.length_map, List.length_erase_of_mem hpL] at h
  have : 0 < L.length := List.length_pos_of_mem hpL
  omega
structure Ds (rows : Rows) (D : List Int) : Prop where
  len : D.length = rows.length
  tie : ∀ (p : Nat) (t : Int), D[p]? = some t → t ∈ row rows p
  nd : D.Nodup
theorem Ds.get {rows : Rows} {D : List Int} (d : Ds rows D) {p : Nat} (h : p < rows.length) : ∃ t, D[p]? = some t ∧ t ∈ row rows p := by
  have h' : p < D.length := by rw [d.len]; exact h
  exact ⟨_, List.getElem?_eq_getElem h', d.tie p _ (List.getElem?_eq_getElem h')⟩
theorem nodup_get {α : Type} {l : List α} (h : l.Nodup) {i j : Nat} {x : α} (hi : l[i]? = some x) (hj : l[j]? = some x) : i = j := by
  have hi' := (List.getElem?_eq_some_iff.mp hi)
  have hj' := (List.getElem?_eq_some_iff.mp hj)
  obtain ⟨a, ea⟩ := hi'
  obtain ⟨b, eb⟩ := hj'
  refine Classical.byContradiction fun hc => ?_
  have pw := List.pairwise_iff_getElem.mp h
  rcases Nat.lt_or_gt_of_ne hc with z | z
  · exact pw i j a b z (ea.trans eb.symm)
  · exact pw j i b a z (eb.trans ea.symm)
structure MS where
  h : Nat → Option Int
  o : Int → Option Nat
structure Valid (rows : Rows) (m : MS) : Prop where
  inv : ∀ p t, m.h p = some t ↔ m.o t = some p
  tie : ∀ p t, m.h p = some t → t ∈ row rows p
def Closed (rows : Rows) (m : MS) (R : Nat → Prop) : Prop := ∀ q, R q → ∀ t ∈ row rows q, ∃ q', R q' ∧ m.h q' = some t
theorem Valid.inj {rows : Rows} {m : MS} (v : Valid rows m) {p q : Nat} {t : Int} (h1 : m.h p = some t) (h2 : m.h q = some t) : p = q := by
  have a := (v.inv p t).mp h1
  have b := (v.inv q t).mp h2
  rw [a] at b
  exact Option.some.inj b
theorem no_dealing {rows : Rows} {m : MS} {R : Nat → Prop} {p : Nat} (v : Valid rows m) (hp : p < rows.length) (hR : R p) (c : Closed rows m R) (h0 : m.h p = none) {D : List Int} (d : Ds rows D) : False := by
  refine no_room (n := rows.length) (R := R) (p := p) (f := fun x => (m.o (D[x]?.getD 0)).getD 0) hp hR (fun x hx rx => ?_) (fun x y hx hy rx ry e => ?_)
  · obtain ⟨t, e, ht⟩ := d.get hx
    obtain ⟨q, rq, hq⟩ := c x rx t ht
    have ho := (v.inv q t).mp hq
    show (m.o (D[x]?.getD 0)).getD 0 < _ ∧ R ((m.o (D[x]?.getD 0)).getD 0) ∧ (m.o (D[x]?.getD 0)).getD 0 ≠ p
    rw [e]
    show (m.o t).getD 0 < _ ∧ R ((m.o t).getD 0) ∧ (m.o t).getD 0 ≠ p
    rw [ho]
    refine ⟨row_lt (v.tie q t hq), rq, fun z => ?_⟩
    have z' : q = p := z
    rw [z', h0] at hq
    cases hq
  · obtain ⟨t, e1, ht⟩ := d.get hx
    obtain ⟨s, e2, hs⟩ := d.get hy
    obtain ⟨q, rq, hq⟩ := c x rx t ht
    obtain ⟨r, rr, hr⟩ := c y ry s hs
    have e' : (m.o (D[x]?.getD 0)).getD 0 = (m.o (D[y]?.getD 0)).getD 0 := e
    rw [e1, e2] at e'
    have e'' : (m.o t).getD 0 = (m.o s).getD 0 := e'
    rw [(v.inv q t).mp hq, (v.inv r s).mp hr] at e''
    have e3 : q = r := e''
    subst e3
    rw [hq] at hr
    cases hr
    exact nodup_get d.nd e1 e2
abbrev Came := Int → Option Nat
def scan (o : Int → Option Nat) (one : Nat) : List Int → Came → List Nat → Option Int × Came × List Nat
  | [], c, w => (none, c, w)
  | t :: l, c, w => if (c t).isSome = true then scan o one l c w else match o t with
    | none => (some t, fset c t (some one), w)
    | some q => scan o one l (fset c t (some one)) (w ++ [q])
inductive Walk (rows : Rows) (o : Int → Option Nat) : Came → List Nat → Option Int → Came → Prop
  | nil {c : Came} : Walk rows o c [] none c
  | found {c c' : Came} {w w' : List Nat} {one : Nat} {t : Int} : scan o one (row rows one) c w = (some t, c', w') → Walk rows o c (w ++ [one]) (some t) c'
  | more {c c' c2 : Came} {w w' : List Nat} {one : Nat} {x : Option Int} : scan o one (row rows one) c w = (none, c', w') → Walk rows o c' w' x c2 → Walk rows o c (w ++ [one]) x c2
structure ScanOk (o : Int → Option Nat) (one : Nat) (l : List Int) (c : Came) (w : List Nat) (x : Option Int) (c' : Came) (w' : List Nat) : Prop where
  ext : ∀ t y, c t = some y → c' t = some y
  new : ∀ t y, c' t = some y → c t = some y ∨ (y = one ∧ t ∈ l ∧ c t = none ∧ ((∃ q, o t = some q ∧ q ∈ w') ∨ x = some t))
  found : ∀ t, x = some t → o t = none ∧ c' t = some one ∧ t ∈ l
  all : x = none → ∀ t ∈ l, c' t ≠ none
  sub : ∀ q ∈ w, q ∈ w'
  wn : ∀ q ∈ w', q ∈ w ∨ ∃ t, c' t = some one ∧ o t = some q
theorem scan_ok {o : Int → Option Nat} {one : Nat} : ∀ (l : List Int) (c : Came) (w : List Nat), ScanOk o one l c w (scan o one l c w).1 (scan o one l c w).2.1 (scan o one l c w).2.2
  | [], c, w => ⟨fun _ _ h => h, fun _ _ h => .inl h, fun _ h => (by cases h), fun _ _ h => (by cases h), fun _ h => h, fun _ h => .inl h⟩
  | t :: l, c, w => by
    by_cases hc : (c t).isSome = true
    · have e : scan o one (t :: l) c w = scan o one l c w := by
        show (if (c t).isSome = true then scan o one l c w else _) = _
        rw [if_pos hc]
      rw [e]
      have ih := scan_ok (o := o) (one := one) l c w
      refine ⟨ih.ext, fun s y h => ?_, fun s h => ?_, fun h s hs => ?_, ih.sub, ih.wn⟩
      · rcases ih.new s y h with a | ⟨a, b, d, f⟩
        · exact .inl a
        · exact .inr ⟨a, List.mem_cons_of_mem _ b, d, f⟩
      · obtain ⟨a, b, d⟩ := ih.found s h
        exact ⟨a, b, List.mem_cons_of_mem _ d⟩
      · rcases List.mem_cons.mp hs with q | q
        · obtain ⟨y, hy⟩ := Option.isSome_iff_exists.mp hc
          rw [q, ih.ext t y hy]
          exact fun z => nomatch z
        · exact ih.all h s q
    · have cn : c t = none := by
        cases z : c t with
        | none => rfl
        | some y => rw [z] at hc; exact absurd rfl hc
      cases ho : o t with
      | none =>
        have e : scan o one (t :: l) c w = (some t, fset c t (some one), w) := by
          show (if (c t).isSome = true then _ else match o t with | none => _ | some q => _) = _
          rw [if_neg hc, ho]
        rw [e]
        refine ⟨fun s y h => ?_, fun s y h => ?_, fun s h => ?_, fun h => (by cases h), fun _ h => h, fun _ h => .inl h⟩
        · show fset c t (some one) s = some y
          rw [fset_ne (fun z => by rw [z, cn] at h; cases h)]
          exact h
        · have h' : fset c t (some one) s = some y := h
          by_cases z : s = t
          · rw [z, fset_same] at h'
            cases h'
            exact .inr ⟨rfl, by rw [z]; exact List.mem_cons_self, by rw [z]; exact cn, .inr (by rw [z])⟩
          · rw [fset_ne z] at h'
            exact .inl h'
        · cases h
          exact ⟨ho, fset_same, List.mem_cons_self⟩
      | some q =>
        have e : scan o one (t :: l) c w = scan o one l (fset c t (some one)) (w ++ [q]) := by
          show (if (c t).isSome = true then _ else match o t with | none => _ | some q => _) = _
          rw [if_neg hc, ho]
        rw [e]
        have ih := scan_ok (o := o) (one := one) l (fset c t (some one)) (w ++ [q])
        have ct : (scan o one l (fset c t (some one)) (w ++ [q])).2.1 t = some one := ih.ext t one fset_same
        refine ⟨fun s y h => ?_, fun s y h => ?_, fun s h => ?_, fun h s hs => ?_, fun r h => ih.sub r (List.mem_append_left _ h), fun r h => ?_⟩
        · exact ih.ext s y (by rw [fset_ne (fun z => by rw [z, cn] at h; cases h)]; exact h)
        · by_cases z : s = t
          · rw [z] at h ⊢
            rw [ct] at h
            cases h
            exact .inr ⟨rfl, List.mem_cons_self, cn, .inl ⟨q, ho, ih.sub q (List.mem_append_right _ List.mem_cons_self)⟩⟩
          · rcases ih.new s y h with a | ⟨a, b, d, f⟩
            · rw [fset_ne z] at a
              exact .inl a
            · rw [fset_ne z] at d
              exact .inr ⟨a, List.mem_cons_of_mem _ b, d, f⟩
        · obtain ⟨a, b, d⟩ := ih.found s h
          exact ⟨a, b, List.mem_cons_of_mem _ d⟩
        · rcases List.mem_cons.mp hs with z | z
          · rw [z, ct]
            exact fun z => nomatch z
          · exact ih.all h s z
        · rcases ih.wn r h with a | a
          · rcases List.mem_append.mp a with b | b
            · exact .inl b
            · rw [List.mem_singleton.mp b]
              exact .inr ⟨t, ct, ho⟩
          · exact .inr a
theorem scan_is {o : Int → Option Nat} {one : Nat} {l : List Int} {c c' : Came} {w w' : List Nat} {x : Option Int} (h : scan o one l c w = (x, c', w')) : ScanOk o one l c w x c' w' := by
  have := scan_ok (o := o) (one := one) l c w
  rw [h] at this
  exact this
/-- how a thing was come to: k steps from p -/
inductive Chain (c : Came) (h : Nat → Option Int) (p : Nat) : Nat → Int → Prop
  | start {t : Int} : c t = some p → Chain c h p 0 t
  | step {k : Nat} {t s : Int} {q : Nat} : c t = some q → h q = some s → Chain c h p k s → Chain c h p (k + 1) t
theorem Chain.ext {c c' : Came} {h : Nat → Option Int} {p : Nat} (e : ∀ t y, c t = some y → c' t = some y) : ∀ {k : Nat} {t : Int}, Chain c h p k t → Chain c' h p k t
  | _, _, .start a => .start (e _ _ a)
  | _, _, .step a b d => .step (e _ _ a) b (d.ext e)
theorem Chain.one {c : Came} {h : Nat → Option Int} {p : Nat} (hp : h p = none) : ∀ {k j : Nat} {t : Int}, Chain c h p k t → Chain c h p j t → k = j
  | _, _, _, .start _, .start _ => rfl
  | _, _, _, .start a, .step b d _ => by
    rw [a] at b
    cases b
    rw [hp] at d
    cases d
  | _, _, _, .step b d _, .start a => by
    rw [a] at b
    cases b
    rw [hp] at d
    cases d
  | _, _, _, .step a b d, .step a' b' d' => by
    rw [a] at a'
    cases a'
    rw [b] at b'
    cases b'
    rw [d.one hp d']
def Vis (o : Int → Option Nat) (p : Nat) (c : Came) (q : Nat) : Prop := q = p ∨ ∃ t x, c t = some x ∧ o t = some q
structure WInv (rows : Rows) (m : MS) (p : Nat) (c : Came) (w : List Nat) : Prop where
  a : ∀ t x, c t = some x → t ∈ row rows x ∧ ∃ q, m.o t = some q
  b : ∀ t x, c t = some x → ∃ k, Chain c m.h p k t
  v : ∀ q ∈ w, Vis m.o p c q
  d : ∀ q, Vis m.o p c q → q ∉ w → ∀ t ∈ row rows q, c t ≠ none
theorem WInv.init {rows : Rows} {m : MS} {p : Nat} : WInv rows m p (fun _ => none) [p] :=
  ⟨fun _ _ h => (by cases h), fun _ _ h => (by cases h), fun q h => .inl (List.mem_singleton.mp h), fun q h n => by
    rcases h with h | ⟨t, x, h, _⟩
    · exact absurd (List.mem_singleton.mpr h) n
    · cases h⟩
theorem chain_of {rows : Rows} {m : MS} {p one : Nat} {c c' : Came} {w : List Nat} {t : Int} (v : Valid rows m) (i : WInv rows m p c w) (h1 : Vis m.o p c one) (e : ∀ t y, c t = some y → c' t = some y) (ht : c' t = some one) : ∃ k, Chain c' m.h p k t := by
  rcases h1 with h1 | ⟨s, x, hs, ho⟩
  · exact ⟨0, .start (by rw [← h1]; exact ht)⟩
  · obtain ⟨k, hk⟩ := i.b s x hs
    exact ⟨k + 1, .step ht ((v.inv one s).mpr ho) (hk.ext e)⟩
theorem WInv.next {rows : Rows} {m : MS} {p one : Nat} {c c' : Came} {w w' : List Nat} (v : Valid rows m) (i : WInv rows m p c (w ++ [one])) (h : scan m.o one (row rows one) c w = (none, c', w')) : WInv rows m p c' w' := by
  have s := scan_is h
  have h1 : Vis m.o p c one := i.v one (List.mem_append_right _ List.mem_cons_self)
  have up : ∀ q, Vis m.o p c q → Vis m.o p c' q := fun q z => z.imp id fun ⟨t, x, a, b⟩ => ⟨t, x, s.ext _ _ a, b⟩
  refine ⟨fun t x ht => ?_, fun t x ht => ?_, fun q hq => ?_, fun q hv hq t ht => ?_⟩
  · rcases s.new t x ht with a | ⟨a, b, d, f⟩
    · exact i.a t x a
    · rw [a]
      rcases f with ⟨q, f, _⟩ | f
      · exact ⟨b, q, f⟩
      · cases f
  · rcases s.new t x ht with a | ⟨a, b, d, f⟩
    · obtain ⟨k, hk⟩ := i.b t x a
      exact ⟨k, hk.ext s.ext⟩
    · rw [a] at ht
      exact chain_of v i h1 s.ext ht
  · rcases s.wn q hq with a | ⟨t, a, b⟩
    · exact up q (i.v q (List.mem_append_left _ a))
    · exact .inr ⟨t, one, a, b⟩
  · by_cases hone : q = one
    · rw [hone] at ht
      exact s.all rfl t ht
    · have hv' : Vis m.o p c q := by
        rcases hv with z | ⟨u, x, hu, ho⟩
        · exact .inl z
        · rcases s.new u x hu with a | ⟨a, b, d, f⟩
          · exact .inr ⟨u, x, a, ho⟩
          · rcases f with ⟨r, f, fr⟩ | f
            · rw [ho] at f
              cases f
              exact absurd fr hq
            · cases f
      have hq' : q ∉ w ++ [one] := fun z => by
        rcases List.mem_append.mp z with z | z
        · exact hq (s.sub q z)
        · exact hone (List.mem_singleton.mp z)
      have := i.d q hv' hq' t ht
      cases z : c t with
      | none => exact absurd z this
      | some y => rw [s.ext t y z]; exact fun z => nomatch z
theorem walk_none {rows : Rows} {m : MS} {p : Nat} (v : Valid rows m) {c c' : Came} {w : List Nat} {x : Option Int} (h : Walk rows m.o c w x c') : x = none → WInv rows m p c w → WInv rows m p c' [] := by
  induction h with
  | nil => exact fun _ i => i
  | found h => exact fun e => nomatch e
  | more h _ ih => exact fun e i => ih e (i.next v h)
theorem walk_closed {rows : Rows} {m : MS} {p : Nat} (v : Valid rows m) {c' : Came} (h : Walk rows m.o (fun _ => none) [p] none c') : Closed rows m (Vis m.o p c') := by
  have i := walk_none v h rfl WInv.init
  intro q hq t ht
  have hc := i.d q hq (by simp) t ht
  cases z : c' t with
  | none => exact absurd z hc
  | some x =>
    obtain ⟨_, r, hr⟩ := i.a t x z
    exact ⟨r, .inr ⟨t, x, z, hr⟩, (v.inv r t).mpr hr⟩
structure Found (rows : Rows) (m : MS) (p : Nat) (c : Came) (t : Int) : Prop where
  free : m.o t = none
  tie : ∀ s x, c s = some x → s ∈ row rows x
  chain : ∃ k, Chain c m.h p k t
theorem walk_found {rows : Rows} {m : MS} {p : Nat} (v : Valid rows m) {c c' : Came} {w : List Nat} {x : Option Int} (h : Walk rows m.o c w x c') : ∀ t, x = some t → WInv rows m p c w → Found rows m p c' t := by
  induction h with
  | nil => exact fun _ e => nomatch e
  | found h =>
    intro t e i
    cases e
    have s := scan_is h
    have f := s.found _ rfl
    refine ⟨f.1, fun u y hu => ?_, chain_of v i (i.v _ (List.mem_append_right _ List.mem_cons_self)) s.ext f.2.1⟩
    rcases s.new u y hu with a | ⟨a, b, _⟩
    · exact (i.a u y a).1
    · rw [a]; exact b
  | more h _ ih => exact fun t e i => ih t e (i.next v h)
def put (m : MS) (q : Nat) (t : Int) : MS := ⟨fset m.h q (some t), fset m.o t (some q)⟩
inductive Hand (c : Came) : MS → Int → MS → Prop
  | last {m : MS} {t : Int} {q : Nat} : c t = some q → m.h q = none → Hand c m t (put m q t)
  | more {m m' : MS} {t s : Int} {q : Nat} : c t = some q → m.h q = some s → Hand c (put m q t) s m' → Hand c m t m'
/-- while things are handed on: m behind m0, t in hand, k steps left -/
structure HInv (rows : Rows) (m0 : MS) (p : Nat) (c : Came) (m : MS) (t : Int) (k : Nat) : Prop where
  ch : Chain c m0.h p k t
  ho : ∀ x s, m.h x = some s → m.o s = some x
  oh : ∀ x s, m.o s = some x → m.h x = some s ∨ s = t
  no : ∀ x, m.h x ≠ some t
  tie : ∀ x s, m.h x = some s → s ∈ row rows x
  dom : ∀ x, m.h x = none ↔ m0.h x = none
  old : ∀ x, m.h x ≠ m0.h x → ∃ s j, m0.h x = some s ∧ Chain c m0.h p j s ∧ k ≤ j
  cl : ∀ R, Closed rows m0 R → (∀ q, c t = some q → ¬ R q) ∧ ∀ x, R x → m.h x = m0.h x
theorem HInv.init {rows : Rows} {m : MS} {p : Nat} {c : Came} {t : Int} (v : Valid rows m) (f : Found rows m p c t) : ∃ k, HInv rows m p c m t k := by
  obtain ⟨k, hk⟩ := f.chain
  refine ⟨k, hk, fun x s h => (v.inv x s).mp h, fun x s h => .inl ((v.inv x s).mpr h), fun x h => ?_, v.tie, fun _ => Iff.rfl, fun x h => absurd rfl h, fun R hR => ⟨fun q hq rq => ?_, fun _ _ => rfl⟩⟩
  · have := (v.inv x t).mp h
    rw [f.free] at this
    cases this
  · obtain ⟨r, _, hr⟩ := hR q rq t (f.tie t q hq)
    have := (v.inv r t).mp hr
    rw [f.free] at this
    cases this
theorem HInv.at_ {rows : Rows} {m0 m : MS} {p : Nat} {c : Came} {t : Int} {k : Nat} (hp : m0.h p = none) (i : HInv rows m0 p c m t k) : ∃ q, c t = some q ∧ m.h q = m0.h q ∧ ((k = 0 ∧ q = p) ∨ ∃ s j, k = j + 1 ∧ m0.h q = some s ∧ Chain c m0.h p j s) := by
  have ch := i.ch
  cases ch with
  | start a =>
    refine ⟨p, a, ?_, .inl ⟨rfl, rfl⟩⟩
    rw [hp]
    exact (i.dom p).mpr hp
  | @step j _ s q a b d =>
    refine ⟨q, a, ?_, .inr ⟨s, j, rfl, b, d⟩⟩
    refine Classical.byContradiction fun hc => ?_
    obtain ⟨s', j', h1, h2, h3⟩ := i.old q hc
    rw [b] at h1
    cases h1
    have := d.one hp h2
    omega
theorem HInv.more {rows : Rows} {m0 m : MS} {p : Nat} {c : Came} {t s : Int} {k j q : Nat} (v0 : Valid rows m0) (hp : m0.h p = none) (tie : ∀ s x, c s = some x → s ∈ row rows x) (i : HInv rows m0 p c m t k) (hc : c t = some q) (e : m.h q = m0.h q) (hk : k = j + 1) (hs : m0.h q = some s) (hch : Chain c m0.h p j s) : HInv rows m0 p c (put m q t) s j := by
  have hms : m.h q = some s := e.trans hs
  have nst : s ≠ t := fun z => i.no q (by rw [hms, z])
  refine ⟨hch, fun x r h => ?_, fun x r h => ?_, fun x h => ?_, fun x r h => ?_, fun x => ?_, fun x h => ?_, fun R hR => ?_⟩
  · have h' : fset m.h q (some t) x = some r := h
    show fset m.o t (some q) r = some x
    by_cases z : x = q
    · rw [z, fset_same] at h'
      cases h'
      rw [fset_same, z]
    · rw [fset_ne z] at h'
      rw [fset_ne (fun y => i.no x (by rw [h', y]))]
      exact i.ho x r h'
  · have h' : fset m.o t (some q) r = some x := h
    show fset m.h q (some t) x = some r ∨ r = s
    by_cases z : r = t
    · rw [z, fset_same] at h'
      cases h'
      rw [fset_same, z]
      exact .inl rfl
    · rw [fset_ne z] at h'
      by_cases y : x = q
      · rcases i.oh x r h' with a | a
        · rw [y, hms] at a
          exact .inr (Option.some.inj a).symm
        · exact absurd a z
      · rw [fset_ne y]
        rcases i.oh x r h' with a | a
        · exact .inl a
        · exact absurd a z
  · have h' : fset m.h q (some t) x = some s := h
    by_cases z : x = q
    · rw [z, fset_same] at h'
      exact nst (Option.some.inj h').symm
    · rw [fset_ne z] at h'
      have a := i.ho x s h'
      have b := i.ho q s hms
      rw [a] at b
      exact z (Option.some.inj b)
  · have h' : fset m.h q (some t) x = some r := h
    by_cases z : x = q
    · rw [z, fset_same] at h'
      cases h'
      rw [z]
      exact tie t q hc
    · rw [fset_ne z] at h'
      exact i.tie x r h'
  · show fset m.h q (some t) x = none ↔ _
    by_cases z : x = q
    · rw [z, fset_same, hs]
      exact ⟨fun y => (by cases y), fun y => (by cases y)⟩
    · rw [fset_ne z]
      exact i.dom x
  · have h' : fset m.h q (some t) x ≠ m0.h x := h
    by_cases z : x = q
    · exact ⟨s, j, by rw [z]; exact hs, hch, Nat.le_refl _⟩
    · rw [fset_ne z] at h'
      obtain ⟨a, b, d, f, g⟩ := i.old x h'
      exact ⟨a, b, d, f, by omega⟩
  · obtain ⟨a, b⟩ := i.cl R hR
    refine ⟨fun r hr rr => ?_, fun x rx => ?_⟩
    · obtain ⟨y, ry, hy⟩ := hR r rr s (tie s r hr)
      have := v0.inj hy hs
      rw [this] at ry
      exact a q hc ry
    · show fset m.h q (some t) x = _
      rw [fset_ne (fun z => a q hc (by rw [← z]; exact rx))]
      exact b x rx
structure Given (rows : Rows) (m0 : MS) (p : Nat) (m : MS) : Prop where
  valid : Valid rows m
  got : m.h p ≠ none
  dom : ∀ x, x ≠ p → (m.h x = none ↔ m0.h x = none)
  cl : ∀ R, Closed rows m0 R → ∀ x, R x → m.h x = m0.h x
theorem HInv.last {rows : Rows} {m0 m : MS} {p : Nat} {c : Came} {t : Int} {k q : Nat} (hp : m0.h p = none) (tie : ∀ s x, c s = some x → s ∈ row rows x) (i : HInv rows m0 p c m t k) (hc : c t = some q) (hq : m.h q = none) : Given rows m0 p (put m q t) := by
  have hqp : q = p := by
    obtain ⟨r, h1, h2, h3⟩ := i.at_ hp
    rw [hc] at h1
    cases h1
    rcases h3 with ⟨_, e⟩ | ⟨s, j, _, e, _⟩
    · exact e
    · rw [h2, e] at hq
      cases hq
  refine ⟨⟨fun x r => ⟨fun h => ?_, fun h => ?_⟩, fun x r h => ?_⟩, ?_, fun x hx => ?_, fun R hR x rx => ?_⟩
  · have h' : fset m.h q (some t) x = some r := h
    show fset m.o t (some q) r = some x
    by_cases z : x = q
    · rw [z, fset_same] at h'
      cases h'
      rw [fset_same, z]
    · rw [fset_ne z] at h'
      rw [fset_ne (fun y => i.no x (by rw [h', y]))]
      exact i.ho x r h'
  · have h' : fset m.o t (some q) r = some x := h
    show fset m.h q (some t) x = some r
    by_cases z : r = t
    · rw [z, fset_same] at h'
      cases h'
      rw [fset_same, z]
    · rw [fset_ne z] at h'
      rcases i.oh x r h' with a | a
      · rw [fset_ne (fun y => by rw [y, hq] at a; cases a)]
        exact a
      · exact absurd a z
  · have h' : fset m.h q (some t) x = some r := h
    by_cases z : x = q
    · rw [z, fset_same] at h'
      cases h'
      rw [z]
      exact tie t q hc
    · rw [fset_ne z] at h'
      exact i.tie x r h'
  · show fset m.h q (some t) p ≠ none
    rw [hqp, fset_same]
    exact fun z => nomatch z
  · show fset m.h q (some t) x = none ↔ _
    rw [fset_ne (by rw [hqp]; exact hx)]
    exact i.dom x
  · obtain ⟨a, b⟩ := i.cl R hR
    show fset m.h q (some t) x = _
    rw [fset_ne (fun z => a q hc (by rw [← z]; exact rx))]
    exact b x rx
theorem hand_given {rows : Rows} {m0 : MS} {p : Nat} {c : Came} (v0 : Valid rows m0) (hp : m0.h p = none) (tie : ∀ s x, c s = some x → s ∈ row rows x) {m m' : MS} {t : Int} (h : Hand c m t m') : ∀ k, HInv rows m0 p c m t k → Given rows m0 p m' := by
  induction h with
  | last a b => exact fun k i => i.last hp tie a b
  | @more m m' t u r a b _ ih =>
    intro k i
    obtain ⟨r', h1, h2, h3⟩ := i.at_ hp
    rw [a] at h1
    obtain rfl := Option.some.inj h1
    rcases h3 with ⟨_, e⟩ | ⟨s, j, e1, e2, e3⟩
    · rw [h2, e, hp] at b
      cases b
    · have e4 : m0.h r = some _ := h2.symm.trans b
      rw [e2] at e4
      cases e4
      exact ih j (i.more v0 hp tie a h2 e1 e2 e3)
theorem hand_ex {rows : Rows} {m0 : MS} {p : Nat} {c : Came} (v0 : Valid rows m0) (hp : m0.h p = none) (tie : ∀ s x, c s = some x → s ∈ row rows x) : ∀ (k : Nat) {m : MS} {t : Int}, HInv rows m0 p c m t k → ∃ m', Hand c m t m'
  | 0, m, t, i => by
    obtain ⟨r, h1, h2, h3⟩ := i.at_ hp
    rcases h3 with ⟨_, e⟩ | ⟨s, j, e1, _⟩
    · exact ⟨_, .last h1 (by rw [h2, e, hp])⟩
    · omega
  | k + 1, m, t, i => by
    obtain ⟨r, h1, h2, h3⟩ := i.at_ hp
    rcases h3 with ⟨e, _⟩ | ⟨s, j, e1, e2, e3⟩
    · omega
    · have ej : j = k := by omega
      subst ej
      obtain ⟨m', hm⟩ := hand_ex v0 hp tie j (i.more v0 hp tie h1 h2 rfl e2 e3)
      exact ⟨m', .more h1 (h2.trans e2) hm⟩
end Mt
set_option maxRecDepth 100000
set_option maxHeartbeats 1000000
namespace Mt
open Classical
theorem filt_lt {α : Type} {P Q : α → Bool} (h : ∀ x, P x = true → Q x = true) : ∀ {l : List α} {t : α}, t ∈ l → Q t = true → P t = false → (l.filter P).length + 1 ≤ (l.filter Q).length
  | x :: l, t, ht, hq, hp => by
    have mono : ∀ l : List α, (l.filter P).length ≤ (l.filter Q).length := fun l => by
      induction l with
      | nil => exact Nat.le_refl _
      | cons y l ih =>
        cases hy : P y with
        | true => rw [List.filter_cons_of_pos hy, List.filter_cons_of_pos (h y hy), List.length_cons, List.length_cons]; omega
        | false =>
          rw [List.filter_cons_of_neg (by rw [hy]; decide)]
          cases hz : Q y with
          | true => rw [List.filter_cons_of_pos hz, List.length_cons]; omega
          | false => rw [List.filter_cons_of_neg (by rw [hz]; decide)]; exact ih
    rcases List.mem_cons.mp ht with e | e
    · rw [← e, List.filter_cons_of_neg (by rw [hp]; decide), List.filter_cons_of_pos hq, List.length_cons]
      have := mono l
      omega
    · have ih := filt_lt h e hq hp
      cases hy : P x with
      | true => rw [List.filter_cons_of_pos hy, List.filter_cons_of_pos (h x hy), List.length_cons, List.length_cons]; omega
      | false =>
        rw [List.filter_cons_of_neg (by rw [hy]; decide)]
        cases hz : Q x with
        | true => rw [List.filter_cons_of_pos hz, List.length_cons]; omega
        | false => rw [List.filter_cons_of_neg (by rw [hz]; decide)]; exact ih
/-- how much is left to do: things not come to, and people waiting -/
def todo (U : List Int) (c : Came) (w : List Nat) : Nat := (U.filter fun t => (c t).isNone).length + w.length
theorem scan_todo {o : Int → Option Nat} {one : Nat} {U : List Int} : ∀ (l : List Int) (c : Came) (w : List Nat), (∀ t ∈ l, t ∈ U) → (scan o one l c w).1 = none → todo U (scan o one l c w).2.1 (scan o one l c w).2.2 ≤ todo U c w
  | [], c, w, _, _ => Nat.le_refl _
  | t :: l, c, w, hU, hn => by
    by_cases hc : (c t).isSome = true
    · have e : scan o one (t :: l) c w = scan o one l c w := by
        show (if (c t).isSome = true then scan o one l c w else _) = _
        rw [if_pos hc]
      rw [e] at hn ⊢
      exact scan_todo l c w (fun s hs => hU s (List.mem_cons_of_mem _ hs)) hn
    · cases ho : o t with
      | none =>
        have e : scan o one (t :: l) c w = (some t, fset c t (some one), w) := by
          show (if (c t).isSome = true then _ else match o t with | none => _ | some q => _) = _
          rw [if_neg hc, ho]
        rw [e] at hn
        cases hn
      | some q =>
        have e : scan o one (t :: l) c w = scan o one l (fset c t (some one)) (w ++ [q]) := by
          show (if (c t).isSome = true then _ else match o t with | none => _ | some q => _) = _
          rw [if_neg hc, ho]
        rw [e] at hn ⊢
        refine Nat.le_trans (scan_todo l _ _ (fun s hs => hU s (List.mem_cons_of_mem _ hs)) hn) ?_
        unfold todo
        rw [List.length_append, List.length_singleton]
        have := filt_lt (P := fun s => (fset c t (some one) s).isNone) (Q := fun s => (c s).isNone) (l := U) (t := t) (fun x hx => by
          by_cases z : x = t
          · rw [z, fset_same] at hx
            cases hx
          · rw [fset_ne z] at hx
            exact hx) (hU t List.mem_cons_self) (by
          cases z : c t with
          | none => rfl
          | some y => rw [z] at hc; exact absurd rfl hc) (by rw [fset_same]; rfl)
        omega
theorem scan_todo' {o : Int → Option Nat} {one : Nat} {U : List Int} {l : List Int} {c c' : Came} {w w' : List Nat} (hU : ∀ t ∈ l, t ∈ U) (h : scan o one l c w = (none, c', w')) : todo U c' w' ≤ todo U c w := by
  have := scan_todo (o := o) (one := one) (U := U) l c w hU
  rw [h] at this
  exact this rfl
theorem todo_snoc {U : List Int} {c : Came} {w : List Nat} {q : Nat} : todo U c (w ++ [q]) = todo U c w + 1 := by
  unfold todo
  rw [List.length_append, List.length_singleton]
  omega
def things (rows : Rows) : List Int := rows.flatten
theorem mem_things {rows : Rows} {p : Nat} {t : Int} (h : t ∈ row rows p) : t ∈ things rows := by
  unfold row at h
  cases e : rows[p]? with
  | none => rw [e] at h; cases h
  | some r =>
    rw [e] at h
    exact List.mem_flatten.mpr ⟨r, List.mem_of_getElem? e, h⟩
theorem walk_ex {rows : Rows} {o : Int → Option Nat} : ∀ (n : Nat) (c : Came) (w : List Nat), todo (things rows) c w ≤ n → ∃ x c', Walk rows o c w x c'
  | n, c, w, h => by
    rcases List.eq_nil_or_concat w with e | ⟨w0, q, e⟩
    · rw [e]
      exact ⟨none, c, .nil⟩
    · rw [List.concat_eq_append] at e
      subst e
      cases n with
      | zero => rw [todo_snoc] at h; omega
      | succ n =>
        rw [todo_snoc] at h
        rcases hs : scan o q (row rows q) c w0 with ⟨x, c', w'⟩
        cases x with
        | some t => exact ⟨some t, c', .found hs⟩
        | none =>
          have := scan_todo' (U := things rows) (fun t ht => mem_things ht) hs
          obtain ⟨x, c2, hw⟩ := walk_ex (rows := rows) (o := o) n c' w' (by omega)
          exact ⟨x, c2, .more hs hw⟩
inductive Give (rows : Rows) (m : MS) (p : Nat) : MS → Prop
  | no {c : Came} : Walk rows m.o (fun _ => none) [p] none c → Give rows m p m
  | yes {c : Came} {t : Int} {m' : MS} : Walk rows m.o (fun _ => none) [p] (some t) c → Hand c m t m' → Give rows m p m'
theorem give_ex {rows : Rows} {m : MS} {p : Nat} (v : Valid rows m) (hp : m.h p = none) : ∃ m', Give rows m p m' := by
  obtain ⟨x, c, hw⟩ := walk_ex (rows := rows) (o := m.o) _ (fun _ => none) [p] (Nat.le_refl _)
  cases x with
  | none => exact ⟨m, .no hw⟩
  | some t =>
    have f := walk_found v hw t rfl WInv.init
    obtain ⟨k, i⟩ := HInv.init v f
    obtain ⟨m', hm⟩ := hand_ex v hp f.tie k i
    exact ⟨m', .yes hw hm⟩
theorem give_ok {rows : Rows} {m m' : MS} {p : Nat} (v : Valid rows m) (hp : m.h p = none) (g : Give rows m p m') : Given rows m p m' ∨ (m' = m ∧ ∃ R, R p ∧ Closed rows m R) := by
  cases g with
  | no hw => exact .inr ⟨rfl, _, .inl rfl, walk_closed v hw⟩
  | yes hw hh =>
    have f := walk_found v hw _ rfl WInv.init
    obtain ⟨k, i⟩ := HInv.init v f
    exact .inl (hand_given v hp f.tie hh k i)
theorem walk_one {rows : Rows} {o : Int → Option Nat} {c c1 : Came} {w : List Nat} {x : Option Int} (a : Walk rows o c w x c1) : ∀ {y : Option Int} {c2 : Came}, Walk rows o c w y c2 → x = y ∧ c1 = c2 := by
  induction a with
  | nil =>
    intro y c2 b
    generalize ew : ([] : List Nat) = w' at b
    cases b with
    | nil => exact ⟨rfl, rfl⟩
    | found h => exact absurd ew (by simp)
    | more h _ => exact absurd ew (by simp)
  | @found c c' w w' one t h =>
    intro y c2 b
    generalize ew : w ++ [one] = w2 at b
    cases b with
    | nil => exact absurd ew (by simp)
    | found h2 =>
      obtain ⟨e1, e2⟩ := List.append_inj' ew rfl
      cases e2
      subst e1
      rw [h] at h2
      cases h2
      exact ⟨rfl, rfl⟩
    | more h2 _ =>
      obtain ⟨e1, e2⟩ := List.append_inj' ew rfl
      cases e2
      subst e1
      rw [h] at h2
      cases h2
  | @more c c' c2 w w' one x h _ ih =>
    intro y c3 b
    generalize ew : w ++ [one] = w2 at b
    cases b with
    | nil => exact absurd ew (by simp)
    | found h2 =>
      obtain ⟨e1, e2⟩ := List.append_inj' ew rfl
      cases e2
      subst e1
      rw [h] at h2
      cases h2
    | more h2 b2 =>
      obtain ⟨e1, e2⟩ := List.append_inj' ew rfl
      cases e2
      subst e1
      rw [h] at h2
      cases h2
      exact ih b2
theorem hand_one {c : Came} {m m1 : MS} {t : Int} (a : Hand c m t m1) : ∀ {m2 : MS}, Hand c m t m2 → m1 = m2 := by
  induction a with
  | last a b =>
    intro m2 h
    cases h with
    | last a2 b2 => rw [a] at a2; cases a2; rfl
    | more a2 b2 _ => rw [a] at a2; cases a2; rw [b] at b2; cases b2
  | more a b _ ih =>
    intro m2 h
    cases h with
    | last a2 b2 => rw [a] at a2; cases a2; rw [b] at b2; cases b2
    | more a2 b2 h2 => rw [a] at a2; cases a2; rw [b] at b2; cases b2; exact ih h2
theorem give_one {rows : Rows} {m m1 m2 : MS} {p : Nat} (a : Give rows m p m1) (b : Give rows m p m2) : m1 = m2 := by
  cases a with
  | no h =>
    cases b with
    | no h2 => rfl
    | yes h2 k2 => exact absurd (walk_one h h2).1 (by simp)
  | yes h k =>
    cases b with
    | no h2 => exact absurd (walk_one h h2).1 (by simp)
    | yes h2 k2 =>
      obtain ⟨e1, e2⟩ := walk_one h h2
      cases e1
      subst e2
      exact hand_one k k2
def m0 : MS := ⟨fun _ => none, fun _ => none⟩
inductive Upto (rows : Rows) : Nat → MS → Prop
  | zero : Upto rows 0 m0
  | succ {k : Nat} {m m' : MS} : Upto rows k m → Give rows m k m' → Upto rows (k + 1) m'
structure UpOk (rows : Rows) (k : Nat) (m : MS) : Prop where
  valid : Valid rows m
  late : ∀ p, k ≤ p → m.h p = none
  cl : ∀ p, p < k → m.h p = none → ∃ R, R p ∧ Closed rows m R
theorem upto_ok {rows : Rows} {k : Nat} {m : MS} (u : Upto rows k m) : UpOk rows k m := by
  induction u with
  | zero => exact ⟨⟨fun p t => ⟨fun h => (by cases h), fun h => (by cases h)⟩, fun p t h => (by cases h)⟩, fun _ _ => rfl, fun p h => absurd h (Nat.not_lt_zero _)⟩
  | @succ k m m' _ g ih =>
    have hk := ih.late k (Nat.le_refl _)
    rcases give_ok ih.valid hk g with a | ⟨rfl, R, r, c⟩
    · refine ⟨a.valid, fun p hp => (a.dom p (by omega)).mpr (ih.late p (by omega)), fun p hp hn => ?_⟩
      by_cases e : p = k
      · rw [e] at hn
        exact absurd hn a.got
      · obtain ⟨R, r, c⟩ := ih.cl p (by omega) ((a.dom p e).mp hn)
        refine ⟨R, r, fun q rq t ht => ?_⟩
        obtain ⟨q', r', hq'⟩ := c q rq t ht
        exact ⟨q', r', (a.cl R c q' r').trans hq'⟩
    · refine ⟨ih.valid, fun p hp => ih.late p (by omega), fun p hp hn => ?_⟩
      by_cases e : p = k
      · rw [e]
        exact ⟨R, r, c⟩
      · exact ih.cl p (by omega) hn
theorem upto_one {rows : Rows} : ∀ {k : Nat} {a b : MS}, Upto rows k a → Upto rows k b → a = b
  | 0, _, _, .zero, .zero => rfl
  | k + 1, _, _, .succ u g, .succ v h => by
    have := upto_one u v
    subst this
    exact give_one g h
def Full (rows : Rows) (m : MS) : Prop := ∀ p, p < rows.length → m.h p ≠ none
def dealt (n : Nat) (m : MS) : List Int := (List.range n).map fun p => (m.h p).getD 0
theorem dealt_get {n p : Nat} {m : MS} (h : p < n) : (dealt n m)[p]? = some ((m.h p).getD 0) := by
  unfold dealt
  rw [List.getElem?_map, List.getElem?_range h]
  rfl
theorem dealt_ok {rows : Rows} {m : MS} (v : Valid rows m) (f : Full rows m) : Ds rows (dealt rows.length m) ∧ ∀ p t, m.h p = some t → (dealt rows.length m)[p]? = some t := by
  have ln : (dealt rows.length m).length = rows.length := by unfold dealt; rw [List.length_map, List.length_range]
  have get : ∀ p t, m.h p = some t → (dealt rows.length m)[p]? = some t := fun p t h => by
    rw [dealt_get (row_lt (v.tie p t h)), h]
    rfl
  have back : ∀ p t, (dealt rows.length m)[p]? = some t → m.h p = some t := fun p t h => by
    have hp : p < rows.length := by
      have := (List.getElem?_eq_some_iff.mp h).1
      omega
    cases e : m.h p with
    | none => exact absurd e (f p hp)
    | some s =>
      rw [get p s e] at h
      exact h
  refine ⟨⟨ln, fun p t h => v.tie p t (back p t h), ?_⟩, get⟩
  unfold dealt
  refine nodup_map List.nodup_range fun x hx y hy e => ?_
  have hx' := List.mem_range.mp hx
  have hy' := List.mem_range.mp hy
  cases ex : m.h x with
  | none => exact absurd ex (f x hx')
  | some s =>
    cases ey : m.h y with
    | none => exact absurd ey (f y hy')
    | some t =>
      rw [ex, ey] at e
      have e' : s = t := e
      rw [e'] at ex
      exact v.inj ex ey
/-- either all are served, or there is no dealing -/
theorem full_or {rows : Rows} {m : MS} (o : UpOk rows rows.length m) : Full rows m ∨ ∃ p, p < rows.length ∧ m.h p = none ∧ ∀ D, ¬ Ds rows D := by
  by_cases f : Full rows m
  · exact .inl f
  · obtain ⟨p, hp⟩ := Classical.not_forall.mp f
    obtain ⟨h1, h2⟩ := Classical.not_imp.mp hp
    have h3 : m.h p = none := Classical.byContradiction h2
    obtain ⟨R, r, c⟩ := o.cl p h1 h3
    exact .inr ⟨p, h1, h3, fun D d => no_dealing o.valid h1 r c h3 d⟩
inductive Reach (rows : Rows) (o : Int → Option Nat) (q : Nat) : Nat → Prop
  | refl : Reach rows o q q
  | step {x y : Nat} {s : Int} : Reach rows o q x → s ∈ row rows x → o s = some y → Reach rows o q y
def Few (rows : Rows) : Prop := ∃ U : List Int, U.length ≤ rows.length ∧ ∀ p, ∀ t ∈ row rows p, t ∈ U
theorem owned {rows : Rows} {m : MS} (v : Valid rows m) (f : Full rows m) (few : Few rows) {p : Nat} {t : Int} (h : t ∈ row rows p) : ∃ q, m.o t = some q := by
  obtain ⟨U, hl, hU⟩ := few
  obtain ⟨d, get⟩ := dealt_ok v f
  have h1 := all_in d.nd (l2 := U) (fun x hx => by
    obtain ⟨i, hi⟩ := List.getElem?_of_mem hx
    exact hU i x (d.tie i x hi)) (by rw [d.len]; exact hl) t (hU p t h)
  obtain ⟨i, hi⟩ := List.getElem?_of_mem h1
  have hin : i < rows.length := row_lt (d.tie i t hi)
  cases e : m.h i with
  | none => exact absurd e (f i hin)
  | some s =>
    rw [get i s e] at hi
    cases hi
    exact ⟨i, (v.inv i t).mp e⟩
theorem reach_of {rows : Rows} {m : MS} {D : List Int} {p q : Nat} {t : Int} (v : Valid rows m) (f : Full rows m) (few : Few rows) (d : Ds rows D) (hD : D[p]? = some t) (ho : m.o t = some q) : Reach rows m.o q p := by
  refine Classical.byContradiction fun hc => ?_
  have hq : q < rows.length := row_lt (v.tie q t ((v.inv q t).mpr ho))
  have own : ∀ x, x < rows.length → ∃ s y, D[x]? = some s ∧ s ∈ row rows x ∧ m.o s = some y := fun x hx => by
    obtain ⟨s, e, hs⟩ := d.get hx
    obtain ⟨y, hy⟩ := owned v f few hs
    exact ⟨s, y, e, hs, hy⟩
  refine no_room (n := rows.length) (R := Reach rows m.o q) (p := q) (f := fun x => (m.o (D[x]?.getD 0)).getD 0) hq .refl (fun x hx rx => ?_) (fun x y hx hy rx ry e => ?_)
  · obtain ⟨s, y, e, hs, hy⟩ := own x hx
    show (m.o (D[x]?.getD 0)).getD 0 < _ ∧ Reach rows m.o q ((m.o (D[x]?.getD 0)).getD 0) ∧ (m.o (D[x]?.getD 0)).getD 0 ≠ q
    rw [e]
    show (m.o s).getD 0 < _ ∧ Reach rows m.o q ((m.o s).getD 0) ∧ (m.o s).getD 0 ≠ q
    rw [hy]
    refine ⟨row_lt (v.tie y s ((v.inv y s).mpr hy)), .step rx hs hy, fun z => ?_⟩
    have z' : y = q := z
    rw [z'] at hy
    have a := (v.inv q s).mpr hy
    have b := (v.inv q t).mpr ho
    rw [a] at b
    cases b
    exact hc (nodup_get d.nd e hD ▸ rx)
  · obtain ⟨s, u, e1, hs, hu⟩ := own x hx
    obtain ⟨s', u', e2, hs', hu'⟩ := own y hy
    have e' : (m.o (D[x]?.getD 0)).getD 0 = (m.o (D[y]?.getD 0)).getD 0 := e
    rw [e1, e2] at e'
    have e'' : (m.o s).getD 0 = (m.o s').getD 0 := e'
    rw [hu, hu'] at e''
    have e3 : u = u' := e''
    subst e3
    have a := (v.inv u s).mpr hu
    have b := (v.inv u s').mpr hu'
    rw [a] at b
    cases b
    exact nodup_get d.nd e1 e2
def narrow (rows : Rows) (p : Nat) (t : Int) : Rows := rows.mapIdx fun x r => if x = p then [t] else r.filter (fun s => decide (s ≠ t))
theorem narrow_len {rows : Rows} {p : Nat} {t : Int} : (narrow rows p t).length = rows.length := List.length_mapIdx
theorem narrow_get {rows : Rows} {p : Nat} {t : Int} (x : Nat) : (narrow rows p t)[x]? = rows[x]?.map fun r => if x = p then [t] else r.filter (fun s => decide (s ≠ t)) := List.getElem?_mapIdx
theorem row_narrow {rows : Rows} {p : Nat} {t : Int} {x : Nat} (h : x < rows.length) : row (narrow rows p t) x = if x = p then [t] else (row rows x).filter (fun s => decide (s ≠ t)) := by
  unfold row
  rw [narrow_get, List.getElem?_eq_getElem h]
  rfl
theorem mem_narrow {rows : Rows} {p : Nat} {t : Int} {x : Nat} {s : Int} (h : x < rows.length) : s ∈ row (narrow rows p t) x ↔ (x = p ∧ s = t) ∨ (x ≠ p ∧ s ∈ row rows x ∧ s ≠ t) := by
  rw [row_narrow h]
  by_cases e : x = p
  · rw [if_pos e, List.mem_singleton]
    exact ⟨fun z => .inl ⟨e, z⟩, fun z => z.elim (fun z => z.2) fun z => absurd e z.1⟩
  · rw [if_neg e, List.mem_filter, decide_eq_true_iff]
    exact ⟨fun z => .inr ⟨e, z⟩, fun z => z.elim (fun z => absurd z.1 e) fun z => z.2⟩
theorem ds_narrow {rows : Rows} {p : Nat} {t : Int} {D : List Int} (hp : p < rows.length) (ht : t ∈ row rows p) : Ds (narrow rows p t) D ↔ Ds rows D ∧ D[p]? = some t := by
  constructor
  · intro d
    have ln : D.length = rows.length := by rw [d.len, narrow_len]
    have hpt : D[p]? = some t := by
      obtain ⟨s, e, hs⟩ := d.get (p := p) (by rw [narrow_len]; exact hp)
      rcases (mem_narrow hp).mp hs with a | a
      · rw [e, a.2]
      · exact absurd rfl a.1
    refine ⟨⟨ln, fun x s e => ?_, d.nd⟩, hpt⟩
    have hx : x < rows.length := by
      have := (List.getElem?_eq_some_iff.mp e).1
      omega
    rcases (mem_narrow hx).mp (d.tie x s e) with a | a
    · rw [a.1, a.2]; exact ht
    · exact a.2.1
  · rintro ⟨d, hpt⟩
    refine ⟨by rw [narrow_len]; exact d.len, fun x s e => ?_, d.nd⟩
    have hx : x < rows.length := by
      have := (List.getElem?_eq_some_iff.mp e).1
      rw [d.len] at this
      exact this
    refine (mem_narrow hx).mpr ?_
    by_cases z : x = p
    · rw [z, hpt] at e
      exact .inl ⟨z, (Option.some.inj e).symm⟩
    · exact .inr ⟨z, d.tie x s e, fun y => z (nodup_get d.nd (by rw [y] at e; exact e) hpt)⟩
/-- a tie is in a dealing if the one who holds its thing comes to the person -/
theorem dealing_of {rows : Rows} {m : MS} {p q : Nat} {t : Int} (v : Valid rows m) (f : Full rows m) (ht : t ∈ row rows p) (ho : m.o t = some q) (r : Reach rows m.o q p) : ∃ D, Ds rows D ∧ D[p]? = some t := by
  have hp : p < rows.length := row_lt ht
  have hqt := (v.inv q t).mpr ho
  have hq : q < rows.length := row_lt (v.tie q t hqt)
  by_cases e : q = p
  · obtain ⟨d, get⟩ := dealt_ok v f
    exact ⟨_, d, get p t (by rw [← e]; exact hqt)⟩
  · obtain ⟨g, hg⟩ : ∃ g, m.h p = some g := by
      cases z : m.h p with
      | none => exact absurd z (f p hp)
      | some g => exact ⟨g, rfl⟩
    have hgt : g ≠ t := fun z => e (v.inj hqt (by rw [← z]; exact hg))
    obtain ⟨N, eN⟩ : ∃ N : MS, N = ⟨fset (fset m.h q none) p (some t), fset (fset m.o g none) t (some p)⟩ := ⟨_, rfl⟩
    have Nh : ∀ x, N.h x = if x = p then some t else if x = q then none else m.h x := fun x => by rw [eN]; rfl
    have No : ∀ s, N.o s = if s = t then some p else if s = g then none else m.o s := fun s => by rw [eN]; rfl
    have vN : Valid (narrow rows p t) N := by
      refine ⟨fun x s => ?_, fun x s h => ?_⟩
      · rw [Nh, No]
        by_cases a : x = p
        · rw [if_pos a]
          by_cases b : s = t
          · rw [if_pos b, a, b]
            exact ⟨fun _ => rfl, fun _ => rfl⟩
          · rw [if_neg b]
            refine ⟨fun z => absurd (Option.some.inj z).symm b, fun z => ?_⟩
            by_cases c : s = g
            · rw [if_pos c] at z; cases z
            · rw [if_neg c] at z
              have := (v.inv x s).mpr z
              rw [a, hg] at this
              exact absurd (Option.some.inj this).symm c
        · rw [if_neg a]
          by_cases b : s = t
          · rw [if_pos b]
            refine ⟨fun z => ?_, fun z => absurd (Option.some.inj z).symm a⟩
            by_cases c : x = q
            · rw [if_pos c] at z; cases z
            · rw [if_neg c, b] at z
              exact absurd (v.inj z hqt) c
          · rw [if_neg b]
            by_cases c : x = q
            · rw [if_pos c]
              refine ⟨fun z => (by cases z), fun z => ?_⟩
              by_cases d : s = g
              · rw [if_pos d] at z; cases z
              · rw [if_neg d] at z
                have := (v.inv x s).mpr z
                rw [c, hqt] at this
                exact absurd (Option.some.inj this).symm b
            · rw [if_neg c]
              by_cases d : s = g
              · rw [if_pos d]
                refine ⟨fun z => ?_, fun z => (by cases z)⟩
                rw [d] at z
                exact absurd (v.inj z hg) a
              · rw [if_neg d]
                exact v.inv x s
      · rw [Nh] at h
        by_cases a : x = p
        · rw [if_pos a] at h
          cases h
          exact (mem_narrow (by rw [a]; exact hp)).mpr (.inl ⟨a, rfl⟩)
        · rw [if_neg a] at h
          by_cases c : x = q
          · rw [if_pos c] at h; cases h
          · rw [if_neg c] at h
            have hs := v.tie x s h
            exact (mem_narrow (row_lt hs)).mpr (.inr ⟨a, hs, fun z => c (v.inj (by rw [z] at h; exact h) hqt)⟩)
    have hNq : N.h q = none := by rw [Nh, if_neg e, if_pos rfl]
    obtain ⟨m', g'⟩ := give_ex vN hNq
    rcases give_ok vN hNq g' with a | ⟨_, R, rq, c⟩
    · have full : Full (narrow rows p t) m' := fun x hx => by
        by_cases z : x = q
        · rw [z]; exact a.got
        · intro y
          have := (a.dom x z).mp y
          rw [Nh] at this
          by_cases w : x = p
          · rw [if_pos w] at this; cases this
          · rw [if_neg w, if_neg z] at this
            rw [narrow_len] at hx
            exact f x hx this
      have d := (dealt_ok a.valid full).1
      have := (ds_narrow hp ht).mp d
      exact ⟨_, this.1, this.2⟩
    · exfalso
      have all : ∀ x, Reach rows m.o q x → R x ∧ x ≠ p := fun x hx => by
        induction hx with
        | refl => exact ⟨rq, e⟩
        | @step x y s _ hs hy ih =>
          have hys := (v.inv y s).mpr hy
          by_cases z : s = t
          · rw [z, ho] at hy
            cases hy
            exact ⟨rq, e⟩
          · obtain ⟨y', ry', hy'⟩ := c x ih.1 s ((mem_narrow (row_lt hs)).mpr (.inr ⟨ih.2, hs, z⟩))
            rw [Nh] at hy'
            by_cases w : y' = p
            · rw [if_pos w] at hy'
              exact absurd (Option.some.inj hy').symm z
            · rw [if_neg w] at hy'
              by_cases u : y' = q
              · rw [if_pos u] at hy'; cases hy'
              · rw [if_neg u] at hy'
                have := v.inj hy' hys
                rw [← this]
                exact ⟨ry', w⟩
      exact (all p r).2 rfl
def Live (rows : Rows) (p : Nat) (t : Int) : Prop := ∃ D, Ds rows D ∧ D[p]? = some t
theorem live_iff {rows : Rows} {m : MS} {p q : Nat} {t : Int} (v : Valid rows m) (f : Full rows m) (few : Few rows) (ht : t ∈ row rows p) (ho : m.o t = some q) : Live rows p t ↔ Reach rows m.o q p :=
  ⟨fun ⟨_, d, e⟩ => reach_of v f few d e ho, fun r => dealing_of v f ht ho r⟩
/-- the rows without the ties that are in no dealing -/
noncomputable def liveR (rows : Rows) : Rows := rows.mapIdx fun p r => r.filter (fun t => decide (Live rows p t))
theorem liveR_len {rows : Rows} : (liveR rows).length = rows.length := List.length_mapIdx
theorem row_liveR {rows : Rows} {p : Nat} : row (liveR rows) p = (row rows p).filter (fun t => decide (Live rows p t)) := by
  unfold row liveR
  rw [List.getElem?_mapIdx]
  cases rows[p]? with
  | none => rfl
  | some r => rfl
theorem mem_liveR {rows : Rows} {p : Nat} {t : Int} : t ∈ row (liveR rows) p ↔ Live rows p t := by
  rw [row_liveR, List.mem_filter, decide_eq_true_iff]
  exact ⟨fun h => h.2, fun h => ⟨by obtain ⟨D, d, e⟩ := h; exact d.tie p t e, h⟩⟩
theorem ds_liveR {rows : Rows} {D : List Int} : Ds (liveR rows) D ↔ Ds rows D := by
  constructor
  · intro d
    refine ⟨by rw [d.len, liveR_len], fun p t e => ?_, d.nd⟩
    obtain ⟨D', d', e'⟩ := mem_liveR.mp (d.tie p t e)
    exact d'.tie p t e'
  · intro d
    exact ⟨by rw [liveR_len]; exact d.len, fun p t e => mem_liveR.mpr ⟨D, d, e⟩, d.nd⟩
end Mt
set_option maxRecDepth 100000
set_option maxHeartbeats 1000000
namespace Mt
open Classical
theorem Reach.trans {rows : Rows} {o : Int → Option Nat} {a b c : Nat} (x : Reach rows o a b) (y : Reach rows o b c) : Reach rows o a c := by
  induction y with
  | refl => exact x
  | step _ h1 h2 ih => exact .step ih h1 h2
def S0 (rows : Rows) (o : Int → Option Nat) (p q : Nat) : Prop := q = p ∨ ∃ t ∈ row rows p, o t = some q
def WS (rows : Rows) (o : Int → Option Nat) : Nat → Nat → Nat → Prop
  | 0 => S0 rows o
  | k + 1 => fun p q => WS rows o k p q ∨ (WS rows o k p k ∧ WS rows o k k q)
theorem ws_up {rows : Rows} {o : Int → Option Nat} {p q : Nat} : ∀ {k j : Nat}, k ≤ j → WS rows o k p q → WS rows o j p q
  | k, 0, h, w => by
    have : k = 0 := by omega
    rw [this] at w
    exact w
  | k, j + 1, h, w => by
    by_cases e : k = j + 1
    · rw [e] at w; exact w
    · exact .inl (ws_up (k := k) (j := j) (by omega) w)
theorem ws_reach {rows : Rows} {o : Int → Option Nat} : ∀ {k p q : Nat}, WS rows o k p q → Reach rows o p q
  | 0, p, q, h => by
    rcases h with h | ⟨t, h1, h2⟩
    · rw [h]; exact .refl
    · exact .step .refl h1 h2
  | k + 1, p, q, h => by
    rcases h with h | ⟨h1, h2⟩
    · exact ws_reach h
    · exact (ws_reach h1).trans (ws_reach h2)
theorem ws_mid {rows : Rows} {o : Int → Option Nat} : ∀ {k p m q : Nat}, m < k → WS rows o k p m → WS rows o k m q → WS rows o k p q
  | 0, _, _, _, h, _, _ => absurd h (Nat.not_lt_zero _)
  | k + 1, p, m, q, h, a, b => by
    by_cases e : m = k
    · subst e
      have a' : WS rows o m p m := a.elim id fun z => z.1
      have b' : WS rows o m m q := b.elim id fun z => z.2
      exact .inr ⟨a', b'⟩
    · have hm : m < k := by omega
      rcases a with a | ⟨a1, a2⟩
      · rcases b with b | ⟨b1, b2⟩
        · exact .inl (ws_mid hm a b)
        · exact .inr ⟨ws_mid hm a b1, b2⟩
      · rcases b with b | ⟨b1, b2⟩
        · exact .inr ⟨a1, ws_mid hm a2 b⟩
        · exact .inr ⟨a1, b2⟩
theorem reach_ws {rows : Rows} {o : Int → Option Nat} {p q : Nat} (h : Reach rows o p q) : WS rows o rows.length p q := by
  induction h with
  | refl => exact ws_up (Nat.zero_le _) (.inl rfl)
  | @step x y s _ h1 h2 ih => exact ws_mid (row_lt h1) ih (ws_up (Nat.zero_le _) (.inr ⟨s, h1, h2⟩))
theorem ws_iff {rows : Rows} {o : Int → Option Nat} {p q : Nat} : WS rows o rows.length p q ↔ Reach rows o p q := ⟨ws_reach, reach_ws⟩
/-- a number whose bits say who is in -/
def Bits (N : Nat) (S : Nat → Prop) : Prop := ∀ q, N.testBit q = true ↔ S q
theorem bits_one (p : Nat) : Bits (2 ^ p) (fun q => q = p) := fun q => by
  rw [Nat.testBit_two_pow, decide_eq_true_iff]
  exact ⟨fun h => h.symm, fun h => h.symm⟩
theorem bits_or {N M : Nat} {S T : Nat → Prop} (a : Bits N S) (b : Bits M T) : Bits (N ||| M) (fun q => S q ∨ T q) := fun q => by
  rw [Nat.testBit_or, Bool.or_eq_true, a q, b q]
theorem Bits.congr {N : Nat} {S T : Nat → Prop} (a : Bits N S) (h : ∀ q, S q ↔ T q) : Bits N T := fun q => (a q).trans (h q)
theorem bit_of (N p : Nat) : N / 2 ^ p % 2 = if N.testBit p = true then 1 else 0 := by
  rw [Nat.testBit_eq_decide_div_mod_eq]
  have := Nat.mod_two_eq_zero_or_one (N / 2 ^ p)
  rcases this with h | h <;> rw [h] <;> simp
theorem ws_step {rows : Rows} {o : Int → Option Nat} {k j : Nat} {N M : Nat} (a : Bits N (WS rows o k j)) (b : Bits M (WS rows o k k)) (h : N.testBit k = true) : Bits (N ||| M) (WS rows o (k + 1) j) :=
  (bits_or a b).congr fun q => ⟨fun z => z.elim .inl fun z => .inr ⟨(a k).mp h, z⟩, fun z => z.elim .inl fun z => .inr z.2⟩
theorem ws_stay {rows : Rows} {o : Int → Option Nat} {k j : Nat} {N : Nat} (a : Bits N (WS rows o k j)) (h : ¬ N.testBit k = true) : Bits N (WS rows o (k + 1) j) :=
  a.congr fun q => ⟨.inl, fun z => z.elim id fun z => absurd ((a k).mpr z.1) h⟩
theorem ws_self {rows : Rows} {o : Int → Option Nat} {k : Nat} {N : Nat} (a : Bits N (WS rows o (k + 1) k)) : Bits N (WS rows o k k) :=
  a.congr fun q => ⟨fun z => z.elim id fun z => z.2, .inl⟩
def reached (n N : Nat) : List Nat := (List.range n).filter fun q => N.testBit q
end Mt
set_option maxRecDepth 100000
set_option maxHeartbeats 1000000
namespace Mt
open Classical
structure Least (rows : Rows) (E : List Int) : Prop where
  ds : Ds rows E
  le : ∀ (D : List Int), Ds rows D → ∀ q : Nat, (∀ j : Nat, j < q → D[j]? = E[j]?) → ∀ x y : Int, E[q]? = some x → D[q]? = some y → x ≤ y
theorem Least.one {rows : Rows} {A B : List Int} (a : Least rows A) (b : Least rows B) : A = B := by
  have h : ∀ q : Nat, ∀ j : Nat, j < q → A[j]? = B[j]? := by
    intro q
    induction q with
    | zero => exact fun j hj => absurd hj (Nat.not_lt_zero _)
    | succ q ih =>
      intro j hj
      by_cases e : j = q
      · subst e
        by_cases hn : j < rows.length
        · obtain ⟨x, hx, _⟩ := a.ds.get hn
          obtain ⟨y, hy, _⟩ := b.ds.get hn
          have h1 := a.le B b.ds j (fun i hi => (ih i hi).symm) x y hx hy
          have h2 := b.le A a.ds j ih y x hy hx
          rw [hx, hy]
          congr 1
          omega
        · rw [List.getElem?_eq_none (by rw [a.ds.len]; omega), List.getElem?_eq_none (by rw [b.ds.len]; omega)]
      · exact ih j (by omega)
  exact List.ext_getElem? fun j => h (j + 1) j (Nat.lt_succ_self j)
/-- behind the choices of the first i people -/
structure Gree (rows : Rows) (i : Nat) (L : Rows) : Prop where
  len : L.length = rows.length
  ex : ∃ D, Ds L D
  live : ∀ p, ∀ t ∈ row L p, Live L p t
  sub : ∀ D, Ds L D → Ds rows D
  asc : ∀ p, (row L p).Pairwise (· < ·)
  one : ∀ q, q < i → q < rows.length → ∃ e, row L q = [e]
  cmp : ∀ D, Ds rows D → (∀ q, q < i → ∀ e, row L q = [e] → D[q]? = some e) → Ds L D
  min : ∀ q, q < i → ∀ e, row L q = [e] → ∀ D, Ds rows D → (∀ j, j < q → ∀ f, row L j = [f] → D[j]? = some f) → ∀ y, D[q]? = some y → e ≤ y
theorem pair_filter {r : List Int} {f : Int → Bool} (h : r.Pairwise (· < ·)) : (r.filter f).Pairwise (· < ·) := List.Pairwise.filter _ h
theorem Gree.init {rows : Rows} (asc : ∀ p, (row rows p).Pairwise (· < ·)) (ex : ∃ D, Ds rows D) : Gree rows 0 (liveR rows) where
  len := liveR_len
  ex := by obtain ⟨D, d⟩ := ex; exact ⟨D, ds_liveR.mpr d⟩
  live := fun p t h => by
    obtain ⟨D, d, e⟩ := mem_liveR.mp h
    exact ⟨D, ds_liveR.mpr d, e⟩
  sub := fun D d => ds_liveR.mp d
  asc := fun p => by rw [row_liveR]; exact pair_filter (asc p)
  one := fun q h => absurd h (Nat.not_lt_zero _)
  cmp := fun D d _ => ds_liveR.mpr d
  min := fun q h => absurd h (Nat.not_lt_zero _)
theorem single_live {L : Rows} {q : Nat} {e : Int} {D : List Int} (h : row L q = [e]) (d : Ds L D) (hq : q < L.length) : D[q]? = some e := by
  obtain ⟨t, ht, hm⟩ := d.get hq
  rw [h] at hm
  rw [ht, List.mem_singleton.mp hm]
theorem first_le {r : List Int} {t y : Int} {l : List Int} (h : r.Pairwise (· < ·)) (e : r = t :: l) (hy : y ∈ r) : t ≤ y := by
  rw [e] at h hy
  rcases List.mem_cons.mp hy with z | z
  · omega
  · have := (List.pairwise_cons.mp h).1 y z
    omega
/-- the person has one thing alone: nothing to choose -/
theorem Gree.stay {rows L : Rows} {i : Nat} {t : Int} (g : Gree rows i L) (hi : i < rows.length) (h : row L i = [t]) : Gree rows (i + 1) L where
  len := g.len
  ex := g.ex
  live := g.live
  sub := g.sub
  asc := g.asc
  one := fun q hq hn => by
    by_cases e : q = i
    · rw [e]; exact ⟨t, h⟩
    · exact g.one q (by omega) hn
  cmp := fun D d hD => g.cmp D d fun q hq e he => hD q (by omega) e he
  min := fun q hq e he D d hD y hy => by
    by_cases z : q = i
    · subst z
      have dl := g.cmp D d fun j hj f hf => hD j hj f hf
      have := single_live he dl (by rw [g.len]; exact hi)
      rw [this] at hy
      cases hy
      exact Int.le_refl _
    · exact g.min q (by omega) e he D d hD y hy
/-- the person takes the first thing -/
theorem Gree.take {rows L : Rows} {i : Nat} {t : Int} {l : List Int} (g : Gree rows i L) (hi : i < rows.length) (h : row L i = t :: l) : Gree rows (i + 1) (liveR (narrow L i t)) := by
  have hiL : i < L.length := by rw [g.len]; exact hi
  have ht : t ∈ row L i := by rw [h]; exact List.mem_cons_self
  have ex2 : ∃ D, Ds (narrow L i t) D := by
    obtain ⟨D, d, e⟩ := g.live i t ht
    exact ⟨D, (ds_narrow hiL ht).mpr ⟨d, e⟩⟩
  have len2 : (liveR (narrow L i t)).length = rows.length := by rw [liveR_len, narrow_len, g.len]
  have dsn : ∀ D, Ds (liveR (narrow L i t)) D ↔ Ds L D ∧ D[i]? = some t := fun D => ds_liveR.trans (ds_narrow hiL ht)
  have rown : ∀ p, p < rows.length → ∀ s, s ∈ row (liveR (narrow L i t)) p ↔ ∃ D, Ds L D ∧ D[i]? = some t ∧ D[p]? = some s := fun p hp s => by
    rw [mem_liveR]
    constructor
    · rintro ⟨D, d, e⟩
      obtain ⟨a, b⟩ := (ds_narrow hiL ht).mp d
      exact ⟨D, a, b, e⟩
    · rintro ⟨D, a, b, e⟩
      exact ⟨D, (ds_narrow hiL ht).mpr ⟨a, b⟩, e⟩
  have asc2 : ∀ p, (row (liveR (narrow L i t)) p).Pairwise (· < ·) := fun p => by
    rw [row_liveR]
    refine pair_filter ?_
    by_cases hp : p < L.length
    · rw [row_narrow hp]
      by_cases e : p = i
      · rw [if_pos e]; exact List.pairwise_singleton _ _
      · rw [if_neg e]; exact pair_filter (g.asc p)
    · have : row (narrow L i t) p = [] := by
        unfold row
        rw [narrow_get, List.getElem?_eq_none (by omega)]
        rfl
      rw [this]
      exact .nil
  have one_of : ∀ p, p < rows.length → ∀ e, (∀ D, Ds L D → D[i]? = some t → D[p]? = some e) → row (liveR (narrow L i t)) p = [e] := fun p hp e he => by
    have all : ∀ s ∈ row (liveR (narrow L i t)) p, s = e := fun s hs => by
      obtain ⟨D, a, b, c⟩ := (rown p hp s).mp hs
      have := he D a b
      rw [c] at this
      exact Option.some.inj this
    have mem : e ∈ row (liveR (narrow L i t)) p := by
      obtain ⟨D, d, b⟩ := g.live i t ht
      exact (rown p hp e).mpr ⟨D, d, b, he D d b⟩
    have as := asc2 p
    cases hr : row (liveR (narrow L i t)) p with
    | nil => rw [hr] at mem; cases mem
    | cons a r =>
      rw [hr] at all as
      have ea := all a List.mem_cons_self
      cases r with
      | nil => rw [ea]
      | cons b r =>
        have eb := all b (List.mem_cons_of_mem _ List.mem_cons_self)
        have := (List.pairwise_cons.mp as).1 b List.mem_cons_self
        omega
  have old : ∀ q, q < i → q < rows.length → ∀ e, row L q = [e] → row (liveR (narrow L i t)) q = [e] := fun q hq hn e he =>
    one_of q hn e fun D d _ => single_live he d (by rw [g.len]; exact hn)
  have new : row (liveR (narrow L i t)) i = [t] := one_of i hi t fun D _ b => b
  refine ⟨len2, ?_, fun p s hs => ?_, fun D d => g.sub D ((dsn D).mp d).1, asc2, fun q hq hn => ?_, fun D d hD => ?_, fun q hq e he D d hD y hy => ?_⟩
  · obtain ⟨D, d⟩ := ex2
    exact ⟨D, ds_liveR.mpr d⟩
  · obtain ⟨D, d, e⟩ := mem_liveR.mp hs
    exact ⟨D, ds_liveR.mpr d, e⟩
  · by_cases z : q = i
    · rw [z]; exact ⟨t, new⟩
    · obtain ⟨e, he⟩ := g.one q (by omega) hn
      exact ⟨e, old q (by omega) hn e he⟩
  · refine (dsn D).mpr ⟨g.cmp D d fun q hq e he => hD q (by omega) e ?_, hD i (Nat.lt_succ_self i) t new⟩
    have hn : q < rows.length := by omega
    exact old q hq hn e he
  · have hn : q < rows.length := by omega
    have back : ∀ j, j < i → j < rows.length → ∀ f, row L j = [f] → row (liveR (narrow L i t)) j = [f] := old
    by_cases z : q = i
    · subst z
      rw [new] at he
      cases he
      have dl := g.cmp D d fun j hj f hf => hD j hj f (old j hj (by omega) f hf)
      obtain ⟨y', e1, m1⟩ := dl.get hiL
      rw [hy] at e1
      cases e1
      exact first_le (g.asc q) h m1
    · have hq2 : q < i := by omega
      obtain ⟨f, hf⟩ := g.one q hq2 hn
      have := old q hq2 hn f hf
      rw [this] at he
      cases he
      exact g.min q hq2 e hf D d (fun j hj f hf => hD j hj f (old j (by omega) (by omega) f hf)) y hy
theorem Gree.done {rows L : Rows} (g : Gree rows rows.length L) : Least rows (L.map fun r => r.headD 0) := by
  obtain ⟨D, d⟩ := g.ex
  have get : ∀ q, q < rows.length → ∃ e, row L q = [e] ∧ D[q]? = some e ∧ (L.map fun r => r.headD 0)[q]? = some e := fun q hq => by
    obtain ⟨e, he⟩ := g.one q hq hq
    refine ⟨e, he, single_live he d (by rw [g.len]; exact hq), ?_⟩
    have hqL : q < L.length := by rw [g.len]; exact hq
    rw [List.getElem?_map, List.getElem?_eq_getElem hqL]
    have : row L q = L[q] := row_get (List.getElem?_eq_getElem hqL)
    rw [this] at he
    show some (L[q].headD 0) = some e
    rw [he]
    rfl
  have e : (L.map fun r => r.headD 0) = D := by
    refine List.ext_getElem? fun q => ?_
    by_cases hq : q < rows.length
    · obtain ⟨e, _, h1, h2⟩ := get q hq
      rw [h1, h2]
    · rw [List.getElem?_eq_none (by rw [List.length_map, g.len]; omega), List.getElem?_eq_none (by rw [d.len, g.len]; omega)]
  rw [e]
  refine ⟨g.sub D d, fun D2 d2 q hj x y hx hy => ?_⟩
  have hq : q < rows.length := by
    have := (List.getElem?_eq_some_iff.mp hx).1
    rw [d.len, g.len] at this
    exact this
  obtain ⟨e, he, h1, _⟩ := get q hq
  rw [hx] at h1
  cases h1
  refine g.min q hq x he D2 d2 (fun j hjq f hf => ?_) y hy
  rw [hj j hjq]
  obtain ⟨f', hf', h3, _⟩ := get j (by omega)
  rw [hf] at hf'
  cases hf'
  exact h3
def ext (found : List (List Int)) (r : List Int) : List (List Int) := found.flatMap fun d => (r.filter fun t => decide (t ∉ d)).map fun t => d ++ [t]
def deals (rows : Rows) : List (List Int) := rows.foldl ext [[]]
theorem mem_ext {found : List (List Int)} {r : List Int} {x : List Int} : x ∈ ext found r ↔ ∃ d ∈ found, ∃ t ∈ r, t ∉ d ∧ x = d ++ [t] := by
  unfold ext
  rw [List.mem_flatMap]
  constructor
  · rintro ⟨d, hd, hx⟩
    obtain ⟨t, ht, e⟩ := List.mem_map.mp hx
    have := List.mem_filter.mp ht
    exact ⟨d, hd, t, this.1, of_decide_eq_true this.2, e.symm⟩
  · rintro ⟨d, hd, t, ht, hn, e⟩
    exact ⟨d, hd, List.mem_map.mpr ⟨t, List.mem_filter.mpr ⟨ht, decide_eq_true hn⟩, e.symm⟩⟩
theorem deals_snoc {rows : Rows} {r : List Int} : deals (rows ++ [r]) = ext (deals rows) r := by
  unfold deals
  rw [List.foldl_append]
  rfl
theorem row_app {rows : Rows} {r : List Int} {p : Nat} (h : p < rows.length) : row (rows ++ [r]) p = row rows p := by
  unfold row
  rw [List.getElem?_append_left h]
theorem row_last {rows : Rows} {r : List Int} : row (rows ++ [r]) rows.length = r := by
  unfold row
  rw [List.getElem?_append_right (Nat.le_refl _), Nat.sub_self]
  rfl
theorem ds_snoc {rows : Rows} {r : List Int} {x : List Int} : Ds (rows ++ [r]) x ↔ ∃ d t, Ds rows d ∧ t ∈ r ∧ t ∉ d ∧ x = d ++ [t] := by
  constructor
  · intro h
    have hl : x.length = rows.length + 1 := by rw [h.len, List.length_append]; rfl
    rcases List.eq_nil_or_concat x with e | ⟨d, t, e⟩
    · rw [e] at hl; cases hl
    · rw [List.concat_eq_append] at e
      subst e
      have dl : d.length = rows.length := by
        rw [List.length_append, List.length_singleton] at hl
        omega
      have nd := List.nodup_append.mp h.nd
      refine ⟨d, t, ⟨dl, fun p s hs => ?_, nd.1⟩, ?_, fun hm => nd.2.2 t hm t List.mem_cons_self rfl, rfl⟩
      · have hp : p < d.length := (List.getElem?_eq_some_iff.mp hs).1
        have := h.tie p s (by rw [List.getElem?_append_left hp]; exact hs)
        rw [row_app (by omega)] at this
        exact this
      · have := h.tie d.length t (by rw [List.getElem?_append_right (Nat.le_refl _), Nat.sub_self]; rfl)
        rw [dl, row_last] at this
        exact this
  · rintro ⟨d, t, h, ht, hn, rfl⟩
    refine ⟨by rw [List.length_append, List.length_append, h.len]; rfl, fun p s hs => ?_, ?_⟩
    · by_cases hp : p < d.length
      · rw [List.getElem?_append_left hp] at hs
        rw [row_app (by rw [← h.len]; exact hp)]
        exact h.tie p s hs
      · rw [List.getElem?_append_right (by omega)] at hs
        have hp2 : p - d.length = 0 := by
          have := (List.getElem?_eq_some_iff.mp hs).1
          rw [List.length_singleton] at this
          omega
        rw [hp2] at hs
        have hs' : some t = some s := hs
        cases hs'
        have : p = rows.length := by rw [← h.len]; omega
        rw [this, row_last]
        exact ht
    · exact List.nodup_append.mpr ⟨h.nd, List.nodup_cons.mpr ⟨fun z => (by cases z), List.nodup_nil⟩, fun x hx y hy => by rw [List.mem_singleton.mp hy]; exact fun e => hn (e ▸ hx)⟩
theorem rev_ind {α : Type} {P : List α → Prop} (h0 : P []) (h1 : ∀ l x, P l → P (l ++ [x])) : ∀ l, P l := by
  intro l
  have : ∀ n, ∀ l : List α, l.length = n → P l := by
    intro n
    induction n with
    | zero => intro l hl; rw [List.length_eq_zero_iff.mp hl]; exact h0
    | succ n ih =>
      intro l hl
      rcases List.eq_nil_or_concat l with e | ⟨d, t, e⟩
      · rw [e] at hl; cases hl
      · rw [List.concat_eq_append] at e
        rw [e] at hl ⊢
        rw [List.length_append, List.length_singleton] at hl
        exact h1 d t (ih d (by omega))
  exact this _ l rfl
theorem mem_deals {rows : Rows} : ∀ x, x ∈ deals rows ↔ Ds rows x := by
  refine rev_ind (P := fun rows => ∀ x, x ∈ deals rows ↔ Ds rows x) ?_ ?_ rows
  · intro x
    show x ∈ [[]] ↔ _
    rw [List.mem_singleton]
    constructor
    · rintro rfl
      exact ⟨rfl, fun p t h => by simp at h, List.nodup_nil⟩
    · intro h
      exact List.length_eq_zero_iff.mp h.len
  · intro rows r ih x
    rw [deals_snoc, mem_ext, ds_snoc]
    constructor
    · rintro ⟨d, hd, t, ht, hn, e⟩
      exact ⟨d, t, (ih d).mp hd, ht, hn, e⟩
    · rintro ⟨d, t, hd, ht, hn, e⟩
      exact ⟨d, (ih d).mpr hd, t, ht, hn, e⟩
/-- smaller at the first place where they differ -/
def Lx (a b : List Int) : Prop := ∃ (q : Nat) (x y : Int), (∀ j : Nat, j < q → a[j]? = b[j]?) ∧ a[q]? = some x ∧ b[q]? = some y ∧ x < y
theorem lx_app {a b u v : List Int} (h : Lx a b) : Lx (a ++ u) (b ++ v) := by
  obtain ⟨q, x, y, h1, h2, h3, h4⟩ := h
  have ha := (List.getElem?_eq_some_iff.mp h2).1
  have hb := (List.getElem?_eq_some_iff.mp h3).1
  refine ⟨q, x, y, fun j hj => ?_, ?_, ?_, h4⟩
  · rw [List.getElem?_append_left (by omega), List.getElem?_append_left (by omega)]
    exact h1 j hj
  · rw [List.getElem?_append_left ha]; exact h2
  · rw [List.getElem?_append_left hb]; exact h3
theorem lx_last {d : List Int} {s t : Int} (h : s < t) : Lx (d ++ [s]) (d ++ [t]) := by
  refine ⟨d.length, s, t, fun j hj => ?_, ?_, ?_, h⟩
  · rw [List.getElem?_append_left hj, List.getElem?_append_left hj]
  · rw [List.getElem?_append_right (Nat.le_refl _), Nat.sub_self]; rfl
  · rw [List.getElem?_append_right (Nat.le_refl _), Nat.sub_self]; rfl
theorem pair_flat {f : List Int → List (List Int)} : ∀ {l : List (List Int)}, l.Pairwise Lx → (∀ d ∈ l, (f d).Pairwise Lx) → (∀ a ∈ l, ∀ b ∈ l, Lx a b → ∀ x ∈ f a, ∀ y ∈ f b, Lx x y) → (l.flatMap f).Pairwise Lx
  | [], _, _, _ => .nil
  | d :: l, hp, h1, h2 => by
    rw [List.flatMap_cons, List.pairwise_append]
    have hc := List.pairwise_cons.mp hp
    refine ⟨h1 d List.mem_cons_self, pair_flat hc.2 (fun e he => h1 e (List.mem_cons_of_mem _ he)) (fun a ha b hb => h2 a (List.mem_cons_of_mem _ ha) b (List.mem_cons_of_mem _ hb)), fun x hx y hy => ?_⟩
    obtain ⟨e, he, hy⟩ := List.mem_flatMap.mp hy
    exact h2 d List.mem_cons_self e (List.mem_cons_of_mem _ he) (hc.1 e he) x hx y hy
theorem ext_lx {found : List (List Int)} {r : List Int} (hf : found.Pairwise Lx) (hr : r.Pairwise (· < ·)) : (ext found r).Pairwise Lx := by
  unfold ext
  refine pair_flat hf (fun d _ => ?_) (fun a _ b _ hab x hx y hy => ?_)
  · rw [List.pairwise_map]
    exact (pair_filter hr).imp fun {s t} h => lx_last h
  · obtain ⟨s, _, rfl⟩ := List.mem_map.mp hx
    obtain ⟨t, _, rfl⟩ := List.mem_map.mp hy
    exact lx_app hab
theorem deals_lx {rows : Rows} (asc : ∀ r ∈ rows, r.Pairwise (· < ·)) : (deals rows).Pairwise Lx := by
  revert asc
  refine rev_ind (P := fun rows => (∀ r ∈ rows, r.Pairwise (· < ·)) → (deals rows).Pairwise Lx) ?_ ?_ rows
  · intro _
    exact List.pairwise_singleton _ _
  · intro rows r ih asc
    rw [deals_snoc]
    exact ext_lx (ih fun x hx => asc x (List.mem_append_left _ hx)) (asc r (List.mem_append_right _ List.mem_cons_self))
end Mt
namespace Mt
theorem sum_append (a b : List Nat) : (a ++ b).sum = a.sum + b.sum := by
  induction a with
  | nil => simp
  | cons x a ih => rw [List.cons_append, List.sum_cons, List.sum_cons, ih]; omega
theorem sum_flat {α : Type} (f : α → List Nat) : ∀ l : List α, (l.flatMap f).sum = (l.map fun x => (f x).sum).sum
  | [] => rfl
  | x :: l => by rw [List.flatMap_cons, sum_append, List.map_cons, List.sum_cons, sum_flat f l]
theorem sum_zero {α : Type} {f : α → Nat} : ∀ {l : List α}, (∀ x ∈ l, f x = 0) → (l.map f).sum = 0
  | [], _ => rfl
  | x :: l, h => by rw [List.map_cons, List.sum_cons, h x List.mem_cons_self, sum_zero fun y hy => h y (List.mem_cons_of_mem _ hy)]
theorem sum_congr {α : Type} {f g : α → Nat} : ∀ {l : List α}, (∀ x ∈ l, f x = g x) → (l.map f).sum = (l.map g).sum
  | [], _ => rfl
  | x :: l, h => by rw [List.map_cons, List.map_cons, List.sum_cons, List.sum_cons, h x List.mem_cons_self, sum_congr fun y hy => h y (List.mem_cons_of_mem _ hy)]
theorem sum_if {α : Type} {p : α → Bool} {f : α → Nat} : ∀ l : List α, ((l.filter p).map f).sum = (l.map fun x => if p x = true then f x else 0).sum
  | [] => rfl
  | x :: l => by
    rw [List.map_cons, List.sum_cons, ← sum_if l]
    by_cases h : p x = true
    · rw [List.filter_cons_of_pos h, List.map_cons, List.sum_cons, if_pos h]
    · rw [List.filter_cons_of_neg h, if_neg h, Nat.zero_add]
theorem sum_add {α : Type} {f g : α → Nat} : ∀ l : List α, (l.map fun x => f x + g x).sum = (l.map f).sum + (l.map g).sum
  | [] => rfl
  | x :: l => by rw [List.map_cons, List.map_cons, List.map_cons, List.sum_cons, List.sum_cons, List.sum_cons, sum_add l]; omega
theorem sum_swap {α β : Type} {f : α → β → Nat} : ∀ (a : List α) (b : List β), (a.map fun x => (b.map fun y => f x y).sum).sum = (b.map fun y => (a.map fun x => f x y).sum).sum
  | [], b => (sum_zero fun y _ => rfl).symm
  | x :: a, b => by
    rw [List.map_cons, List.sum_cons, sum_swap a b, ← sum_add]
    rfl
theorem sum_mul {α : Type} {f : α → Nat} (c : Nat) : ∀ l : List α, (l.map fun x => f x * c).sum = (l.map f).sum * c
  | [] => (Nat.zero_mul c).symm
  | x :: l => by rw [List.map_cons, List.map_cons, List.sum_cons, List.sum_cons, sum_mul c l, Nat.add_mul]
theorem sum_const {α : Type} {f : α → Nat} {c : Nat} : ∀ {l : List α}, (∀ x ∈ l, f x = c) → (l.map f).sum = l.length * c
  | [], _ => (Nat.zero_mul c).symm
  | x :: l, h => by rw [List.map_cons, List.sum_cons, h x List.mem_cons_self, sum_const fun y hy => h y (List.mem_cons_of_mem _ hy), List.length_cons, Nat.add_mul, Nat.one_mul]; omega
/-- in how many ways each row takes a thing, none twice, none of S -/
def cnt : List Int → Rows → Nat
  | _, [] => 1
  | S, r :: rs => ((r.filter fun t => decide (t ∉ S)).map fun t => cnt (t :: S) rs).sum
theorem cnt_congr : ∀ {rows : Rows} {S S' : List Int}, (∀ r ∈ rows, ∀ t ∈ r, t ∈ S ↔ t ∈ S') → cnt S rows = cnt S' rows
  | [], _, _, _ => rfl
  | r :: rs, S, S', h => by
    unfold cnt
    have e : (r.filter fun t => decide (t ∉ S)) = r.filter fun t => decide (t ∉ S') := List.filter_congr fun t ht => decide_eq_decide.mpr (not_congr (h r List.mem_cons_self t ht))
    rw [e]
    refine sum_congr fun t _ => cnt_congr fun q hq u hu => ?_
    rw [List.mem_cons, List.mem_cons, h q (List.mem_cons_of_mem _ hq) u hu]
theorem cnt_deals : ∀ (rows : Rows) (found : List (List Int)), (rows.foldl ext found).length = (found.map fun d => cnt d rows).sum
  | [], found => by
    show found.length = (found.map fun _ => 1).sum
    rw [sum_const (c := 1) fun _ _ => rfl, Nat.mul_one]
  | r :: rs, found => by
    show (rs.foldl ext (ext found r)).length = _
    rw [cnt_deals rs]
    unfold ext
    rw [List.map_flatMap, sum_flat]
    refine sum_congr fun d _ => ?_
    rw [List.map_map]
    show _ = ((r.filter fun t => decide (t ∉ d)).map fun t => cnt (t :: d) rs).sum
    exact sum_congr fun t _ => cnt_congr fun q _ u _ => by
      show u ∈ d ++ [t] ↔ _
      rw [List.mem_append, List.mem_singleton, List.mem_cons]
      exact Or.comm
theorem deals_cnt (rows : Rows) : (deals rows).length = cnt [] rows := by
  have := cnt_deals rows [[]]
  rwa [List.map_singleton, List.sum_singleton] at this
theorem cnt_swap {S : List Int} {a b : List Int} {rs : Rows} : cnt S (a :: b :: rs) = cnt S (b :: a :: rs) := by
  have e : ∀ a b : List Int, cnt S (a :: b :: rs) = (a.map fun t => (b.map fun u => if t ∉ S ∧ u ∉ S ∧ u ≠ t then cnt (u :: t :: S) rs else 0).sum).sum := fun a b => by
    show ((a.filter fun t => decide (t ∉ S)).map fun t => ((b.filter fun u => decide (u ∉ t :: S)).map fun u => cnt (u :: t :: S) rs).sum).sum = _
    rw [sum_if]
    refine sum_congr fun t _ => ?_
    by_cases h : t ∉ S
    · rw [if_pos (decide_eq_true h), sum_if]
      refine sum_congr fun u _ => ?_
      by_cases h2 : u ∉ t :: S
      · rw [if_pos (decide_eq_true h2), if_pos ⟨h, fun z => h2 (List.mem_cons_of_mem _ z), fun z => h2 (z ▸ List.mem_cons_self)⟩]
      · rw [if_neg (by simpa using h2), if_neg]
        rintro ⟨_, x, y⟩
        exact h2 fun z => (List.mem_cons.mp z).elim y x
    · rw [if_neg (by simpa using h)]
      exact (sum_zero fun u _ => if_neg fun z => h z.1).symm
  rw [e a b, e b a, sum_swap]
  refine sum_congr fun u _ => sum_congr fun t _ => ?_
  by_cases h : t ∉ S ∧ u ∉ S ∧ u ≠ t
  · rw [if_pos h, if_pos ⟨h.2.1, h.1, fun z => h.2.2 z.symm⟩]
    exact cnt_congr fun q _ x _ => by
      simp only [List.mem_cons]
      constructor <;> rintro (x | x | x) <;> simp [x]
  · rw [if_neg h, if_neg fun z => h ⟨z.2.1, z.1, fun y => z.2.2 y.symm⟩]
theorem cnt_perm {A B : Rows} (h : A.Perm B) : ∀ S, cnt S A = cnt S B := by
  induction h with
  | nil => exact fun _ => rfl
  | cons x _ ih => exact fun S => sum_congr fun t _ => ih _
  | swap x y l => exact fun S => cnt_swap
  | trans _ _ a b => exact fun S => (a S).trans (b S)
theorem cnt_app : ∀ {A B : Rows} {S : List Int}, (∀ a ∈ A, ∀ b ∈ B, ∀ t ∈ a, t ∉ b) → cnt S (A ++ B) = cnt S A * cnt S B
  | [], B, S, _ => (Nat.one_mul _).symm
  | r :: A, B, S, h => by
    show ((r.filter fun t => decide (t ∉ S)).map fun t => cnt (t :: S) (A ++ B)).sum = ((r.filter fun t => decide (t ∉ S)).map fun t => cnt (t :: S) A).sum * cnt S B
    rw [← sum_mul]
    refine sum_congr fun t ht => ?_
    rw [cnt_app fun a ha => h a (List.mem_cons_of_mem _ ha)]
    congr 1
    exact cnt_congr fun q hq u hu => by
      rw [List.mem_cons]
      exact ⟨fun z => z.elim (fun e => absurd hu (e ▸ h r List.mem_cons_self q hq t (List.mem_filter.mp ht).1)) id, .inr⟩
end Mt
namespace Mt
structure Hap where
  ppl : List Nat
  place : Nat
  most : Nat
deriving DecidableEq
/-- how many of a heap are used in a state -/
def dg (s : Nat) (h : Hap) : Nat := s / h.place % (h.most + 1)
theorem up_mod {q m : Nat} (h : q % (m + 1) < m) : (q + 1) % (m + 1) = q % (m + 1) + 1 ∧ (q + 1) / (m + 1) = q / (m + 1) := by
  have e := Nat.div_add_mod q (m + 1)
  have hl : q % (m + 1) + 1 < m + 1 := by omega
  have e2 : q + 1 = (m + 1) * (q / (m + 1)) + (q % (m + 1) + 1) := by omega
  constructor
  · rw [e2, Nat.mul_add_mod, Nat.mod_eq_of_lt hl]
  · rw [e2, Nat.mul_add_div (Nat.succ_pos _), Nat.div_eq_of_lt hl, Nat.add_zero]
theorem dg_up {s : Nat} {a : Hap} (hp : 0 < a.place) (h : dg s a < a.most) : dg (s + a.place) a = dg s a + 1 := by
  unfold dg at h ⊢
  rw [Nat.add_div_right _ hp]
  exact (up_mod h).1
theorem dg_low {s : Nat} {a b : Hap} (hp : 0 < a.place) (h : a.place * (a.most + 1) ∣ b.place) : dg (s + b.place) a = dg s a := by
  obtain ⟨c, e⟩ := h
  unfold dg
  rw [e, Nat.mul_assoc, Nat.add_mul_div_left _ _ hp, Nat.add_mul_mod_self_left]
theorem dg_high {s : Nat} {a b : Hap} (hp : 0 < a.place) (h : a.place * (a.most + 1) ∣ b.place) (hl : dg s a < a.most) : dg (s + a.place) b = dg s b := by
  obtain ⟨c, e⟩ := h
  unfold dg at hl ⊢
  rw [e, ← Nat.div_div_eq_div_mul, ← Nat.div_div_eq_div_mul, ← Nat.div_div_eq_div_mul, ← Nat.div_div_eq_div_mul, Nat.add_div_right _ hp, (up_mod hl).2]
def pplOf (R : Rows) (t : Int) : List Nat := (List.range R.length).filter fun p => decide (t ∈ row R p)
/-- things in heaps -/
structure Heaped (R : Rows) (T : List Int) (hs : List Hap) : Prop where
  rnd : ∀ p, (row R p).Nodup
  nd : T.Nodup
  sub : ∀ p, ∀ t ∈ row R p, t ∈ T
  len : T.length = R.length
  knd : (hs.map Hap.ppl).Nodup
  key : ∀ t ∈ T, ∃ h ∈ hs, h.ppl = pplOf R t
  most : ∀ h ∈ hs, h.most = (T.filter fun t => decide (pplOf R t = h.ppl)).length
  pos : ∀ h ∈ hs, 0 < h.place
  pair : hs.Pairwise fun a b => a.place * (a.most + 1) ∣ b.place
def usedN (R : Rows) (T : List Int) (k : List Nat) (S : List Int) : Nat := (T.filter fun t => decide (pplOf R t = k ∧ t ∈ S)).length
def Enc (R : Rows) (T : List Int) (hs : List Hap) (s : Nat) (S : List Int) : Prop := ∀ h ∈ hs, dg s h = usedN R T h.ppl S
theorem filt_split {α : Type} (p q : α → Bool) : ∀ l : List α, (l.filter p).length = (l.filter fun x => p x && q x).length + (l.filter fun x => p x && !q x).length
  | [] => rfl
  | x :: l => by
    have ih := filt_split p q l
    cases hp : p x <;> cases hq : q x <;> simp [List.filter_cons, hp, hq] <;> omega
theorem used_left {R : Rows} {T : List Int} {k : List Nat} {S : List Int} : (T.filter fun t => decide (pplOf R t = k)).length = usedN R T k S + (T.filter fun t => decide (pplOf R t = k ∧ t ∉ S)).length := by
  rw [filt_split _ (fun t => decide (t ∈ S))]
  unfold usedN
  congr 1
  · congr 1
    refine List.filter_congr fun t _ => ?_
    rw [Bool.eq_iff_iff]
    simp
  · congr 1
    refine List.filter_congr fun t _ => ?_
    rw [Bool.eq_iff_iff]
    simp
theorem used_same {R : Rows} {T : List Int} {k : List Nat} {S : List Int} {t : Int} (h : pplOf R t ≠ k) : usedN R T k (t :: S) = usedN R T k S := by
  unfold usedN
  congr 1
  refine List.filter_congr fun u _ => decide_eq_decide.mpr ⟨fun ⟨a, b⟩ => ⟨a, (List.mem_cons.mp b).elim (fun e => absurd (e ▸ a) h) id⟩, fun ⟨a, b⟩ => ⟨a, List.mem_cons_of_mem _ b⟩⟩
theorem left_one {R : Rows} {S : List Int} {t : Int} (hS : t ∉ S) : ∀ {T : List Int}, T.Nodup → t ∈ T → (T.filter fun u => decide (pplOf R u = pplOf R t ∧ u ∈ t :: S)).length = (T.filter fun u => decide (pplOf R u = pplOf R t ∧ u ∈ S)).length + 1
  | [], _, h => by cases h
  | x :: T, nd, h => by
    have hx := List.nodup_cons.mp nd
    by_cases e : x = t
    · subst e
      have same : (T.filter fun u => decide (pplOf R u = pplOf R x ∧ u ∈ x :: S)) = T.filter fun u => decide (pplOf R u = pplOf R x ∧ u ∈ S) := List.filter_congr fun u hu => decide_eq_decide.mpr ⟨fun ⟨a, b⟩ => ⟨a, (List.mem_cons.mp b).elim (fun e => absurd (e ▸ hu) hx.1) id⟩, fun ⟨a, b⟩ => ⟨a, List.mem_cons_of_mem _ b⟩⟩
      rw [List.filter_cons_of_pos (by simp), List.filter_cons_of_neg (by simp [hS]), same, List.length_cons]
    · have ht : t ∈ T := (List.mem_cons.mp h).elim (fun y => absurd y.symm e) id
      have ih := left_one (R := R) hS hx.2 ht
      by_cases c : pplOf R x = pplOf R t ∧ x ∈ S
      · rw [List.filter_cons_of_pos (by simp [c.1, c.2]), List.filter_cons_of_pos (by simp [c.1, c.2]), List.length_cons, List.length_cons, ih]
      · rw [List.filter_cons_of_neg (by simpa [e] using c), List.filter_cons_of_neg (by simpa using c), ih]
theorem Enc.step {R : Rows} {T : List Int} {hs : List Hap} (W : Heaped R T hs) {s : Nat} {S : List Int} (e : Enc R T hs s S) {t : Int} (ht : t ∈ T) (hS : t ∉ S) {h : Hap} (hh : h ∈ hs) (hk : h.ppl = pplOf R t) : dg s h < h.most ∧ Enc R T hs (s + h.place) (t :: S) := by
  have lt : dg s h < h.most := by
    rw [e h hh, W.most h hh, used_left (S := S)]
    have : 0 < (T.filter fun u => decide (pplOf R u = h.ppl ∧ u ∉ S)).length := List.length_pos_of_mem (List.mem_filter.mpr ⟨ht, decide_eq_true ⟨hk.symm, hS⟩⟩)
    omega
  refine ⟨lt, fun b hb => ?_⟩
  by_cases eb : b = h
  · subst eb
    rw [dg_up (W.pos b hb) lt, e b hb]
    unfold usedN
    rw [hk, left_one hS W.nd ht]
  · have nk : pplOf R t ≠ b.ppl := fun z => eb (by
      have hn := W.knd
      obtain ⟨i, hi⟩ := List.getElem?_of_mem hb
      obtain ⟨j, hj⟩ := List.getElem?_of_mem hh
      have := nodup_get hn (i := i) (j := j) (x := b.ppl) (by rw [List.getElem?_map, hi]; rfl) (by rw [List.getElem?_map, hj]; show some h.ppl = _; rw [hk, z])
      subst this
      rw [hi] at hj
      exact Option.some.inj hj)
    rw [used_same nk, ← e b hb]
    obtain ⟨i, hi⟩ := List.getElem?_of_mem hb
    obtain ⟨j, hj⟩ := List.getElem?_of_mem hh
    obtain ⟨li, ei⟩ := List.getElem?_eq_some_iff.mp hi
    obtain ⟨lj, ej⟩ := List.getElem?_eq_some_iff.mp hj
    have pw := List.pairwise_iff_getElem.mp W.pair
    rcases Nat.lt_trichotomy i j with z | z | z
    · have := pw i j li lj z
      rw [ei, ej] at this
      exact dg_low (W.pos b hb) this
    · subst z
      exact absurd (ei.symm.trans ej) eb
    · have := pw j i lj li z
      rw [ei, ej] at this
      exact dg_high (W.pos h hh) this lt
end Mt
namespace Mt
def Tied (rows : Rows) (p q : Nat) : Prop := ∃ t, t ∈ row rows p ∧ t ∈ row rows q
theorem Tied.symm {rows : Rows} {p q : Nat} (h : Tied rows p q) : Tied rows q p := let ⟨t, a, b⟩ := h; ⟨t, b, a⟩
inductive Conn (rows : Rows) (p : Nat) : Nat → Prop
  | refl : Conn rows p p
  | step {q r : Nat} : Conn rows p q → Tied rows q r → Conn rows p r
theorem Conn.trans {rows : Rows} {p q r : Nat} (a : Conn rows p q) (b : Conn rows q r) : Conn rows p r := by
  induction b with
  | refl => exact a
  | step _ h ih => exact .step ih h
theorem Conn.one {rows : Rows} {p q : Nat} (h : Tied rows p q) : Conn rows p q := .step .refl h
theorem Conn.symm {rows : Rows} {p q : Nat} (a : Conn rows p q) : Conn rows q p := by
  induction a with
  | refl => exact .refl
  | step _ h ih => exact (Conn.one h.symm).trans ih
theorem pair_all {α : Type} {R : α → α → Prop} (sym : ∀ a b, R a b → R b a) : ∀ {l : List α}, l.Pairwise R → ∀ a ∈ l, ∀ b ∈ l, a ≠ b → R a b
  | [], _, a, h, _, _, _ => by cases h
  | x :: l, hp, a, ha, b, hb, ne => by
    have hp' := List.pairwise_cons.mp hp
    rcases List.mem_cons.mp ha with e1 | h1
    · rcases List.mem_cons.mp hb with e2 | h2
      · exact absurd (e1.trans e2.symm) ne
      · rw [e1]
        exact hp'.1 b h2
    · rcases List.mem_cons.mp hb with e2 | h2
      · rw [e2]
        exact sym _ _ (hp'.1 a h1)
      · exact pair_all sym hp'.2 a h1 b h2 ne
theorem flat_split {α : Type} (p : List α → Bool) : ∀ F : List (List α), ((F.filter fun g => !p g).flatten ++ (F.filter p).flatten).Perm F.flatten
  | [] => .refl _
  | g :: F => by
    have ih := flat_split p F
    cases h : p g
    · rw [List.filter_cons_of_pos (by simp [h]), List.filter_cons_of_neg (by simp [h]), List.flatten_cons, List.flatten_cons, List.append_assoc]
      exact ih.append_left g
    · rw [List.filter_cons_of_neg (by simp [h]), List.filter_cons_of_pos (by simp [h]), List.flatten_cons, List.flatten_cons]
      refine (List.perm_append_comm.trans ?_)
      rw [List.append_assoc]
      exact (List.perm_append_comm.trans ih).append_left g
structure Parts (rows : Rows) (i : Nat) (F : List (List Nat)) : Prop where
  perm : F.flatten.Perm (List.range i)
  ne : ∀ g ∈ F, g ≠ []
  apart : F.Pairwise fun a b => ∀ p ∈ a, ∀ q ∈ b, ¬ Tied rows p q
  conn : ∀ g ∈ F, ∀ p ∈ g, ∀ q ∈ g, Conn rows p q
theorem Parts.init {rows : Rows} : Parts rows 0 [] := ⟨.refl _, fun _ h => (by cases h), .nil, fun _ h => (by cases h)⟩
theorem Parts.step {rows : Rows} {i : Nat} {F : List (List Nat)} (h : Parts rows i F) {hit : List Nat → Bool} (hh : ∀ g ∈ F, hit g = true ↔ ∃ p ∈ g, Tied rows i p) : Parts rows (i + 1) ((F.filter fun g => !hit g) ++ [i :: (F.filter hit).flatten]) where
  perm := by
    rw [List.flatten_append, List.flatten_singleton, List.range_succ]
    have e : ((F.filter fun g => !hit g).flatten ++ i :: (F.filter hit).flatten).Perm (((F.filter fun g => !hit g).flatten ++ (F.filter hit).flatten) ++ [i]) := by
      rw [List.append_assoc]
      refine List.Perm.append_left _ ?_
      exact List.perm_append_comm (l₁ := [i]) (l₂ := (F.filter hit).flatten)
    exact e.trans (((flat_split hit F).trans h.perm).append_right [i])
  ne := fun g hg => by
    rcases List.mem_append.mp hg with hg | hg
    · exact h.ne g (List.mem_filter.mp hg).1
    · rw [List.mem_singleton.mp hg]
      exact fun z => by cases z
  apart := by
    refine List.pairwise_append.mpr ⟨h.apart.sublist List.filter_sublist, List.pairwise_singleton _ _, fun a ha b hb p hp q hq => ?_⟩
    rw [List.mem_singleton.mp hb] at hq
    obtain ⟨ha, na⟩ := List.mem_filter.mp ha
    have na' : ¬ hit a = true := by simpa using na
    rcases List.mem_cons.mp hq with rfl | hq
    · exact fun z => na' ((hh a ha).mpr ⟨p, hp, z.symm⟩)
    · obtain ⟨c, hc, hqc⟩ := List.mem_flatten.mp hq
      obtain ⟨hc, hitc⟩ := List.mem_filter.mp hc
      exact pair_all (R := fun a b => ∀ p ∈ a, ∀ q ∈ b, ¬ Tied rows p q) (fun a b h p hp q hq z => h q hq p hp z.symm) h.apart a ha c hc (fun z => na' (z ▸ hitc)) p hp q hqc
  conn := fun g hg => by
    rcases List.mem_append.mp hg with hg | hg
    · exact h.conn g (List.mem_filter.mp hg).1
    · rw [List.mem_singleton.mp hg]
      have from_i : ∀ p ∈ i :: (F.filter hit).flatten, Conn rows i p := fun p hp => by
        rcases List.mem_cons.mp hp with rfl | hp
        · exact .refl
        · obtain ⟨c, hc, hpc⟩ := List.mem_flatten.mp hp
          obtain ⟨hc, hitc⟩ := List.mem_filter.mp hc
          obtain ⟨p0, h0, ht⟩ := (hh c hc).mp hitc
          exact (Conn.one ht).trans (h.conn c hc p0 h0 p hpc)
      exact fun p hp q hq => (from_i p hp).symm.trans (from_i q hq)
/-- ascending lists of the people whom things hang together -/
structure Groups (rows : Rows) (G : List (List Nat)) : Prop where
  asc : ∀ g ∈ G, g.Pairwise (· < ·)
  perm : G.flatten.Perm (List.range rows.length)
  ne : ∀ g ∈ G, g ≠ []
  apart : G.Pairwise fun a b => ∀ p ∈ a, ∀ q ∈ b, ¬ Tied rows p q
  conn : ∀ g ∈ G, ∀ p ∈ g, ∀ q ∈ g, Conn rows p q
theorem Groups.lt {rows : Rows} {G : List (List Nat)} (h : Groups rows G) {g : List Nat} (hg : g ∈ G) {p : Nat} (hp : p ∈ g) : p < rows.length :=
  List.mem_range.mp (h.perm.mem_iff.mp (List.mem_flatten.mpr ⟨g, hg, hp⟩))
theorem Groups.nd {rows : Rows} {G : List (List Nat)} (h : Groups rows G) {g : List Nat} (hg : g ∈ G) : g.Nodup := (h.asc g hg).imp fun {a b} z => Nat.ne_of_lt z
theorem Groups.tied {rows : Rows} {G : List (List Nat)} (h : Groups rows G) {g : List Nat} (hg : g ∈ G) {p q : Nat} (hp : p ∈ g) (hq : q < rows.length) (ht : Tied rows p q) : q ∈ g := by
  obtain ⟨c, hc, hqc⟩ := List.mem_flatten.mp (h.perm.mem_iff.mpr (List.mem_range.mpr hq))
  by_cases e : g = c
  · rw [e]; exact hqc
  · exact absurd ht (pair_all (R := fun a b => ∀ p ∈ a, ∀ q ∈ b, ¬ Tied rows p q) (fun a b h p hp q hq z => h q hq p hp z.symm) h.apart g hg c hc e p hp q hqc)
/-- from the parts: each put in order, and the whole in some order -/
theorem Parts.groups {rows : Rows} {F G : List (List Nat)} (h : Parts rows rows.length F) {srt : List Nat → List Nat} (hs : ∀ g ∈ F, (srt g).Perm g ∧ (srt g).Pairwise (· < ·)) (hp : G.Perm (F.map srt)) : Groups rows G := by
  have back : ∀ g ∈ G, ∃ f ∈ F, g = srt f := fun g hg => by
    obtain ⟨f, hf, e⟩ := List.mem_map.mp (hp.mem_iff.mp hg)
    exact ⟨f, hf, e.symm⟩
  refine ⟨fun g hg => ?_, ?_, fun g hg => ?_, ?_, fun g hg p hpg q hqg => ?_⟩
  · obtain ⟨f, hf, rfl⟩ := back g hg
    exact (hs f hf).2
  · refine (hp.flatten).trans (List.Perm.trans ?_ h.perm)
    have : ∀ F' : List (List Nat), (∀ g ∈ F', (srt g).Perm g) → ((F'.map srt).flatten).Perm F'.flatten := fun F' => by
      induction F' with
      | nil => exact fun _ => .refl _
      | cons g F' ih =>
        intro hF
        rw [List.map_cons, List.flatten_cons, List.flatten_cons]
        exact (hF g List.mem_cons_self).append (ih fun c hc => hF c (List.mem_cons_of_mem _ hc))
    exact this F fun g hg => (hs g hg).1
  · obtain ⟨f, hf, rfl⟩ := back g hg
    exact fun z => h.ne f hf (by
      have := (hs f hf).1
      rw [z] at this
      exact this.nil_eq.symm)
  · have sym : ∀ a b : List Nat, (∀ p ∈ a, ∀ q ∈ b, ¬ Tied rows p q) → ∀ p ∈ b, ∀ q ∈ a, ¬ Tied rows p q := fun a b h p hp q hq z => h q hq p hp z.symm
    refine (hp.pairwise_iff (fun {a b} => sym a b)).mpr ?_
    rw [List.pairwise_map]
    exact (List.Pairwise.and_mem.mp h.apart).imp fun {a b} ⟨ha, hb, hab⟩ p hp q hq => hab p ((hs a ha).1.mem_iff.mp hp) q ((hs b hb).1.mem_iff.mp hq)
  · obtain ⟨f, hf, rfl⟩ := back g hg
    exact h.conn f hf p ((hs f hf).1.mem_iff.mp hpg) q ((hs f hf).1.mem_iff.mp hqg)
def prodN (l : List Nat) : Nat := l.foldl (· * ·) 1
theorem foldl_mul (l : List Nat) : ∀ a : Nat, l.foldl (· * ·) a = a * prodN l := by
  induction l with
  | nil => exact fun a => (Nat.mul_one a).symm
  | cons x l ih =>
    intro a
    show l.foldl (· * ·) (a * x) = a * l.foldl (· * ·) (1 * x)
    rw [ih, ih (1 * x), Nat.one_mul, Nat.mul_assoc]
theorem prodN_cons {l : List Nat} {a : Nat} : prodN (a :: l) = a * prodN l := by
  show l.foldl (· * ·) (1 * a) = _
  rw [foldl_mul, Nat.one_mul]
theorem rows_range (rows : Rows) : (List.range rows.length).map (row rows) = rows := by
  refine List.ext_getElem? fun i => ?_
  rw [List.getElem?_map]
  by_cases h : i < rows.length
  · rw [List.getElem?_range h, List.getElem?_eq_getElem h]
    show some (row rows i) = _
    rw [row_get (List.getElem?_eq_getElem h)]
  · rw [List.getElem?_eq_none (by rw [List.length_range]; omega), List.getElem?_eq_none (by omega)]
    rfl
theorem cnt_groups {rows : Rows} : ∀ {G : List (List Nat)}, (G.Pairwise fun a b => ∀ p ∈ a, ∀ q ∈ b, ¬ Tied rows p q) → cnt [] (G.flatten.map (row rows)) = prodN (G.map fun g => cnt [] (g.map (row rows)))
  | [], _ => rfl
  | g :: G, h => by
    have h' := List.pairwise_cons.mp h
    rw [List.flatten_cons, List.map_append, List.map_cons, prodN_cons, cnt_app, cnt_groups h'.2]
    intro a ha b hb t hta htb
    obtain ⟨p, hp, rfl⟩ := List.mem_map.mp ha
    obtain ⟨q, hq, rfl⟩ := List.mem_map.mp hb
    obtain ⟨c, hc, hqc⟩ := List.mem_flatten.mp hq
    exact h'.1 c hc p hp q hqc ⟨t, hta, htb⟩
theorem Groups.cnt {rows : Rows} {G : List (List Nat)} (h : Groups rows G) : cnt [] rows = prodN (G.map fun g => Mt.cnt [] (g.map (row rows))) := by
  rw [← cnt_groups h.apart]
  have := cnt_perm (h.perm.map (row rows)) []
  rw [rows_range] at this
  exact this.symm
/-- a group has as many things as people -/
theorem Groups.things {rows : Rows} {G : List (List Nat)} (h : Groups rows G) (few : Few rows) {D : List Int} (d : Ds rows D) {g : List Nat} (hg : g ∈ G) {T : List Int} (nd : T.Nodup) (mem : ∀ t, t ∈ T ↔ ∃ p ∈ g, t ∈ row rows p) : T.length = g.length := by
  obtain ⟨U, hU, hm⟩ := few
  have n2 : (g.map fun p => D[p]?.getD 0).Nodup := nodup_map (h.nd hg) fun x hx y hy e => by
    obtain ⟨t, e1, _⟩ := d.get (h.lt hg hx)
    obtain ⟨u, e2, _⟩ := d.get (h.lt hg hy)
    rw [e1, e2] at e
    have e' : t = u := e
    rw [e'] at e1
    exact nodup_get d.nd e1 e2
  have a := len_le n2 (l2 := T) fun z hz => by
    obtain ⟨p, hp, rfl⟩ := List.mem_map.mp hz
    obtain ⟨t, e1, ht⟩ := d.get (h.lt hg hp)
    rw [e1]
    exact (mem t).mpr ⟨p, hp, ht⟩
  have all := all_in d.nd (l2 := U) (fun x hx => by
    obtain ⟨i, hi⟩ := List.getElem?_of_mem hx
    exact hm i x (d.tie i x hi)) (by rw [d.len]; exact hU)
  have b := len_le nd (l2 := g.map fun p => D[p]?.getD 0) fun t ht => by
    obtain ⟨p, hp, hr⟩ := (mem t).mp ht
    obtain ⟨q, hq⟩ := List.getElem?_of_mem (all t (hm p t hr))
    have hql : q < rows.length := row_lt (d.tie q t hq)
    exact List.mem_map.mpr ⟨q, h.tied hg hp hql ⟨t, hr, d.tie q t hq⟩, by rw [hq]; rfl⟩
  rw [List.length_map] at a b
  omega
end Mt
namespace Mt
section
variable {κ : Type} [DecidableEq κ]
def getN : List (κ × Nat) → κ → Nat
  | [], _ => 0
  | (s, w) :: r, k => if s = k then w else getN r k
/-- the sum of the counts, each by its key's weight -/
def wt (F : κ → Nat) (st : List (κ × Nat)) : Nat := (st.map fun q => q.2 * F q.1).sum
end
structure Sts (M : Nat) (st : List (Nat × Nat)) : Prop where
  nd : (st.map (·.1)).Nodup
  lt : ∀ s ∈ st.map (·.1), s < M
theorem Sts.len {M : Nat} {st : List (Nat × Nat)} (h : Sts M st) : st.length ≤ M := by
  have := len_le h.nd (l2 := List.range M) fun x hx => List.mem_range.mpr (h.lt x hx)
  rwa [List.length_map, List.length_range] at this
theorem Sts.nil {M : Nat} : Sts M [] := ⟨List.nodup_nil, fun _ h => by cases h⟩
end Mt
set_option maxRecDepth 100000
set_option maxHeartbeats 2000000
namespace PySem
open Sem (wp)
theorem meets_enum_newT (v : Value) (o : Obj) (HH : Heap → Prop) (B : Begins v o HH) :
    Meets (Builtin.«enumerate.__new__» ⟨[.type "enumerate", v], []⟩) (fun _ R s => HH s.heap ∧
      R (.ok (.ret (.ref (s.heap.push o).objs.size))) { s with heap := (s.heap.push o).push { cls := .type "enumerate", data := .fields #[.none, .bool false, .ref s.heap.objs.size, rawInt 0, .none, .none] } }) :=
  .of_wp fun prog w A R s h => by
    obtain ⟨hp, g, d, tk, os⟩ := s; obtain ⟨h1, h⟩ := h
    have hsub := sub_enumerate
    have q1 : ∀ {A' : Around} {E : Value → Shared → Prop} {Q : Value → Shared → Prop}, Q (.ref hp.objs.size) ⟨hp.push o, g, d, tk, os⟩ → wpAny (model prog w) A' (pyIter v) Q E ⟨hp, g, d, tk, os⟩ :=
      fun q => B.iter prog w _ _ ⟨hp, g, d, tk, os⟩ _ h1 q
    wp_walk using q1
    refine wpAny_stack_any fun st => wpAny_pure ?_
    split
    · rename_i c _ _ _ _ _
      cases (c == Value.type "enumerate")
      · wp_walk using q1
        exact ⟨_, rfl, h⟩
      · wp_walk using q1
        exact ⟨_, rfl, h⟩
    · wp_walk using q1
      exact ⟨_, rfl, h⟩
section
variable {prog : Program} {w : World} {A : Around} {E : Value → Shared → Prop} {s : Shared}
theorem call_enum_begins {v : Value} {o : Obj} {HH : Heap → Prop} {Q : Value → Shared → Prop} (B : Begins v o HH) (h1 : HH s.heap)
    (h : ∀ h', IsEnum h' (s.heap.objs.size + 1) s.heap.objs.size 0 .none → h'.get? s.heap.objs.size = some o → h'.objs.size = s.heap.objs.size + 2 →
      (∀ b o, s.heap.get? b = some o → h'.get? b = some o) → Q (.ref (s.heap.objs.size + 1)) { s with heap := h' }) :
    wpAny (model prog w) A (call (.type "enumerate") [v]) Q E s := by
  refine callType_new F.called_enumerate (by decide) (F.typeCall_enumerate_1 _) (F.newCall_enumerate_1 _) (fun obj => F.args_object_init_2 obj _) F.entry_enumerate_new
    (meets_enum_newT v o HH B) ⟨h1, ?_⟩
  have hz : (s.heap.push o).objs.size = s.heap.objs.size + 1 := Heap.size_push ..
  show _ ∧ _
  rw [hz]
  have he : IsEnum ((s.heap.push o).push { cls := .type "enumerate", data := .fields #[.none, .bool false, .ref s.heap.objs.size, rawInt 0, .none, .none] }) (s.heap.objs.size + 1) s.heap.objs.size 0 .none := by
    have := Heap.get?_push_size (s.heap.push o) (o := { cls := .type "enumerate", data := .fields #[.none, .bool false, .ref s.heap.objs.size, rawInt 0, .none, .none] }) rfl
    rw [hz] at this; exact this
  refine ⟨⟨_, he, rfl⟩, h _ he (Heap.get?_push_of_some _ (Heap.get?_push_size _ B.free)) (by rw [Heap.size_push, hz]) fun b o x => Heap.get?_push_of_some _ (Heap.get?_push_of_some _ x)⟩
end
end PySem
namespace L2
open PySem PySem.Spec PyProof.Rows
def IteT (K : PySem.W.Frag) (a : Addr) : It :=
  ⟨fun i H => ∃ (xs : List V) (x : V), SqT K H a xs ∧ xs[i]? = some x, fun i H v H' => ∃ T x, v = .ref T ∧ H T = none ∧ H' = upd H T (.tup [.int (i : Nat), x]) ∧ ∀ xs, SqT K H a xs → xs[i]? = some x, fun i H => ∃ xs : List V, SqT K H a xs ∧ xs.length ≤ i⟩
theorem turn_enumT {P : Program} {w : World} {K : PySem.W.Frag} {elts : List Expr} {kk : Nat} {tpos : Pos} (a e it : Addr) :
    Turn P w K (.Tuple elts kk tpos) (IteT K a) [e, it] e (fun i h => (∃ old, IsEnum h e it ((i : Nat) : Int) old) ∧ h.IsTupleIter it a i ∧ e ≠ it ∧ a ≠ it ∧ a ≠ e) where
  mem := by simp
  obj := fun i h st b hb => by
    obtain ⟨⟨old, he⟩, ⟨o, ho, hc, hd⟩, _⟩ := st
    have e' : b = e ∨ b = it := by simpa using hb
    rcases e' with z | z
    · rw [z]; exact ⟨_, he, fun v q => nomatch q⟩
    · rw [z]; exact ⟨o, ho, fun v q => by rw [hd] at q; cases q⟩
  keep := fun i h h' st k => let ⟨⟨old, he⟩, hi, hne⟩ := st; ⟨⟨old, k e (by simp) _ he⟩, hi.at fun o q => k it (by simp) o q, hne⟩
  item := by
    intro X hP hw hK hc i pins s σ H E I hf st hg
    subst hP hw hK
    obtain ⟨⟨old, he⟩, hit, hne, hai, hae⟩ := st
    obtain ⟨xs, x, hq, hx⟩ := hg
    obtain ⟨its, rv, p, hz⟩ := I.tuple hq
    obtain ⟨u, hu, ru⟩ := rv.get hx
    have hel : e < s.heap.objs.size := Heap.lt_size he
    have hil : it < s.heap.objs.size := by obtain ⟨_, q, _⟩ := hit; exact Heap.lt_size q
    have hilt : i < its.toArray.size := by
      have := (List.getElem?_eq_some_iff.mp hu).1
      simpa using this
    refine wpAny_pyNext_enum_itemD (Draws.tuple (A := X.A.in1) (I.ok.hd hc) it a hai its.toArray) he ⟨hit, p⟩ hilt hne (by simp; exact ⟨hne, fun q => hae q.symm⟩) fun x2 h' tk hP ho hst hT hsz hk => ?_
    have ex : x2 = u := by
      have hP' : its[i]? = some x2 := by simpa using hP
      rw [hu] at hP'
      exact (Option.some.inj hP').symm
    subst ex
    refine ⟨_, rfl, wpAny_letOwnedTupleGo_enum (s := { s with heap := h', toks := tk + 1 }) ho fun h'' he' sb => ?_⟩
    have hT2 : h''.get? s.heap.objs.size = some { cls := .type "tuple", data := .seq #[.int i tk, x2] } := (sb.2 _ (Nat.ne_of_gt hel)).trans hT
    have new : ObjOk X.prog X.w (upd H s.heap.objs.size (.tup [.int (i : Nat), x])) h'' s.heap.objs.size (.tup [.int (i : Nat), x]) :=
      ⟨by show 2 ≤ sizeLine; decide, [.int i tk, x2], .cons ⟨_, rfl⟩ (.cons ru .nil), ⟨_, hT2, rfl, _, rfl⟩⟩
    have I1 : Inv X pins σ (upd H s.heap.objs.size (.tup [.int (i : Nat), x])) { s with heap := h'', toks := tk + 1 } :=
      I.turnedNew (ch := [e, it]) (fun b ob hb q => (sb.2 b (fun z => hb (by simp [z]))).trans (hk b ob (fun z => hb (by simp [z])) (fun z => hb (by simp [z])) q)) hf (Nat.le_refl _) new
    refine ⟨.ref s.heap.objs.size, _, I1, rfl, ⟨_, x, rfl, I.hok.fresh (Nat.le_refl _), rfl, fun ys hy => by rw [I.tuple_inj hy hq]; exact hx⟩, ⟨⟨x2, ?_⟩, hst.1.at fun o q => (sb.2 it (Ne.symm hne)).trans q, hne, hai, hae⟩, fun b hb => ?_⟩
    · have e1 : ((i + 1 : Nat) : Int) = (i : Int) + 1 := by omega
      rw [e1]; exact he'
    · have hb' : b < s.heap.objs.size := by
        have e' : b = e ∨ b = it := by simpa using hb
        rcases e' with z | z
        · rw [z]; exact hel
        · rw [z]; exact hil
      rw [upd_ne (Nat.ne_of_lt hb')]
      exact (hf b hb).1
  done := by
    intro X hP hw hK hc i pins s σ H E I hf st hg
    subst hP hw hK
    obtain ⟨⟨old, he⟩, hit, hne, hai, hae⟩ := st
    obtain ⟨xs, hq, hx⟩ := hg
    obtain ⟨its, rv, p, hz⟩ := I.tuple hq
    obtain ⟨f0, f1, f2, f3, f4, f5⟩ := hf it (by simp)
    have hl := rv.length
    have D : Draws X.prog X.w X.A.in1 it [it, a] i (fun _ _ => True) (fun j h => j = i ∧ h.IsTupleIter it a i ∧ h.IsTuple a its.toArray) :=
      ⟨fun _ _ st => (let ⟨o, ho, _⟩ := st.2.1; ⟨o, ho⟩), fun _ _ _ st hk => ⟨st.1, st.2.1.at fun o e => hk it (by simp) o e, st.2.2.at fun o e => hk a (by simp) o e⟩,
        fun j s Q E hj st hQ => absurd st.1 (Nat.ne_of_lt hj), fun s Q E st hE => wpAny_nextOf_tuple_end (I.ok.hd hc) st.2.1 st.2.2 (by simp; omega) hE⟩
    exact wpAny_pyNext_enum_endD D he ⟨rfl, hit, p⟩ fun h' eb => ⟨rfl, I.turned (t' := s.toks) (fun b o hb q => eb b o hb q) f0 f1 f3 f4 f5⟩
  self := fun A i s Q E st h => let ⟨⟨_, he⟩, _⟩ := st; wpAny_pyIter_enum he h
def iEnumT (K : PySem.W.Frag) (ta : TA) : TI := fun σ H R => ta σ H fun vs H1 => ∃ a xs, vs = [.ref a] ∧ SqT K H1 a xs ∧ R (IteT K a) H1
theorem pi_enumT {X : Cx} {e : Expr} {ta : TA} {p pos tpos : Pos} {elts : List Expr} {kk : Nat} (hg : Gl X "enumerate") (hm : X.mg "enumerate" = none) (ha : PA X [e] ta) (hs : starEach [e] X.env = [(false, eval e X.env)] := by rfl) :
    PI X (.Tuple elts kk tpos) (.Call (.Name "enumerate" p) [e] [] pos) (iEnumT X.K ta) := by
  refine ⟨fun pins s σ H R I h => ?_⟩
  refine Call_ (ld_blt I hg hm boot_enumerate (PyProof.Rows.callWith_type1 (thn (ha.run pos pins s σ H _ I h) fun us s1 ⟨vs, H1, I1, r1, q1⟩ => ?_) hs rfl))
  obtain ⟨a, xs, ex, hq, q⟩ := q1
  subst ex
  cases r1 with
  | cons r rr =>
    cases rr
    cases r
    obtain ⟨its, rv, p', hz⟩ := I1.tuple hq
    have halt : a < s1.heap.objs.size := by obtain ⟨_, q, _⟩ := id p'; exact Heap.lt_size q
    refine call_enum_begins (begins_tuple a its.toArray) p' fun h' he hit hsz hk => wpAny_pyIter_enum he ?_
    have I2 : Inv X pins σ H1 { s1 with heap := h' } := I1.kept (t' := s1.toks) hk
    refine ⟨s1.heap.objs.size + 1, [s1.heap.objs.size + 1, s1.heap.objs.size], _, _, H1, rfl, I2, turn_enumT a (s1.heap.objs.size + 1) s1.heap.objs.size, ⟨⟨.none, he⟩, ⟨_, hit, rfl, rfl⟩, Nat.succ_ne_self _, Nat.ne_of_lt halt, Nat.ne_of_lt (Nat.lt_succ_of_lt halt)⟩, fun b hb => ?_, q⟩
    have e' : b = s1.heap.objs.size + 1 ∨ b = s1.heap.objs.size := by simpa using hb
    have hle : s1.heap.objs.size ≤ b := by
      rcases e' with z | z
      · rw [z]; exact Nat.le_add_right _ _
      · rw [z]; exact Nat.le_refl _
    exact I1.fpOk hle (I1.hok.fresh hle)
end L2
set_option maxRecDepth 100000
set_option maxHeartbeats 2000000
namespace Fo
open PySem PySem.Spec PyProof.Rows L2
structure At (K : PySem.W.Frag) (mg : Str → Option Value) (x : Str) (st : Stmt) (ps : List Str) : Prop where
  ex : ∃ f fd, mg x = some (.ref f) ∧ Fun K x x st f fd ∧ Binds K fd ps []
structure Dfn (P : Program) (w : World) (K : PySem.W.Frag) (mg : Str → Option Value) (base : Heap) (x : Str) (ps : List Str) (k : Nat) (sp : Sp) : Prop where
  ex : ∃ f fd, mg x = some (.ref f) ∧ PySem.W.keepIn K (.ref f) = true ∧ FnOk P w K mg base CX0 k f fd ps sp ∧ Binds K fd ps []
structure Tx (mg : Str → Option Value) : Prop where
  len : mg "len" = none
  list : mg "list" = none
  range : mg "range" = none
  tuple : mg "tuple" = none
  sorted : mg "sorted" = none
  int : mg "int" = none
  min : mg "min" = none
  isinstance : mg "isinstance" = none
  all : mg "all" = none
  enumerate : mg "enumerate" = none
  zip : mg "zip" = none
  set : mg "set" = none
  repr : mg "repr" = none
  str : mg "str" = none
  bool : mg "bool" = none
section
variable {P : Program} {w : World} {K : PySem.W.Frag} {mg : Str → Option Value} {base : Heap}
theorem At.ok {x : Str} {st : Stmt} {N ps : List Str} {k : Nat} {sp : Sp} (a : At K mg x st ps) (S : FnScope N ps (defScope st)) (len : ∀ vs H Q E, sp vs H Q E → vs.length = ps.length)
    (hbody : ∀ (f : Addr) (cdv : Value) (A : Around) (outer : List Env) (s : Shared) (H : Hp) (vs : List V) (Q : VK) (E : XK), Room k (A.deeper (envOfC x (defScope st) s.heap.objs.size f cdv)) → sp vs H Q E →
      ∃ t, PSs (cxOf CX0 P w K mg base N x (defScope st) f cdv A outer s H E).nox (defBody st) t ∧ t { nx := fun _ H' => Q .non H', rt := Q } (start N vs) H) : Dfn P w K mg base x ps (k + 1) sp := by
  obtain ⟨f, fd, hm, F, b⟩ := a.ex
  exact ⟨f, fd, hm, F.kp, F.ok S len (hbody f), b⟩
theorem pe_d {X : Cx} {x : Str} {ps : List Str} {k : Nat} {sp : Sp} {e : Expr} {es : List Expr} {t : TA} {p pos : Pos} (G : Dfn X.prog X.w X.K X.mg X.base x ps k sp) (hr : Room k X.A) (ha : PA X (e :: es) t) (hg : Gl X x := by rfl)
    (hdb : (x == ("__debug__" : Str)) = false := by decide) (he : starEach (e :: es) X.env = (false, eval e X.env) :: starEach es X.env := by rfl) (hpl : (backTo pos (starEach es X.env)).any (·.1) = false := by rfl) :
    PE X (.Call (.Name x p) (e :: es) [] pos) (tCall sp [] E0 t) := by
  obtain ⟨f, fd, hm, kp, F, b⟩ := G.ex
  exact pe_call F hr hg hm kp b .nil pass0 ha hdb he hpl
end
/-- all but what stands at t is kept -/
def Gr (t : Addr) (H H' : Hp) : Prop := ∀ a o, a ≠ t → H a = some o → H' a = some o
theorem Gr.refl {t : Addr} (H : Hp) : Gr t H H := fun _ _ _ h => h
theorem Gr.trans {t : Addr} {H H1 H2 : Hp} (a : Gr t H H1) (b : Gr t H1 H2) : Gr t H H2 := fun c o n h => b c o n (a c o n h)
theorem Gr.new {t : Addr} {H : Hp} {p : Addr} {o : HO} (h : H p = none) : Gr t H (upd H p o) := fun a u _ e => by
  rw [upd_ne (ne_of_none e h)]
  exact e
theorem Gr.put {t : Addr} {H : Hp} {o : HO} : Gr t H (upd H t o) := fun a u n e => by
  rw [upd_ne n]
  exact e
theorem Gr.of {t : Addr} {H H' : Hp} (e : Same H H') : Gr t H H' := fun a o _ h => e a o h
theorem Gr.free {t : Addr} {H H' : Hp} (g : Gr t H H') (ht : H' t ≠ none) {p : Addr} (h : H' p = none) : H p = none := by
  cases q : H p with
  | none => rfl
  | some o =>
    have hne : p ≠ t := fun z => ht (z ▸ h)
    rw [g p o hne q] at h
    cases h
theorem same_new {H : Hp} {p : Addr} {o : HO} (h : H p = none) : Same H (upd H p o) := fun a u e => by
  rw [upd_ne (ne_of_none e h)]
  exact e
/-- an object that H does not know may change -/
theorem same_mut {H H' : Hp} {p : Addr} {o : HO} (e : Same H H') (h : H p = none) : Same H (upd H' p o) := fun a u ha => by
  rw [upd_ne (ne_of_none ha h)]
  exact e a u ha
theorem gr_mut {t : Addr} {H H' : Hp} {p : Addr} {o : HO} (e : Gr t H H') (h : H p = none) : Gr t H (upd H' p o) := fun a u n ha => by
  rw [upd_ne (ne_of_none ha h)]
  exact e a u n ha
theorem sqT_same {K : PySem.W.Frag} {H H' : Hp} {a : Addr} {xs : List V} (e : Same H H') (h : SqT K H a xs) : SqT K H' a xs := by
  rcases h with (h | ⟨o, h⟩) | h
  · exact .inl (.inl (e _ _ h))
  · exact .inl (.inr ⟨o, e _ _ h⟩)
  · exact .inr h
def Tape (H : Hp) (t l : Addr) : Prop := ∃ (ns : List Int) (b c d e : Int), H t = some (.lst [.ref l, .int b, .int c, .int d, .int e]) ∧ H l = some (.lst (ns.map V.int)) ∧ 0 ≤ b
theorem ints_ne (ns : List Int) (l : Addr) (r : List V) : (HO.lst (ns.map V.int)) ≠ .lst (.ref l :: r) := by
  intro q
  cases ns with
  | nil => injection q with q; cases q
  | cons x r => injection q with q; injection q with q; cases q
theorem Tape.ne {H : Hp} {t l : Addr} (T : Tape H t l) : l ≠ t := by
  obtain ⟨ns, b, c, d, e, ht, hl, hb⟩ := T
  exact ne_of hl ht (ints_ne _ _ _)
theorem Tape.there {H : Hp} {t l : Addr} (T : Tape H t l) : H t ≠ none := by
  obtain ⟨ns, b, c, d, e, h, _⟩ := T
  rw [h]
  exact fun z => nomatch z
theorem Tape.keep {H H' : Hp} {t l : Addr} (T : Tape H t l) (g : Same H H') : Tape H' t l := by
  obtain ⟨ns, b, c, d, e, h, hl, hb⟩ := T
  exact ⟨ns, b, c, d, e, g _ _ h, g _ _ hl, hb⟩
/-- what is new is neither of the tape's two -/
theorem Tape.free {H : Hp} {t l a : Addr} (T : Tape H t l) (h : H a = none) : a ≠ t ∧ a ≠ l := by
  obtain ⟨ns, b, c, d, e, ht, hl, hb⟩ := T
  exact ⟨(ne_of_none ht h).symm, (ne_of_none hl h).symm⟩
theorem Tape.new {H : Hp} {t l a : Addr} {o : HO} (T : Tape H t l) (h : H a = none) : Tape (upd H a o) t l := T.keep (same_new h)
/-- other objects than the tape's own may change -/
theorem Tape.mut {H : Hp} {t l a : Addr} {u : HO} (T : Tape H t l) (n : a ≠ t ∧ a ≠ l) : Tape (upd H a u) t l := by
  obtain ⟨ns, b, c, d, e, ht, hl, hb⟩ := T
  exact ⟨ns, b, c, d, e, by rw [upd_ne n.1.symm]; exact ht, by rw [upd_ne n.2.symm]; exact hl, hb⟩
theorem Tape.ne_ints' {H : Hp} {t l a : Addr} {ns : List Int} (T : Tape H t l) (h : H a = some (.lst (ns.map V.int))) : a ≠ t := by
  obtain ⟨ms, b, c, d, e, ht, hl, hb⟩ := T
  exact ne_of h ht (ints_ne _ _ _)
theorem Gr.fresh {t l : Addr} {H H' : Hp} (g : Gr t H H') (T : Tape H' t l) {p : Addr} (h : H' p = none) : H p = none := g.free T.there h
abbrev dI (ns : List Int) : PyData := .tuple (ns.map .int)
abbrev dR (rows : List (List Int)) : PyData := .tuple (rows.map dI)
theorem dpAll_ints {K : PySem.W.Frag} {H : Hp} : ∀ (ns : List Int), DpAll K H (ns.map V.int) (ns.map .int)
  | [] => .nil
  | n :: r => .cons (.int n) (dpAll_ints r)
theorem ints_dpAll {K : PySem.W.Frag} {H : Hp} : ∀ {ns : List Int} {vs : List V}, DpAll K H vs (ns.map .int) → vs = ns.map V.int
  | [], _, .nil => rfl
  | n :: r, _, .cons (.int _) h => by rw [ints_dpAll h]; rfl
theorem dp_tup {K : PySem.W.Frag} {H : Hp} {v : V} {ds : List PyData} (h : Dp K H v (.tuple ds)) : ∃ a xs, v = .ref a ∧ SqT K H a xs ∧ DpAll K H xs ds := by
  cases h with
  | tup h r => exact ⟨_, _, rfl, h, r⟩
theorem dp_row {K : PySem.W.Frag} {H : Hp} {v : V} {ns : List Int} (h : Dp K H v (dI ns)) : ∃ a, v = .ref a ∧ SqT K H a (ns.map V.int) := by
  obtain ⟨a, xs, e, h, r⟩ := dp_tup h
  rw [ints_dpAll r] at h
  exact ⟨a, e, h⟩
theorem dp_rowI {K : PySem.W.Frag} {H : Hp} {a : Addr} {ns : List Int} (h : SqT K H a (ns.map V.int)) : Dp K H (.ref a) (dI ns) := .tup h (dpAll_ints ns)
/-- tuples are not changed by what changes at t -/
theorem gr_T {t l : Addr} {K : PySem.W.Frag} {H H' : Hp} (g : Gr t H H') (T : Tape H t l) {a : Addr} {xs : List V} (h : SqT K H a xs) : SqT K H' a xs := by
  obtain ⟨ns, b, c, d, e, ht, hl, hb⟩ := T
  rcases h with (h | ⟨o, h⟩) | h
  · exact .inl (.inl (g _ _ (ne_of h ht (by intro z; cases z)) h))
  · exact .inl (.inr ⟨o, g _ _ (ne_of h ht (by intro z; cases z)) h⟩)
  · exact .inr h
structure Good (rows : List (List Int)) : Prop where
  pos : 1 ≤ rows.length
  asc : ∀ r ∈ rows, r.Pairwise (· < ·)
  rng : ∀ r ∈ rows, ∀ x ∈ r, 0 ≤ x ∧ x < (rows.length : Int)
inductive RowsT (K : PySem.W.Frag) (H : Hp) : List V → List (List Int) → Prop where
  | nil : RowsT K H [] []
  | cons {a : Addr} {vs : List V} {r : List Int} {rs : List (List Int)} : SqT K H a (r.map V.int) → RowsT K H vs rs → RowsT K H (.ref a :: vs) (r :: rs)
theorem rowsT_dp {K : PySem.W.Frag} {H : Hp} : ∀ {vs : List V} {rs : List (List Int)}, RowsT K H vs rs → DpAll K H vs (rs.map dI)
  | _, _, .nil => .nil
  | _, _, .cons h r => .cons (dp_rowI h) (rowsT_dp r)
theorem dp_rowsT {K : PySem.W.Frag} {H : Hp} : ∀ {rs : List (List Int)} {vs : List V}, DpAll K H vs (rs.map dI) → RowsT K H vs rs
  | [], _, .nil => .nil
  | r :: rs, _, .cons h t => by
    obtain ⟨a, rfl, q⟩ := dp_row h
    exact .cons q (dp_rowsT t)
theorem RowsT.gr {t l : Addr} {K : PySem.W.Frag} {H H' : Hp} (g : Gr t H H') (T : Tape H t l) : ∀ {vs : List V} {rs : List (List Int)}, RowsT K H vs rs → RowsT K H' vs rs
  | _, _, .nil => .nil
  | _, _, .cons h r => .cons (gr_T g T h) (r.gr g T)
theorem RowsT.same {K : PySem.W.Frag} {H H' : Hp} (g : Same H H') : ∀ {vs : List V} {rs : List (List Int)}, RowsT K H vs rs → RowsT K H' vs rs
  | _, _, .nil => .nil
  | _, _, .cons h r => .cons (sqT_same g h) (r.same g)
theorem RowsT.len {K : PySem.W.Frag} {H : Hp} : ∀ {vs : List V} {rs : List (List Int)}, RowsT K H vs rs → vs.length = rs.length
  | _, _, .nil => rfl
  | _, _, .cons _ r => by rw [List.length_cons, List.length_cons, r.len]
theorem RowsT.snoc {K : PySem.W.Frag} {H : Hp} {a : Addr} {r : List Int} (h : SqT K H a (r.map V.int)) : ∀ {vs : List V} {rs : List (List Int)}, RowsT K H vs rs → RowsT K H (vs ++ [.ref a]) (rs ++ [r])
  | _, _, .nil => .cons h .nil
  | _, _, .cons q t => .cons q (t.snoc h)
theorem RowsT.get {K : PySem.W.Frag} {H : Hp} : ∀ {vs : List V} {rs : List (List Int)} {i : Nat} {r : List Int}, RowsT K H vs rs → rs[i]? = some r → ∃ a, vs[i]? = some (.ref a) ∧ SqT K H a (r.map V.int)
  | _, _, _, _, .nil, e => by simp at e
  | _, _, 0, _, .cons h _, e => by simp at e; subst e; exact ⟨_, rfl, h⟩
  | _, _, i + 1, r, .cons _ t, e => by
    obtain ⟨a, h1, h2⟩ := t.get (i := i) (r := r) (by simpa using e)
    exact ⟨a, by simpa using h1, h2⟩
/-- rows that stand as a tuple at a -/
def RowsAt (K : PySem.W.Frag) (H : Hp) (v : V) (rows : List (List Int)) : Prop := ∃ a vs, v = .ref a ∧ SqT K H a vs ∧ RowsT K H vs rows
theorem RowsAt.gr {t l : Addr} {K : PySem.W.Frag} {H H' : Hp} {v : V} {rows : List (List Int)} (h : RowsAt K H v rows) (g : Gr t H H') (T : Tape H t l) : RowsAt K H' v rows := by
  obtain ⟨a, vs, e, h1, h2⟩ := h
  exact ⟨a, vs, e, gr_T g T h1, h2.gr g T⟩
theorem RowsAt.same {K : PySem.W.Frag} {H H' : Hp} {v : V} {rows : List (List Int)} (h : RowsAt K H v rows) (g : Same H H') : RowsAt K H' v rows := by
  obtain ⟨a, vs, e, h1, h2⟩ := h
  exact ⟨a, vs, e, sqT_same g h1, h2.same g⟩
theorem RowsAt.dp {K : PySem.W.Frag} {H : Hp} {v : V} {rows : List (List Int)} (h : RowsAt K H v rows) : Dp K H v (dR rows) := by
  obtain ⟨a, vs, rfl, h1, h2⟩ := h
  exact .tup h1 (rowsT_dp h2)
theorem RowsAt.of {K : PySem.W.Frag} {H : Hp} {v : V} {rows : List (List Int)} (h : Dp K H v (dR rows)) : RowsAt K H v rows := by
  obtain ⟨a, vs, rfl, h1, h2⟩ := dp_tup h
  exact ⟨a, vs, rfl, h1, dp_rowsT h2⟩
theorem sorted_strict {l : List Int} (h : l.Pairwise (· ≤ ·)) (hn : l.Nodup) : l.Pairwise (· < ·) := by
  have := List.Pairwise.and h hn
  exact this.imp fun {a b} q => by
    have := q.1
    have := q.2
    omega
def rangeI (n : Int) : List Int := (List.range n.toNat).map fun (i : Nat) => (i : Int)
theorem rangeI_len (n : Int) : (rangeI n).length = n.toNat := by unfold rangeI; rw [List.length_map, List.length_range]
theorem rangeI_nodup (n : Int) : (rangeI n).Nodup := by
  unfold rangeI
  exact List.Pairwise.map _ (fun (a b : Nat) (h : a ≠ b) (q : (a : Int) = (b : Int)) => h (by omega)) List.nodup_range
theorem mem_rangeI {n x : Int} : x ∈ rangeI n ↔ 0 ≤ x ∧ x < n := by
  unfold rangeI
  rw [List.mem_map]
  constructor
  · rintro ⟨i, hi, rfl⟩
    have := List.mem_range.mp hi
    omega
  · intro h
    exact ⟨x.toNat, List.mem_range.mpr (by omega), by omega⟩
theorem rgV_rangeI (n : Int) : rgV 0 n = (rangeI n).map V.int := by
  unfold rgV rangeI
  rw [List.map_map, Int.sub_zero]
  apply List.map_congr_left
  intro i _
  show V.int (0 + (i : Int)) = V.int (i : Int)
  rw [Int.zero_add]
theorem atI_lt {α : Type} {xs : List α} {i : Int} (h0 : 0 ≤ i) (h1 : i < xs.length) : ∃ x, atI xs i = some x ∧ xs[i.toNat]? = some x := by
  have h : i.toNat < xs.length := by omega
  refine ⟨xs[i.toNat], ?_, List.getElem?_eq_getElem h⟩
  have q : atI xs ((i.toNat : Nat) : Int) = some xs[i.toNat] := atI_nat (List.getElem?_eq_getElem h)
  rw [← q]
  exact congrArg _ (by omega)
theorem map_atI {i : Int} {ns : List Int} (h0 : 0 ≤ i) (h1 : i < ns.length) : ∃ x, x ∈ ns ∧ atI (ns.map V.int) i = some (.int x) := by
  obtain ⟨x, h, g⟩ := atI_lt (xs := ns.map V.int) h0 (by rw [List.length_map]; exact h1)
  rw [List.getElem?_map] at g
  cases e : ns[i.toNat]? with
  | none => rw [e] at g; cases g
  | some y =>
    rw [e] at g
    have : V.int y = x := Option.some.inj g
    subst this
    exact ⟨y, List.mem_of_getElem? e, h⟩
theorem map_eraseIdx' {α β : Type} (f : α → β) : ∀ (l : List α) (i : Nat), (l.map f).eraseIdx i = (l.eraseIdx i).map f
  | [], _ => rfl
  | _ :: _, 0 => rfl
  | x :: r, i + 1 => by
    show f x :: (r.map f).eraseIdx i = f x :: (r.eraseIdx i).map f
    rw [map_eraseIdx' f r i]
theorem inV_ints (x : Int) (ns : List Int) : inV (.int x) (ns.map V.int) = decide (x ∈ ns) := by
  induction ns with
  | nil => rfl
  | cons y r ih =>
    show (y == x || (r.map V.int).any fun z => eqV z (.int x)) = decide (x ∈ y :: r)
    have ih' : ((r.map V.int).any fun z => eqV z (.int x)) = decide (x ∈ r) := ih
    rw [ih']
    by_cases h : y = x
    · subst h
      simp
    · have h' : ¬ x = y := fun q => h q.symm
      simp [h, h']
theorem all_flat_ints (ns : List Int) : (ns.map V.int).all flatV = true := by
  rw [List.all_eq_true]
  intro x hx
  obtain ⟨n, _, rfl⟩ := List.mem_map.mp hx
  rfl
theorem seq_at {n : Nat} {k : Int} (h0 : 0 ≤ k) (h1 : k < n) : seqIndex? k n = some k.toNat := by
  have h : ixN n k = some k.toNat := by
    unfold ixN
    rw [if_pos h0, if_pos h1]
  exact (ixN_seq h).1
theorem nodup_of_lt {l : List Int} (h : l.Pairwise (· < ·)) : l.Nodup := h.imp fun {a b} q z => by omega
def rLenS (K : PySem.W.Frag) : List V → Hp → VK → Prop := fun xs H Q => ∃ p ys, xs = [.ref p] ∧ (SqL K H p ys ∨ SqT K H p ys) ∧ Q (.int ys.length) H
theorem c_len {X : Cx} : CallR X (.builtin "len") (rLenS X.K) := call_len_seq
def rListOf (K : PySem.W.Frag) : List V → Hp → VK → Prop := fun xs H Q => ∃ p ys, xs = [.ref p] ∧ (SqL K H p ys ∨ SqT K H p ys) ∧ ∀ l, H l = none → Q (.ref l) (upd H l (.lst ys))
theorem c_list {X : Cx} : CallR X (.type "list") (rListOf X.K) := call_list_of
def rTupOf (K : PySem.W.Frag) : List V → Hp → VK → Prop := fun xs H Q => ∃ p ys, xs = [.ref p] ∧ ((SqL K H p ys ∧ ∀ l, H l = none → Q (.ref l) (upd H l (.tup ys))) ∨ (SqT K H p ys ∧ Q (.ref p) H))
theorem c_tuple {X : Cx} : CallR X (.type "tuple") (rTupOf X.K) := call_tuple_of
def rIntOf : List V → Hp → VK → Prop := fun xs H Q => (∃ i, xs = [.int i] ∧ Q (.int i) H) ∨ ∃ k, xs = [.bl k] ∧ Q (.int (if k then 1 else 0)) H
theorem c_int {X : Cx} : CallR X (.type "int") rIntOf := call_int1
def rMin2 : List V → Hp → VK → Prop := fun xs H Q => ∃ i j, xs = [.int i, .int j] ∧ Q (.int (if j < i then j else i)) H
theorem c_min {X : Cx} (hc : X.calm = true) : CallR X (.builtin "min") rMin2 := call_min2 hc
theorem perm_erase {α : Type} : ∀ (l : List α) (i : Nat) (h : i < l.length), (l[i] :: l.eraseIdx i).Perm l
  | _ :: _, 0, _ => List.Perm.refl _
  | x :: r, i + 1, h => by
    have h' : i < r.length := by simpa using h
    show (r[i] :: x :: r.eraseIdx i).Perm (x :: r)
    exact (List.Perm.swap x r[i] _).trans ((perm_erase r i h').cons x)
theorem small_lt {n : Nat} (h : n ≤ 100000) : n < sizeLine := Nat.lt_of_le_of_lt h (by decide)
theorem small_le {n : Nat} (h : n ≤ 100000) : n ≤ sizeLine := Nat.le_trans h (by decide)
/-- ascending rows -/
theorem asc_of {row l : List Int} (hp : row.Perm l) (hs : row.Pairwise (· ≤ ·)) (hn : l.Nodup) : row.Pairwise (· < ·) := sorted_strict hs (hp.symm.nodup hn)
theorem asc_snoc {row : List Int} {j : Int} (hp : row.Pairwise (· < ·)) (h : ∀ x ∈ row, x < j) : (row ++ [j]).Pairwise (· < ·) := by
  rw [List.pairwise_append]
  exact ⟨hp, List.pairwise_singleton _ _, fun a ha b hb => by rw [List.mem_singleton.mp hb]; exact h a ha⟩
theorem map_snoc (row : List Int) (j : Int) : row.map V.int ++ [V.int j] = (row ++ [j]).map V.int := by rw [List.map_append]; rfl
/-- a list that changes is no row -/
theorem sqT_put {K : PySem.W.Frag} {H : Hp} {a f : Addr} {xs vs ws : List V} (h : SqT K H a xs) (e : H f = some (.lst vs)) : SqT K (upd H f (.lst ws)) a xs := by
  rcases h with (h | ⟨o, h⟩) | h
  · exact .inl (.inl (by rw [upd_ne (ne_of h e (by intro z; cases z))]; exact h))
  · exact .inl (.inr ⟨o, by rw [upd_ne (ne_of h e (by intro z; cases z))]; exact h⟩)
  · exact .inr h
theorem RowsT.put {K : PySem.W.Frag} {H : Hp} {f : Addr} {us ws : List V} (e : H f = some (.lst us)) : ∀ {vs : List V} {rs : List (List Int)}, RowsT K H vs rs → RowsT K (upd H f (.lst ws)) vs rs
  | _, _, .nil => .nil
  | _, _, .cons h r => .cons (sqT_put h e) (r.put e)
theorem row_len : ∀ {r : List Int} {lo hi : Int}, r.Pairwise (· < ·) → (∀ x ∈ r, lo ≤ x ∧ x < hi) → (r.length : Int) ≤ (hi - lo).toNat
  | [], lo, hi, _, _ => Int.natCast_nonneg _
  | x :: r, lo, hi, h, hb => by
    have h1 := hb x List.mem_cons_self
    have h2 := row_len (r := r) (lo := x + 1) (hi := hi) (List.pairwise_cons.mp h).2 fun y hy => by
      have := (List.pairwise_cons.mp h).1 y hy
      have := (hb y (List.mem_cons_of_mem _ hy)).2
      omega
    rw [List.length_cons]
    omega
end Fo
set_option maxRecDepth 100000
set_option maxHeartbeats 1000000
namespace Fo
open PySem PySem.Spec PyProof.Rows L2
theorem row_mem {rows : List (List Int)} {p : Nat} {t : Int} (h : t ∈ Mt.row rows p) : ∃ r ∈ rows, t ∈ r := by
  unfold Mt.row at h
  cases e : rows[p]? with
  | none => rw [e] at h; cases h
  | some r => rw [e] at h; exact ⟨r, List.mem_of_getElem? e, h⟩
theorem Good.row_rng {rows : List (List Int)} (G : Good rows) {p : Nat} {t : Int} (h : t ∈ Mt.row rows p) : 0 ≤ t ∧ t < (rows.length : Int) := by
  obtain ⟨r, hr, ht⟩ := row_mem h
  exact G.rng r hr t ht
theorem Good.few {rows : List (List Int)} (G : Good rows) : Mt.Few rows :=
  ⟨rangeI rows.length, by rw [rangeI_len]; exact Nat.le_refl _, fun p t h => mem_rangeI.mpr (G.row_rng h)⟩
theorem asc_len {r : List Int} {n : Nat} (h : r.Pairwise (· < ·)) (hr : ∀ x ∈ r, 0 ≤ x ∧ x < (n : Int)) : r.length ≤ n := by
  have nd : r.Nodup := h.imp fun {a b} h => by omega
  have := Mt.len_le (l2 := rangeI n) nd fun x hx => mem_rangeI.mpr (hr x hx)
  rw [rangeI_len] at this
  exact this
theorem Good.row_len {rows : List (List Int)} (G : Good rows) : ∀ r ∈ rows, r.length ≤ rows.length := fun r hr => asc_len (G.asc r hr) (G.rng r hr)
theorem flat_len {n : Nat} : ∀ {l : List (List Int)}, (∀ r ∈ l, r.length ≤ n) → l.flatten.length ≤ l.length * n
  | [], _ => Nat.zero_le _
  | r :: l, h => by
    rw [List.flatten_cons, List.length_append, List.length_cons, Nat.succ_mul]
    have h1 := h r List.mem_cons_self
    have h2 := flat_len (l := l) fun r hr => h r (List.mem_cons_of_mem _ hr)
    omega
theorem Good.few_things {rows : List (List Int)} (G : Good rows) {n : Nat} (h : rows.length ≤ n) : (Mt.things rows).length ≤ n * n :=
  Nat.le_trans (flat_len G.row_len) (Nat.mul_le_mul h h)
theorem mapIdx_get {α β : Type} {f : Nat → α → β} {l : List α} {y : β} (h : y ∈ l.mapIdx f) : ∃ (i : Nat) (x : α), l[i]? = some x ∧ y = f i x := by
  obtain ⟨i, hi⟩ := List.getElem?_of_mem h
  rw [List.getElem?_mapIdx] at hi
  cases e : l[i]? with
  | none => rw [e] at hi; cases hi
  | some x => rw [e] at hi; exact ⟨i, x, e, (Option.some.inj hi).symm⟩
theorem Good.live {rows : List (List Int)} (G : Good rows) : Good (Mt.liveR rows) where
  pos := by rw [Mt.liveR_len]; exact G.pos
  asc := fun r hr => by
    obtain ⟨i, x, e, rfl⟩ := mapIdx_get hr
    exact List.Pairwise.filter _ (G.asc x (List.mem_of_getElem? e))
  rng := fun r hr t ht => by
    rw [Mt.liveR_len]
    obtain ⟨i, x, e, rfl⟩ := mapIdx_get hr
    exact G.rng x (List.mem_of_getElem? e) t (List.mem_filter.mp ht).1
end Fo
namespace Mt
theorem lx_irr {a : List Int} (h : Lx a a) : False := by
  obtain ⟨q, x, y, _, h1, h2, h3⟩ := h
  rw [h1] at h2
  cases h2
  exact Int.lt_irrefl _ h3
theorem deals_nd {rows : Rows} (asc : ∀ r ∈ rows, r.Pairwise (· < ·)) : (deals rows).Nodup := (deals_lx asc).imp fun {a b} h e => by subst e; exact lx_irr h
theorem liveR_asc {rows : Rows} (asc : ∀ r ∈ rows, r.Pairwise (· < ·)) : ∀ r ∈ liveR rows, r.Pairwise (· < ·) := fun r hr => by
  obtain ⟨i, hi, e⟩ := List.getElem_of_mem hr
  have h1 : row (liveR rows) i = r := row_get (by rw [List.getElem?_eq_getElem hi, e])
  rw [← h1, row_liveR]
  refine List.Pairwise.filter _ ?_
  have hi' : i < rows.length := by rw [← liveR_len (rows := rows)]; exact hi
  have h2 : row rows i = rows[i] := row_get (List.getElem?_eq_getElem hi')
  rw [h2]
  exact asc _ (List.getElem_mem hi')
theorem sub_flat0 {a b : List (List Nat)} (h : a.Sublist b) : a.flatten.length ≤ b.flatten.length := by
  induction h with
  | slnil => exact Nat.le_refl _
  | cons x _ ih => rw [List.flatten_cons, List.length_append]; omega
  | cons_cons x _ ih => rw [List.flatten_cons, List.flatten_cons, List.length_append, List.length_append]; omega
theorem Groups.len {rows : Rows} {G : List (List Nat)} (h : Groups rows G) {g : List Nat} (hg : g ∈ G) : g.length ≤ rows.length := by
  have h1 : [g].Sublist G := List.singleton_sublist.mpr hg
  have h2 := sub_flat0 h1
  rw [List.flatten_singleton, h.perm.length_eq, List.length_range] at h2
  exact h2
theorem Groups.num {rows : Rows} {G : List (List Nat)} (h : Groups rows G) : G.length ≤ rows.length := by
  have h2 := h.perm.length_eq
  rw [List.length_range] at h2
  rw [← h2]
  have : ∀ F : List (List Nat), (∀ g ∈ F, g ≠ []) → F.length ≤ F.flatten.length := fun F => by
    induction F with
    | nil => exact fun _ => Nat.le_refl _
    | cons g F ih =>
      intro hF
      rw [List.flatten_cons, List.length_append, List.length_cons]
      have h1 := ih fun c hc => hF c (List.mem_cons_of_mem _ hc)
      have h2 : 0 < g.length := List.length_pos_iff.mpr (hF g List.mem_cons_self)
      omega
  exact this G h.ne
end Mt
set_option maxRecDepth 100000
set_option maxHeartbeats 4000000
namespace Mt
/-- the first other person who may get the thing -/
def opP (L : Rows) (p : Nat) (t : Int) : Nat := (((List.range L.length).filter fun q => decide (q ≠ p) && decide (t ∈ row L q))[0]?).getD 0
/-- the first other thing of the person -/
def otT (L : Rows) (q : Nat) (t : Int) : Int := (((row L q).filter fun u => decide (u ≠ t))[0]?).getD 0
structure RingG (L : Rows) (g : List Nat) : Prop where
  two : ∀ p ∈ g, ∃ a b, a ≠ b ∧ row L p = [a, b]
  thing : ∀ p ∈ g, ∀ t ∈ row L p, ∃ q, q ≠ p ∧ q ∈ g ∧ t ∈ row L q ∧ ∀ r, t ∈ row L r → r = p ∨ r = q
theorem head_of {α : Type} {l : List α} {f : α → Bool} {x d : α} (hx : x ∈ l) (fx : f x = true) (one : ∀ y ∈ l, f y = true → y = x) : (l.filter f)[0]? = some x := by
  have hm : x ∈ l.filter f := List.mem_filter.mpr ⟨hx, fx⟩
  have p0 := List.length_pos_of_mem hm
  have e := List.getElem?_eq_getElem p0
  have := List.mem_filter.mp (List.mem_of_getElem? e)
  rw [e, one _ this.1 this.2]
section
variable {L : Rows} {g : List Nat}
theorem RingG.op (h : RingG L g) {p : Nat} {t : Int} (hp : p ∈ g) (ht : t ∈ row L p) : opP L p t ≠ p ∧ opP L p t ∈ g ∧ t ∈ row L (opP L p t) ∧ (∀ r, t ∈ row L r → r = p ∨ r = opP L p t) ∧ ((List.range L.length).filter fun q => decide (q ≠ p) && decide (t ∈ row L q))[0]? = some (opP L p t) := by
  obtain ⟨q, h1, h2, h3, h4⟩ := h.thing p hp t ht
  have e : ((List.range L.length).filter fun q => decide (q ≠ p) && decide (t ∈ row L q))[0]? = some q := head_of (d := 0) (List.mem_range.mpr (row_lt h3)) (by rw [decide_eq_true h1, decide_eq_true h3]; rfl) fun y hy fy => by
    rw [Bool.and_eq_true] at fy
    exact (h4 y (of_decide_eq_true fy.2)).resolve_left (of_decide_eq_true fy.1)
  have eq : opP L p t = q := by unfold opP; rw [e]; rfl
  rw [eq]
  exact ⟨h1, h2, h3, h4, e⟩
theorem RingG.ot (h : RingG L g) {q : Nat} {t : Int} (hq : q ∈ g) (ht : t ∈ row L q) : otT L q t ≠ t ∧ otT L q t ∈ row L q ∧ (∀ u ∈ row L q, u = t ∨ u = otT L q t) ∧ ((row L q).filter fun u => decide (u ≠ t))[0]? = some (otT L q t) := by
  obtain ⟨a, b, ab, e⟩ := h.two q hq
  have go : ∀ x y : Int, x ≠ y → (∀ u, u ∈ row L q ↔ u = x ∨ u = y) → t = x → otT L q t ≠ t ∧ otT L q t ∈ row L q ∧ (∀ u ∈ row L q, u = t ∨ u = otT L q t) ∧ ((row L q).filter fun u => decide (u ≠ t))[0]? = some (otT L q t) := fun x y xy m tx => by
    have e : ((row L q).filter fun u => decide (u ≠ t))[0]? = some y := head_of (d := 0) ((m y).mpr (.inr rfl)) (decide_eq_true fun z => xy (by rw [← tx, z])) fun u hu fu => ((m u).mp hu).resolve_left fun z => of_decide_eq_true fu (by rw [z, tx])
    have eq : otT L q t = y := by unfold otT; rw [e]; rfl
    rw [eq]
    exact ⟨fun z => xy (by rw [← tx, z]), (m y).mpr (.inr rfl), fun u hu => ((m u).mp hu).imp (fun z => by rw [z, tx]) id, e⟩
  have m1 : ∀ u, u ∈ row L q ↔ u = a ∨ u = b := fun u => by rw [e]; simp
  rcases (m1 t).mp ht with ta | tb
  · exact go a b ab m1 ta
  · exact go b a (fun z => ab z.symm) (fun u => (m1 u).trans or_comm) tb
/-- the way round -/
def wkR (L : Rows) (s : Nat) : Nat → Nat × Int
  | 0 => (s, ((row L s)[0]?).getD 0)
  | k + 1 => (opP L (wkR L s k).1 (wkR L s k).2, otT L (opP L (wkR L s k).1 (wkR L s k).2) (wkR L s k).2)
theorem RingG.in_ (h : RingG L g) {s : Nat} (hs : s ∈ g) : ∀ k, (wkR L s k).1 ∈ g ∧ (wkR L s k).2 ∈ row L (wkR L s k).1
  | 0 => by
    obtain ⟨a, b, _, e⟩ := h.two s hs
    refine ⟨hs, ?_⟩
    show ((row L s)[0]?).getD 0 ∈ row L s
    rw [e]
    exact List.mem_cons_self
  | k + 1 => by
    obtain ⟨h1, h2⟩ := h.in_ hs k
    obtain ⟨_, o2, o3, _⟩ := h.op h1 h2
    obtain ⟨_, t2, _⟩ := h.ot o2 o3
    exact ⟨o2, t2⟩
theorem RingG.step (h : RingG L g) {s : Nat} (hs : s ∈ g) (k : Nat) : (wkR L s (k + 1)).1 ≠ (wkR L s k).1 ∧ (wkR L s k).2 ∈ row L (wkR L s (k + 1)).1 ∧ (∀ r, (wkR L s k).2 ∈ row L r → r = (wkR L s k).1 ∨ r = (wkR L s (k + 1)).1) ∧ (wkR L s (k + 1)).2 ≠ (wkR L s k).2 ∧ ∀ u ∈ row L (wkR L s (k + 1)).1, u = (wkR L s k).2 ∨ u = (wkR L s (k + 1)).2 := by
  obtain ⟨h1, h2⟩ := h.in_ hs k
  obtain ⟨o1, o2, o3, o4, _⟩ := h.op h1 h2
  obtain ⟨t1, _, t3, _⟩ := h.ot o2 o3
  exact ⟨o1, o3, o4, t1, t3⟩
theorem RingG.apart (h : RingG L g) {s : Nat} (hs : s ∈ g) : ∀ j, (∀ k, 1 ≤ k → k ≤ j → (wkR L s k).1 ≠ s) → ∀ i, i < j → (wkR L s i).1 ≠ (wkR L s j).1 := by
  intro j
  induction j using Nat.strongRecOn with
  | ind j ih =>
    intro nr i ij e
    match i, j, ij with
    | 0, j + 1, _ => exact nr (j + 1) (by omega) (Nat.le_refl _) e.symm
    | i + 1, j + 1, ij =>
      obtain ⟨a1, a2, a3, a4, a5⟩ := h.step hs i
      obtain ⟨b1, b2, b3, b4, b5⟩ := h.step hs j
      obtain ⟨c1, c2, c3, c4, c5⟩ := h.step hs (i + 1)
      have pj := h.in_ hs j
      have dis : ∀ m, m < j → (wkR L s m).1 ≠ (wkR L s j).1 := ih j (by omega) (fun k h1 h2 => nr k h1 (by omega))
      have hu : (wkR L s j).2 ∈ row L (wkR L s (i + 1)).1 := by rw [e]; exact b2
      rcases a5 _ hu with q | q
      · -- the same thing as the one ahead
        have hm : (wkR L s i).2 ∈ row L (wkR L s j).1 := by rw [← q]; exact pj.2
        rcases a3 _ hm with z | z
        · exact dis i (by omega) z.symm
        · exact b1 (e.symm.trans z.symm)
      · have hm : (wkR L s (i + 1)).2 ∈ row L (wkR L s j).1 := by rw [← q]; exact pj.2
        rcases c3 _ hm with z | z
        · exact b1 (e.symm.trans z.symm)
        · rcases Nat.lt_trichotomy (i + 2) j with c | c | c
          · exact dis (i + 2) c z.symm
          · subst c
            exact c4 q
          · have : j = i + 1 := by omega
            subst this
            exact b1 e.symm
theorem RingG.back (h : RingG L g) {s : Nat} (hs : s ∈ g) : ∃ r, 1 ≤ r ∧ r ≤ g.length ∧ (wkR L s r).1 = s ∧ ∀ k, 1 ≤ k → k < r → (wkR L s k).1 ≠ s := by
  have ex : ∃ r, 1 ≤ r ∧ r ≤ g.length ∧ (wkR L s r).1 = s := by
    refine Classical.byContradiction fun no => ?_
    have nr : ∀ k, 1 ≤ k → k ≤ g.length → (wkR L s k).1 ≠ s := fun k h1 h2 e => no ⟨k, h1, h2, e⟩
    have nd : ((List.range (g.length + 1)).map fun k => (wkR L s k).1).Nodup := by
      refine List.pairwise_iff_getElem.mpr fun i j hi hj hij => ?_
      rw [List.length_map, List.length_range] at hi hj
      rw [List.getElem_map, List.getElem_map, List.getElem_range, List.getElem_range]
      exact h.apart hs j (fun k h1 h2 => nr k h1 (by omega)) i hij
    have := len_le nd (l2 := g) fun x hx => by
      obtain ⟨k, _, rfl⟩ := List.mem_map.mp hx
      exact (h.in_ hs k).1
    rw [List.length_map, List.length_range] at this
    omega
  obtain ⟨r, h1, h2, h3⟩ := ex
  induction r using Nat.strongRecOn with
  | ind r ih =>
    by_cases c : ∃ k, 1 ≤ k ∧ k < r ∧ (wkR L s k).1 = s
    · obtain ⟨k, k1, k2, k3⟩ := c
      exact ih k k2 k1 (by omega) k3
    · exact ⟨r, h1, h2, h3, fun k k1 k2 k3 => c ⟨k, k1, k2, k3⟩⟩
/-- one comes to the first person again just behind as many steps as people -/
theorem RingG.round (h : RingG L g) (nd : g.Nodup) (conn : ∀ p ∈ g, ∀ q ∈ g, Conn L p q) {s : Nat} (hs : s ∈ g) : (wkR L s g.length).1 = s ∧ ∀ k, 1 ≤ k → k < g.length → (wkR L s k).1 ≠ s := by
  obtain ⟨r, r1, r2, r3, r4⟩ := h.back hs
  have dist : ∀ i j, i < j → j < r → (wkR L s i).1 ≠ (wkR L s j).1 := fun i j hij hj => h.apart hs j (fun k h1 h2 => r4 k h1 (by omega)) i hij
  have inS : ∀ i, i ≤ r → (wkR L s i).1 ∈ (List.range r).map fun k => (wkR L s k).1 := fun i hi => by
    by_cases c : i < r
    · exact List.mem_map.mpr ⟨i, List.mem_range.mpr c, rfl⟩
    · have : i = r := by omega
      subst this
      rw [r3]
      exact List.mem_map.mpr ⟨0, List.mem_range.mpr (by omega), rfl⟩
  have ends : (wkR L s (r - 1)).2 ≠ (wkR L s 0).2 := fun e => by
    obtain ⟨a1, a2, a3, a4, a5⟩ := h.step hs 0
    have hm : (wkR L s 0).2 ∈ row L (wkR L s (r - 1)).1 := by rw [← e]; exact (h.in_ hs (r - 1)).2
    rcases a3 _ hm with z | z
    · by_cases c : r = 1
      · subst c
        exact a1 r3
      · exact dist 0 (r - 1) (by omega) (by omega) z.symm
    · by_cases c : r = 1
      · subst c
        exact a1 r3
      · by_cases c2 : r = 2
        · subst c2
          exact a4 e
        · exact dist 1 (r - 1) (by omega) (by omega) z.symm
  have cl : ∀ i, i < r → ∀ u ∈ row L (wkR L s i).1, ∀ q, u ∈ row L q → q ∈ (List.range r).map fun k => (wkR L s k).1 := fun i hi u hu q hq => by
    have nb : ∀ j, j < r → u = (wkR L s j).2 → q ∈ (List.range r).map fun k => (wkR L s k).1 := fun j hj e => by
      rw [e] at hq
      rcases (h.step hs j).2.2.1 q hq with z | z
      · rw [z]; exact inS j (by omega)
      · rw [z]; exact inS (j + 1) (by omega)
    match i, hi, hu with
    | i + 1, hi, hu =>
      rcases (h.step hs i).2.2.2.2 u hu with z | z
      · exact nb i (by omega) z
      · exact nb (i + 1) hi z
    | 0, _, hu =>
      have h0 := (h.in_ hs 0).2
      have hr : (wkR L s (r - 1)).2 ∈ row L s := by
        have := (h.step hs (r - 1)).2.1
        rw [show r - 1 + 1 = r by omega, r3] at this
        exact this
      have h0 : (wkR L s 0).2 ∈ row L s := h0
      have hu : u ∈ row L s := hu
      obtain ⟨a, b, ab, e⟩ := h.two s hs
      rw [e] at h0 hr hu
      simp only [List.mem_cons, List.not_mem_nil, or_false] at h0 hr hu
      have : u = (wkR L s 0).2 ∨ u = (wkR L s (r - 1)).2 := by
        rcases h0 with x | x <;> rcases hr with y | y
        · exact absurd (y.trans x.symm) ends
        · rw [x, y]; exact hu
        · rw [x, y]; exact hu.symm
        · exact absurd (y.trans x.symm) ends
      rcases this with z | z
      · exact nb 0 (by omega) z
      · exact nb (r - 1) (by omega) z
  have all : ∀ q, Conn L s q → q ∈ (List.range r).map fun k => (wkR L s k).1 := fun q c => by
    induction c with
    | refl => exact inS 0 (by omega)
    | step _ t ih =>
      obtain ⟨i, hi, e⟩ := List.mem_map.mp ih
      obtain ⟨u, u1, u2⟩ := t
      rw [← e] at u1
      exact cl i (List.mem_range.mp hi) u u1 _ u2
  have ge : g.length ≤ r := by
    have := len_le nd (l2 := (List.range r).map fun k => (wkR L s k).1) fun q hq => all q (conn s hs q hq)
    rw [List.length_map, List.length_range] at this
    exact this
  have : r = g.length := by omega
  rw [← this]
  exact ⟨r3, r4⟩
end
end Mt
namespace Mt
theorem row_set {rows : Rows} {p q : Nat} {r : List Int} (hp : p < rows.length) : row (rows.set p r) q = if q = p then r else row rows q := by
  unfold row
  by_cases e : q = p
  · subst e
    rw [if_pos rfl, List.getElem?_set_self hp]
    rfl
  · rw [if_neg e, List.getElem?_set_ne (fun z => e z.symm)]
end Mt
namespace Mt
theorem cnt_pred {rows R : Rows} {p : List Int → Bool} (a1 : ∀ r ∈ rows, r.Pairwise (· < ·)) (a2 : ∀ r ∈ R, r.Pairwise (· < ·)) (h : ∀ D, Ds R D ↔ Ds rows D ∧ p D = true) : cnt [] R = ((deals rows).filter p).length := by
  rw [← deals_cnt]
  exact ((List.perm_ext_iff_of_nodup (deals_nd a2) ((deals_nd a1).filter _)).mpr fun x => by
    rw [mem_deals, h, List.mem_filter, mem_deals]).length_eq
theorem lx_asym {a b : List Int} (h : Lx a b) (h2 : Lx b a) : False := by
  obtain ⟨q, x, y, e1, e2, e3, e4⟩ := h
  obtain ⟨r, u, v, f1, f2, f3, f4⟩ := h2
  rcases Nat.lt_trichotomy q r with c | c | c
  · have := f1 q c
    rw [e2, e3] at this
    have := Option.some.inj this
    omega
  · subst c
    rw [e2] at f3
    rw [e3] at f2
    have := Option.some.inj f2
    have := Option.some.inj f3
    omega
  · have := e1 r c
    rw [f2, f3] at this
    have := Option.some.inj this
    omega
/-- a dealing begins so -/
def preB (pre D : List Int) : Bool := decide (D.take pre.length = pre)
theorem preB_snoc {pre D : List Int} {t : Int} : preB (pre ++ [t]) D = true ↔ preB pre D = true ∧ D[pre.length]? = some t := by
  unfold preB
  rw [decide_eq_true_eq, decide_eq_true_eq, List.length_append, List.length_singleton, List.take_add_one]
  constructor
  · intro h
    cases e : D[pre.length]? with
    | none =>
      rw [e] at h
      have h1 : (D.take pre.length).length = (pre ++ [t]).length := by rw [← h]; simp
      rw [List.length_append, List.length_take] at h1
      simp at h1
      omega
    | some u =>
      rw [e] at h
      have h' : D.take pre.length ++ [u] = pre ++ [t] := h
      have h2 := List.append_inj' h' rfl
      refine ⟨h2.1, ?_⟩
      have := (List.cons.inj h2.2).1
      rw [this]
  · rintro ⟨h1, h2⟩
    rw [h1, h2]
    rfl
theorem pre_get {pre D : List Int} (h : preB pre D = true) {i : Nat} (hi : i < pre.length) : D[i]? = pre[i]? := by
  have := of_decide_eq_true h
  have e : (D.take pre.length)[i]? = D[i]? := by rw [List.getElem?_take, if_pos hi]
  rw [← e, this]
theorem pre_lx {pre a b : List Int} {t u : Int} (ha : preB (pre ++ [t]) a = true) (hb : preB (pre ++ [u]) b = true) (h : t < u) : Lx a b := by
  obtain ⟨a1, a2⟩ := preB_snoc.mp ha
  obtain ⟨b1, b2⟩ := preB_snoc.mp hb
  exact ⟨pre.length, t, u, fun j hj => by rw [pre_get a1 hj, pre_get b1 hj], a2, b2, h⟩
/-- the dealings that begin so, by the next thing -/
theorem pre_split {L : List (List Int)} (hL : L.Pairwise Lx) {pre r : List Int} (hr : r.Pairwise (· < ·)) (h : ∀ D ∈ L, preB pre D = true → ∃ t ∈ r, D[pre.length]? = some t) :
    L.filter (preB pre) = r.flatMap fun t => L.filter (preB (pre ++ [t])) := by
  have nd : ∀ {l : List (List Int)}, l.Pairwise Lx → l.Nodup := fun p => p.imp fun {a b} z e => by subst e; exact lx_irr z
  have p1 := hL.filter (preB pre)
  have p2 : (r.flatMap fun t => L.filter (preB (pre ++ [t]))).Pairwise Lx := by
    rw [List.pairwise_flatMap]
    refine ⟨fun t _ => hL.filter _, hr.imp fun {t u} z x hx y hy => ?_⟩
    exact pre_lx (List.mem_filter.mp hx).2 (List.mem_filter.mp hy).2 z
  refine ((List.perm_ext_iff_of_nodup (nd p1) (nd p2)).mpr fun x => ?_).eq_of_pairwise (fun a b _ _ h1 h2 => (lx_asym h1 h2).elim) p1 p2
  rw [List.mem_filter, List.mem_flatMap]
  constructor
  · rintro ⟨h1, h2⟩
    obtain ⟨t, ht, e⟩ := h x h1 h2
    exact ⟨t, ht, List.mem_filter.mpr ⟨h1, preB_snoc.mpr ⟨h2, e⟩⟩⟩
  · rintro ⟨t, ht, hx⟩
    obtain ⟨h1, h2⟩ := List.mem_filter.mp hx
    exact ⟨h1, (preB_snoc.mp h2).1⟩
/-- rows behind the first ones' things -/
structure Blk (rows R : Rows) (pre : List Int) : Prop where
  len : R.length = rows.length
  asc : ∀ r ∈ R, r.Pairwise (· < ·)
  ds : ∀ D, Ds R D ↔ Ds rows D ∧ preB pre D = true
theorem Blk.init {rows : Rows} (asc : ∀ r ∈ rows, r.Pairwise (· < ·)) : Blk rows rows [] := ⟨rfl, asc, fun D => ⟨fun h => ⟨h, rfl⟩, fun h => h.1⟩⟩
theorem Blk.step {rows R : Rows} {pre : List Int} (b : Blk rows R pre) (hp : pre.length < rows.length) {t : Int} (ht : t ∈ row R pre.length) (asc : ∀ r ∈ narrow R pre.length t, r.Pairwise (· < ·)) : Blk rows (narrow R pre.length t) (pre ++ [t]) where
  len := by rw [narrow_len, b.len]
  asc := asc
  ds := fun D => by
    rw [ds_narrow (by rw [b.len]; exact hp) ht, b.ds, preB_snoc]
    exact and_assoc
theorem Blk.cnt {rows R : Rows} {pre : List Int} (b : Blk rows R pre) (asc : ∀ r ∈ rows, r.Pairwise (· < ·)) : cnt [] R = ((deals rows).filter (preB pre)).length := cnt_pred asc b.asc b.ds
theorem Blk.split {rows R : Rows} {pre : List Int} (b : Blk rows R pre) (asc : ∀ r ∈ rows, r.Pairwise (· < ·)) (hp : pre.length < rows.length) : (deals rows).filter (preB pre) = (row R pre.length).flatMap fun t => (deals rows).filter (preB (pre ++ [t])) := by
  refine pre_split (deals_lx asc) ?_ fun D hD hpre => ?_
  · have : row R pre.length = R[pre.length]'(by rw [b.len]; exact hp) := row_get (List.getElem?_eq_getElem (by rw [b.len]; exact hp))
    rw [this]
    exact b.asc _ (List.getElem_mem _)
  · have d := (b.ds D).mpr ⟨(mem_deals D).mp hD, hpre⟩
    obtain ⟨t, h1, h2⟩ := d.get (p := pre.length) (by rw [b.len]; exact hp)
    exact ⟨t, h2, h1⟩
/-- where a list stands in another, as a block from a place on -/
def At (L B : List (List Int)) (n : Nat) : Prop := ∃ A C, L = A ++ B ++ C ∧ A.length = n
theorem At.part {L B1 B2 B3 : List (List Int)} {n : Nat} (h : At L (B1 ++ B2 ++ B3) n) : At L B2 (n + B1.length) := by
  obtain ⟨A, C, e, l⟩ := h
  refine ⟨A ++ B1, B3 ++ C, ?_, by rw [List.length_append, l]⟩
  rw [e]
  simp
theorem At.get {L B : List (List Int)} {n i : Nat} (h : At L B n) (hi : i < B.length) : L[n + i]? = B[i]? := by
  obtain ⟨A, C, e, l⟩ := h
  rw [e, List.append_assoc, List.getElem?_append_right (by omega), l, Nat.add_sub_cancel_left, List.getElem?_append_left hi]
theorem Blk.part {rows R : Rows} {pre : List Int} (b : Blk rows R pre) (asc : ∀ r ∈ rows, r.Pairwise (· < ·)) (hp : pre.length < rows.length) (ascN : ∀ t ∈ row R pre.length, ∀ r ∈ narrow R pre.length t, r.Pairwise (· < ·)) {l : List Int} (hl : ∀ t ∈ l, t ∈ row R pre.length) :
    (l.flatMap fun t => (deals rows).filter (preB (pre ++ [t]))).length = (l.map fun t => Mt.cnt [] (narrow R pre.length t)).sum := by
  rw [List.length_flatMap]
  exact sum_congr fun t ht => ((b.step hp (hl t ht) (ascN t (hl t ht))).cnt asc).symm
theorem Blk.sum {rows R : Rows} {pre : List Int} (b : Blk rows R pre) (asc : ∀ r ∈ rows, r.Pairwise (· < ·)) (hp : pre.length < rows.length) (ascN : ∀ t ∈ row R pre.length, ∀ r ∈ narrow R pre.length t, r.Pairwise (· < ·)) : ((deals rows).filter (preB pre)).length = ((row R pre.length).map fun t => Mt.cnt [] (narrow R pre.length t)).sum := by
  rw [b.split asc hp]
  exact b.part asc hp ascN fun t ht => ht
theorem Blk.at_ {rows R : Rows} {pre : List Int} (b : Blk rows R pre) (asc : ∀ r ∈ rows, r.Pairwise (· < ·)) (hp : pre.length < rows.length) (ascN : ∀ t ∈ row R pre.length, ∀ r ∈ narrow R pre.length t, r.Pairwise (· < ·)) {n : Nat} (h : At (deals rows) ((deals rows).filter (preB pre)) n) {r1 r2 : List Int} {t : Int} (e : row R pre.length = r1 ++ t :: r2) :
    At (deals rows) ((deals rows).filter (preB (pre ++ [t]))) (n + (r1.map fun t => Mt.cnt [] (narrow R pre.length t)).sum) := by
  rw [← b.part asc hp ascN (l := r1) fun s hs => by rw [e]; exact List.mem_append_left _ hs]
  rw [b.split asc hp, e, List.flatMap_append, List.flatMap_cons, ← List.append_assoc] at h
  exact h.part
end Mt
namespace Mt
structure Keyed (n k : Nat) (st : List (List Int × Nat)) : Prop where
  nd : (st.map (·.1)).Nodup
  sub : ∀ q ∈ st.map (·.1), q.Sublist ((List.range n).map fun (i : Nat) => (i : Int))
  len : ∀ q ∈ st.map (·.1), q.length + k = n
theorem Keyed.nil {n k : Nat} : Keyed n k [] := ⟨List.nodup_nil, fun q h => (nomatch h), fun q h => (nomatch h)⟩
theorem Keyed.of {n k : Nat} {st : List (List Int × Nat)} (h : Keyed n k st) : ∀ q ∈ st, q.1.Sublist ((List.range n).map fun (i : Nat) => (i : Int)) ∧ q.1.length + k = n := fun q hq =>
  ⟨h.sub _ (List.mem_map.mpr ⟨q, hq, rfl⟩), h.len _ (List.mem_map.mpr ⟨q, hq, rfl⟩)⟩
/-- all parts of a list -/
def subsI : List Int → List (List Int)
  | [] => [[]]
  | x :: l => subsI l ++ (subsI l).map (x :: ·)
theorem subsI_len : ∀ l : List Int, (subsI l).length = 2 ^ l.length
  | [] => rfl
  | x :: l => by
    show (subsI l ++ _).length = 2 ^ (l.length + 1)
    rw [List.length_append, List.length_map, subsI_len l, Nat.pow_succ]
    omega
theorem mem_subsI {q l : List Int} (h : q.Sublist l) : q ∈ subsI l := by
  induction h with
  | slnil => exact List.mem_singleton.mpr rfl
  | cons a _ ih => exact List.mem_append_left _ ih
  | cons_cons a _ ih => exact List.mem_append_right _ (List.mem_map.mpr ⟨_, ih, rfl⟩)
theorem Keyed.num {n k : Nat} {st : List (List Int × Nat)} (h : Keyed n k st) : st.length ≤ 2 ^ n := by
  have := len_le h.nd fun q hq => mem_subsI (h.sub q hq)
  rw [List.length_map, subsI_len, List.length_map, List.length_range] at this
  exact this
theorem Keyed.last {n : Nat} {st : List (List Int × Nat)} (h : Keyed n n st) : getN st [] = wt (fun _ => 1) st := by
  have k0 : ∀ q ∈ st.map (·.1), q = [] := fun q hq => List.length_eq_zero_iff.mp (by have := h.len q hq; omega)
  match st, h.nd, k0 with
  | [], _, _ => rfl
  | [(L, w)], _, k0 =>
    have : L = [] := k0 L List.mem_cons_self
    subst this
    show (if ([] : List Int) = [] then w else getN [] []) = w * 1 + 0
    rw [if_pos rfl, Nat.mul_one, Nat.add_zero]
  | (L, w) :: (M, v) :: st, nd, k0 =>
    have h1 : L = [] := k0 L List.mem_cons_self
    have h2 : M = [] := k0 M (List.mem_cons_of_mem _ List.mem_cons_self)
    subst h1
    subst h2
    exact absurd List.mem_cons_self (List.nodup_cons.mp nd).1
def others (n p : Nat) : List Nat := (List.range n).filter fun q => decide (q ≠ p)
end Mt
namespace Mt
/-- names: alike only where people hang together, and so for all steps that are done -/
structure Named (rows : Rows) (N : List Int) (done : Nat → Nat → Prop) : Prop where
  len : N.length = rows.length
  conn : ∀ p q : Nat, ∀ x : Int, N[p]? = some x → N[q]? = some x → Conn rows p q
  same : ∀ p q : Nat, done p q → N[p]? = N[q]?
theorem Named.init {rows : Rows} : Named rows ((List.range rows.length).map fun (i : Nat) => (i : Int)) (fun _ _ => False) where
  len := by rw [List.length_map, List.length_range]
  conn := fun p q x h1 h2 => by
    rw [List.getElem?_map] at h1 h2
    cases e1 : (List.range rows.length)[p]? with
    | none => rw [e1] at h1; cases h1
    | some a =>
      cases e2 : (List.range rows.length)[q]? with
      | none => rw [e2] at h2; cases h2
      | some b =>
        rw [e1] at h1
        rw [e2] at h2
        have h1 : (a : Int) = x := Option.some.inj h1
        have h2 : (b : Int) = x := Option.some.inj h2
        have a1 := List.getElem?_range (show p < rows.length by have := (List.getElem?_eq_some_iff.mp e1).1; rwa [List.length_range] at this)
        have b1 := List.getElem?_range (show q < rows.length by have := (List.getElem?_eq_some_iff.mp e2).1; rwa [List.length_range] at this)
        rw [a1] at e1
        rw [b1] at e2
        have e1 := Option.some.inj e1
        have e2 := Option.some.inj e2
        have : p = q := by omega
        rw [this]
        exact .refl
  same := fun _ _ h => h.elim
theorem Named.iff {rows : Rows} {N : List Int} (h : Named rows N (Tied rows)) {p q : Nat} {x : Int} (hp : N[p]? = some x) : N[q]? = some x ↔ q < rows.length ∧ Conn rows p q := by
  constructor
  · intro hq
    exact ⟨by have := (List.getElem?_eq_some_iff.mp hq).1; rw [h.len] at this; exact this, h.conn p q x hp hq⟩
  · rintro ⟨_, hc⟩
    induction hc with
    | refl => exact hp
    | step _ ht ih => rw [← h.same _ _ ht]; exact ih (by obtain ⟨t, a, _⟩ := ht; exact row_lt a)
/-- all people of one name, ascending -/
def clsN (N : List Int) (x : Int) : List Nat := (List.range N.length).filter fun p => decide (N[p]? = some x)
theorem mem_clsN {N : List Int} {x : Int} {p : Nat} : p ∈ clsN N x ↔ N[p]? = some x := by
  unfold clsN
  rw [List.mem_filter, List.mem_range, decide_eq_true_iff]
  exact ⟨fun h => h.2, fun h => ⟨(List.getElem?_eq_some_iff.mp h).1, h⟩⟩
theorem clsN_asc {N : List Int} {x : Int} : (clsN N x).Pairwise (· < ·) := List.Pairwise.filter _ List.pairwise_lt_range
theorem asc_eqN {a b : List Nat} (ha : a.Pairwise (· < ·)) (hb : b.Pairwise (· < ·)) (h : ∀ x, x ∈ a ↔ x ∈ b) : a = b :=
  ((List.perm_ext_iff_of_nodup (ha.imp fun {_ _} z => Nat.ne_of_lt z) (hb.imp fun {_ _} z => Nat.ne_of_lt z)).mpr h).eq_of_pairwise (fun x y _ _ h1 h2 => by omega) ha hb
theorem asc_eqI {a b : List Int} (ha : a.Pairwise (· < ·)) (hb : b.Pairwise (· < ·)) (h : ∀ x, x ∈ a ↔ x ∈ b) : a = b :=
  ((List.perm_ext_iff_of_nodup (ha.imp fun {_ _} z e => by omega) (hb.imp fun {_ _} z e => by omega)).mpr h).eq_of_pairwise (fun x y _ _ h1 h2 => by omega) ha hb
/-- the classes of the names are the groups -/
theorem Named.groups {rows : Rows} {N : List Int} (h : Named rows N (Tied rows)) {G : List (List Nat)} (hG : Groups rows G) : ∀ g, g ∈ G ↔ ∃ x ∈ N, g = clsN N x := fun g => by
  have cls : ∀ g ∈ G, ∀ p ∈ g, ∀ x, N[p]? = some x → g = clsN N x := fun g hg p hp x hx => asc_eqN (hG.asc g hg) clsN_asc fun q => by
    rw [mem_clsN, h.iff hx]
    constructor
    · exact fun hq => ⟨hG.lt hg hq, hG.conn g hg p hp q hq⟩
    · rintro ⟨hq, hc⟩
      induction hc with
      | refl => exact hp
      | step _ ht ih =>
        have hb : ∃ t, t ∈ row rows _ := let ⟨t, a, _⟩ := ht; ⟨t, a⟩
        obtain ⟨t, a, b⟩ := ht
        exact hG.tied hg (ih (row_lt a)) hq ⟨t, a, b⟩
  constructor
  · intro hg
    obtain ⟨p, hp⟩ := List.exists_mem_of_ne_nil g (hG.ne g hg)
    have pl : p < N.length := by rw [h.len]; exact hG.lt hg hp
    exact ⟨N[p], List.getElem_mem pl, cls g hg p hp _ (List.getElem?_eq_getElem pl)⟩
  · rintro ⟨x, hx, rfl⟩
    obtain ⟨p, hp⟩ := List.getElem?_of_mem hx
    have pl : p < rows.length := by rw [← h.len]; exact (List.getElem?_eq_some_iff.mp hp).1
    obtain ⟨c, hc, hpc⟩ := List.mem_flatten.mp (hG.perm.mem_iff.mpr (List.mem_range.mpr pl))
    rw [← cls c hc p hpc x hp]
    exact hc
end Mt
namespace Mt
theorem Groups.cls {rows : Rows} {G : List (List Nat)} (h : Groups rows G) {g : List Nat} (hg : g ∈ G) {p : Nat} (hp : p ∈ g) (q : Nat) : q ∈ g ↔ q < rows.length ∧ Conn rows p q := by
  constructor
  · exact fun hq => ⟨h.lt hg hq, h.conn g hg p hp q hq⟩
  · rintro ⟨hq, hc⟩
    induction hc with
    | refl => exact hp
    | step _ ht ih =>
      have ht' := ht
      obtain ⟨t, a, _⟩ := ht'
      exact h.tied hg (ih (row_lt a)) hq ht
theorem Groups.has {rows : Rows} {G F : List (List Nat)} (h : Groups rows G) (hF : Groups rows F) {g : List Nat} (hg : g ∈ G) : g ∈ F := by
  obtain ⟨p, hp⟩ := List.exists_mem_of_ne_nil g (h.ne g hg)
  obtain ⟨c, hc, hpc⟩ := List.mem_flatten.mp (hF.perm.mem_iff.mpr (List.mem_range.mpr (h.lt hg hp)))
  have : g = c := asc_eqN (h.asc g hg) (hF.asc c hc) fun q => (h.cls hg hp q).trans (hF.cls hc hpc q).symm
  rw [this]
  exact hc
theorem Groups.nodup {rows : Rows} {G : List (List Nat)} (h : Groups rows G) : G.Nodup := by
  have := h.perm.nodup_iff.mpr List.nodup_range
  have := (List.pairwise_flatten.mp this).2
  refine (List.Pairwise.and_mem.mp this).imp fun {a b} ⟨ha, _, hab⟩ e => ?_
  obtain ⟨p, hp⟩ := List.exists_mem_of_ne_nil a (h.ne a ha)
  exact hab p hp p (e ▸ hp) rfl
theorem natZ_inj : ∀ {a b : List Nat}, a.map (fun (p : Nat) => (p : Int)) = b.map (fun (p : Nat) => (p : Int)) → a = b
  | [], [], _ => rfl
  | [], _ :: _, h => by cases h
  | _ :: _, [], h => by cases h
  | x :: a, y :: b, h => by
    have h1 : (x : Int) = (y : Int) := (List.cons.inj h).1
    rw [natZ_inj (List.cons.inj h).2, show x = y by omega]
/-- put in order there is one list of groups -/
theorem Groups.one {rows : Rows} {G F : List (List Nat)} (h : Groups rows G) (hF : Groups rows F) (s1 : (G.map fun g => g.map fun (p : Nat) => (p : Int)).Pairwise (· ≤ ·)) (s2 : (F.map fun g => g.map fun (p : Nat) => (p : Int)).Pairwise (· ≤ ·)) : G = F := by
  have pm : G.Perm F := (List.perm_ext_iff_of_nodup h.nodup hF.nodup).mpr fun g => ⟨h.has hF, hF.has h⟩
  have e := (pm.map fun g => g.map fun (p : Nat) => (p : Int)).eq_of_pairwise (fun a b _ _ h1 h2 => List.le_antisymm h1 h2) s1 s2
  have : ∀ {A B : List (List Nat)}, (A.map fun g => g.map fun (p : Nat) => (p : Int)) = (B.map fun g => g.map fun (p : Nat) => (p : Int)) → A = B := fun {A} => by
    induction A with
    | nil => intro B h; cases B with
      | nil => rfl
      | cons b B => cases h
    | cons a A ih =>
      intro B h
      cases B with
      | nil => cases h
      | cons b B => rw [natZ_inj (List.cons.inj h).1, ih (List.cons.inj h).2]
  exact this e
end Mt
set_option maxRecDepth 100000
set_option maxHeartbeats 4000000
namespace Mt
def inn (s kd k j : Nat) : Bool := decide (k < s) && decide (j < s) && (if kd = 1 ∧ 2 < s then (decide (j = k) || decide (j = (k + 1) % s)) else if kd = 2 ∧ 2 < s then !decide (j = k) else true)
theorem inn_lt {s kd k j : Nat} (h : inn s kd k j = true) : k < s ∧ j < s := by
  unfold inn at h
  rw [Bool.and_eq_true, Bool.and_eq_true] at h
  exact ⟨of_decide_eq_true h.1.1, of_decide_eq_true h.1.2⟩
theorem inn_rot (s : Nat) (hs : s ≤ 4) (kd : Nat) (hd : kd < 3) (k : Nat) (hk : k < s) (j : Nat) (hj : j < s) (h : inn s kd k j = true) (i : Nat) (hi : i < s) : inn s kd i ((i + (j + s - k)) % s) = true := by
  have all : ∀ s : Fin 5, ∀ kd : Fin 3, ∀ k : Fin 4, ∀ j : Fin 4, ∀ i : Fin 4, k.1 < s.1 → j.1 < s.1 → inn s.1 kd.1 k.1 j.1 = true → i.1 < s.1 → inn s.1 kd.1 i.1 ((i.1 + (j.1 + s.1 - k.1)) % s.1) = true := by decide +kernel
  exact all ⟨s, by omega⟩ ⟨kd, hd⟩ ⟨k, by omega⟩ ⟨j, by omega⟩ ⟨i, by omega⟩ hk hj h hi
theorem rot_inj : ∀ s, s ≤ 4 → ∀ c, c < 9 → ∀ i, i < s → ∀ i', i' < s → (i + c) % s = (i' + c) % s → i = i' := by decide +kernel
theorem inn_some : ∀ s, s ≤ 4 → 1 ≤ s → ∀ kd, kd < 3 → ∀ k, k < s → ∃ j, j < s ∧ inn s kd k j = true := by decide +kernel
theorem inn_thing : ∀ s, s ≤ 4 → 1 ≤ s → ∀ kd, kd < 3 → ∀ j, j < s → ∃ k, k < s ∧ inn s kd k j = true := by decide +kernel
/-- two of one block hang together -/
def tie2 (s kd k k' : Nat) : Bool := (List.range s).any fun j => inn s kd k j && inn s kd k' j
theorem tie_path (s : Nat) (hs : s ≤ 4) (kd : Nat) (hd : kd < 3) (k : Nat) (hk : k < s) (k' : Nat) (hk' : k' < s) : ∃ m, m < s ∧ ∃ m', m' < s ∧ tie2 s kd k m = true ∧ tie2 s kd m m' = true ∧ tie2 s kd m' k' = true := by
  have all : ∀ s : Fin 5, ∀ kd : Fin 3, ∀ k : Fin 4, ∀ k' : Fin 4, k.1 < s.1 → k'.1 < s.1 → ∃ m : Fin 4, m.1 < s.1 ∧ ∃ m' : Fin 4, m'.1 < s.1 ∧ tie2 s.1 kd.1 k.1 m.1 = true ∧ tie2 s.1 kd.1 m.1 m'.1 = true ∧ tie2 s.1 kd.1 m'.1 k'.1 = true := by decide +kernel
  obtain ⟨m, h1, m', h2, h3⟩ := all ⟨s, by omega⟩ ⟨kd, hd⟩ ⟨k, by omega⟩ ⟨k', by omega⟩ hk hk'
  exact ⟨m.1, h1, m'.1, h2, h3⟩
inductive BlkR : Rows → List (Nat × Nat × Nat) → Prop
  | nil : BlkR [] []
  | snoc {R new : Rows} {bs : List (Nat × Nat × Nat)} {s kd : Nat} (h : BlkR R bs) (s1 : 1 ≤ s) (s4 : s ≤ 4) (k3 : kd < 3) (len : new.length = s)
      (mem : ∀ k t, t ∈ row new k → (∃ j, inn s kd k j = true ∧ t = ((R.length + j : Nat) : Int)) ∨ (0 ≤ t ∧ t < (R.length : Int))) (all : ∀ k j, inn s kd k j = true → ((R.length + j : Nat) : Int) ∈ row new k) : BlkR (R ++ new) (bs ++ [(R.length, s, kd)])
/-- ties within a block -/
def BT (bs : List (Nat × Nat × Nat)) (p : Nat) (t : Int) : Prop := ∃ c ∈ bs, ∃ k j, inn c.2.1 c.2.2 k j = true ∧ p = c.1 + k ∧ t = ((c.1 + j : Nat) : Int)
theorem row_apB {R new : Rows} {p : Nat} : row (R ++ new) p = if p < R.length then row R p else row new (p - R.length) := by
  unfold row
  by_cases c : p < R.length
  · rw [if_pos c, List.getElem?_append_left c]
  · rw [if_neg c, List.getElem?_append_right (by omega)]
theorem row_lo {R new : Rows} {p : Nat} (h : p < R.length) : row (R ++ new) p = row R p := by rw [row_apB, if_pos h]
theorem row_hi {R new : Rows} {k : Nat} : row (R ++ new) (R.length + k) = row new k := by rw [row_apB, if_neg (by omega), Nat.add_sub_cancel_left]
theorem BlkR.in_ {R : Rows} {bs : List (Nat × Nat × Nat)} (h : BlkR R bs) : ∀ c ∈ bs, c.1 + c.2.1 ≤ R.length ∧ 1 ≤ c.2.1 ∧ c.2.1 ≤ 4 ∧ c.2.2 < 3 := by
  induction h with
  | nil => intro c hc; cases hc
  | @snoc R new bs s kd h s1 s4 k3 len mem all ih =>
    intro c hc
    rw [List.length_append]
    rcases List.mem_append.mp hc with hc | hc
    · have := ih c hc
      omega
    · rw [List.mem_singleton.mp hc]
      show R.length + s ≤ _ ∧ 1 ≤ s ∧ s ≤ 4 ∧ kd < 3
      omega
theorem BlkR.rng {R : Rows} {bs : List (Nat × Nat × Nat)} (h : BlkR R bs) : ∀ p t, t ∈ row R p → 0 ≤ t ∧ t < (R.length : Int) := by
  induction h with
  | nil => intro p t ht; cases p <;> cases ht
  | @snoc R new bs s kd h s1 s4 k3 len mem all ih =>
    intro p t ht
    rw [List.length_append]
    by_cases c : p < R.length
    · rw [row_lo c] at ht
      have := ih p t ht
      omega
    · rw [row_apB, if_neg c] at ht
      rcases mem _ t ht with ⟨j, hj, rfl⟩ | h
      · have := inn_lt hj
        omega
      · omega
theorem ds_put {R new : Rows} {E F : List Int} (e : Ds R E) (lE : ∀ t ∈ E, t < (R.length : Int)) (lF : F.length = new.length) (nd : F.Nodup) (hF : ∀ t ∈ F, (R.length : Int) ≤ t) (tie : ∀ k t, F[k]? = some t → t ∈ row new k) : Ds (R ++ new) (E ++ F) where
  len := by rw [List.length_append, List.length_append, e.len, lF]
  tie := fun p t h => by
    by_cases c : p < R.length
    · rw [List.getElem?_append_left (by rw [e.len]; exact c)] at h
      rw [row_lo c]
      exact e.tie p t h
    · rw [List.getElem?_append_right (by rw [e.len]; omega), e.len] at h
      rw [row_apB, if_neg c]
      exact tie _ t h
  nd := List.nodup_append.mpr ⟨e.nd, nd, fun a ha b hb z => by
    have := lE a ha
    have := hF b hb
    omega⟩
theorem BlkR.ds_lt {R : Rows} {bs : List (Nat × Nat × Nat)} (h : BlkR R bs) {E : List Int} (e : Ds R E) : ∀ t ∈ E, 0 ≤ t ∧ t < (R.length : Int) := fun t ht => by
  obtain ⟨p, hp⟩ := List.getElem?_of_mem ht
  exact h.rng p t (e.tie p t hp)
/-- going round within a block -/
def rotL (n s c : Nat) : List Int := (List.range s).map fun i => ((n + (i + c) % s : Nat) : Int)
theorem rotL_at {n s c i : Nat} (h : i < s) : (rotL n s c)[i]? = some ((n + (i + c) % s : Nat) : Int) := by
  unfold rotL
  rw [List.getElem?_map, List.getElem?_range h]
  rfl
theorem rotL_nd {n s c : Nat} (h4 : s ≤ 4) (hc : c < 9) : (rotL n s c).Nodup := by
  refine List.pairwise_map.mpr ((List.pairwise_lt_range (n := s)).imp_of_mem fun {a b} ha hb hab e => ?_)
  have := rot_inj s h4 c hc a (List.mem_range.mp ha) b (List.mem_range.mp hb) (by omega)
  omega
theorem ds_rot {R new : Rows} {E : List Int} {s kd k j : Nat} (e : Ds R E) (lE : ∀ t ∈ E, 0 ≤ t ∧ t < (R.length : Int)) (s4 : s ≤ 4) (k3 : kd < 3) (len : new.length = s) (all : ∀ k j, inn s kd k j = true → ((R.length + j : Nat) : Int) ∈ row new k) (hi : inn s kd k j = true) : ∃ D : List Int, Ds (R ++ new) D ∧ (∀ (p : Nat) (t : Int), E[p]? = some t → D[p]? = some t) ∧ D[R.length + k]? = some ((R.length + j : Nat) : Int) := by
  obtain ⟨hk, hj⟩ := inn_lt hi
  have lF : (rotL R.length s (j + s - k)).length = s := by unfold rotL; rw [List.length_map, List.length_range]
  refine ⟨E ++ rotL R.length s (j + s - k), ds_put e (fun t ht => (lE t ht).2) (by rw [lF, len]) (rotL_nd s4 (by omega)) (fun t ht => ?_) (fun i t h => ?_), fun p t h => ?_, ?_⟩
  · obtain ⟨i, _, rfl⟩ := List.mem_map.mp ht
    omega
  · have il : i < s := by
      have := (List.getElem?_eq_some_iff.mp h).1
      omega
    rw [rotL_at il] at h
    rw [← Option.some.inj h]
    exact all _ _ (inn_rot s s4 kd k3 k hk j hj hi i il)
  · rw [List.getElem?_append_left (List.getElem?_eq_some_iff.mp h).1]
    exact h
  · rw [List.getElem?_append_right (by rw [e.len]; omega), e.len, Nat.add_sub_cancel_left, rotL_at hk]
    have : (k + (j + s - k)) % s = j := by
      rw [show k + (j + s - k) = j + s from by omega, Nat.add_mod_right, Nat.mod_eq_of_lt hj]
    rw [this]
theorem BlkR.ex {R : Rows} {bs : List (Nat × Nat × Nat)} (h : BlkR R bs) : ∃ D, Ds R D := by
  induction h with
  | nil => exact ⟨[], ⟨rfl, fun p t h => (by cases h), List.nodup_nil⟩⟩
  | @snoc R new bs s kd h s1 s4 k3 len mem all ih =>
    obtain ⟨E, e⟩ := ih
    obtain ⟨j, _, hj⟩ := inn_some s s4 s1 kd k3 0 (by omega)
    obtain ⟨D, d, _⟩ := ds_rot e (h.ds_lt e) s4 k3 len all hj
    exact ⟨D, d⟩
/-- the people of the first blocks have the first things -/
theorem BlkR.cut {R new : Rows} {bs : List (Nat × Nat × Nat)} (h : BlkR R bs) {D : List Int} (d : Ds (R ++ new) D) : Ds R (D.take R.length) ∧ ∀ k t, D[R.length + k]? = some t → ¬ (0 ≤ t ∧ t < (R.length : Int)) := by
  have lD := d.len
  rw [List.length_append] at lD
  have d1 : Ds R (D.take R.length) := by
    refine ⟨by rw [List.length_take]; omega, fun p t hp => ?_, d.nd.sublist (List.take_sublist _ _)⟩
    have pl := (List.getElem?_eq_some_iff.mp hp).1
    rw [List.length_take] at pl
    rw [List.getElem?_take_of_lt (by omega)] at hp
    have := d.tie p t hp
    rwa [row_lo (by omega)] at this
  refine ⟨d1, fun k t hk ⟨t0, t1⟩ => ?_⟩
  have tn : t ∉ D.take R.length := fun ht => by
    obtain ⟨q, hq⟩ := List.getElem?_of_mem ht
    have ql := (List.getElem?_eq_some_iff.mp hq).1
    rw [List.length_take] at ql
    rw [List.getElem?_take_of_lt (by omega)] at hq
    have := nodup_get d.nd hq hk
    omega
  have := len_le (l1 := t :: D.take R.length) (l2 := (List.range R.length).map fun (i : Nat) => (i : Int)) (List.nodup_cons.mpr ⟨tn, d1.nd⟩) fun x hx => by
    have hr : 0 ≤ x ∧ x < (R.length : Int) := by
      rcases List.mem_cons.mp hx with rfl | hx
      · exact ⟨t0, t1⟩
      · exact h.ds_lt d1 x hx
    exact List.mem_map.mpr ⟨x.toNat, List.mem_range.mpr (by omega), by omega⟩
  rw [List.length_cons, d1.len, List.length_map, List.length_range] at this
  omega
theorem BlkR.live {R : Rows} {bs : List (Nat × Nat × Nat)} (h : BlkR R bs) : ∀ {p t}, Live R p t ↔ BT bs p t := by
  induction h with
  | nil =>
    intro p t
    constructor
    · rintro ⟨D, d, e⟩
      have := d.tie p t e
      cases p <;> cases this
    · rintro ⟨c, hc, _⟩; cases hc
  | @snoc R new bs s kd h s1 s4 k3 len mem all ih =>
    intro p t
    constructor
    · rintro ⟨D, d, e⟩
      obtain ⟨d1, hi⟩ := h.cut d
      by_cases c : p < R.length
      · obtain ⟨b, hb, r⟩ := ih.mp ⟨_, d1, by rw [List.getElem?_take_of_lt c]; exact e⟩
        exact ⟨b, List.mem_append_left _ hb, r⟩
      · obtain ⟨k, rfl⟩ : ∃ k, p = R.length + k := ⟨p - R.length, by omega⟩
        have ht := d.tie _ t e
        rw [row_hi] at ht
        rcases mem k t ht with ⟨j, hj, rfl⟩ | z
        · exact ⟨_, List.mem_append_right _ List.mem_cons_self, k, j, hj, rfl, rfl⟩
        · exact absurd z (hi k t e)
    · rintro ⟨c, hc, k, j, hij, rfl, rfl⟩
      rcases List.mem_append.mp hc with hc | hc
      · obtain ⟨E, e, ep⟩ := ih.mpr ⟨c, hc, k, j, hij, rfl, rfl⟩
        obtain ⟨j0, _, hj0⟩ := inn_some s s4 s1 kd k3 0 (by omega)
        obtain ⟨D, d, keep, _⟩ := ds_rot e (h.ds_lt e) s4 k3 len all hj0
        exact ⟨D, d, keep _ _ ep⟩
      · cases List.mem_singleton.mp hc
        obtain ⟨E, e⟩ := h.ex
        obtain ⟨D, d, _, at_⟩ := ds_rot e (h.ds_lt e) s4 k3 len all hij
        exact ⟨D, d, at_⟩
def blkG (c : Nat × Nat × Nat) : List Nat := (List.range c.2.1).map fun i => c.1 + i
theorem mem_blkG {c : Nat × Nat × Nat} {p : Nat} : p ∈ blkG c ↔ c.1 ≤ p ∧ p < c.1 + c.2.1 := by
  unfold blkG
  rw [List.mem_map]
  constructor
  · rintro ⟨i, hi, rfl⟩
    have := List.mem_range.mp hi
    omega
  · rintro ⟨h1, h2⟩
    exact ⟨p - c.1, List.mem_range.mpr (by omega), by omega⟩
theorem BlkR.flat {R : Rows} {bs : List (Nat × Nat × Nat)} (h : BlkR R bs) : (bs.map blkG).flatten = List.range R.length := by
  induction h with
  | nil => rfl
  | @snoc R new bs s kd h s1 s4 k3 len mem all ih =>
    rw [List.map_append, List.flatten_append, ih, List.length_append, len, List.range_add]
    show _ ++ ([blkG (R.length, s, kd)]).flatten = _
    rw [List.flatten_cons, List.flatten_nil, List.append_nil]
    rfl
theorem BlkR.apart {R : Rows} {bs : List (Nat × Nat × Nat)} (h : BlkR R bs) : bs.Pairwise fun a b => a.1 + a.2.1 ≤ b.1 := by
  induction h with
  | nil => exact .nil
  | @snoc R new bs s kd h s1 s4 k3 len mem all ih =>
    refine List.pairwise_append.mpr ⟨ih, List.pairwise_singleton _ _, fun a ha b hb => ?_⟩
    rw [List.mem_singleton.mp hb]
    exact (h.in_ a ha).1
theorem BlkR.same {R : Rows} {bs : List (Nat × Nat × Nat)} (h : BlkR R bs) {a b : Nat × Nat × Nat} (ha : a ∈ bs) (hb : b ∈ bs) {x : Nat} (a1 : a.1 ≤ x) (a2 : x < a.1 + a.2.1) (b1 : b.1 ≤ x) (b2 : x < b.1 + b.2.1) : a = b := by
  refine Classical.byContradiction fun ne => ?_
  have : ∀ {l : List (Nat × Nat × Nat)}, l.Pairwise (fun a b => a.1 + a.2.1 ≤ b.1) → a ∈ l → b ∈ l → a.1 + a.2.1 ≤ b.1 ∨ b.1 + b.2.1 ≤ a.1 := fun {l} pw ha hb => by
    induction l with
    | nil => cases ha
    | cons y l ih =>
      rw [List.pairwise_cons] at pw
      rcases List.mem_cons.mp ha with rfl | ha'
      · rcases List.mem_cons.mp hb with rfl | hb'
        · exact absurd rfl ne
        · exact .inl (pw.1 b hb')
      · rcases List.mem_cons.mp hb with rfl | hb'
        · exact .inr (pw.1 a ha')
        · exact ih pw.2 ha' hb'
  rcases this h.apart ha hb with z | z <;> omega
theorem BlkR.blk_live {R : Rows} {bs : List (Nat × Nat × Nat)} (h : BlkR R bs) {c : Nat × Nat × Nat} (hc : c ∈ bs) {k : Nat} (hk : k < c.2.1) {t : Int} : t ∈ row (liveR R) (c.1 + k) ↔ ∃ j, inn c.2.1 c.2.2 k j = true ∧ t = ((c.1 + j : Nat) : Int) := by
  rw [mem_liveR, h.live]
  constructor
  · rintro ⟨b, hb, k', j, hi, e, rfl⟩
    have := inn_lt hi
    have eb := h.same hc hb (x := c.1 + k) (by omega) (by omega) (by omega) (by omega)
    subst eb
    have : k = k' := by omega
    subst this
    exact ⟨j, hi, rfl⟩
  · rintro ⟨j, hj, rfl⟩
    exact ⟨c, hc, k, j, hj, rfl, rfl⟩
theorem BlkR.tied {R : Rows} {bs : List (Nat × Nat × Nat)} (h : BlkR R bs) {c : Nat × Nat × Nat} (hc : c ∈ bs) {k k' : Nat} (hk : k < c.2.1) (hk' : k' < c.2.1) (ht : tie2 c.2.1 c.2.2 k k' = true) : Tied (liveR R) (c.1 + k) (c.1 + k') := by
  obtain ⟨j, _, hj⟩ := List.any_eq_true.mp ht
  rw [Bool.and_eq_true] at hj
  exact ⟨_, (h.blk_live hc hk).mpr ⟨j, hj.1, rfl⟩, (h.blk_live hc hk').mpr ⟨j, hj.2, rfl⟩⟩
theorem BlkR.groups {R : Rows} {bs : List (Nat × Nat × Nat)} (h : BlkR R bs) : Groups (liveR R) (bs.map blkG) where
  asc := fun g hg => by
    obtain ⟨c, hc, rfl⟩ := List.mem_map.mp hg
    exact List.pairwise_map.mpr ((List.pairwise_lt_range).imp fun hab => by omega)
  perm := by rw [h.flat, liveR_len]
  ne := fun g hg e => by
    obtain ⟨c, hc, rfl⟩ := List.mem_map.mp hg
    have := congrArg List.length e
    unfold blkG at this
    rw [List.length_map, List.length_range] at this
    have := h.in_ c hc
    simp at *
    omega
  apart := by
    refine List.pairwise_map.mpr ((List.Pairwise.and_mem.mp h.apart).imp fun {a b} ⟨ha, hb, hab⟩ p hp q hq ⟨t, t1, t2⟩ => ?_)
    rw [mem_blkG] at hp hq
    obtain ⟨k, rfl⟩ : ∃ k, p = a.1 + k := ⟨p - a.1, by omega⟩
    obtain ⟨k', rfl⟩ : ∃ k, q = b.1 + k := ⟨q - b.1, by omega⟩
    obtain ⟨j, hj, rfl⟩ := (h.blk_live ha (by omega)).mp t1
    obtain ⟨j', hj', e⟩ := (h.blk_live hb (by omega)).mp t2
    have := inn_lt hj
    have := inn_lt hj'
    omega
  conn := fun g hg p hp q hq => by
    obtain ⟨c, hc, rfl⟩ := List.mem_map.mp hg
    rw [mem_blkG] at hp hq
    obtain ⟨k, rfl⟩ : ∃ k, p = c.1 + k := ⟨p - c.1, by omega⟩
    obtain ⟨k', rfl⟩ : ∃ k, q = c.1 + k := ⟨q - c.1, by omega⟩
    obtain ⟨_, s1, s4, k3⟩ := h.in_ c hc
    obtain ⟨m, hm, m', hm', a1, a2, a3⟩ := tie_path c.2.1 s4 c.2.2 k3 k (by omega) k' (by omega)
    exact ((Conn.one (h.tied hc (by omega) hm a1)).trans (Conn.one (h.tied hc hm hm' a2))).trans (Conn.one (h.tied hc hm' (by omega) a3))
/-- the live things of a person of a block -/
theorem BlkR.live_row {R : Rows} {bs : List (Nat × Nat × Nat)} (h : BlkR R bs) (asc : ∀ r ∈ R, r.Pairwise (· < ·)) {c : Nat × Nat × Nat} (hc : c ∈ bs) {k : Nat} (hk : k < c.2.1) : row (liveR R) (c.1 + k) = ((List.range c.2.1).filter (inn c.2.1 c.2.2 k)).map fun (j : Nat) => ((c.1 + j : Nat) : Int) := by
  have pl : c.1 + k < (liveR R).length := by
    have := h.in_ c hc
    rw [liveR_len]
    omega
  have a1 : (row (liveR R) (c.1 + k)).Pairwise (· < ·) := by
    rw [row_get (List.getElem?_eq_getElem pl)]
    exact liveR_asc asc _ (List.getElem_mem pl)
  have a2 : (((List.range c.2.1).filter (inn c.2.1 c.2.2 k)).map fun (j : Nat) => ((c.1 + j : Nat) : Int)).Pairwise (· < ·) := List.pairwise_map.mpr ((List.Pairwise.filter _ List.pairwise_lt_range).imp fun hab => by omega)
  refine List.Perm.eq_of_pairwise (le := (· < ·)) (fun a b _ _ h1 h2 => by omega) a1 a2 ((List.perm_ext_iff_of_nodup (a1.imp fun h => by omega) (a2.imp fun h => by omega)).mpr fun t => ?_)
  rw [h.blk_live hc hk, List.mem_map]
  constructor
  · rintro ⟨j, hj, rfl⟩
    exact ⟨j, List.mem_filter.mpr ⟨List.mem_range.mpr (inn_lt hj).2, hj⟩, rfl⟩
  · rintro ⟨j, hj, rfl⟩
    exact ⟨j, (List.mem_filter.mp hj).2, rfl⟩
def shB (n : Nat) (bs : List (Nat × Nat × Nat)) : List (Nat × Nat × Nat) := bs.map fun c => (n + c.1, c.2.1, c.2.2)
def shR (n : Nat) (R : Rows) : Rows := R.map fun r => r.map fun t => (n : Int) + t
theorem row_shR {n : Nat} {R : Rows} {p : Nat} {t : Int} : t ∈ row (shR n R) p ↔ ∃ u ∈ row R p, t = (n : Int) + u := by
  unfold row shR
  rw [List.getElem?_map]
  cases R[p]? with
  | none => exact ⟨fun h => (by cases h), fun ⟨_, h, _⟩ => (by cases h)⟩
  | some r =>
    show t ∈ r.map _ ↔ ∃ u ∈ r, _
    rw [List.mem_map]
    exact ⟨fun ⟨u, h, e⟩ => ⟨u, h, e.symm⟩, fun ⟨u, h, e⟩ => ⟨u, h, e.symm⟩⟩
theorem BlkR.app {A : Rows} {as : List (Nat × Nat × Nat)} (hA : BlkR A as) {B : Rows} {bs : List (Nat × Nat × Nat)} (hB : BlkR B bs) : BlkR (A ++ shR A.length B) (as ++ shB A.length bs) := by
  induction hB with
  | nil =>
    show BlkR (A ++ []) (as ++ [])
    rw [List.append_nil, List.append_nil]
    exact hA
  | @snoc R new bs s kd h s1 s4 k3 len mem all ih =>
    have e1 : A ++ shR A.length (R ++ new) = (A ++ shR A.length R) ++ shR A.length new := by
      unfold shR
      rw [List.map_append, List.append_assoc]
    have e2 : as ++ shB A.length (bs ++ [(R.length, s, kd)]) = (as ++ shB A.length bs) ++ [((A ++ shR A.length R).length, s, kd)] := by
      unfold shB shR
      rw [List.map_append, List.append_assoc, List.length_append, List.length_map]
      rfl
    have el : (A ++ shR A.length R).length = A.length + R.length := by
      unfold shR
      rw [List.length_append, List.length_map]
    rw [e1, e2]
    refine .snoc ih s1 s4 k3 (by unfold shR; rw [List.length_map]; exact len) (fun k t ht => ?_) (fun k j hj => ?_)
    · obtain ⟨u, hu, rfl⟩ := row_shR.mp ht
      rw [el]
      rcases mem k u hu with ⟨j, hj, rfl⟩ | z
      · exact .inl ⟨j, hj, by omega⟩
      · exact .inr (by omega)
    · rw [el]
      exact row_shR.mpr ⟨_, all k j hj, by omega⟩
end Mt
set_option maxRecDepth 100000
set_option maxHeartbeats 2000000
namespace PySem.W
open PySem PySem.Spec PyProof.Rows Builtin
end PySem.W
namespace Fo
open PySem PySem.Spec PyProof.Rows L2
/-- the class of the tables, by what the text's top leaves of it -/
structure TC (K : PySem.W.Frag) (C : Addr) : Prop where
  cl : Cls K C
  ha : PySem.W.findIn K (.ref C) "__class__" = some (some (.builtin "object.__class__"))
  hn : PySem.W.specialIn K (.builtin "object.__class__") "__get__" = some (some (.builtin "getset_descriptor.__get__"))
  htk : PySem.W.takesIn K (.builtin "object.__class__") = some true
  hm : PySem.W.mroIn K C (.type "object") = some true
  ne : PySem.W.findIn K (.ref C) "__ne__" = some (some (.builtin "object.__ne__"))
  nR : NoAttr K C "rows"
  nS : NoAttr K C "size"
  kI : PySem.W.kitOne K (.ref C) (.type "int") = some false
  kB : PySem.W.kitOne K (.ref C) (.type "bool") = some false
  kT : PySem.W.kitOne K (.ref C) (.type "tuple") = some false
  kS : PySem.W.kitOne K (.ref C) (.type "str") = some false
  kL : PySem.W.kitOne K (.ref C) (.type "list") = some false
theorem TC.ty {K : PySem.W.Frag} {C : Addr} (c : TC K C) {H : Hp} {a dx : Addr} {fs : List (Str × V)} (h : H a = some (.ins C dx fs)) : TyX K H (.ref a) (.ref C) := .base (.ins h c.cl c.ha c.hn c.htk c.hm)
theorem for_enumT {K : PySem.W.Frag} {a : Addr} {xs : List V} {g : TG} {tb : TS} {D : Ends} {σ : L2.St} {H : Hp} (Pv : Nat → L2.St → Hp → Prop) (h0 : Pv 0 σ H) (hl : ∀ i σ H, i ≤ xs.length → Pv i σ H → SqT K H a xs)
    (hs : ∀ i x σ H T, xs[i]? = some x → Pv i σ H → H T = none → g (.ref T) σ (upd H T (.tup [.int (i : Nat), x])) fun σ2 H2 => tb { D with nx := Pv (i + 1), ct := Pv (i + 1), bk := D.nx } σ2 H2) (hd : ∀ σ H, Pv xs.length σ H → D.nx σ H) :
    ∃ W : Nat → Nat → L2.St → Hp → Prop, (∃ m, W 0 m σ H) ∧ ∀ i m σ H, W i m σ H →
      ((IteT K a).stop i H ∧ D.nx σ H) ∨ ((IteT K a).go i H ∧ ∃ N : L2.St → Hp → Prop, (∀ σ' H', N σ' H' → ∃ m', m' < m ∧ W (i + 1) m' σ' H') ∧ ∀ x H', (IteT K a).yld i H x H' → g x σ H' fun σ2 H2 => tb { D with nx := N, ct := N, bk := D.nx } σ2 H2) := by
  refine ⟨fun i m σ H => m = xs.length - i ∧ i ≤ xs.length ∧ Pv i σ H, ⟨xs.length, by simp, Nat.zero_le _, h0⟩, ?_⟩
  rintro i m σ H ⟨rfl, hi, p⟩
  have q := hl i σ H hi p
  by_cases hlt : i < xs.length
  · refine .inr ⟨⟨xs, xs[i], q, by simp [hlt]⟩, Pv (i + 1), fun σ' H' p' => ⟨xs.length - (i + 1), by omega, rfl, hlt, p'⟩, fun x H' y => ?_⟩
    obtain ⟨T, x', rfl, nT, rfl, y⟩ := y
    exact hs i x' σ H T (y xs q) p nT
  · have e : i = xs.length := by omega
    subst e
    exact .inl ⟨⟨xs, q, Nat.le_refl _⟩, hd σ H p⟩
theorem lc_enumT {K : PySem.W.Frag} {a : Addr} {xs : List V} {g : TG} {tt : TT} {te : TE} {vs : List Nat} {σ : L2.St} {H1 : Hp} {D : Addr} {Qd : Hp → Prop} (Pv : Nat → Hp → Prop) (h0 : Pv 0 (upd H1 D (.lst []))) (hl : ∀ i H, i ≤ xs.length → Pv i H → SqT K H a xs)
    (hs : ∀ i x H T, xs[i]? = some x → Pv i H → H T = none → g (.ref T) (wipe σ vs) (upd H T (.tup [.int (i : Nat), x])) fun σ2 H2 => wipe σ2 vs = wipe σ vs ∧ tt σ2 H2 fun b H3 =>
      if b = true then te σ2 H3 fun y H4 => ∃ acc, H4 D = some (.lst acc) ∧ acc.length < sizeLine ∧ Pv (i + 1) (upd H4 D (.lst (acc ++ [y]))) else Pv (i + 1) H3) (hd : ∀ H, Pv xs.length H → Qd H) :
    ∃ W : Nat → Nat → Hp → Prop, (∃ m, W 0 m (upd H1 D (.lst []))) ∧ ∀ i m H, W i m H →
      ((IteT K a).stop i H ∧ Qd H) ∨ ((IteT K a).go i H ∧ ∃ Nx : Hp → Prop, (∀ H', Nx H' → ∃ m', m' < m ∧ W (i + 1) m' H') ∧ ∀ x H', (IteT K a).yld i H x H' → g x (wipe σ vs) H' fun σ2 H2 => wipe σ2 vs = wipe σ vs ∧ tt σ2 H2 fun b H3 =>
        if b = true then te σ2 H3 fun y H4 => ∃ acc, H4 D = some (.lst acc) ∧ acc.length < sizeLine ∧ Nx (upd H4 D (.lst (acc ++ [y]))) else Nx H3) := by
  refine ⟨fun i m H => m = xs.length - i ∧ i ≤ xs.length ∧ Pv i H, ⟨xs.length, by simp, Nat.zero_le _, h0⟩, ?_⟩
  rintro i m H ⟨rfl, hi, p⟩
  have q := hl i H hi p
  by_cases hlt : i < xs.length
  · refine .inr ⟨⟨xs, xs[i], q, by simp [hlt]⟩, Pv (i + 1), fun H' p' => ⟨xs.length - (i + 1), by omega, rfl, hlt, p'⟩, fun x H' y => ?_⟩
    obtain ⟨T, x', rfl, nT, rfl, y⟩ := y
    exact hs i x' H T (y xs q) p nT
  · have e : i = xs.length := by omega
    subst e
    exact .inl ⟨⟨xs, q, Nat.le_refl _⟩, hd H p⟩
theorem lc_zipT {K : PySem.W.Frag} {a b : Addr} {xs ys : List V} {g : TG} {tt : TT} {te : TE} {vs : List Nat} {σ : L2.St} {H1 : Hp} {D : Addr} {Qd : Hp → Prop} (hle : ys.length ≤ xs.length) (Pv : Nat → Hp → Prop) (h0 : Pv 0 (upd H1 D (.lst []))) (hl : ∀ i H, i ≤ ys.length → Pv i H → SqT K H a xs ∧ SqT K H b ys)
    (hs : ∀ i x y H T, xs[i]? = some x → ys[i]? = some y → Pv i H → H T = none → g (.ref T) (wipe σ vs) (upd H T (.tup [x, y])) fun σ2 H2 => wipe σ2 vs = wipe σ vs ∧ tt σ2 H2 fun c H3 =>
      if c = true then te σ2 H3 fun y H4 => ∃ acc, H4 D = some (.lst acc) ∧ acc.length < sizeLine ∧ Pv (i + 1) (upd H4 D (.lst (acc ++ [y]))) else Pv (i + 1) H3) (hd : ∀ H, Pv ys.length H → Qd H) :
    ∃ W : Nat → Nat → Hp → Prop, (∃ m, W 0 m (upd H1 D (.lst []))) ∧ ∀ i m H, W i m H →
      ((RZ.ItzT K a b).stop i H ∧ Qd H) ∨ ((RZ.ItzT K a b).go i H ∧ ∃ Nx : Hp → Prop, (∀ H', Nx H' → ∃ m', m' < m ∧ W (i + 1) m' H') ∧ ∀ x H', (RZ.ItzT K a b).yld i H x H' → g x (wipe σ vs) H' fun σ2 H2 => wipe σ2 vs = wipe σ vs ∧ tt σ2 H2 fun c H3 =>
        if c = true then te σ2 H3 fun y H4 => ∃ acc, H4 D = some (.lst acc) ∧ acc.length < sizeLine ∧ Nx (upd H4 D (.lst (acc ++ [y]))) else Nx H3) := by
  refine ⟨fun i m H => m = ys.length - i ∧ i ≤ ys.length ∧ Pv i H, ⟨ys.length, by simp, Nat.zero_le _, h0⟩, ?_⟩
  rintro i m H ⟨rfl, hi, p⟩
  obtain ⟨q1, q2⟩ := hl i H hi p
  by_cases hlt : i < ys.length
  · have hlt2 : i < xs.length := Nat.lt_of_lt_of_le hlt hle
    refine .inr ⟨⟨xs, ys, xs[i], ys[i], q1, q2, by simp [hlt2], by simp [hlt]⟩, Pv (i + 1), fun H' p' => ⟨ys.length - (i + 1), by omega, rfl, hlt, p'⟩, fun x H' y => ?_⟩
    obtain ⟨T, x', y', rfl, nT, rfl, z1, z2⟩ := y
    exact hs i x' y' H T (z1 xs q1) (z2 ys q2) p nT
  · have e : i = ys.length := by omega
    subst e
    exact .inl ⟨⟨xs, ys, q1, q2, .inr (Nat.le_refl _)⟩, hd H p⟩
def isIntV : V → Bool
  | .int _ => true
  | _ => false
def numV (b : Int) : V → Bool
  | .int i => decide (0 ≤ i) && decide (i < b)
  | _ => false
/-- a thing whose kind is known: of a built-in type, or of the tables' class -/
def Th (K : PySem.W.Frag) (C : Addr) (H : Hp) (x : V) : Prop := ∃ t, TyX K H x t ∧ (∀ c, t = .ref c → c = C)
theorem tyX_same {K : PySem.W.Frag} {H H' : Hp} (e : Same H H') {x : V} {t : Value} (h : TyX K H x t) : TyX K H' x t := by
  cases h with
  | base b =>
    cases b with
    | non => exact .base .non
    | bl b => exact .base (.bl b)
    | int i => exact .base (.int i)
    | str x => exact .base (.str x)
    | flt x => exact .base (.flt x)
    | lst h => exact .base (.lst (e _ _ h))
    | frz h => exact .base (.frz (e _ _ h))
    | tup h => exact .base (.tup (e _ _ h))
    | dK h => exact .base (.dK (e _ _ h))
    | dT h => exact .base (.dT (e _ _ h))
    | ins h a b c d f => exact .base (.ins (e _ _ h) a b c d f)
  | byt b => exact .byt b
  | set h => exact .set (e _ _ h)
  | kList a b => exact .kList a b
  | kTuple a b => exact .kTuple a b
  | kDict a b => exact .kDict a b
  | fTuple h => exact .fTuple (e _ _ h)
  | fDict h => exact .fDict (e _ _ h)
theorem Th.same {K : PySem.W.Frag} {C : Addr} {H H' : Hp} (e : Same H H') {x : V} (h : Th K C H x) : Th K C H' x := by
  obtain ⟨t, a, b⟩ := h
  exact ⟨t, tyX_same e a, b⟩
theorem th_int {K : PySem.W.Frag} {C : Addr} {H : Hp} {i : Int} : Th K C H (.int i) := ⟨_, .base (.int i), fun _ q => nomatch q⟩
theorem th_kit {K : PySem.W.Frag} {C : Addr} (c : TC K C) {H : Hp} {x : V} (h : Th K C H x) : ∃ t b1 b2, TyX K H x t ∧ PySem.W.kitOne K t (.type "int") = some b1 ∧ PySem.W.kitOne K t (.type "bool") = some b2 ∧ (b1 && !b2) = isIntV x := by
  obtain ⟨t, ty, ht⟩ := h
  have go : ∀ (n : String) (b1 b2 : Bool), t = .type n → kitB n "int" = some b1 → kitB n "bool" = some b2 → (b1 && !b2) = isIntV x → ∃ t b1 b2, TyX K H x t ∧ PySem.W.kitOne K t (.type "int") = some b1 ∧ PySem.W.kitOne K t (.type "bool") = some b2 ∧ (b1 && !b2) = isIntV x :=
    fun n b1 b2 e h1 h2 h3 => ⟨t, b1, b2, ty, by rw [e]; exact kit_ty h1, by rw [e]; exact kit_ty h2, h3⟩
  cases ty with
  | base b =>
    cases b with
    | non => exact go "NoneType" false false rfl (by decide +kernel) (by decide +kernel) rfl
    | bl b => exact go "bool" true true rfl (by decide +kernel) (by decide +kernel) rfl
    | int i => exact go "int" true false rfl (by decide +kernel) (by decide +kernel) rfl
    | str x => exact go "str" false false rfl (by decide +kernel) (by decide +kernel) rfl
    | flt x => exact go "float" false false rfl (by decide +kernel) (by decide +kernel) rfl
    | lst h => exact go "list" false false rfl (by decide +kernel) (by decide +kernel) rfl
    | frz h => exact go "list" false false rfl (by decide +kernel) (by decide +kernel) rfl
    | tup h => exact go "tuple" false false rfl (by decide +kernel) (by decide +kernel) rfl
    | dK h => exact go "dict" false false rfl (by decide +kernel) (by decide +kernel) rfl
    | dT h => exact go "dict" false false rfl (by decide +kernel) (by decide +kernel) rfl
    | @ins a C' dx fs h a1 b1 c1 d1 f1 =>
      have e := ht C' rfl
      subst e
      exact ⟨_, false, false, .base (.ins h a1 b1 c1 d1 f1), c.kI, c.kB, rfl⟩
  | byt b => exact go "bytes" false false rfl (by decide +kernel) (by decide +kernel) rfl
  | set h => exact go "set" false false rfl (by decide +kernel) (by decide +kernel) rfl
  | kList a b => exact go "list" false false rfl (by decide +kernel) (by decide +kernel) rfl
  | kTuple a b => exact go "tuple" false false rfl (by decide +kernel) (by decide +kernel) rfl
  | kDict a b => exact go "dict" false false rfl (by decide +kernel) (by decide +kernel) rfl
  | fTuple h => exact go "tuple" false false rfl (by decide +kernel) (by decide +kernel) rfl
  | fDict h => exact go "dict" false false rfl (by decide +kernel) (by decide +kernel) rfl
theorem tyX_sqT {K : PySem.W.Frag} {H : Hp} {a : Addr} {xs : List V} (h : SqT K H a xs) : TyX K H (.ref a) (.type "tuple") := by
  rcases h with (h | ⟨o, h⟩) | ⟨o, its, n, h, hc, _⟩
  · exact .base (.tup h)
  · exact .fTuple h
  · exact .kTuple h hc
/-- a thing as the judges look at it: a tuple of things, or no tuple -/
inductive Tg (K : PySem.W.Frag) (C : Addr) (H : Hp) : V → Option (List V) → Prop
  | tup {a : Addr} {xs : List V} (h : SqT K H a xs) (hi : ∀ y ∈ xs, Th K C H y) (hz : xs.length ≤ 100000) : Tg K C H (.ref a) (some xs)
  | no {x : V} {t : Value} (ty : TyX K H x t) (hk : PySem.W.kitOne K t (.type "tuple") = some false) : Tg K C H x none
theorem Tg.same {K : PySem.W.Frag} {C : Addr} {H H' : Hp} (e : Same H H') {x : V} {o : Option (List V)} (h : Tg K C H x o) : Tg K C H' x o := by
  cases h with
  | tup h hi hz => exact .tup (sqT_same e h) (fun y hy => (hi y hy).same e) hz
  | no ty hk => exact .no (tyX_same e ty) hk
theorem Tg.ints {K : PySem.W.Frag} {C : Addr} {H : Hp} {a : Addr} {ns : List Int} (h : SqT K H a (ns.map V.int)) (hz : ns.length ≤ 100000) : Tg K C H (.ref a) (some (ns.map V.int)) := .tup h (fun y hy => by
  obtain ⟨n, _, rfl⟩ := List.mem_map.mp hy
  exact th_int) (by rw [List.length_map]; exact hz)
/-- whether it is an ascending tuple of numbers below b -/
def ascV (b : Int) : List V → Bool
  | [] => true
  | [x] => numV b x
  | x :: y :: r => numV b x && (match x, y with | .int i, .int j => decide (i < j) | _, _ => false) && ascV b (y :: r)
def ltV : V → V → Bool
  | .int i, .int j => decide (i < j)
  | _, _ => false
theorem ascV_eq (b : Int) : ∀ xs : List V, ascV b xs = (xs.all (numV b) && ((xs.zip (xs.drop 1)).all fun p => ltV p.1 p.2))
  | [] => rfl
  | [x] => by
    show numV b x = _
    simp [List.all]
  | x :: y :: r => by
    have ih := ascV_eq b (y :: r)
    have e : ascV b (x :: y :: r) = (numV b x && ltV x y && ascV b (y :: r)) := by
      cases x <;> cases y <;> rfl
    rw [e, ih]
    simp only [List.drop_succ_cons, List.drop_zero, List.zip_cons_cons, List.all_cons]
    cases numV b x <;> cases ltV x y <;> cases numV b y <;> cases (List.all r (numV b)) <;> simp
theorem ascV_ints {b : Int} : ∀ {ns : List Int}, ns.Pairwise (· < ·) → (∀ x ∈ ns, 0 ≤ x ∧ x < b) → ascV b (ns.map V.int) = true
  | [], _, _ => rfl
  | [x], _, h => by
    have := h x List.mem_cons_self
    show (decide (0 ≤ x) && decide (x < b)) = true
    simp [this.1, this.2]
  | x :: y :: r, hp, h => by
    have ih := ascV_ints (ns := y :: r) (List.pairwise_cons.mp hp).2 fun z hz => h z (List.mem_cons_of_mem _ hz)
    have h1 := h x List.mem_cons_self
    have h2 := (List.pairwise_cons.mp hp).1 y List.mem_cons_self
    show ((decide (0 ≤ x) && decide (x < b)) && decide (x < y) && ascV b ((y :: r).map V.int)) = true
    rw [ih]
    simp [h1.1, h1.2, h2]
theorem all_num_ints {b : Int} {xs : List V} (h : xs.all (numV b) = true) : ∃ ns : List Int, xs = ns.map V.int ∧ ∀ x ∈ ns, 0 ≤ x ∧ x < b := by
  induction xs with
  | nil => exact ⟨[], rfl, fun _ h => (by cases h)⟩
  | cons x r ih =>
    rw [List.all_cons, Bool.and_eq_true] at h
    obtain ⟨ns, e, hb⟩ := ih h.2
    cases x with
    | int i =>
      have h1 : (decide (0 ≤ i) && decide (i < b)) = true := h.1
      rw [Bool.and_eq_true, decide_eq_true_eq, decide_eq_true_eq] at h1
      refine ⟨i :: ns, by rw [e]; rfl, fun x hx => ?_⟩
      rcases List.mem_cons.mp hx with q | q
      · rw [q]; exact h1
      · exact hb x q
    | _ => exact absurd h.1 (by simp [numV])
def tf (v : V) (n : Nat) : List (Str × V) := putF "size" (.int (n : Int)) (putF "rows" v [])
theorem rs_ne : ¬ (("rows" : Str) = "size") := by decide +kernel
theorem tf_rows (v : V) (n : Nat) : (tf v n).lookup ("rows" : Str) = some v := by
  unfold tf
  rw [lookup_putF, if_neg rs_ne, lookup_putF, if_pos rfl]
theorem tf_size (v : V) (n : Nat) : (tf v n).lookup ("size" : Str) = some (.int (n : Int)) := by
  unfold tf
  rw [lookup_putF, if_pos rfl]
theorem tf_eq (v : V) (n : Nat) : tf v n = ([("rows", v), ("size", V.int (n : Int))] : List (Str × V)) := by
  show (if ("rows" : Str) = "size" then [(("rows" : Str), V.int (n : Int))] else (("rows" : Str), v) :: putF "size" (V.int (n : Int)) []) = _
  rw [if_neg rs_ne]
  all_goals rfl
theorem tf_put (v u : V) (n m : Nat) : putF "size" (.int (m : Int)) (putF "rows" u (tf v n)) = tf u m := by
  rw [tf_eq, tf_eq]
  have e1 : putF "rows" u [("rows", v), ("size", V.int (n : Int))] = ([("rows", u), ("size", V.int (n : Int))] : List (Str × V)) := by
    show (if ("rows" : Str) = "rows" then (("rows" : Str), u) :: [(("size" : Str), V.int (n : Int))] else _) = _
    rw [if_pos rfl]
  rw [e1]
  show (if ("rows" : Str) = "size" then _ else (("rows" : Str), u) :: (if ("size" : Str) = "size" then [(("size" : Str), V.int (m : Int))] else _)) = _
  rw [if_neg rs_ne, if_pos rfl]
def TableAt (K : PySem.W.Frag) (C : Addr) (H : Hp) (x : V) (rows : List (List Int)) : Prop := ∃ p dx v, x = .ref p ∧ H p = some (.ins C dx (tf v rows.length)) ∧ RowsAt K H v rows
theorem TableAt.same {K : PySem.W.Frag} {C : Addr} {H H' : Hp} {x : V} {rows : List (List Int)} (h : TableAt K C H x rows) (e : Same H H') : TableAt K C H' x rows := by
  obtain ⟨p, dx, v, ex, hp, hr⟩ := h
  exact ⟨p, dx, v, ex, e _ _ hp, hr.same e⟩
theorem TableAt.gr {t l : Addr} {K : PySem.W.Frag} {C : Addr} {H H' : Hp} {x : V} {rows : List (List Int)} (h : TableAt K C H x rows) (g : Gr t H H') (T : Tape H t l) : TableAt K C H' x rows := by
  obtain ⟨p, dx, v, ex, hp, hr⟩ := h
  have hpt : p ≠ t := by
    obtain ⟨ns, b, c, d, e, ht, _⟩ := T
    exact ne_of hp ht (by intro z; cases z)
  exact ⟨p, dx, v, ex, g _ _ hpt hp, hr.gr g T⟩
/-- what changes at an instance is no tuple -/
theorem sqT_ins {K : PySem.W.Frag} {H H' : Hp} {a p C dx : Addr} {fs : List (Str × V)} {xs : List V} (h : SqT K H a xs) (e : H p = some (.ins C dx fs)) (k : ∀ b o, b ≠ p → H b = some o → H' b = some o) : SqT K H' a xs := by
  rcases h with (h | ⟨o, h⟩) | h
  · exact .inl (.inl (k _ _ (ne_of h e (by intro z; cases z)) h))
  · exact .inl (.inr ⟨o, k _ _ (ne_of h e (by intro z; cases z)) h⟩)
  · exact .inr h
theorem RowsT.ins {K : PySem.W.Frag} {H H' : Hp} {p C dx : Addr} {fs : List (Str × V)} (e : H p = some (.ins C dx fs)) (k : ∀ b o, b ≠ p → H b = some o → H' b = some o) : ∀ {vs : List V} {rs : List (List Int)}, RowsT K H vs rs → RowsT K H' vs rs
  | _, _, .nil => .nil
  | _, _, .cons h r => .cons (sqT_ins h e k) (r.ins e k)
theorem RowsAt.ins {K : PySem.W.Frag} {H H' : Hp} {p C dx : Addr} {fs : List (Str × V)} {v : V} {rows : List (List Int)} (h : RowsAt K H v rows) (e : H p = some (.ins C dx fs)) (k : ∀ b o, b ≠ p → H b = some o → H' b = some o) : RowsAt K H' v rows := by
  obtain ⟨a, vs, ev, h1, h2⟩ := h
  exact ⟨a, vs, ev, sqT_ins h1 e k, h2.ins e k⟩
theorem PE.imp {X : Cx} {e : Expr} {t t' : TE} (h : PE X e t) (i : ∀ σ H Q, t' σ H Q → t σ H Q) : PE X e t' := ⟨fun pins s σ H Q I q => h.run pins s σ H Q I (i σ H Q q)⟩
/-- the class, ready to be called and compared -/
structure MkT (P : Program) (w : World) (K : PySem.W.Frag) (mg : Str → Option Value) (base : Heap) (C : Addr) (n m : Nat) (spI spE : Sp) : Prop where
  mgC : mg "Table" = some (.ref C)
  tc : TC K C
  ini : ∃ f fd, Mk K C f ∧ FnOk P w K mg base CX0 n f fd ["self", "rows"] spI ∧ Binds K fd ["self", "rows"] []
  eqm : ∃ f fd, FnOk P w K mg base CX0 m f fd ["self", "other"] spE ∧ Binds K fd ["self", "other"] [] ∧ PySem.W.findIn K (.ref C) "__eq__" = some (some (.ref f)) ∧ PySem.W.isFn K (.ref f) = true
def spInit (K : PySem.W.Frag) (C : Addr) : Sp := fun vs H Q _ => ∃ (p dx : Addr) (v : V) (rows : List (List Int)), vs = [.ref p, v] ∧ H p = some (.ins C dx []) ∧ Good rows ∧ rows.length ≤ 12 ∧ RowsAt K H v rows ∧ ∀ H' : Hp, (∀ b o, b ≠ p → H b = some o → H' b = some o) → H' p = some (.ins C dx (tf v rows.length)) → Q .non H'
def tTable (K : PySem.W.Frag) (C : Addr) (te : TE) : TE := fun σ H Q => te σ H fun v H1 => ∃ rows, Good rows ∧ rows.length ≤ 12 ∧ RowsAt K H1 v rows ∧ ∀ p dx H2, Same H1 H2 → H1 p = none → H2 p = some (.ins C dx (tf v rows.length)) → Q (.ref p) H2
def tUp (te : TE) : TE := fun σ H Q => ∃ Q' : VK, te σ H Q' ∧ ∀ v H1, Q' v H1 → Q v H1
theorem pe_up {X : Cx} {e : Expr} {te : TE} (h : PE X e te) : PE X e (tUp te) := ⟨fun pins s σ H Q I ⟨Q', h1, h2⟩ => thn (h.run pins s σ H Q' I h1) fun u s1 ⟨v, H1, I1, r, q⟩ => ⟨v, H1, I1, r, h2 v H1 q⟩⟩
theorem pe_makeTable {X : Cx} {C : Addr} {n m : Nat} {spE : Sp} {e : Expr} {te : TE} {p pos : Pos} (G : MkT X.prog X.w X.K X.mg X.base C n m (spInit X.K C) spE) (hr : Room (n + 1) X.A) (ha : PE X e te) (hg : Gl X "Table" := by rfl)
    (hst : starEach [e] X.env = (false, eval e X.env) :: starEach [] X.env := by rfl) : PE X (.Call (.Name "Table" p) [e] [] pos) (tTable X.K C te) := by
  obtain ⟨f, fd, M, F, b⟩ := G.ini
  have base := pe_make (X := X) (x := "Table") (p := p) (pos := pos) M F hr hg G.mgC b .nil (pass0 (X := X)) (pa_cons (pe_up ha) pa_nil hst) (by decide) hst rfl
  refine PE.imp base fun σ H Q h => ⟨_, h, fun v H1 ⟨rows, hG, hl, hR, k⟩ x dx nx ndx ne => ?_⟩
  have hdx : (upd (upd H1 dx (.own x)) x (.ins C dx [])) x = some (.ins C dx []) := upd_same
  have s1 : Same H1 (upd (upd H1 dx (.own x)) x (.ins C dx [])) := (same_new ndx).trans (same_new (by rw [upd_ne ne.symm]; exact nx))
  refine ⟨x, dx, v, rows, rfl, hdx, hG, hl, hR.same s1, fun H' k1 k2 => ⟨rfl, k x dx H' (fun b o e => ?_) nx k2⟩⟩
  have nb : b ≠ x := ne_of_none e nx
  exact k1 _ _ nb (s1 _ _ e)
/-- what == promises -/
def spEqT (K : PySem.W.Frag) (C : Addr) : Sp := fun vs H Q _ => ∃ (x y : V) (r1 r2 : List (List Int)), vs = [x, y] ∧ TableAt K C H x r1 ∧ TableAt K C H y r2 ∧ ∀ H', Same H H' → Q (.bl (decide (r1 = r2))) H'
theorem TableAt.tyx {K : PySem.W.Frag} {C : Addr} (c : TC K C) {H : Hp} {x : V} {rows : List (List Int)} (h : TableAt K C H x rows) : TyX K H x (.ref C) := by
  obtain ⟨p, dx, v, rfl, hp, _⟩ := h
  exact c.ty hp
theorem eqv_I (a b : List Int) : PyData.eqv (dI a) (dI b) = decide (a = b) := by
  show PyData.eqv (.tuple _) (.tuple _) = _
  rw [PyData.eqv]
  exact PySem.W.ked_eqvAll a b
theorem eqvAll_R : ∀ (r1 r2 : List (List Int)), PyData.eqvAll (r1.map dI) (r2.map dI) = decide (r1 = r2)
  | [], [] => by simp [PyData.eqvAll]
  | [], _ :: _ => by simp [PyData.eqvAll]
  | _ :: _, [] => by simp [PyData.eqvAll]
  | x :: xs, y :: ys => by
    rw [List.map_cons, List.map_cons, PyData.eqvAll, eqv_I, eqvAll_R xs ys, ← Bool.decide_and]
    exact decide_eq_decide.mpr (by rw [List.cons.injEq])
theorem eqv_R (r1 r2 : List (List Int)) : PyData.eqv (dR r1) (dR r2) = decide (r1 = r2) := by
  show PyData.eqv (.tuple _) (.tuple _) = _
  rw [PyData.eqv]
  exact eqvAll_R r1 r2
theorem eqv_L (r1 r2 : List (List Int)) : PyData.eqv (.list (r1.map dI)) (.list (r2.map dI)) = decide (r1 = r2) := by
  rw [PyData.eqv]
  exact eqvAll_R r1 r2
theorem lay_ints : ∀ ns : List Int, PyData.canLayAll0 (ns.map PyData.int) = true
  | [] => by rw [List.map_nil, PyData.canLayAll0]
  | n :: r => by rw [List.map_cons, PyData.canLayAll0, lay_ints r, PyData.canLay0]; rfl
theorem dep_ints : ∀ ns : List Int, PyData.depthAll (ns.map PyData.int) = 0
  | [] => by rw [List.map_nil, PyData.depthAll]
  | n :: r => by rw [List.map_cons, PyData.depthAll, dep_ints r, PyData.depth]; rfl
theorem lay_rows : ∀ rs : List (List Int), PyData.canLayAll0 (rs.map dI) = true
  | [] => by rw [List.map_nil, PyData.canLayAll0]
  | n :: r => by
    rw [List.map_cons, PyData.canLayAll0, lay_rows r]
    show (PyData.canLay0 (.tuple _) && true) = true
    rw [PyData.canLay0, lay_ints]
    rfl
theorem dep_rows : ∀ rs : List (List Int), PyData.depthAll (rs.map dI) ≤ 1
  | [] => by rw [List.map_nil, PyData.depthAll]; decide
  | n :: r => by
    rw [List.map_cons, PyData.depthAll]
    refine Nat.max_le.mpr ⟨?_, dep_rows r⟩
    show PyData.depth (.tuple _) ≤ 1
    rw [PyData.depth, dep_ints]
    decide
theorem sh_I (ns : List Int) : SeqAt.shaped (dI ns) = true := by
  show SeqAt.shaped (.tuple _) = true
  unfold SeqAt.shaped
  rw [PyData.canLay0, PyData.depth, lay_ints, dep_ints]
  rfl
theorem sh_R (rs : List (List Int)) : SeqAt.shaped (dR rs) = true := by
  show SeqAt.shaped (.tuple _) = true
  unfold SeqAt.shaped
  rw [PyData.canLay0, PyData.depth, lay_rows, Bool.true_and]
  exact decide_eq_true (by have := dep_rows rs; omega)
theorem sh_L (rs : List (List Int)) : SeqAt.shaped (.list (rs.map dI)) = true := by
  unfold SeqAt.shaped
  rw [PyData.canLay0, PyData.depth, lay_rows, Bool.true_and]
  exact decide_eq_true (by have := dep_rows rs; omega)
end Fo
set_option maxRecDepth 100000
set_option maxHeartbeats 4000000
namespace Fo
open PySem PySem.Spec PyProof.Rows L2
def top (i : Nat) : Stmt := PySem.Challenge.pw_fullorring_k21_whole_pieces_beside_and_r.main.body.getD i (.Pass ⟨0, 0, 0, 0⟩)
abbrev s_law_tape : Stmt := top 45
abbrev n_law_tape : List Str := ["script"]
theorem sc_law_tape : FnScope n_law_tape ["script"] (defScope s_law_tape) := ⟨rfl, rfl, rfl, by decide +kernel, rfl, by decide +kernel, by decide +kernel⟩
abbrev s_law_pick : Stmt := top 46
abbrev n_law_pick : List Str := ["tape", "size", "digit", "cell", "mixed"]
theorem sc_law_pick : FnScope n_law_pick ["tape", "size"] (defScope s_law_pick) := ⟨rfl, rfl, rfl, by decide +kernel, rfl, by decide +kernel, by decide +kernel⟩
abbrev s_law_order : Stmt := top 47
abbrev n_law_order : List Str := ["tape", "many", "left", "k"]
theorem sc_law_order : FnScope n_law_order ["tape", "many"] (defScope s_law_order) := ⟨rfl, rfl, rfl, by decide +kernel, rfl, by decide +kernel, by decide +kernel⟩
abbrev s_law_blocks : Stmt := top 49
abbrev n_law_blocks : List Str := ["tape", "most", "found", "base", "size", "kind", "k", "row", "ahead", "j", "thing"]
theorem sc_law_blocks : FnScope n_law_blocks ["tape", "most"] (defScope s_law_blocks) := ⟨rfl, rfl, rfl, by decide +kernel, rfl, by decide +kernel, by decide +kernel⟩
section
variable {P : Program} {w : World} {K : PySem.W.Frag} {mg : Str → Option Value} {base : Heap}
def spTape (K : PySem.W.Frag) : Sp := fun vs H Q _ => ∃ (a : Addr) (ns : List Int), vs = [.ref a] ∧ SqL K H a (ns.map V.int) ∧ ∀ t l H', Same H H' → H t = none → H l = none → Tape H' t l → Q (.ref t) H'
theorem ok_tape (A : At K mg "_law_tape" s_law_tape ["script"]) (T : Tx mg) : Dfn P w K mg base "_law_tape" ["script"] 1 (spTape K) := by
  refine A.ok sc_law_tape (fun vs H Q E h => ?_) (fun f cdv A outer s H vs Q E hr h => ?_)
  · obtain ⟨a, ns, rfl, _⟩ := h
    rfl
  · obtain ⟨a, ns, rfl, hS, k⟩ := h
    refine ⟨_, (pss_one (ps_ret (pe_lst (pa_cons (pe_callTy c_list (by rfl) T.list (by decide +kernel) (pa_cons (pv 0) pa_nil)) (pa_cons pe_int (pa_cons pe_int (pa_cons pe_int (pa_cons pe_int pa_nil)))))))), ?_⟩
    refine ⟨_, rfl, a, _, rfl, .inl hS, fun l hl => ⟨by show 5 ≤ sizeLine; decide, fun t ht => ?_⟩⟩
    have nlt : l ≠ t := fun q => by
      rw [← q, upd_same] at ht
      cases ht
    have ht0 : H t = none := by
      rw [upd_ne nlt.symm] at ht
      exact ht
    exact k t l _ (same_mut (same_new hl) ht0) ht0 hl ⟨ns, 0, 0, 1, 0, upd_same, by rw [upd_ne nlt, upd_same], by decide⟩
def spPick : Sp := fun vs H Q _ => ∃ (t l : Addr) (n : Int), vs = [.ref t, .int n] ∧ Tape H t l ∧ 0 < n ∧ n < 1073741824 ∧ ∀ (k : Int) (H' : Hp), 0 ≤ k → k < n → Gr t H H' → Tape H' t l → Q (.int k) H'
theorem ok_pick (A : At K mg "_law_pick" s_law_pick ["tape", "size"]) (T : Tx mg) : Dfn P w K mg base "_law_pick" ["tape", "size"] 1 spPick := by
  refine A.ok sc_law_pick (fun vs H Q E h => ?_) (fun f cdv A outer s H vs Q E hr h => ?_)
  · obtain ⟨t, l, n, rfl, _⟩ := h
    rfl
  · obtain ⟨t, l, n, rfl, ⟨ns, b, c, d, e, hT, hL, hb⟩, hn, hn2, k⟩ := h
    have hlt : l ≠ t := ne_of hL hT (ints_ne _ _ _)
    have fin : ∀ (x b c d e : Int), 0 ≤ b → Q (.int (x % n)) (upd H t (.lst [.ref l, .int b, .int c, .int d, .int e])) := fun x b c d e hb => by
      exact k _ _ (Int.emod_nonneg _ (by omega)) (Int.emod_lt_of_pos _ hn) Gr.put ⟨ns, b, c, d, e, upd_same, by rw [upd_ne hlt]; exact hL, hb⟩
    refine ⟨_, (pss_cons (ps_if (pt_cmpR op_gt (pe_ix ix_list (pv 0) pe_int (fun _ _ => rfl)) pe_int (nomark _)) (pss_cons (ps_set (i := 2) sc_law_pick.nd rfl (Or.inl rfl) (pe_op op_mod (pe_callTy c_int (by rfl) T.int (by decide +kernel) (pa_cons (pe_ix ix_list (pv 0) pe_int (fun _ _ => rfl)) pa_nil)) (pv 1)))
      (pss_cons (ps_asg (pe_op op_fdiv (pe_ix ix_list (pv 0) pe_int (fun _ _ => rfl)) (pv 1)) (pg_sub (pv 0) pe_int set_list))
      (pss_one (ps_ret (pv 2))))) pss_nil)
      (pss_cons (ps_asg (pe_op op_add (pe_ix ix_list (pv 0) pe_int (fun _ _ => rfl)) pe_int) (pg_sub (pv 0) pe_int set_list))
      (pss_cons (ps_set (i := 3) sc_law_pick.nd rfl (Or.inl rfl) pe_int)
      (Evl.pss_cut (ps_if (pt_cmpR op_lt (pe_ix ix_list (pv 0) pe_int (fun _ _ => rfl)) (pe_callB c_len (by rfl) T.len (by decide +kernel) (pa_cons (pe_ix ix_list (pv 0) pe_int (fun _ _ => rfl)) pa_nil)) (nomark _)) (pss_cons (ps_set (i := 3) sc_law_pick.nd rfl (Or.inl rfl) (pe_ix ix_list (pe_ix ix_list (pv 0) pe_int (fun _ _ => rfl)) (pe_ix ix_list (pv 0) pe_int (fun _ _ => rfl)) (fun _ _ => rfl)))
      (pss_one (ps_asg (pe_op op_add (pe_ix ix_list (pv 0) pe_int (fun _ _ => rfl)) pe_int) (pg_sub (pv 0) pe_int set_list)))) pss_nil)
      (pss_cons (ps_if (pt_cmpR op_ge (pv 3) (pe_op op_pow pe_int pe_int) (nomark _)) (pss_cons (ps_asg (pe_op op_fdiv (pv 3) (pv 1)) (pg_sub (pv 0) pe_int set_list))
      (pss_one (ps_ret (pe_op op_mod (pe_callTy c_int (by rfl) T.int (by decide +kernel) (pa_cons (pv 3) pa_nil)) (pv 1))))) pss_nil)
      (pss_cons (ps_set (i := 4) sc_law_pick.nd rfl (Or.inl rfl) (pe_op op_mod (pe_callTy c_int (by rfl) T.int (by decide +kernel) (pa_cons (pe_op op_add (pe_op op_add (pe_op op_mul (pe_ix ix_list (pv 0) pe_int (fun _ _ => rfl)) pe_int) (pe_op op_mod (pe_callTy c_int (by rfl) T.int (by decide +kernel) (pa_cons (pv 3) pa_nil)) pe_int)) (pe_op op_mul (pe_ix ix_list (pv 0) pe_int (fun _ _ => rfl)) pe_int)) pa_nil)) pe_int))
      (pss_cons (ps_set (i := 4) sc_law_pick.nd rfl (Or.inl rfl) (pe_op op_mod (pe_callTy c_int (by rfl) T.int (by decide +kernel) (pa_cons (pe_op op_mul (pv 4) (pe_op op_add (pe_op op_fdiv (pv 4) pe_int) pe_int)) pa_nil)) pe_int))
      (pss_cons (ps_asg (pv 4) (pg_sub (pv 0) pe_int set_list))
      (pss_one (ps_ret (pe_op op_mod (pe_callTy c_int (by rfl) T.int (by decide +kernel) (pa_cons (pe_op op_fdiv (pv 4) pe_int) pa_nil)) (pv 1)))))))))))), ?_⟩
    refine ⟨_, rfl, t, _, _, _, rfl, rfl, SqL.of hT, rfl, _, _, rfl, rfl, _, rfl, ?_⟩
    refine ite2 (fun _ => ?_) (fun _ => ?_)
    · -- digit = int(tape[2]) % size
      refine ⟨_, rfl, t, _, _, _, rfl, rfl, SqL.of hT, rfl, .inl ⟨_, rfl, _, rfl, _, _, rfl, rfl, hn, ?_⟩⟩
      -- tape[2] = tape[2] // size
      refine ⟨_, rfl, t, _, _, _, rfl, rfl, SqL.of hT, rfl, _, rfl, _, _, rfl, rfl, ⟨hn, hn2⟩, _, rfl, t, _, _, 2, rfl, rfl, hT, rfl, ?_⟩
      exact ⟨_, rfl, fin _ _ _ _ _ hb⟩
    · -- tape[4] = tape[4] + 1
      refine ⟨_, rfl, t, _, _, _, rfl, rfl, SqL.of hT, rfl, _, _, rfl, rfl, _, rfl, t, _, _, 4, rfl, rfl, hT, rfl, ?_⟩
      have hT1 : (upd H t (.lst [.ref l, .int b, .int c, .int d, .int (e + 1)])) t = some (.lst [.ref l, .int b, .int c, .int d, .int (e + 1)]) := upd_same
      have hL1 : (upd H t (.lst [.ref l, .int b, .int c, .int d, .int (e + 1)])) l = some (.lst (ns.map V.int)) := by rw [upd_ne hlt]; exact hL
      -- the cell
      refine ⟨fun σ' H' => ∃ z b' : Int, 0 ≤ b' ∧ σ' = [some (.ref t), some (.int n), none, some (.int z), none] ∧ H' = upd H t (.lst [.ref l, .int b', .int c, .int d, .int (e + 1)]), ?_, ?_⟩
      · refine ⟨_, rfl, t, _, _, _, rfl, rfl, SqL.of hT1, rfl, _, rfl, t, _, _, _, rfl, rfl, SqL.of hT1, rfl, l, _, rfl, .inl (SqL.of hL1), _, _, rfl, rfl, _, rfl, ?_⟩
        refine ite2 (fun hc => ?_) (fun _ => ?_)
        · have hbl : b < (ns.length : Int) := by
            have := of_decide_eq_true hc
            rw [List.length_map] at this
            exact this
          obtain ⟨z, hz, hz2⟩ := map_atI hb hbl
          refine ⟨_, rfl, t, _, _, _, rfl, rfl, SqL.of hT1, rfl, _, rfl, t, _, _, _, rfl, rfl, SqL.of hT1, rfl, l, _, _, _, rfl, rfl, SqL.of hL1, hz2, ?_⟩
          refine ⟨_, rfl, t, _, _, _, rfl, rfl, SqL.of hT1, rfl, _, _, rfl, rfl, _, rfl, t, _, _, 1, rfl, rfl, hT1, rfl, ?_⟩
          exact ⟨z, b + 1, by omega, rfl, by rw [upd_upd]; rfl⟩
        · exact ⟨0, b, hb, rfl, rfl⟩
      · rintro σ' H' ⟨z, b', hb', rfl, rfl⟩
        have hT2 : (upd H t (.lst [.ref l, .int b', .int c, .int d, .int (e + 1)])) t = some (.lst [.ref l, .int b', .int c, .int d, .int (e + 1)]) := upd_same
        have fin2 : ∀ (x b c d e : Int) (u : HO), 0 ≤ b → Q (.int (x % n)) (upd (upd H t u) t (.lst [.ref l, .int b, .int c, .int d, .int e])) := fun x b c d e u hb => by
          rw [upd_upd]
          exact fin _ _ _ _ _ hb
        refine ⟨_, rfl, _, _, rfl, rfl, ⟨by decide, by decide, by decide⟩, _, _, rfl, rfl, _, rfl, ?_⟩
        refine ite2 (fun _ => ?_) (fun _ => ?_)
        · refine ⟨_, rfl, _, rfl, _, _, rfl, rfl, ⟨hn, hn2⟩, _, rfl, t, _, _, 2, rfl, rfl, hT2, rfl, ?_⟩
          exact ⟨_, rfl, .inl ⟨_, rfl, _, rfl, _, _, rfl, rfl, hn, fin2 _ _ _ _ _ _ hb'⟩⟩
        · refine ⟨_, rfl, t, _, _, _, rfl, rfl, SqL.of hT2, rfl, _, _, rfl, rfl, .inr (by decide), _, rfl, .inl ⟨_, rfl, _, _, rfl, rfl, (by show (0 : Int) < 2147483629; decide), _, _, rfl, rfl, _, rfl, t, _, _, _, rfl, rfl, SqL.of hT2, rfl, _, _, rfl, rfl, .inr (by decide), _, _, rfl, rfl, .inl ⟨_, rfl, _, _, rfl, rfl, (by show (0 : Int) < 2147483647; decide), ?_⟩⟩⟩
          have m0 := Int.emod_nonneg (d * 48271 + z % 2147483629 + (e + 1) * 69621) (show (2147483647 : Int) ≠ 0 by decide)
          have m1 := Int.emod_lt_of_pos (d * 48271 + z % 2147483629 + (e + 1) * 69621) (show (0 : Int) < 2147483647 by decide)
          generalize (d * 48271 + z % 2147483629 + (e + 1) * 69621) % 2147483647 = m at m0 m1 ⊢
          refine ⟨_, rfl, _, rfl, _, _, rfl, rfl, ⟨by decide, by decide⟩, _, _, rfl, rfl, _, _, rfl, rfl, .inl ⟨by omega, by omega⟩, .inl ⟨_, rfl, _, _, rfl, rfl, (by show (0 : Int) < 2147483399; decide), ?_⟩⟩
          refine ⟨_, rfl, _, rfl, t, _, _, 3, rfl, rfl, hT2, rfl, ?_⟩
          exact ⟨_, rfl, _, _, rfl, rfl, ⟨by decide, by decide⟩, .inl ⟨_, rfl, _, rfl, _, _, rfl, rfl, hn, fin2 _ _ _ _ _ _ hb'⟩⟩
def spOrder : Sp := fun vs H Q _ => ∃ (t l : Addr) (n : Int), vs = [.ref t, .int n] ∧ Tape H t l ∧ 0 ≤ n ∧ n ≤ 1000 ∧ ∀ (p : Addr) (xs : List Int) (H' : Hp), xs.Perm (rangeI n) → H p = none → H' p = some (.lst (xs.map V.int)) → Gr t H H' → Tape H' t l → Q (.ref p) H'
theorem ok_order (A : At K mg "_law_order" s_law_order ["tape", "many"]) (T : Tx mg) (G_law_pick : Dfn P w K mg base "_law_pick" ["tape", "size"] 1 spPick) : Dfn P w K mg base "_law_order" ["tape", "many"] 2 spOrder := by
  refine A.ok sc_law_order (fun vs H Q E h => ?_) (fun f cdv A outer s H vs Q E hr h => ?_)
  · obtain ⟨t, l, n, rfl, _⟩ := h
    rfl
  · obtain ⟨t, l, n, rfl, hT, hn, hn2, k⟩ := h
    refine ⟨_, (pss_cons (ps_set (i := 2) sc_law_order.nd rfl (Or.inr rfl) (pe_listRg rfl (by rfl) T.list (prg_1 (by rfl) T.range (pv 1))))
      (pss_one (ps_ret (pe_lc (own := [("k", 3)]) (g := (gName 3)) (tt := tYes) (te := (tBM K "list" rPopAt (tVar 2) (tCons (tCall spPick [] E0 (tCons (tVar 0) (tCons (tCB (rLenS K) (tCons (tVar 2) tNil)) tNil))) tNil))) (by rfl) sc_law_order.nd (pi_range1 rfl T.range (pa_cons (pv 1) pa_nil)) (blkOk_by (own := [("k", 3)]) (N := n_law_order) (sc := (defScope s_law_order)) (by decide +kernel)) (fun _ _ _ _ _ => (pg_name (i := 3) sc_law_order.nd rfl (Or.inl rfl))) (fun _ _ _ _ _ => pts_nil) (fun _ _ _ _ _ => (pe_bm PySem.F.plainAttrs_list PySem.F.slot_list_pop PySem.F.type_list_pop mt_popAt (pv 2) (pa_cons (pe_d G_law_pick (hr.mono (by decide)) (pa_cons (pv 0) (pa_cons (pe_callB c_len (by rfl) T.len (by decide +kernel) (pa_cons (pv 2) pa_nil)) pa_nil))) pa_nil))))))), ?_⟩
    refine ⟨_, rfl, n, rfl, RgOk.of_le (by decide) (by omega) (by decide) hn, fun q hq => ?_⟩
    have nq := hT.free hq
    refine ⟨_, rfl, n, rfl, by omega, by omega, fun D hD => ?_⟩
    have nqD : q ≠ D := ne_of_none upd_same hD
    have hD0 : H D = none := by
      rw [upd_ne nqD.symm] at hD
      exact hD
    have nD := hT.free hD0
    refine lc_range (lo := 0) (n := n.toNat) (fun i H' => ∃ acc left : List Int, (acc ++ left).Perm (rangeI n) ∧ acc.length = i ∧ left.length = n.toNat - i ∧ H' D = some (.lst (acc.map V.int)) ∧ H' q = some (.lst (left.map V.int)) ∧ Gr t H H' ∧ Tape H' t l)
      ⟨[], rangeI n, List.Perm.refl _, rfl, rangeI_len n, upd_same, by rw [upd_ne nqD, upd_same, rgV_rangeI], gr_mut (gr_mut (Gr.refl H) hq) hD0, (hT.new hq).new hD⟩ ?_ ?_
    · rintro i H1 hi ⟨acc, left, pm, la, ll, hDa, hqa, g1, T1⟩
      have lp : 0 < left.length := by omega
      refine ⟨rfl, _, rfl, .inl ⟨rfl, _, SqL.of hqa⟩, _, rfl, _, rfl, q, _, rfl, .inl (SqL.of hqa), t, l, _, rfl, T1, by rw [List.length_map]; omega, by rw [List.length_map]; omega, fun x H2 x0 x1 g2 T2 => ?_⟩
      rw [List.length_map] at x1
      have hqb : H2 q = some (.lst (left.map V.int)) := g2 _ _ nq.1 hqa
      have hDb : H2 D = some (.lst (acc.map V.int)) := g2 _ _ nD.1 hDa
      have xl : x.toNat < left.length := by omega
      have hy : (left.map V.int)[x.toNat]? = some (.int left[x.toNat]) := by
        rw [List.getElem?_map, List.getElem?_eq_getElem xl]
        rfl
      refine ⟨q, _, x, x.toNat, _, rfl, rfl, hqb, by omega, by omega, seq_at x0 (by rw [List.length_map]; exact x1), hy, acc.map V.int, by rw [upd_ne nqD.symm]; exact hDb, by rw [List.length_map]; exact Nat.lt_of_le_of_lt (show acc.length ≤ 1000 by omega) (by decide), ?_⟩
      refine ⟨acc ++ [left[x.toNat]], left.eraseIdx x.toNat, ?_, by rw [List.length_append, la]; rfl, by rw [List.length_eraseIdx, if_pos xl]; omega, by rw [upd_same, List.map_append]; rfl, by rw [upd_ne nqD, upd_same, map_eraseIdx'], gr_mut (gr_mut (g1.trans g2) hq) hD0, (T2.mut nq).mut nD⟩
      refine List.Perm.trans ?_ pm
      rw [List.append_assoc]
      exact List.Perm.append_left acc (perm_erase left _ xl)
    · rintro H1 ⟨acc, left, pm, la, ll, hDa, hqa, g1, T1⟩
      have e : left = [] := List.eq_nil_of_length_eq_zero (by omega)
      subst e
      rw [List.append_nil] at pm
      exact k D acc H1 pm hD0 hDa g1 T1
structure Blk (m : Int) (rs : List (List Int)) : Prop where
  asc : ∀ r ∈ rs, r.Pairwise (· < ·)
  rng : ∀ r ∈ rs, ∀ x ∈ r, 0 ≤ x ∧ x < m
theorem mod_ne {i z : Int} (h0 : 0 ≤ i) (h1 : i < z) (h2 : 2 < z) : i ≠ (i + 1) % z := by
  intro h
  by_cases h3 : i + 1 < z
  · rw [Int.emod_eq_of_lt (by omega) h3] at h
    omega
  · have e : i + 1 = z := by omega
    rw [e, Int.emod_self] at h
    omega
end
end Fo
set_option maxRecDepth 100000
set_option maxHeartbeats 4000000
namespace Fo
open PySem PySem.Spec PyProof.Rows L2
abbrev s_is_integer : Stmt := top 9
abbrev n_is_integer : List Str := ["thing"]
theorem sc_is_integer : FnScope n_is_integer ["thing"] (defScope s_is_integer) := ⟨rfl, rfl, rfl, by decide +kernel, rfl, by decide +kernel, by decide +kernel⟩
abbrev s_is_number : Stmt := top 10
abbrev n_is_number : List Str := ["bound", "thing"]
theorem sc_is_number : FnScope n_is_number ["bound", "thing"] (defScope s_is_number) := ⟨rfl, rfl, rfl, by decide +kernel, rfl, by decide +kernel, by decide +kernel⟩
abbrev s_is_numbers : Stmt := top 11
abbrev n_is_numbers : List Str := ["bound", "thing", "one"]
theorem sc_is_numbers : FnScope n_is_numbers ["bound", "thing"] (defScope s_is_numbers) := ⟨rfl, rfl, rfl, by decide +kernel, rfl, by decide +kernel, by decide +kernel⟩
abbrev s_is_ascending : Stmt := top 12
abbrev n_is_ascending : List Str := ["bound", "thing", "low", "high"]
theorem sc_is_ascending : FnScope n_is_ascending ["bound", "thing"] (defScope s_is_ascending) := ⟨rfl, rfl, rfl, by decide +kernel, rfl, by decide +kernel, by decide +kernel⟩
abbrev s_check_rows : Stmt := top 28
abbrev n_check_rows : List Str := ["rows", "person", "row"]
theorem sc_check_rows : FnScope n_check_rows ["rows"] (defScope s_check_rows) := ⟨rfl, rfl, rfl, by decide +kernel, rfl, by decide +kernel, by decide +kernel⟩
abbrev s_Table___init : Stmt := inClass (top 27) 0
abbrev n_Table___init : List Str := ["self", "rows"]
theorem sc_Table___init : FnScope n_Table___init ["self", "rows"] (defScope s_Table___init) := ⟨rfl, rfl, rfl, by decide +kernel, rfl, by decide +kernel, by decide +kernel⟩
abbrev s_Table___eq : Stmt := inClass (top 27) 1
abbrev n_Table___eq : List Str := ["self", "other"]
theorem sc_Table___eq : FnScope n_Table___eq ["self", "other"] (defScope s_Table___eq) := ⟨rfl, rfl, rfl, by decide +kernel, rfl, by decide +kernel, by decide +kernel⟩
section
variable {P : Program} {w : World} {K : PySem.W.Frag} {mg : Str → Option Value} {base : Heap} {C : Addr}
def spInteger (K : PySem.W.Frag) (C : Addr) : Sp := fun vs H Q _ => ∃ x, vs = [x] ∧ Th K C H x ∧ Q (.bl (isIntV x)) H
theorem ok_is_integer (A : At K mg "is_integer" s_is_integer ["thing"]) (T : Tx mg) (tc : TC K C) : Dfn P w K mg base "is_integer" ["thing"] 1 (spInteger K C) := by
  refine A.ok sc_is_integer (fun vs H Q E h => ?_) (fun f cdv A outer s H vs Q E hr h => ?_)
  · obtain ⟨x, rfl, _⟩ := h
    rfl
  · obtain ⟨x, rfl, hx, k⟩ := h
    obtain ⟨t, b1, b2, ty, h1, h2, h3⟩ := th_kit tc hx
    refine ⟨_, (pss_one (ps_ret (pe_and (pe_callB call_isi (by rfl) T.isinstance (by decide +kernel) (pa_cons (pv 0) (pa_cons (pe_bltn (v := V.ty "int") (by rfl) T.int (by decide +kernel) rfl) pa_nil))) (pe_one (pe_not (pe_callB call_isi (by rfl) T.isinstance (by decide +kernel) (pa_cons (pv 0) (pa_cons (pe_bltn (v := V.ty "bool") (by rfl) T.bool (by decide +kernel) rfl) pa_nil)))))))), ?_⟩
    refine ⟨_, rfl, x, .ty "int", t, .type "int", b1, rfl, .ty "int", ty, h1, b1, rfl, ?_⟩
    cases b1 with
    | true =>
      refine ⟨_, rfl, x, .ty "bool", t, .type "bool", b2, rfl, .ty "bool", ty, h2, b2, rfl, ?_⟩
      rw [Bool.true_and] at h3
      rw [h3]
      exact k
    | false =>
      rw [Bool.false_and] at h3
      rw [← h3] at k
      exact k
def spNumber (K : PySem.W.Frag) (C : Addr) : Sp := fun vs H Q _ => ∃ (b : Int) (x : V), vs = [.int b, x] ∧ Th K C H x ∧ Q (.bl (numV b x)) H
theorem ok_is_number (A : At K mg "is_number" s_is_number ["bound", "thing"]) (T : Tx mg) (G_is_integer : Dfn P w K mg base "is_integer" ["thing"] 1 (spInteger K C)) : Dfn P w K mg base "is_number" ["bound", "thing"] 2 (spNumber K C) := by
  refine A.ok sc_is_number (fun vs H Q E h => ?_) (fun f cdv A outer s H vs Q E hr h => ?_)
  · obtain ⟨b, x, rfl, _⟩ := h
    rfl
  · obtain ⟨b, x, rfl, hx, k⟩ := h
    refine ⟨_, (pss_one (ps_ret (pe_and (pe_d G_is_integer (hr.mono (by decide)) (pa_cons (pv 1) pa_nil)) (pe_one (pe_chain op_le op_lt pe_int (pv 1) (pv 0)))))), ?_⟩
    refine ⟨_, rfl, x, rfl, hx, _, rfl, ?_⟩
    cases x with
    | int i =>
      have k : Q (.bl (decide (0 ≤ i) && decide (i < b))) H := k
      refine ⟨_, rfl, 0, i, rfl, rfl, _, rfl, ?_⟩
      refine ite2 (fun h1 => ?_) (fun h1 => ?_)
      · rw [h1, Bool.true_and] at k
        exact ⟨_, rfl, i, b, rfl, rfl, k⟩
      · rw [show decide (0 ≤ i) = false from Bool.eq_false_iff.mpr h1, Bool.false_and] at k
        exact k
    | _ => exact k
def numbersOf (b : Int) : Option (List V) → Bool
  | some xs => xs.all (numV b)
  | none => false
def spNumbers (K : PySem.W.Frag) (C : Addr) : Sp := fun vs H Q _ => ∃ (b : Int) (x : V) (o : Option (List V)), vs = [.int b, x] ∧ Tg K C H x o ∧ ∀ H', Same H H' → Q (.bl (numbersOf b o)) H'
theorem ok_is_numbers (A : At K mg "is_numbers" s_is_numbers ["bound", "thing"]) (T : Tx mg) (G_is_number : Dfn P w K mg base "is_number" ["bound", "thing"] 2 (spNumber K C)) : Dfn P w K mg base "is_numbers" ["bound", "thing"] 3 (spNumbers K C) := by
  refine A.ok sc_is_numbers (fun vs H Q E h => ?_) (fun f cdv A outer s H vs Q E hr h => ?_)
  · obtain ⟨b, x, o, rfl, _⟩ := h
    rfl
  · obtain ⟨b, x, o, rfl, hx, k⟩ := h
    refine ⟨_, (pss_one (ps_ret (pe_and (pe_callB call_isi (by rfl) T.isinstance (by decide +kernel) (pa_cons (pv 1) (pa_cons (pe_bltn (v := V.ty "tuple") (by rfl) T.tuple (by decide +kernel) rfl) pa_nil))) (pe_one (pe_callB (cr_all rfl) (by rfl) T.all (by decide +kernel) (pa_cons (pe_lc (own := [("one", 2)]) (g := (gName 2)) (tt := tYes) (te := (tCall (spNumber K C) [] E0 (tCons (tVar 0) (tCons (tVar 2) tNil)))) (by rfl) sc_is_numbers.nd (pi_tup (pv 1)) (blkOk_by (own := [("one", 2)]) (N := n_is_numbers) (sc := (defScope s_is_numbers)) (by decide +kernel)) (fun _ _ _ _ _ => (pg_name (i := 2) sc_is_numbers.nd rfl (Or.inl rfl))) (fun _ _ _ _ _ => pts_nil) (fun _ _ _ _ _ => (pe_d G_is_number (hr.mono (by decide)) (pa_cons (pv 0) (pa_cons (pv 2) pa_nil))))) pa_nil)))))), ?_⟩
    cases hx with
    | no ty hk => exact ⟨_, rfl, x, .ty "tuple", _, .type "tuple", false, rfl, .ty "tuple", ty, hk, false, rfl, k H (Same.refl H)⟩
    | @tup a xs hq hi hz =>
      refine ⟨_, rfl, .ref a, .ty "tuple", _, .type "tuple", true, rfl, .ty "tuple", tyX_sqT hq, kit_ty (by decide +kernel), true, rfl, ?_⟩
      refine ⟨_, rfl, a, rfl, ⟨xs, hq⟩, fun D hD => lc_tup (xs := xs) (fun i H' => H' D = some (.lst ((xs.take i).map fun x => V.bl (numV b x))) ∧ Same H H') ⟨by rw [upd_same]; rfl, same_new hD⟩ (fun i H' _ p => sqT_same p.2 hq) (fun i y H' hy p => ?_) (fun H' p => ?_)⟩
      · refine ⟨rfl, _, rfl, _, rfl, b, y, rfl, (hi y (List.mem_of_getElem? hy)).same p.2, _, p.1, by rw [List.length_map]; exact small_lt (Nat.le_trans (List.length_take_le _ _) (by have := (List.getElem?_eq_some_iff.mp hy).1; omega)), ?_, same_mut p.2 hD⟩
        rw [upd_same, List.take_add_one, hy, List.map_append]
        rfl
      · obtain ⟨p1, p2⟩ := p
        rw [List.take_length] at p1
        refine ⟨D, xs.map (numV b), rfl, SqL.of (by rw [p1, List.map_map]; rfl), ?_⟩
        have e : (xs.map (numV b)).all id = numbersOf b (some xs) := by
          show _ = xs.all (numV b)
          rw [List.all_map]
          rfl
        rw [e]
        exact k H' p2
def ascOf (b : Int) : Option (List V) → Bool
  | some xs => ascV b xs
  | none => false
def spAsc (K : PySem.W.Frag) (C : Addr) : Sp := fun vs H Q _ => ∃ (b : Int) (x : V) (o : Option (List V)), vs = [.int b, x] ∧ Tg K C H x o ∧ ∀ H', Same H H' → Q (.bl (ascOf b o)) H'
theorem asc_lc {a p D : Addr} {ns : List Int} {H2 : Hp} {b : Int} {Qd : Hp → Prop} (hD : H2 D = none) (hx : SqT K H2 a (ns.map V.int)) (hy : SqT K H2 p ((ns.map V.int).drop 1)) (hz : ns.length ≤ 100000)
    (hd : ∀ H', Same H2 H' → H' D = some (.lst (((ns.map V.int).zip ((ns.map V.int).drop 1)).map fun q => V.bl (ltV q.1 q.2))) → Qd H') :
    ∃ W : Nat → Nat → Hp → Prop, (∃ m, W 0 m (upd H2 D (.lst []))) ∧ ∀ i m H, W i m H →
      ((RZ.ItzT K a p).stop i H ∧ Qd H) ∨ ((RZ.ItzT K a p).go i H ∧ ∃ Nx : Hp → Prop, (∀ H', Nx H' → ∃ m', m' < m ∧ W (i + 1) m' H') ∧ ∀ x H', (RZ.ItzT K a p).yld i H x H' → (gTup K 2 (gCons (gName 2) (gCons (gName 3) gNil))) x (wipe [some (.int b), some (.ref a), none, none] [2, 3]) H' fun σ2 H2 => wipe σ2 [2, 3] = wipe [some (.int b), some (.ref a), none, none] [2, 3] ∧ tYes σ2 H2 fun c H3 =>
        if c = true then (tOp (rI0 fun i j => V.bl (decide (i < j))) (tVar 2) (tVar 3)) σ2 H3 fun y H4 => ∃ acc, H4 D = some (.lst acc) ∧ acc.length < sizeLine ∧ Nx (upd H4 D (.lst (acc ++ [y]))) else Nx H3) := by
  refine lc_zipT (xs := ns.map V.int) (ys := (ns.map V.int).drop 1) (by rw [List.length_drop]; omega) (fun i H' => H' D = some (.lst ((((ns.map V.int).zip ((ns.map V.int).drop 1)).take i).map fun q => V.bl (ltV q.1 q.2))) ∧ Same H2 H') ⟨by rw [upd_same]; rfl, same_new hD⟩ (fun i H' _ q => ⟨sqT_same q.2 hx, sqT_same q.2 hy⟩) ?_ ?_
  · rintro i x y H3 T hxi hyi ⟨q1, q2⟩ hT
    have hDT : D ≠ T := ne_of_none q1 hT
    obtain ⟨u, rfl⟩ : ∃ u, x = V.int u := by
      rw [List.getElem?_map] at hxi
      cases e : ns[i]? with
      | none => rw [e] at hxi; cases hxi
      | some u => rw [e] at hxi; exact ⟨u, (Option.some.inj hxi).symm⟩
    obtain ⟨v, rfl⟩ : ∃ v, y = V.int v := by
      rw [List.getElem?_drop, List.getElem?_map] at hyi
      cases e : ns[1 + i]? with
      | none => rw [e] at hyi; cases hyi
      | some v => rw [e] at hyi; exact ⟨v, (Option.some.inj hyi).symm⟩
    have hzip : ((ns.map V.int).zip ((ns.map V.int).drop 1))[i]? = some (V.int u, V.int v) := List.getElem?_zip_eq_some.mpr ⟨hxi, hyi⟩
    refine ⟨T, [.int u, .int v], rfl, SqT.of upd_same, rfl, .int u, [.int v], rfl, .int v, [], rfl, rfl, rfl, _, rfl, _, rfl, u, v, rfl, rfl, _, by rw [upd_ne hDT]; exact q1, by rw [List.length_map]; exact small_lt (Nat.le_trans (List.length_take_le _ _) (by have := (List.getElem?_eq_some_iff.mp hxi).1; rw [List.length_map] at this; omega)), ?_, same_mut (q2.trans (same_new hT)) hD⟩
    rw [upd_same, List.take_add_one, hzip, List.map_append]
    rfl
  · rintro H3 ⟨q1, q2⟩
    refine hd H3 q2 ?_
    rw [q1, List.take_of_length_le]
    rw [List.length_zip]
    exact Nat.min_le_right _ _
theorem ok_is_ascending (A : At K mg "is_ascending" s_is_ascending ["bound", "thing"]) (T : Tx mg) (G_is_numbers : Dfn P w K mg base "is_numbers" ["bound", "thing"] 3 (spNumbers K C)) : Dfn P w K mg base "is_ascending" ["bound", "thing"] 4 (spAsc K C) := by
  refine A.ok sc_is_ascending (fun vs H Q E h => ?_) (fun f cdv A outer s H vs Q E hr h => ?_)
  · obtain ⟨b, x, o, rfl, _⟩ := h
    rfl
  · obtain ⟨b, x, o, rfl, hx, k⟩ := h
    refine ⟨_, (pss_one (ps_ret (pe_and (pe_d G_is_numbers (hr.mono (by decide)) (pa_cons (pv 0) (pa_cons (pv 1) pa_nil))) (pe_one (pe_callB (cr_all rfl) (by rfl) T.all (by decide +kernel) (pa_cons (pe_lc (own := [("low", 2), ("high", 3)]) (g := (gTup K 2 (gCons (gName 2) (gCons (gName 3) gNil)))) (tt := tYes) (te := (tOp (rI0 fun i j => V.bl (decide (i < j))) (tVar 2) (tVar 3))) (by rfl) sc_is_ascending.nd (RZ.pi_zipA (by rfl) T.zip (pa_cons (pv 1) (pa_cons (pe_slice sl_tupA (pv 1) (po_some pe_int) po_none) pa_nil))) (blkOk_by (own := [("low", 2), ("high", 3)]) (N := n_is_ascending) (sc := (defScope s_is_ascending)) (by decide +kernel)) (fun _ _ _ _ _ => (pg_tup rfl (pgs_cons (pg_name (i := 2) sc_is_ascending.nd rfl (Or.inl rfl)) (pgs_cons (pg_name (i := 3) sc_is_ascending.nd rfl (Or.inl rfl)) pgs_nil)))) (fun _ _ _ _ _ => pts_nil) (fun _ _ _ _ _ => (pe_cmpR op_lt (pv 2) (pv 3) (nomark _)))) pa_nil)))))), ?_⟩
    refine ⟨_, rfl, _, rfl, b, x, o, rfl, hx, fun H1 s1 => ⟨_, rfl, ?_⟩⟩
    cases hx with
    | no ty hk => exact k H1 s1
    | @tup a xs hq hi hz =>
      have kk : ∀ H', Same H H' → Q (.bl (ascV b xs)) H' := k
      show if xs.all (numV b) = true then _ else _
      cases hn : xs.all (numV b) with
      | false =>
        have e : ascV b xs = false := by rw [ascV_eq, hn]; rfl
        rw [e] at kk
        exact kk H1 s1
      | true =>
        obtain ⟨ns, rfl, hb⟩ := all_num_ints hn
        have hq1 := sqT_same s1 hq
        have cut : cutV (ns.map V.int) (some 1) none = (ns.map V.int).drop 1 := by
          unfold cutV
          rw [show HT.sIx (ns.map V.int).length 0 (some 1) = min 1 (ns.map V.int).length from HT.sIx_nat _ 0 1, HT.sIx_none]
          cases ns with
          | nil => rfl
          | cons x r =>
            rw [show min 1 ((x :: r).map V.int).length = 1 by rw [List.map_cons, List.length_cons]; omega]
            show List.take (((x :: r).map V.int).length - 1) (r.map V.int) = r.map V.int
            rw [List.map_cons, List.length_cons, Nat.add_sub_cancel]
            exact List.take_length
        have kk2 : ∀ (D : Addr) (H' : Hp), Same H H' → H' D = some (.lst (((ns.map V.int).zip ((ns.map V.int).drop 1)).map fun q => V.bl (ltV q.1 q.2))) → ∃ (a : Addr) (bs : List Bool), [V.ref D] = [V.ref a] ∧ SqL K H' a (bs.map V.bl) ∧ Q (.bl (bs.all id)) H' := fun D H' s2 hD => by
          refine ⟨D, ((ns.map V.int).zip ((ns.map V.int).drop 1)).map fun q => ltV q.1 q.2, rfl, SqL.of (by rw [hD, List.map_map]; rfl), ?_⟩
          have e : ((((ns.map V.int).zip ((ns.map V.int).drop 1)).map fun q => ltV q.1 q.2).all id) = ascV b (ns.map V.int) := by
            rw [ascV_eq, hn, Bool.true_and, List.all_map]
            rfl
          rw [e]
          exact kk H' s2
        have nz : ns.length ≤ 100000 := by rw [List.length_map] at hz; exact hz
        refine ⟨_, rfl, _, rfl, 1, rfl, a, ns.map V.int, rfl, hq1, fun hw => ?_, fun hw p hp => ?_⟩
        · have e0 : ns = [] := by
            cases ns with
            | nil => rfl
            | cons x r =>
              have h1 := hw.1
              rw [show HT.sIx ((x :: r).map V.int).length 0 (some 1) = min 1 ((x :: r).map V.int).length from HT.sIx_nat _ 0 1, List.map_cons, List.length_cons] at h1
              omega
          have hy : SqT K H1 a ((ns.map V.int).drop 1) := by rw [e0] at hq1 ⊢; exact hq1
          exact ⟨a, a, _, _, rfl, .inr ⟨hq1, hy, fun D hD => asc_lc hD hq1 hy nz fun H' s2 q => kk2 D H' (s1.trans s2) q⟩⟩
        · rw [cut]
          have hx2 := sqT_same (same_new (o := .tup ((ns.map V.int).drop 1)) hp) hq1
          exact ⟨a, p, _, _, rfl, .inr ⟨hx2, SqT.of upd_same, fun D hD => asc_lc hD hx2 (SqT.of upd_same) nz fun H' s2 q => kk2 D H' ((s1.trans (same_new hp)).trans s2) q⟩⟩
def spCheck (K : PySem.W.Frag) : Sp := fun vs H Q _ => ∃ (v : V) (rows : List (List Int)), vs = [v] ∧ Good rows ∧ rows.length ≤ 12 ∧ RowsAt K H v rows ∧ ∀ H', Same H H' → Q .non H'
theorem ok_check (A : At K mg "_check_rows" s_check_rows ["rows"]) (T : Tx mg) {tk : Tok} (hMR : mg "MOST_ROWS" = some (.int 12 tk)) (G_is_ascending : Dfn P w K mg base "is_ascending" ["bound", "thing"] 4 (spAsc K C)) : Dfn P w K mg base "_check_rows" ["rows"] 5 (spCheck K) := by
  refine A.ok sc_check_rows (fun vs H Q E h => ?_) (fun f cdv A outer s H vs Q E hr h => ?_)
  · obtain ⟨v, rows, rfl, _⟩ := h
    rfl
  · obtain ⟨v, rows, rfl, hG, hl, ⟨a, vs, rfl, ha, hrs⟩, k⟩ := h
    have vl := hrs.len
    have hp := hG.pos
    refine ⟨_, (pss_cons (ps_if (PW.pt (pw_or (pt_not (pt_val (pe_callB call_isi (by rfl) T.isinstance (by decide +kernel) (pa_cons (pv 0) (pa_cons (pe_bltn (v := V.ty "tuple") (by rfl) T.tuple (by decide +kernel) rfl) pa_nil))))) (pw_or1 (pt_not (pt_chain op_le op_le pe_int (pe_callB c_len (by rfl) T.len (by decide +kernel) (pa_cons (pv 0) pa_nil)) (pe_glob (v := V.int 12) (by rfl) hMR ⟨_, rfl⟩)))))) (pss_one ps_never) pss_nil)
      (pss_one (ps_for PassesOwn.never rfl (pi_enumT (by rfl) T.enumerate (pa_cons (pv 0) pa_nil)) (pg_tup rfl (pgs_cons (pg_name (i := 1) sc_check_rows.nd rfl (Or.inl rfl)) (pgs_cons (pg_name (i := 2) sc_check_rows.nd rfl (Or.inl rfl)) pgs_nil)))
      (pss_one (ps_if (pt_not (pt_val (pe_d G_is_ascending (hr.mono (by decide)) (pa_cons (pe_callB c_len (by rfl) T.len (by decide +kernel) (pa_cons (pv 0) pa_nil)) (pa_cons (pv 2) pa_nil))))) (pss_one ps_never) pss_nil))))), ?_⟩
    refine ⟨_, rfl, .ref a, .ty "tuple", _, .type "tuple", true, rfl, .ty "tuple", tyX_sqT ha, kit_ty (by decide +kernel), true, rfl, ?_⟩
    refine ⟨_, rfl, a, vs, rfl, .inr ha, 1, _, rfl, rfl, _, rfl, ?_⟩
    have d1 : decide ((1 : Int) ≤ (vs.length : Nat)) = true := decide_eq_true (by omega)
    have d2 : decide (((vs.length : Nat) : Int) ≤ 12) = true := decide_eq_true (by omega)
    rw [d1]
    refine ⟨_, 12, rfl, rfl, ?_⟩
    refine ⟨_, rfl, ?_⟩
    rw [d2]
    refine ⟨_, rfl, a, vs, rfl, ha, for_enumT (xs := vs) (fun i σ' H' => ∃ x1 x2, σ' = [some (.ref a), x1, x2] ∧ Same H H') ⟨_, _, rfl, Same.refl H⟩ (fun i σ' H' _ ⟨_, _, _, s⟩ => sqT_same s ha) ?_ ?_⟩
    · rintro i x σ' H' T' hx ⟨x1, x2, rfl, s1⟩ hT
      obtain ⟨r, hr1, hr2⟩ : ∃ r, rows[i]? = some r ∧ ∃ q, x = .ref q ∧ SqT K H q (r.map V.int) := by
        have hi : i < rows.length := by rw [← vl]; exact (List.getElem?_eq_some_iff.mp hx).1
        obtain ⟨q, e, h⟩ := hrs.get (List.getElem?_eq_getElem hi)
        rw [hx] at e
        exact ⟨_, List.getElem?_eq_getElem hi, q, Option.some.inj e, h⟩
      obtain ⟨q, rfl, hq⟩ := hr2
      have s2 : Same H (upd H' T' (.tup [.int (i : Nat), .ref q])) := s1.trans (same_new hT)
      have hm := List.mem_of_getElem? hr1
      refine ⟨T', _, rfl, SqT.of upd_same, rfl, _, _, rfl, _, _, rfl, rfl, ?_⟩
      have rl := row_len (hG.asc _ hm) (hG.rng _ hm)
      refine ⟨_, rfl, a, vs, rfl, .inr (sqT_same s2 ha), _, rfl, _, _, _, rfl, Tg.ints (sqT_same s2 hq) (by omega), fun H3 s3 => ⟨_, rfl, ?_⟩⟩
      have e : ascOf ((vs.length : Nat) : Int) (some (r.map V.int)) = true := ascV_ints (hG.asc _ hm) fun x hx => by rw [vl]; exact hG.rng _ hm x hx
      rw [e]
      exact ⟨_, _, rfl, s2.trans s3⟩
    · rintro σ' H' ⟨x1, x2, rfl, s1⟩
      exact k H' s1
theorem ok_init {f : Addr} {fd : FuncData} (F : Fun K "__init__" "Table.__init__" s_Table___init f fd) (T : Tx mg) (tc : TC K C) (G_check_rows : Dfn P w K mg base "_check_rows" ["rows"] 5 (spCheck K)) : FnOk P w K mg base CX0 6 f fd ["self", "rows"] (spInit K C) := by
  refine F.ok sc_Table___init (fun vs H Q E h => ?_) (fun cdv A outer s H vs Q E hr h => ?_)
  · obtain ⟨p, dx, v, rows, rfl, _⟩ := h
    rfl
  · obtain ⟨p, dx, v, rows, rfl, hp, hG, hl, hR, k⟩ := h
    refine ⟨_, (pss_cons (ps_expr (pe_d G_check_rows (hr.mono (by decide)) (pa_cons (pv 1) pa_nil)))
      (pss_cons (ps_fld (pv 0) (pv 1) rfl)
      (pss_one (ps_fld (pv 0) (pe_callB c_len (by rfl) T.len (by decide +kernel) (pa_cons (pv 1) pa_nil)) rfl)))), ?_⟩
    refine ⟨_, rfl, v, rows, rfl, hG, hl, hR, fun H1 s1 => ?_⟩
    obtain ⟨a, vs, rfl, ha, hrs⟩ := hR.same s1
    have hp1 := s1 _ _ hp
    refine ⟨_, rfl, _, rfl, p, C, dx, [], rfl, hp1, tc.cl, tc.nR, by decide, ?_⟩
    have ha2 : SqT K (upd H1 p (.ins C dx (putF "rows" (.ref a) []))) a vs := sqT_ins ha hp1 fun b o n e => by rw [upd_ne n]; exact e
    refine ⟨_, rfl, a, vs, rfl, .inr ha2, _, rfl, p, C, dx, _, rfl, upd_same, tc.cl, tc.nS, by show 1 < 1000; decide, ?_⟩
    refine k _ (fun b o n e => ?_) ?_
    · rw [upd_ne n, upd_ne n]
      exact s1 _ _ e
    · rw [upd_same, hrs.len]
      rfl
theorem ok_eq {f : Addr} {fd : FuncData} (F : Fun K "__eq__" "Table.__eq__" s_Table___eq f fd) (T : Tx mg) (tc : TC K C) (hC : mg "Table" = some (.ref C)) : FnOk P w K mg base CX0 1 f fd ["self", "other"] (spEqT K C) := by
  refine F.ok sc_Table___eq (fun vs H Q E h => ?_) (fun cdv A outer s H vs Q E hr h => ?_)
  · obtain ⟨x, y, r1, r2, rfl, _⟩ := h
    rfl
  · obtain ⟨x, y, r1, r2, rfl, hx, hy, k⟩ := h
    refine ⟨_, (pss_one (ps_ret (pe_and (pe_callB call_isi (by rfl) T.isinstance (by decide +kernel) (pa_cons (pv 1) (pa_cons (pe_glob (v := V.ref C) (by rfl) hC rfl) pa_nil))) (pe_one (pe_cmpR (op_eqD hr.units) (pe_fld (pv 0) rfl) (pe_fld (pv 1) rfl) (nomark _)))))), ?_⟩
    have ty := hy.tyx tc
    obtain ⟨p, dx, v, rfl, hp, hR⟩ := hx
    obtain ⟨q, dy, u, rfl, hq, hS⟩ := hy
    refine ⟨_, rfl, _, .ref C, .ref C, .ref C, true, rfl, .own C, ty, by simp [PySem.W.kitOne], true, rfl, ?_⟩
    refine ⟨_, rfl, p, C, dx, _, v, rfl, hp, tc.cl, tc.nR, tf_rows _ _, _, rfl, q, C, dy, _, u, rfl, hq, tc.cl, tc.nR, tf_rows _ _, dR r1, dR r2, hR.dp, hS.dp, sh_R r1, sh_R r2, ?_⟩
    rw [eqv_R]
    exact k H (Same.refl H)
end
end Fo
set_option maxRecDepth 100000
set_option maxHeartbeats 4000000
namespace Fo
open PySem PySem.Spec PyProof.Rows L2
abbrev s_table_of : Stmt := top 29
abbrev n_table_of : List Str := ["rows", "table"]
theorem sc_table_of : FnScope n_table_of ["rows"] (defScope s_table_of) := ⟨rfl, rfl, rfl, by decide +kernel, rfl, by decide +kernel, by decide +kernel⟩
section
variable {P : Program} {w : World} {K : PySem.W.Frag} {mg : Str → Option Value} {base : Heap} {C : Addr}
def spTableOf (K : PySem.W.Frag) (C : Addr) : Sp := fun vs H Q _ => ∃ (v : V) (rows : List (List Int)), vs = [v] ∧ RowsAt K H v rows ∧ ∀ p H', Same H H' → H p = none → TableAt K C H' (.ref p) rows → Q (.ref p) H'
theorem good1 : Good [[]] := ⟨by decide, fun r h => by rw [List.mem_singleton.mp h]; exact .nil, fun r h x hx => by rw [List.mem_singleton.mp h] at hx; cases hx⟩
theorem ok_table_of (A : At K mg "table_of" s_table_of ["rows"]) (T : Tx mg) {m : Nat} {spE : Sp} (G_Table : MkT P w K mg base C 6 m (spInit K C) spE) : Dfn P w K mg base "table_of" ["rows"] 8 (spTableOf K C) := by
  have tc := G_Table.tc
  refine A.ok sc_table_of (fun vs H Q E h => ?_) (fun f cdv A outer s H vs Q E hr h => ?_)
  · obtain ⟨v, rows, rfl, _⟩ := h
    rfl
  · obtain ⟨v, rows, rfl, hR, k⟩ := h
    refine ⟨_, (pss_cons (ps_set (i := 1) sc_table_of.nd rfl (Or.inl rfl) (pe_makeTable G_Table (hr.mono (by decide)) (pe_tup (pa_cons (pe_tup pa_nil) pa_nil))))
      (pss_cons (ps_fld (pv 1) (pv 0) rfl)
      (pss_cons (ps_fld (pv 1) (pe_callB c_len (by rfl) T.len (by decide +kernel) (pa_cons (pv 0) pa_nil)) rfl)
      (pss_one (ps_ret (pv 1)))))), ?_⟩
    refine ⟨Nat.zero_le _, fun e he => ⟨by show 1 ≤ sizeLine; decide, fun o ho => ?_⟩⟩
    have neo : e ≠ o := ne_of_none upd_same ho
    have s1 : Same H (upd (upd H e (.tup [])) o (.tup [.ref e])) := (same_new he).trans (same_new ho)
    refine ⟨[[]], good1, by decide, ⟨o, [.ref e], rfl, SqT.of upd_same, .cons (r := []) (SqT.of (by rw [upd_ne neo, upd_same]; rfl)) .nil⟩, fun p dx H2 s2 hp0 hp => ?_⟩
    have s12 := s1.trans s2
    have hp00 : H p = none := s1.free hp0
    obtain ⟨a, vs, rfl, ha, hrs⟩ := hR.same s12
    refine ⟨_, rfl, _, rfl, p, C, dx, _, rfl, hp, tc.cl, tc.nR, by rw [tf_eq]; show 2 < 1000; decide, ?_⟩
    have ha2 : SqT K (upd H2 p (.ins C dx (putF "rows" (.ref a) (tf (.ref o) [([] : List Int)].length)))) a vs := sqT_ins ha hp fun b o n e => by rw [upd_ne n]; exact e
    refine ⟨_, rfl, a, vs, rfl, .inr ha2, _, rfl, p, C, dx, _, rfl, upd_same, tc.cl, tc.nS, ?_, ?_⟩
    · rw [tf_eq]
      show (putF "rows" (V.ref a) [("rows", V.ref o), ("size", V.int (([([] : List Int)].length : Nat) : Int))]).length < 1000
      have e1 : putF "rows" (V.ref a) [("rows", V.ref o), ("size", V.int (([([] : List Int)].length : Nat) : Int))] = ([("rows", V.ref a), ("size", V.int (([([] : List Int)].length : Nat) : Int))] : List (Str × V)) := by
        show (if ("rows" : Str) = "rows" then (("rows" : Str), V.ref a) :: [(("size" : Str), V.int (([([] : List Int)].length : Nat) : Int))] else _) = _
        rw [if_pos rfl]
      rw [e1]
      show 2 < 1000
      decide
    · have fin : (upd (upd H2 p (.ins C dx (putF "rows" (.ref a) (tf (.ref o) [([] : List Int)].length)))) p (.ins C dx (putF "size" (.int ((vs.length : Nat) : Int)) (putF "rows" (.ref a) (tf (.ref o) [([] : List Int)].length))))) = upd H2 p (.ins C dx (tf (.ref a) rows.length)) := by
        rw [upd_upd, tf_put, hrs.len]
      refine ⟨_, rfl, ?_⟩
      show Q (.ref p) (upd (upd H2 p (.ins C dx (putF "rows" (.ref a) (tf (.ref o) [([] : List Int)].length)))) p (.ins C dx (putF "size" (.int ((vs.length : Nat) : Int)) (putF "rows" (.ref a) (tf (.ref o) [([] : List Int)].length)))))
      rw [fin]
      refine k p _ (same_mut s12 hp00) hp00 ⟨p, dx, .ref a, rfl, upd_same, RowsAt.ins ⟨a, vs, rfl, ha, hrs⟩ hp fun b o n e => ?_⟩
      rw [upd_ne n]
      exact e
end
end Fo
set_option maxRecDepth 100000
set_option maxHeartbeats 4000000
namespace Fo
open PySem PySem.Spec PyProof.Rows L2
abbrev s_ties : Stmt := top 30
abbrev n_ties : List Str := ["table", "person", "row", "thing"]
theorem sc_ties : FnScope n_ties ["table"] (defScope s_ties) := ⟨rfl, rfl, rfl, by decide +kernel, rfl, by decide +kernel, by decide +kernel⟩
def tieFrom : Int → List (List Int) → List (List Int)
  | _, [] => []
  | k, r :: rs => (r.map fun x => [k, x]) ++ tieFrom (k + 1) rs
abbrev tieRows (rows : List (List Int)) : List (List Int) := tieFrom 0 rows
theorem tieFrom_append : ∀ (k : Int) (a b : List (List Int)), tieFrom k (a ++ b) = tieFrom k a ++ tieFrom (k + a.length) b
  | k, [], b => by
    show tieFrom k b = tieFrom (k + ((0 : Nat) : Int)) b
    rw [show k + ((0 : Nat) : Int) = k by omega]
  | k, r :: rs, b => by
    show (r.map fun x => [k, x]) ++ tieFrom (k + 1) (rs ++ b) = ((r.map fun x => [k, x]) ++ tieFrom (k + 1) rs) ++ tieFrom (k + ((rs.length + 1 : Nat) : Int)) b
    rw [tieFrom_append (k + 1) rs b, List.append_assoc, show k + 1 + (rs.length : Int) = k + ((rs.length + 1 : Nat) : Int) by omega]
theorem tie_take {rows : List (List Int)} {i : Nat} {r : List Int} (h : rows[i]? = some r) : tieRows (rows.take (i + 1)) = tieRows (rows.take i) ++ r.map fun x => [(i : Int), x] := by
  have hi : i < rows.length := (List.getElem?_eq_some_iff.mp h).1
  rw [List.take_add_one, h]
  show tieFrom 0 (rows.take i ++ [r]) = _
  rw [tieFrom_append, List.length_take, show min i rows.length = i by omega]
  show _ ++ ((r.map fun x => [0 + (i : Int), x]) ++ []) = _
  rw [List.append_nil, Int.zero_add]
theorem tie_len {b : Nat} : ∀ (k : Int) (rows : List (List Int)), (∀ r ∈ rows, r.length ≤ b) → (tieFrom k rows).length ≤ rows.length * b
  | _, [], _ => Nat.zero_le _
  | k, r :: rs, h => by
    show ((r.map fun x => [k, x]) ++ tieFrom (k + 1) rs).length ≤ (rs.length + 1) * b
    rw [List.length_append, List.length_map, Nat.add_mul, Nat.one_mul]
    have h1 := h r List.mem_cons_self
    have h2 := tie_len (k + 1) rs fun q hq => h q (List.mem_cons_of_mem _ hq)
    omega
section
variable {P : Program} {w : World} {K : PySem.W.Frag} {mg : Str → Option Value} {base : Heap} {C : Addr}
def spTies (K : PySem.W.Frag) (C : Addr) : Sp := fun vs H Q _ => ∃ (x : V) (rows : List (List Int)), vs = [x] ∧ TableAt K C H x rows ∧ rows.length ≤ 100 ∧ (∀ r ∈ rows, r.length ≤ 100) ∧ ∀ p vs H', Same H H' → H p = none → H' p = some (.lst vs) → RowsT K H' vs (tieRows rows) → Q (.ref p) H'
theorem ok_ties (A : At K mg "ties" s_ties ["table"]) (T : Tx mg) (tc : TC K C) : Dfn P w K mg base "ties" ["table"] 1 (spTies K C) := by
  refine A.ok sc_ties (fun vs H Q E h => ?_) (fun f cdv A outer s H vs Q E hr h => ?_)
  · obtain ⟨x, rows, rfl, _⟩ := h
    rfl
  · obtain ⟨x, rows, rfl, ⟨p, dx, v, rfl, hp, ⟨a, vs, rfl, ha, hrs⟩⟩, hl, hrl, k⟩ := h
    refine ⟨_, (pss_one (ps_ret (pe_lc2 (own := [("person", 1), ("row", 2), ("thing", 3)]) (vs1 := [3]) (g := (gTup K 2 (gCons (gName 1) (gCons (gName 2) gNil)))) (tt := tYes) (wi1 := (iTup K (tVar 2))) (g1 := (gName 3)) (tt1 := tYes) (te := (tTup (tCons (tVar 1) (tCons (tVar 3) tNil)))) (by rfl) sc_ties.nd (pi_enumT (by rfl) T.enumerate (pa_cons (pe_fld (pv 0) rfl) pa_nil)) (blkOk_by (own := [("person", 1), ("row", 2), ("thing", 3)]) (N := n_ties) (sc := (defScope s_ties)) (by decide +kernel)) (by decide) (fun _ _ _ _ _ => (pg_tup rfl (pgs_cons (pg_name (i := 1) sc_ties.nd rfl (Or.inl rfl)) (pgs_cons (pg_name (i := 2) sc_ties.nd rfl (Or.inl rfl)) pgs_nil)))) (fun _ _ _ _ _ => pts_nil) (fun _ _ _ _ _ => (pi_tup (pv 2))) (fun _ _ _ _ _ => (pg_name (i := 3) sc_ties.nd rfl (Or.inl rfl))) (fun _ _ _ _ _ => pts_nil) (fun _ _ _ _ _ => (pe_tup (pa_cons (pv 1) (pa_cons (pv 3) pa_nil))))))), ?_⟩
    refine ⟨_, rfl, p, C, dx, _, .ref a, rfl, hp, tc.cl, tc.nR, tf_rows _ _, a, vs, rfl, ha, fun D hD => ?_⟩
    have bnd : ∀ i, (tieRows (rows.take i)).length ≤ 10000 := fun i => by
      have h1 := tie_len (b := 100) 0 (rows.take i) fun r hr => hrl r (List.mem_of_mem_take hr)
      have h2 : (rows.take i).length ≤ 100 := Nat.le_trans (List.length_take_le' _ _) hl
      have h3 : (rows.take i).length * 100 ≤ 100 * 100 := Nat.mul_le_mul_right 100 h2
      show (tieFrom 0 (rows.take i)).length ≤ 10000
      omega
    refine ⟨fun i m H' => m = vs.length - i ∧ i ≤ vs.length ∧ ∃ ws, H' D = some (.lst ws) ∧ RowsT K H' ws (tieRows (rows.take i)) ∧ Same H H', ⟨vs.length, by simp, Nat.zero_le _, [], upd_same, .nil, same_new hD⟩, ?_⟩
    rintro i m H1 ⟨rfl, hi, ws, hDw, hws, s1⟩
    by_cases hlt : i < vs.length
    · have hir : i < rows.length := by rw [← hrs.len]; exact hlt
      have hri := List.getElem?_eq_getElem hir
      obtain ⟨q, hq1, hq2⟩ := hrs.get hri
      have hvi : vs[i] = .ref q := by
        rw [List.getElem?_eq_getElem hlt] at hq1
        exact Option.some.inj hq1
      generalize rows[i] = r at hri hq2
      have hrm := List.mem_of_getElem? hri
      refine .inr ⟨⟨vs, vs[i], sqT_same s1 ha, by simp [hlt]⟩, fun H' => ∃ ws, H' D = some (.lst ws) ∧ RowsT K H' ws (tieRows (rows.take (i + 1))) ∧ Same H H', fun H' h => ⟨vs.length - (i + 1), by omega, rfl, hlt, h⟩, fun y H' hy => ?_⟩
      obtain ⟨T', x', rfl, nT, rfl, hx'⟩ := hy
      have ex : x' = .ref q := by
        have := hx' vs (sqT_same s1 ha)
        rw [hq1] at this
        exact (Option.some.inj this).symm
      subst ex
      have hDT : D ≠ T' := ne_of_none hDw nT
      have s2 : Same H (upd H1 T' (.tup [.int (i : Nat), .ref q])) := s1.trans (same_new nT)
      refine ⟨T', _, rfl, SqT.of upd_same, rfl, _, _, rfl, _, _, rfl, rfl, rfl, ?_⟩
      -- the inner loop
      refine ⟨_, rfl, q, rfl, ⟨_, sqT_same s2 hq2⟩, ?_⟩
      refine ⟨fun j m H' => m = r.length - j ∧ j ≤ r.length ∧ ∃ ws, H' D = some (.lst ws) ∧ RowsT K H' ws (tieRows (rows.take i) ++ (r.take j).map fun x => [(i : Int), x]) ∧ Same H H', ⟨r.length, by simp, Nat.zero_le _, ws, by rw [upd_ne hDT]; exact hDw, by
        rw [List.take_zero, List.map_nil, List.append_nil]
        exact hws.same (same_new nT), s2⟩, ?_⟩
      rintro j m H2 ⟨rfl, hj, ws2, hDw2, hws2, s3⟩
      by_cases hjl : j < r.length
      · have hrj := List.getElem?_eq_getElem hjl
        refine .inr ⟨⟨r.map V.int, .int r[j], sqT_same s3 hq2, by rw [List.getElem?_map, hrj]; rfl⟩, fun H' => ∃ ws, H' D = some (.lst ws) ∧ RowsT K H' ws (tieRows (rows.take i) ++ (r.take (j + 1)).map fun x => [(i : Int), x]) ∧ Same H H', fun H' h => ⟨r.length - (j + 1), by omega, rfl, hjl, h⟩, fun y H' hy => ?_⟩
        obtain ⟨rfl, hy⟩ := hy
        have ey : y = .int r[j] := by
          have := hy _ (sqT_same s3 hq2)
          rw [List.getElem?_map, hrj] at this
          exact (Option.some.inj this).symm
        subst ey
        refine ⟨rfl, _, rfl, _, rfl, by show 2 ≤ sizeLine; decide, fun z hz => ?_⟩
        have hDz : D ≠ z := ne_of_none hDw2 hz
        have ln : ws2.length ≤ 100000 := by
          rw [hws2.len, List.length_append, List.length_map]
          have h1 := bnd i
          have h2 := hrl r hrm
          have h3 : (r.take j).length ≤ r.length := List.length_take_le' _ _
          omega
        refine ⟨ws2, by rw [upd_ne hDz]; exact hDw2, small_lt ln, ws2 ++ [.ref z], upd_same, ?_, same_mut (s3.trans (same_new hz)) hD⟩
        have e : (r.take (j + 1)).map (fun x => [(i : Int), x]) = (r.take j).map (fun x => [(i : Int), x]) ++ [[(i : Int), r[j]]] := by
          rw [List.take_add_one, hrj, List.map_append]
          rfl
        rw [e, ← List.append_assoc]
        exact RowsT.snoc (r := [(i : Int), r[j]]) (SqT.of (by rw [upd_ne hDz.symm, upd_same]; rfl)) ((hws2.same (same_new hz)).put (by rw [upd_ne hDz]; exact hDw2))
      · have e : j = r.length := by omega
        subst e
        refine .inl ⟨⟨_, sqT_same s3 hq2, by rw [List.length_map]; exact Nat.le_refl _⟩, ws2, hDw2, ?_, s3⟩
        rw [List.take_length] at hws2
        rw [tie_take hri]
        exact hws2
    · have e : i = vs.length := by omega
      subst e
      refine .inl ⟨⟨vs, sqT_same s1 ha, Nat.le_refl _⟩, ?_⟩
      rw [hrs.len, List.take_length] at hws
      exact k D ws H1 s1 hD hDw hws
end
end Fo
set_option maxRecDepth 100000
set_option maxHeartbeats 2000000
namespace Fo
open PySem PySem.Spec PyProof.Rows L2
def Sq (b : Bool) (K : PySem.W.Frag) (H : Hp) (a : Addr) (xs : List V) : Prop := match b with
  | true => SqL K H a xs
  | false => SqT K H a xs
theorem Sq.same {b : Bool} {K : PySem.W.Frag} {H H' : Hp} {a : Addr} {xs : List V} (h : Sq b K H a xs) (e : Same H H') : Sq b K H' a xs := by
  cases b with
  | true => exact e.seq h
  | false => exact sqT_same e h
theorem Sq.or {b : Bool} {K : PySem.W.Frag} {H : Hp} {a : Addr} {xs : List V} (h : Sq b K H a xs) : SqL K H a xs ∨ SqT K H a xs := by
  cases b with
  | true => exact .inl h
  | false => exact .inr h
def iAlt (w1 w2 : TI) : TI := fun σ H R => w1 σ H R ∨ w2 σ H R
def rAlt (r1 r2 : R2) : R2 := fun x y H Q => r1 x y H Q ∨ r2 x y H Q
section
variable {X : Cx}
theorem pi_alt {tg e : Expr} {w1 w2 : TI} (h1 : PI X tg e w1) (h2 : PI X tg e w2) : PI X tg e (iAlt w1 w2) := ⟨fun pins s σ H R I h => h.elim (h1.run pins s σ H R I) (h2.run pins s σ H R I)⟩
theorem ix_sq : IxR X (rAlt (rIxL X.K) (rIxT X.K)) := by
  intro ev es pins s σ H x y v u Q I rx ry h pl
  rcases h with h | h
  · exact ix_list ev es pins s σ H x y v u Q I rx ry h pl
  · exact ix_tup ev es pins s σ H x y v u Q I rx ry h pl
end
section
variable {K : PySem.W.Frag}
def ItS (b : Bool) (K : PySem.W.Frag) (a : Addr) : It := match b with
  | true => Itl K a
  | false => Itt K a
def ItES (b : Bool) (K : PySem.W.Frag) (a : Addr) : It := match b with
  | true => Ite K a
  | false => IteT K a
theorem alt_it {b : Bool} {a : Addr} {te : TE} {σ : L2.St} {H H1 : Hp} {R : It → Hp → Prop} {xs : List V} (ht : ∀ Q : VK, Q (.ref a) H1 → te σ H Q) (hq : Sq b K H1 a xs) (hR : R (ItS b K a) H1) : iAlt (iList K te) (iTup K te) σ H R := by
  cases b with
  | true => exact .inl (ht _ ⟨a, rfl, ⟨xs, hq⟩, hR⟩)
  | false => exact .inr (ht _ ⟨a, rfl, ⟨xs, hq⟩, hR⟩)
theorem alt_en {b : Bool} {a : Addr} {ta : TA} {σ : L2.St} {H H1 : Hp} {R : It → Hp → Prop} {xs : List V} (ht : ∀ Q : List V → Hp → Prop, Q [.ref a] H1 → ta σ H Q) (hq : Sq b K H1 a xs) (hR : R (ItES b K a) H1) : iAlt (iEnum K ta) (iEnumT K ta) σ H R := by
  cases b with
  | true => exact .inl (ht _ ⟨a, xs, rfl, hq, hR⟩)
  | false => exact .inr (ht _ ⟨a, xs, rfl, hq, hR⟩)
theorem alt_ix {b : Bool} {a : Addr} {i : Int} {v : V} {H : Hp} {Q : VK} {xs : List V} (hq : Sq b K H a xs) (h : atI xs i = some v) (q : Q v H) : rAlt (rIxL K) (rIxT K) (.ref a) (.int i) H Q := by
  cases b with
  | true => exact .inl ⟨a, xs, i, v, rfl, rfl, hq, h, q⟩
  | false => exact .inr ⟨a, xs, i, v, rfl, rfl, hq, h, q⟩
theorem for_sq {b : Bool} {a : Addr} {xs : List V} {g : TG} {tb : TS} {D : Ends} {σ : L2.St} {H : Hp} (Pv : Nat → L2.St → Hp → Prop) (h0 : Pv 0 σ H) (hl : ∀ i σ H, i ≤ xs.length → Pv i σ H → Sq b K H a xs)
    (hs : ∀ i x σ H, xs[i]? = some x → Pv i σ H → g x σ H fun σ2 H2 => tb { D with nx := Pv (i + 1), ct := Pv (i + 1), bk := D.nx } σ2 H2) (hd : ∀ σ H, Pv xs.length σ H → D.nx σ H) :
    ∃ W : Nat → Nat → L2.St → Hp → Prop, (∃ m, W 0 m σ H) ∧ ∀ i m σ H, W i m σ H →
      ((ItS b K a).stop i H ∧ D.nx σ H) ∨ ((ItS b K a).go i H ∧ ∃ N : L2.St → Hp → Prop, (∀ σ' H', N σ' H' → ∃ m', m' < m ∧ W (i + 1) m' σ' H') ∧ ∀ x H', (ItS b K a).yld i H x H' → g x σ H' fun σ2 H2 => tb { D with nx := N, ct := N, bk := D.nx } σ2 H2) := by
  cases b with
  | true => exact for_list Pv h0 hl hs hd
  | false => exact for_tup Pv h0 hl hs hd
theorem lc_sq {b : Bool} {a : Addr} {xs : List V} {g : TG} {tt : TT} {te : TE} {vs : List Nat} {σ : L2.St} {H1 : Hp} {D : Addr} {Qd : Hp → Prop} (Pv : Nat → Hp → Prop) (h0 : Pv 0 (upd H1 D (.lst []))) (hl : ∀ i H, i ≤ xs.length → Pv i H → Sq b K H a xs)
    (hs : ∀ i x H, xs[i]? = some x → Pv i H → g x (wipe σ vs) H fun σ2 H2 => wipe σ2 vs = wipe σ vs ∧ tt σ2 H2 fun c H3 =>
      if c = true then te σ2 H3 fun y H4 => ∃ acc, H4 D = some (.lst acc) ∧ acc.length < sizeLine ∧ Pv (i + 1) (upd H4 D (.lst (acc ++ [y]))) else Pv (i + 1) H3) (hd : ∀ H, Pv xs.length H → Qd H) :
    ∃ W : Nat → Nat → Hp → Prop, (∃ m, W 0 m (upd H1 D (.lst []))) ∧ ∀ i m H, W i m H →
      ((ItS b K a).stop i H ∧ Qd H) ∨ ((ItS b K a).go i H ∧ ∃ Nx : Hp → Prop, (∀ H', Nx H' → ∃ m', m' < m ∧ W (i + 1) m' H') ∧ ∀ x H', (ItS b K a).yld i H x H' → g x (wipe σ vs) H' fun σ2 H2 => wipe σ2 vs = wipe σ vs ∧ tt σ2 H2 fun c H3 =>
        if c = true then te σ2 H3 fun y H4 => ∃ acc, H4 D = some (.lst acc) ∧ acc.length < sizeLine ∧ Nx (upd H4 D (.lst (acc ++ [y]))) else Nx H3) := by
  cases b with
  | true => exact lc_list Pv h0 hl hs hd
  | false => exact lc_tup Pv h0 hl hs hd
theorem for_enumL {a : Addr} {xs : List V} {g : TG} {tb : TS} {D : Ends} {σ : L2.St} {H : Hp} (Pv : Nat → L2.St → Hp → Prop) (h0 : Pv 0 σ H) (hl : ∀ i σ H, i ≤ xs.length → Pv i σ H → SqL K H a xs)
    (hs : ∀ i x σ H T, xs[i]? = some x → Pv i σ H → H T = none → g (.ref T) σ (upd H T (.tup [.int (i : Nat), x])) fun σ2 H2 => tb { D with nx := Pv (i + 1), ct := Pv (i + 1), bk := D.nx } σ2 H2) (hd : ∀ σ H, Pv xs.length σ H → D.nx σ H) :
    ∃ W : Nat → Nat → L2.St → Hp → Prop, (∃ m, W 0 m σ H) ∧ ∀ i m σ H, W i m σ H →
      ((Ite K a).stop i H ∧ D.nx σ H) ∨ ((Ite K a).go i H ∧ ∃ N : L2.St → Hp → Prop, (∀ σ' H', N σ' H' → ∃ m', m' < m ∧ W (i + 1) m' σ' H') ∧ ∀ x H', (Ite K a).yld i H x H' → g x σ H' fun σ2 H2 => tb { D with nx := N, ct := N, bk := D.nx } σ2 H2) := by
  refine ⟨fun i m σ H => m = xs.length - i ∧ i ≤ xs.length ∧ Pv i σ H, ⟨xs.length, by simp, Nat.zero_le _, h0⟩, ?_⟩
  rintro i m σ H ⟨rfl, hi, p⟩
  have q := hl i σ H hi p
  by_cases hlt : i < xs.length
  · refine .inr ⟨⟨xs, xs[i], q, by simp [hlt]⟩, Pv (i + 1), fun σ' H' p' => ⟨xs.length - (i + 1), by omega, rfl, hlt, p'⟩, fun x H' y => ?_⟩
    obtain ⟨T, x', rfl, nT, rfl, y⟩ := y
    exact hs i x' σ H T (y xs q) p nT
  · have e : i = xs.length := by omega
    subst e
    exact .inl ⟨⟨xs, q, Nat.le_refl _⟩, hd σ H p⟩
theorem lc_enumL {a : Addr} {xs : List V} {g : TG} {tt : TT} {te : TE} {vs : List Nat} {σ : L2.St} {H1 : Hp} {D : Addr} {Qd : Hp → Prop} (Pv : Nat → Hp → Prop) (h0 : Pv 0 (upd H1 D (.lst []))) (hl : ∀ i H, i ≤ xs.length → Pv i H → SqL K H a xs)
    (hs : ∀ i x H T, xs[i]? = some x → Pv i H → H T = none → g (.ref T) (wipe σ vs) (upd H T (.tup [.int (i : Nat), x])) fun σ2 H2 => wipe σ2 vs = wipe σ vs ∧ tt σ2 H2 fun b H3 =>
      if b = true then te σ2 H3 fun y H4 => ∃ acc, H4 D = some (.lst acc) ∧ acc.length < sizeLine ∧ Pv (i + 1) (upd H4 D (.lst (acc ++ [y]))) else Pv (i + 1) H3) (hd : ∀ H, Pv xs.length H → Qd H) :
    ∃ W : Nat → Nat → Hp → Prop, (∃ m, W 0 m (upd H1 D (.lst []))) ∧ ∀ i m H, W i m H →
      ((Ite K a).stop i H ∧ Qd H) ∨ ((Ite K a).go i H ∧ ∃ Nx : Hp → Prop, (∀ H', Nx H' → ∃ m', m' < m ∧ W (i + 1) m' H') ∧ ∀ x H', (Ite K a).yld i H x H' → g x (wipe σ vs) H' fun σ2 H2 => wipe σ2 vs = wipe σ vs ∧ tt σ2 H2 fun b H3 =>
        if b = true then te σ2 H3 fun y H4 => ∃ acc, H4 D = some (.lst acc) ∧ acc.length < sizeLine ∧ Nx (upd H4 D (.lst (acc ++ [y]))) else Nx H3) := by
  refine ⟨fun i m H => m = xs.length - i ∧ i ≤ xs.length ∧ Pv i H, ⟨xs.length, by simp, Nat.zero_le _, h0⟩, ?_⟩
  rintro i m H ⟨rfl, hi, p⟩
  have q := hl i H hi p
  by_cases hlt : i < xs.length
  · refine .inr ⟨⟨xs, xs[i], q, by simp [hlt]⟩, Pv (i + 1), fun H' p' => ⟨xs.length - (i + 1), by omega, rfl, hlt, p'⟩, fun x H' y => ?_⟩
    obtain ⟨T, x', rfl, nT, rfl, y⟩ := y
    exact hs i x' H T (y xs q) p nT
  · have e : i = xs.length := by omega
    subst e
    exact .inl ⟨⟨xs, q, Nat.le_refl _⟩, hd H p⟩
theorem for_enS {b : Bool} {a : Addr} {xs : List V} {g : TG} {tb : TS} {D : Ends} {σ : L2.St} {H : Hp} (Pv : Nat → L2.St → Hp → Prop) (h0 : Pv 0 σ H) (hl : ∀ i σ H, i ≤ xs.length → Pv i σ H → Sq b K H a xs)
    (hs : ∀ i x σ H T, xs[i]? = some x → Pv i σ H → H T = none → g (.ref T) σ (upd H T (.tup [.int (i : Nat), x])) fun σ2 H2 => tb { D with nx := Pv (i + 1), ct := Pv (i + 1), bk := D.nx } σ2 H2) (hd : ∀ σ H, Pv xs.length σ H → D.nx σ H) :
    ∃ W : Nat → Nat → L2.St → Hp → Prop, (∃ m, W 0 m σ H) ∧ ∀ i m σ H, W i m σ H →
      ((ItES b K a).stop i H ∧ D.nx σ H) ∨ ((ItES b K a).go i H ∧ ∃ N : L2.St → Hp → Prop, (∀ σ' H', N σ' H' → ∃ m', m' < m ∧ W (i + 1) m' σ' H') ∧ ∀ x H', (ItES b K a).yld i H x H' → g x σ H' fun σ2 H2 => tb { D with nx := N, ct := N, bk := D.nx } σ2 H2) := by
  cases b with
  | true => exact for_enumL Pv h0 hl hs hd
  | false => exact for_enumT Pv h0 hl hs hd
theorem lc_enS {b : Bool} {a : Addr} {xs : List V} {g : TG} {tt : TT} {te : TE} {vs : List Nat} {σ : L2.St} {H1 : Hp} {D : Addr} {Qd : Hp → Prop} (Pv : Nat → Hp → Prop) (h0 : Pv 0 (upd H1 D (.lst []))) (hl : ∀ i H, i ≤ xs.length → Pv i H → Sq b K H a xs)
    (hs : ∀ i x H T, xs[i]? = some x → Pv i H → H T = none → g (.ref T) (wipe σ vs) (upd H T (.tup [.int (i : Nat), x])) fun σ2 H2 => wipe σ2 vs = wipe σ vs ∧ tt σ2 H2 fun c H3 =>
      if c = true then te σ2 H3 fun y H4 => ∃ acc, H4 D = some (.lst acc) ∧ acc.length < sizeLine ∧ Pv (i + 1) (upd H4 D (.lst (acc ++ [y]))) else Pv (i + 1) H3) (hd : ∀ H, Pv xs.length H → Qd H) :
    ∃ W : Nat → Nat → Hp → Prop, (∃ m, W 0 m (upd H1 D (.lst []))) ∧ ∀ i m H, W i m H →
      ((ItES b K a).stop i H ∧ Qd H) ∨ ((ItES b K a).go i H ∧ ∃ Nx : Hp → Prop, (∀ H', Nx H' → ∃ m', m' < m ∧ W (i + 1) m' H') ∧ ∀ x H', (ItES b K a).yld i H x H' → g x (wipe σ vs) H' fun σ2 H2 => wipe σ2 vs = wipe σ vs ∧ tt σ2 H2 fun c H3 =>
        if c = true then te σ2 H3 fun y H4 => ∃ acc, H4 D = some (.lst acc) ∧ acc.length < sizeLine ∧ Nx (upd H4 D (.lst (acc ++ [y]))) else Nx H3) := by
  cases b with
  | true => exact lc_enumL Pv h0 hl hs hd
  | false => exact lc_enumT Pv h0 hl hs hd
end
inductive RowsB (b : Bool) (K : PySem.W.Frag) (H : Hp) : List V → List (List Int) → Prop
  | nil : RowsB b K H [] []
  | cons {a : Addr} {vs : List V} {r : List Int} {rs : List (List Int)} : Sq b K H a (r.map V.int) → RowsB b K H vs rs → RowsB b K H (.ref a :: vs) (r :: rs)
theorem RowsB.same {b : Bool} {K : PySem.W.Frag} {H H' : Hp} (g : Same H H') : ∀ {vs : List V} {rs : List (List Int)}, RowsB b K H vs rs → RowsB b K H' vs rs
  | _, _, .nil => .nil
  | _, _, .cons h r => .cons (h.same g) (r.same g)
theorem RowsB.len {b : Bool} {K : PySem.W.Frag} {H : Hp} : ∀ {vs : List V} {rs : List (List Int)}, RowsB b K H vs rs → vs.length = rs.length
  | _, _, .nil => rfl
  | _, _, .cons _ r => by rw [List.length_cons, List.length_cons, r.len]
theorem RowsB.get {b : Bool} {K : PySem.W.Frag} {H : Hp} : ∀ {vs : List V} {rs : List (List Int)} {i : Nat} {v : V}, RowsB b K H vs rs → vs[i]? = some v → ∃ a r, v = .ref a ∧ rs[i]? = some r ∧ Sq b K H a (r.map V.int)
  | _, _, _, _, .nil, e => by simp at e
  | _, _, 0, v, .cons (a := a) (r := r) h _, e => by
    have e' : some (V.ref a) = some v := e
    cases e'
    exact ⟨a, r, rfl, rfl, h⟩
  | _, _, i + 1, v, .cons _ t, e => t.get (i := i) e
theorem RowsB.at_ {b : Bool} {K : PySem.W.Frag} {H : Hp} {vs : List V} {rs : List (List Int)} {i : Nat} {r : List Int} (h : RowsB b K H vs rs) (e : rs[i]? = some r) : ∃ a, vs[i]? = some (.ref a) ∧ Sq b K H a (r.map V.int) := by
  have hi : i < vs.length := by rw [h.len]; exact (List.getElem?_eq_some_iff.mp e).1
  obtain ⟨a, r', e1, e2, e3⟩ := h.get (List.getElem?_eq_getElem hi)
  rw [e] at e2
  cases e2
  exact ⟨a, by rw [List.getElem?_eq_getElem hi, e1], e3⟩
theorem RowsB.snoc {b : Bool} {K : PySem.W.Frag} {H : Hp} {a : Addr} {r : List Int} (h : Sq b K H a (r.map V.int)) : ∀ {vs : List V} {rs : List (List Int)}, RowsB b K H vs rs → RowsB b K H (vs ++ [.ref a]) (rs ++ [r])
  | _, _, .nil => .cons h .nil
  | _, _, .cons q t => .cons q (t.snoc h)
def RowsQ (b : Bool) (K : PySem.W.Frag) (H : Hp) (v : V) (rows : List (List Int)) : Prop := ∃ a vs, v = .ref a ∧ Sq b K H a vs ∧ RowsB b K H vs rows
theorem RowsQ.same {b : Bool} {K : PySem.W.Frag} {H H' : Hp} {v : V} {rows : List (List Int)} (h : RowsQ b K H v rows) (g : Same H H') : RowsQ b K H' v rows := by
  obtain ⟨a, vs, e, h1, h2⟩ := h
  exact ⟨a, vs, e, h1.same g, h2.same g⟩
theorem rowsB_T {K : PySem.W.Frag} {H : Hp} : ∀ {vs : List V} {rs : List (List Int)}, RowsT K H vs rs → RowsB false K H vs rs
  | _, _, .nil => .nil
  | _, _, .cons h r => .cons h (rowsB_T r)
theorem RowsAt.q {K : PySem.W.Frag} {H : Hp} {v : V} {rows : List (List Int)} (h : RowsAt K H v rows) : RowsQ false K H v rows := by
  obtain ⟨a, vs, e, h1, h2⟩ := h
  exact ⟨a, vs, e, h1, rowsB_T h2⟩
end Fo
set_option maxRecDepth 100000
set_option maxHeartbeats 2000000
namespace Fo
open PySem PySem.Spec PyProof.Rows L2
section
variable {X : Cx}
theorem pip_of {op : Operator} {r : R2} (h : OpR X (inplaceOp op) r) : PIp X op r := fun pins s σ H x y v u Q I r1 r2 q => h pins s σ H x y v u Q I r1 r2 q
def rGetL (K : PySem.W.Frag) : V → V → Hp → VK → Prop := fun o i H Q => ∃ p xs k v, o = .ref p ∧ i = .int k ∧ 0 ≤ k ∧ SqL K H p xs ∧ atI xs k = some v ∧ Q v H
theorem get_list : PGet X (rGetL X.K) := by
  intro pins s σ H o i ov iv Q I ro ri h
  obtain ⟨p, xs, k, z, rfl, rfl, k0, hq, he, q⟩ := h
  cases ro
  obtain ⟨t, rfl⟩ := ri
  obtain ⟨its, r, pl, hz⟩ := I.list hq
  obtain ⟨j, h1, h2, h3, h4, h5⟩ := atI_get he
  obtain ⟨w, ew, rw'⟩ := r.get h2
  have hl := r.length
  have hn := line63
  have hj : k.toNat = j := by
    rw [seqIndex_of k0 h5] at h1
    exact Option.some.inj h1
  exact wpAny_getItem_list pl.isList k0 (by omega) (by rw [hj]; simpa using ew) ⟨z, H, I, rw', q⟩
end
theorem while_m {c : TT} {tb : TS} {D : Ends} {σ : L2.St} {H : Hp} (Pv : Nat → L2.St → Hp → Prop) (h0 : ∃ m, Pv m σ H)
    (hs : ∀ m σ H, Pv m σ H → c σ H fun b H1 => if b = true then tb { D with nx := fun σ' H' => ∃ j, j < m ∧ Pv j σ' H', ct := fun σ' H' => ∃ j, j < m ∧ Pv j σ' H', bk := D.nx } σ H1 else D.nx σ H1)
    (mono : ∀ σ H Q Q', (∀ b H1, Q b H1 → Q' b H1) → c σ H Q → c σ H Q') : tWhile c tb D σ H := by
  refine ⟨Pv, h0, fun m σ H p => mono σ H _ _ (fun b H1 q => ?_) (hs m σ H p)⟩
  cases b with
  | true => exact ⟨_, fun σ' H' h => h, q⟩
  | false => exact q
abbrev nV (q : Nat) : V := .int (q : Int)
def DR (H : Hp) (a : Addr) (f : Int → Option Nat) : Prop := ∃ kvs : List (Key × V), H a = some (.dK kvs) ∧ (∀ t : Int, valV kvs (.inl t) = (f t).map nV) ∧ (kvs.map (·.1)).Nodup ∧ ∀ k ∈ kvs.map (·.1), ∃ t : Int, k = .inl t ∧ f t ≠ none
theorem DR.new {H : Hp} {p : Addr} : DR (upd H p (.dK [])) p (fun _ => none) := ⟨[], upd_same, fun _ => rfl, List.nodup_nil, fun _ h => (by cases h)⟩
theorem DR.at_ {H H' : Hp} {a : Addr} {f : Int → Option Nat} (d : DR H a f) (h : ∀ o, H a = some o → H' a = some o) : DR H' a f := by
  obtain ⟨kvs, e, r⟩ := d
  exact ⟨kvs, h _ e, r⟩
theorem DR.isd {H : Hp} {a : Addr} {f : Int → Option Nat} (d : DR H a f) : ∃ kvs, H a = some (.dK kvs) := by
  obtain ⟨kvs, e, r⟩ := d
  exact ⟨kvs, e⟩
theorem keys_put {kvs : List (Key × V)} {k : Key} {v : V} : ∀ j ∈ (putK kvs k v).map (·.1), j = k ∨ j ∈ kvs.map (·.1) := by
  intro j hj
  unfold putK at hj
  by_cases c : (kvs.any fun kv => decide (kv.1 = k)) = true
  · rw [if_pos c, List.map_map] at hj
    right
    obtain ⟨kv, h1, h2⟩ := List.mem_map.mp hj
    refine List.mem_map.mpr ⟨kv, h1, ?_⟩
    rw [← h2]
    show kv.1 = (if kv.1 = k then (kv.1, v) else kv).1
    by_cases z : kv.1 = k
    · rw [if_pos z]
    · rw [if_neg z]
  · rw [if_neg c, List.map_append] at hj
    rcases List.mem_append.mp hj with h | h
    · exact .inr h
    · exact .inl (by simpa using h)
theorem nodup_put {kvs : List (Key × V)} {k : Key} {v : V} (h : (kvs.map (·.1)).Nodup) : ((putK kvs k v).map (·.1)).Nodup := by
  unfold putK
  by_cases c : (kvs.any fun kv => decide (kv.1 = k)) = true
  · rw [if_pos c, List.map_map]
    have e : kvs.map ((·.1) ∘ fun kv => if kv.1 = k then (kv.1, v) else kv) = kvs.map (·.1) := List.map_congr_left fun kv _ => by
      show (if kv.1 = k then (kv.1, v) else kv).1 = kv.1
      by_cases z : kv.1 = k
      · rw [if_pos z]
      · rw [if_neg z]
    rw [e]
    exact h
  · rw [if_neg c, List.map_append]
    refine List.nodup_append.mpr ⟨h, List.nodup_cons.mpr ⟨fun z => (by cases z), List.nodup_nil⟩, fun x hx y hy => ?_⟩
    have ey : y = k := by simpa using hy
    rw [ey]
    intro z
    apply c
    rw [List.any_eq_true]
    obtain ⟨kv, h1, h2⟩ := List.mem_map.mp hx
    exact ⟨kv, h1, decide_eq_true (by rw [h2, z])⟩
theorem DR.len {H : Hp} {a : Addr} {f : Int → Option Nat} {U : List Int} {kvs : List (Key × V)} (hn : (kvs.map (·.1)).Nodup) (hk : ∀ k ∈ kvs.map (·.1), ∃ t : Int, k = .inl t ∧ f t ≠ none) (hU : ∀ t, f t ≠ none → t ∈ U) : kvs.length ≤ U.length := by
  have := Mt.len_le (l2 := U.map (Sum.inl : Int → Key)) hn fun k hk' => by
    obtain ⟨t, e, h⟩ := hk k hk'
    exact List.mem_map.mpr ⟨t, hU t h, e.symm⟩
  rw [List.length_map, List.length_map] at this
  exact this
theorem DR.get {H : Hp} {a : Addr} {f : Int → Option Nat} (d : DR H a f) (t : Int) : DGet H a (.int t) ((f t).map nV) := by
  obtain ⟨kvs, e, h, _⟩ := d
  rw [← h t]
  exact DGet.k (k := .inl t) e
theorem DR.put {H : Hp} {a : Addr} {f : Int → Option Nat} {U : List Int} (d : DR H a f) (t : Int) (q : Nat) (hU : ∀ t, f t ≠ none → t ∈ U) (hl : U.length ≤ 100000) : ∃ H', DPut H a (.int t) (nV q) H' ∧ DR H' a (Mt.fset f t (some q)) ∧ ∀ b, b ≠ a → H' b = H b := by
  obtain ⟨kvs, e, h, hn, hk⟩ := d
  have ln := DR.len (H := H) (a := a) hn hk hU
  refine ⟨_, DPut.k (k := .inl t) e (small_lt (by omega)), ⟨_, upd_same, fun s => ?_, nodup_put hn, fun k hk' => ?_⟩, fun b hb => upd_ne hb⟩
  · rw [valV_put]
    by_cases z : s = t
    · rw [if_pos (by rw [z]), z, Mt.fset_same]
      rfl
    · rw [if_neg (fun y => z (by injection y)), Mt.fset_ne z]
      exact h s
  · rcases keys_put k hk' with z | z
    · exact ⟨t, z, by rw [Mt.fset_same]; exact fun y => nomatch y⟩
    · obtain ⟨s, e1, e2⟩ := hk k z
      refine ⟨s, e1, ?_⟩
      by_cases y : s = t
      · rw [y, Mt.fset_same]; exact fun y => nomatch y
      · rw [Mt.fset_ne y]; exact e2
/-- all but two places are kept -/
def Keep2 (a b : Addr) (H H' : Hp) : Prop := ∀ c o, c ≠ a → c ≠ b → H c = some o → H' c = some o
theorem Keep2.refl {a b : Addr} {H : Hp} : Keep2 a b H H := fun _ _ _ _ h => h
theorem Keep2.trans {a b : Addr} {H H1 H2 : Hp} (x : Keep2 a b H H1) (y : Keep2 a b H1 H2) : Keep2 a b H H2 := fun c o h1 h2 e => y c o h1 h2 (x c o h1 h2 e)
theorem Keep2.same {a b : Addr} {H H' : Hp} (s : Same H H') : Keep2 a b H H' := fun c o _ _ e => s c o e
theorem same_keep2 {a b : Addr} {H0 H H' : Hp} (s : Same H0 H) (k : Keep2 a b H H') (ha : H0 a = none) (hb : H0 b = none) : Same H0 H' := fun c o e => k c o (ne_of_none e ha) (ne_of_none e hb) (s c o e)
/-- who holds what, as a list -/
abbrev oI : Option Int → V
  | none => .non
  | some t => .int t
def heldV (n : Nat) (h : Nat → Option Int) : List V := (List.range n).map fun p => oI (h p)
theorem heldV_len {n : Nat} {h : Nat → Option Int} : (heldV n h).length = n := by unfold heldV; rw [List.length_map, List.length_range]
theorem heldV_get {n p : Nat} {h : Nat → Option Int} (hp : p < n) : (heldV n h)[p]? = some (oI (h p)) := by
  unfold heldV
  rw [List.getElem?_map, List.getElem?_range hp]
  rfl
theorem heldV_set {n q : Nat} {h : Nat → Option Int} {t : Int} : (heldV n h).set q (.int t) = heldV n (Mt.fset h q (some t)) := by
  apply List.ext_getElem?
  intro i
  rw [List.getElem?_set, heldV_len]
  by_cases hq : q = i
  · rw [if_pos hq]
    subst hq
    by_cases hn : q < n
    · rw [if_pos hn, heldV_get hn, Mt.fset_same]
    · rw [if_neg hn]
      symm
      rw [List.getElem?_eq_none_iff, heldV_len]
      omega
  · rw [if_neg hq]
    by_cases hn : i < n
    · rw [heldV_get hn, heldV_get hn, Mt.fset_ne (Ne.symm hq)]
    · rw [List.getElem?_eq_none (by rw [heldV_len]; omega), List.getElem?_eq_none (by rw [heldV_len]; omega)]
/-- handing on in so many steps -/
inductive HandN (c : Mt.Came) : Nat → Mt.MS → Int → Mt.MS → Prop
  | last {m : Mt.MS} {t : Int} {q : Nat} : c t = some q → m.h q = none → HandN c 0 m t (Mt.put m q t)
  | more {k : Nat} {m m' : Mt.MS} {t s : Int} {q : Nat} : c t = some q → m.h q = some s → HandN c k (Mt.put m q t) s m' → HandN c (k + 1) m t m'
theorem hand_n {c : Mt.Came} {m m' : Mt.MS} {t : Int} (h : Mt.Hand c m t m') : ∃ k, HandN c k m t m' := by
  induction h with
  | last a b => exact ⟨0, .last a b⟩
  | more a b _ ih =>
    obtain ⟨k, hk⟩ := ih
    exact ⟨k + 1, .more a b hk⟩
end Fo
namespace Fo
open PySem PySem.Spec PyProof.Rows L2
theorem dc_enumL {K : PySem.W.Frag} {a : Addr} {xs : List V} {g : TG} {tt : TT} {tk tv : TE} {vs : List Nat} {σ : L2.St} {H1 : Hp} {D : Addr} {Qd : Hp → Prop} (Pv : Nat → Hp → Prop) (h0 : Pv 0 (upd H1 D (.dK []))) (hl : ∀ i H, i ≤ xs.length → Pv i H → SqL K H a xs)
    (hs : ∀ i x H T, xs[i]? = some x → Pv i H → H T = none → g (.ref T) (wipe σ vs) (upd H T (.tup [.int (i : Nat), x])) fun σ2 H2 => wipe σ2 vs = wipe σ vs ∧ tt σ2 H2 fun b H3 =>
      if b = true then tk σ2 H3 fun y H4 => tv σ2 H4 fun z H5 => ∃ kvs k, y = kV k ∧ H5 D = some (.dK kvs) ∧ kvs.length < sizeLine ∧ Pv (i + 1) (upd H5 D (.dK (putK kvs k z))) else Pv (i + 1) H3) (hd : ∀ H, Pv xs.length H → Qd H) :
    ∃ W : Nat → Nat → Hp → Prop, (∃ m, W 0 m (upd H1 D (.dK []))) ∧ ∀ i m H, W i m H →
      ((Ite K a).stop i H ∧ Qd H) ∨ ((Ite K a).go i H ∧ ∃ Nx : Hp → Prop, (∀ H', Nx H' → ∃ m', m' < m ∧ W (i + 1) m' H') ∧ ∀ x H', (Ite K a).yld i H x H' → g x (wipe σ vs) H' fun σ2 H2 => wipe σ2 vs = wipe σ vs ∧ tt σ2 H2 fun b H3 =>
        if b = true then tk σ2 H3 fun y H4 => tv σ2 H4 fun z H5 => ∃ kvs k, y = kV k ∧ H5 D = some (.dK kvs) ∧ kvs.length < sizeLine ∧ Nx (upd H5 D (.dK (putK kvs k z))) else Nx H3) := by
  refine ⟨fun i m H => m = xs.length - i ∧ i ≤ xs.length ∧ Pv i H, ⟨xs.length, by simp, Nat.zero_le _, h0⟩, ?_⟩
  rintro i m H ⟨rfl, hi, p⟩
  have q := hl i H hi p
  by_cases hlt : i < xs.length
  · refine .inr ⟨⟨xs, xs[i], q, by simp [hlt]⟩, Pv (i + 1), fun H' p' => ⟨xs.length - (i + 1), by omega, rfl, hlt, p'⟩, fun x H' y => ?_⟩
    obtain ⟨T, x', rfl, nT, rfl, y⟩ := y
    exact hs i x' H T (y xs q) p nT
  · have e : i = xs.length := by omega
    subst e
    exact .inl ⟨⟨xs, q, Nat.le_refl _⟩, hd H p⟩
/-- a list of numbers, by a function -/
def numL (n : Nat) (M : Nat → Nat) : List V := (List.range n).map fun p => nV (M p)
theorem numL_len {n : Nat} {M : Nat → Nat} : (numL n M).length = n := by unfold numL; rw [List.length_map, List.length_range]
theorem numL_get {n p : Nat} {M : Nat → Nat} (hp : p < n) : (numL n M)[p]? = some (nV (M p)) := by
  unfold numL
  rw [List.getElem?_map, List.getElem?_range hp]
  rfl
theorem numL_set {n q N : Nat} {M : Nat → Nat} : (numL n M).set q (nV N) = numL n (Mt.fset M q N) := by
  apply List.ext_getElem?
  intro i
  rw [List.getElem?_set, numL_len]
  by_cases hq : q = i
  · rw [if_pos hq]
    subst hq
    by_cases hn : q < n
    · rw [if_pos hn, numL_get hn, Mt.fset_same]
    · rw [if_neg hn]
      symm
      rw [List.getElem?_eq_none_iff, numL_len]
      omega
  · rw [if_neg hq]
    by_cases hn : i < n
    · rw [numL_get hn, numL_get hn, Mt.fset_ne (Ne.symm hq)]
    · rw [List.getElem?_eq_none (by rw [numL_len]; omega), List.getElem?_eq_none (by rw [numL_len]; omega)]
theorem numL_snoc {n N : Nat} {M : Nat → Nat} : numL n M ++ [nV N] = numL (n + 1) (Mt.fset M n N) := by
  unfold numL
  rw [List.range_succ, List.map_append]
  congr 1
  · exact List.map_congr_left fun p hp => by
      have := List.mem_range.mp hp
      rw [Mt.fset_ne (by omega)]
  · show _ = [nV (Mt.fset M n N n)]
    rw [Mt.fset_same]
def rOdd : R2 := fun x y H Q => ∃ n : Nat, x = .int (n : Int) ∧ y = .int 1 ∧ Q (.int ((n % 2 : Nat) : Int)) H
theorem two_pow_nat (k : Nat) : ((2 : Int) ^ k) = ((2 ^ k : Nat) : Int) := by
  induction k with
  | zero => rfl
  | succ k ih => rw [Int.pow_succ, ih, Nat.pow_succ]; omega
theorem or_nat (a b : Nat) : Builtin.bitOr (a : Int) (b : Int) = ((a ||| b : Nat) : Int) := by
  rw [bitOr_nn (by omega) (by omega)]
  rfl
theorem shr_nat (a k : Nat) : (a : Int) / 2 ^ k = ((a / 2 ^ k : Nat) : Int) := by
  rw [two_pow_nat]
  rfl
end Fo
namespace Fo
open PySem PySem.Spec PyProof.Rows L2
def rNotN : R2 := fun x y H Q => y = .non ∧ Q (.bl (!decide (x = .non))) H
end Fo
namespace Fo
open PySem PySem.Spec PyProof.Rows L2
def retScope (s : Stmt) : Scope := match (defBody s).getLast? with
  | some (.Return (some (.ListComp _ _ sc _)) _) => sc
  | some (.Return (some (.Call _ [.ListComp _ _ sc _] _ _)) _) => sc
  | _ => defScope s
def envQ (sc : Scope) : Env := { scope := sc, locals := 0, globals := 0, cells := [], qual := "", func := none, code := .none, frame := none, builtins := 0 }
theorem non_in (n : Nat) (h : Nat → Option Int) : inV .non (heldV n h) = decide (∃ p, p < n ∧ h p = none) := by
  unfold inV heldV
  rw [List.any_map]
  by_cases c : ∃ p, p < n ∧ h p = none
  · rw [decide_eq_true c, List.any_eq_true]
    obtain ⟨p, h1, h2⟩ := c
    exact ⟨p, List.mem_range.mpr h1, by show eqV (oI (h p)) .non = true; rw [h2]; rfl⟩
  · rw [decide_eq_false c]
    rw [Bool.eq_false_iff]
    intro q
    rw [List.any_eq_true] at q
    obtain ⟨p, h1, h2⟩ := q
    cases e : h p with
    | none => exact c ⟨p, List.mem_range.mp h1, e⟩
    | some t =>
      have h2' : eqV (oI (h p)) .non = true := h2
      rw [e] at h2'
      cases h2'
theorem held_flat (n : Nat) (h : Nat → Option Int) : (heldV n h).all flatV = true := by
  unfold heldV
  rw [List.all_map, List.all_eq_true]
  intro p _
  show flatV (oI (h p)) = true
  cases h p <;> rfl
end Fo
set_option maxRecDepth 100000
set_option maxHeartbeats 4000000
namespace Fo
open PySem PySem.Spec PyProof.Rows L2
abbrev s_hand_on : Stmt := top 17
abbrev n_hand_on : List Str := ["held", "owner", "came", "thing", "person", "left"]
theorem sc_hand_on : FnScope n_hand_on ["held", "owner", "came", "thing"] (defScope s_hand_on) := ⟨rfl, rfl, rfl, by decide +kernel, rfl, by decide +kernel, by decide +kernel⟩
abbrev s_give : Stmt := top 16
abbrev n_give : List Str := ["rows", "held", "owner", "person", "came", "waiting", "one", "thing"]
theorem sc_give : FnScope n_give ["rows", "held", "owner", "person"] (defScope s_give) := ⟨rfl, rfl, rfl, by decide +kernel, rfl, by decide +kernel, by decide +kernel⟩
abbrev s_matched : Stmt := top 15
abbrev n_matched : List Str := ["rows", "held", "owner", "person"]
theorem sc_matched : FnScope n_matched ["rows"] (defScope s_matched) := ⟨rfl, rfl, rfl, by decide +kernel, rfl, by decide +kernel, by decide +kernel⟩
theorem ixN_nat {n q : Nat} (h : q < n) : ixN n (q : Int) = some q := by
  unfold ixN
  rw [if_pos (by omega), if_pos (by omega)]
  rfl
theorem at_nat {α : Type} {xs : List α} {x : α} {j : Nat} (h : xs[j]? = some x) : atI xs (j : Int) = some x := atI_nat h
section
variable {P : Program} {w : World} {K : PySem.W.Frag} {mg : Str → Option Value} {base : Heap} {C : Addr}
def HR (n : Nat) (H : Hp) (hd ow : Addr) (m : Mt.MS) : Prop := H hd = some (.lst (heldV n m.h)) ∧ DR H ow m.o
theorem HR.ne {n : Nat} {H : Hp} {hd ow : Addr} {m : Mt.MS} (h : HR n H hd ow m) : hd ≠ ow := by
  obtain ⟨kvs, e⟩ := h.2.isd
  exact ne_of h.1 e (by intro z; cases z)
theorem HR.at_ {n : Nat} {H H' : Hp} {hd ow : Addr} {m : Mt.MS} (h : HR n H hd ow m) (a : ∀ o, H hd = some o → H' hd = some o) (b : ∀ o, H ow = some o → H' ow = some o) : HR n H' hd ow m := ⟨a _ h.1, h.2.at_ b⟩
def spHand : Sp := fun vs H Q _ => ∃ (hd ow cm : Addr) (n : Nat) (m m' : Mt.MS) (c : Mt.Came) (t : Int) (U : List Int), vs = [.ref hd, .ref ow, .ref cm, .int t] ∧ HR n H hd ow m ∧ DR H cm c ∧ cm ≠ ow ∧ Mt.Hand c m t m' ∧
  (∀ s q, c s = some q → q < n ∧ s ∈ U) ∧ (∀ s, m.o s ≠ none → s ∈ U) ∧ U.length ≤ 100000 ∧ n ≤ 100000 ∧ ∀ H', Keep2 hd ow H H' → HR n H' hd ow m' → Q .non H'
theorem ok_hand (A : At K mg "_hand_on" s_hand_on ["held", "owner", "came", "thing"]) (T : Tx mg) : Dfn P w K mg base "_hand_on" ["held", "owner", "came", "thing"] 1 spHand := by
  refine A.ok sc_hand_on (fun vs H Q E h => ?_) (fun f cdv A outer s H vs Q E hr h => ?_)
  · obtain ⟨hd, ow, cm, n, m, m', c, t, U, rfl, _⟩ := h
    rfl
  · obtain ⟨hd, ow, cm, n, m, m', c, t, U, rfl, hm, hc, nco, hh, hcb, hU, hl, hn, k⟩ := h
    obtain ⟨j0, hj0⟩ := hand_n hh
    have ncd : cm ≠ hd := by
      obtain ⟨kvs, e⟩ := hc.isd
      exact ne_of e hm.1 (by intro z; cases z)
    refine ⟨_, (pss_one (ps_while PassesOwn.never (pt_cmpR op_notN (pv 3) pe_non (nomark _)) (pss_cons (ps_set (i := 4) sc_hand_on.nd rfl (Or.inl rfl) (pe_dget (hu_of hr) (pv 2) (pv 3) (fun _ _ => rfl)))
      (pss_cons (ps_set (i := 5) sc_hand_on.nd rfl (Or.inl rfl) (pe_ix ix_list (pv 0) (pv 4) (fun _ _ => rfl)))
      (pss_cons (ps_asg (pv 3) (pg_sub (pv 0) (pv 4) set_list))
      (pss_cons (ps_dput (hu_of hr) (pv 1) (pv 3) (pv 4) rfl)
      (pss_one (ps_set (i := 3) sc_hand_on.nd rfl (Or.inl rfl) (pv 5))))))))), ?_⟩
    refine while_m (fun z σ' H' => ∃ x4 x5, (∃ j m1 t1, z = j + 1 ∧ σ' = [some (.ref hd), some (.ref ow), some (.ref cm), some (.int t1), x4, x5] ∧ HandN c j m1 t1 m' ∧ HR n H' hd ow m1 ∧ DR H' cm c ∧ Keep2 hd ow H H' ∧ ∀ s, m1.o s ≠ none → s ∈ U) ∨ (z = 0 ∧ σ' = [some (.ref hd), some (.ref ow), some (.ref cm), some .non, x4, x5] ∧ HR n H' hd ow m' ∧ Keep2 hd ow H H')) ⟨_, _, _, .inl ⟨j0, m, t, rfl, rfl, hj0, hm, hc, Keep2.refl, hU⟩⟩ ?_ ?_
    · rintro z σ' H1 ⟨x4, x5, ⟨j, m1, t1, rfl, rfl, hj, h1, hc1, kp, hU1⟩ | ⟨rfl, rfl, h1, kp⟩⟩
      · refine ⟨_, rfl, rfl, _, rfl, ?_⟩
        have go : ∀ (q : Nat), c t1 = some q → ∃ H', DPut (upd H1 hd (.lst ((heldV n m1.h).set q (.int t1)))) ow (.int t1) (nV q) H' ∧ HR n H' hd ow (Mt.put m1 q t1) ∧ DR H' cm c ∧ Keep2 hd ow H H' ∧ (∀ s, (Mt.put m1 q t1).o s ≠ none → s ∈ U) := fun q hq => by
          have h2 : DR (upd H1 hd (.lst ((heldV n m1.h).set q (.int t1)))) ow m1.o := h1.2.at_ fun o e => by rw [upd_ne h1.ne.symm]; exact e
          obtain ⟨H', d1, d2, d3⟩ := h2.put t1 q hU1 hl
          refine ⟨H', d1, ⟨?_, d2⟩, hc1.at_ fun o e => ?_, fun b o n1 n2 e => ?_, fun s hs => ?_⟩
          · rw [d3 hd h1.ne, upd_same, heldV_set]
            rfl
          · rw [d3 cm nco, upd_ne ncd]
            exact e
          · rw [d3 b n2, upd_ne n1]
            exact kp b o n1 n2 e
          · have hs' : Mt.fset m1.o t1 (some q) s ≠ none := hs
            by_cases y : s = t1
            · rw [y]; exact (hcb t1 q hq).2
            · rw [Mt.fset_ne y] at hs'
              exact hU1 s hs'
        cases hj with
        | @last _ _ q a b =>
          obtain ⟨H', d1, d2, d3, d4, d5⟩ := go q a
          have qn := (hcb t1 q a).1
          have get := hc1.get t1
          rw [a] at get
          refine ⟨_, rfl, _, rfl, cm, _, rfl, get, ?_⟩
          refine ⟨_, rfl, _, rfl, hd, _, _, _, rfl, rfl, SqL.of h1.1, at_nat (heldV_get qn), ?_⟩
          refine ⟨_, rfl, _, rfl, _, rfl, hd, _, _, q, rfl, rfl, h1.1, by rw [heldV_len]; exact ixN_nat qn, ?_⟩
          refine ⟨_, rfl, _, rfl, _, rfl, ow, H', rfl, d1, ?_⟩
          rw [b]
          exact ⟨_, rfl, 0, Nat.zero_lt_succ _, _, _, .inr ⟨rfl, rfl, d2, d4⟩⟩
        | @more j _ _ _ s q a b d =>
          obtain ⟨H', d1, d2, d3, d4, d5⟩ := go q a
          have qn := (hcb t1 q a).1
          have get := hc1.get t1
          rw [a] at get
          refine ⟨_, rfl, _, rfl, cm, _, rfl, get, ?_⟩
          refine ⟨_, rfl, _, rfl, hd, _, _, _, rfl, rfl, SqL.of h1.1, at_nat (heldV_get qn), ?_⟩
          refine ⟨_, rfl, _, rfl, _, rfl, hd, _, _, q, rfl, rfl, h1.1, by rw [heldV_len]; exact ixN_nat qn, ?_⟩
          refine ⟨_, rfl, _, rfl, _, rfl, ow, H', rfl, d1, ?_⟩
          rw [b]
          exact ⟨_, rfl, j + 1, Nat.lt_succ_self _, _, _, .inl ⟨j, _, s, rfl, rfl, d, d2, d3, d4, d5⟩⟩
      · refine ⟨_, rfl, rfl, _, rfl, ?_⟩
        exact k H1 kp h1
    · rintro σ' H1 Q1 Q2 hQ ⟨a, b, c, d, e, f⟩
      exact ⟨a, b, c, d, e, hQ _ _ f⟩
theorem todo_put {o : Int → Option Nat} {U : List Int} {c : Mt.Came} {w : List Nat} {one q : Nat} {t : Int} (ht : t ∈ U) (hc : ¬ (c t).isSome = true) (ho : o t = some q) : Mt.todo U (Mt.fset c t (some one)) (w ++ [q]) ≤ Mt.todo U c w := by
  refine Mt.scan_todo' (o := o) (one := one) (l := [t]) (fun s hs => by rw [List.mem_singleton.mp hs]; exact ht) ?_
  show (if (c t).isSome = true then _ else match o t with | none => _ | some q => _) = _
  rw [if_neg hc, ho]
  rfl
theorem scan_some {o : Int → Option Nat} {c : Mt.Came} {w : List Nat} {one : Nat} {t : Int} {l : List Int} (hc : (c t).isSome = true) : Mt.scan o one (t :: l) c w = Mt.scan o one l c w := by
  show (if (c t).isSome = true then Mt.scan o one l c w else _) = _
  rw [if_pos hc]
theorem scan_free {o : Int → Option Nat} {c : Mt.Came} {w : List Nat} {one : Nat} {t : Int} {l : List Int} (hc : ¬ (c t).isSome = true) (ho : o t = none) : Mt.scan o one (t :: l) c w = (some t, Mt.fset c t (some one), w) := by
  show (if (c t).isSome = true then _ else match o t with | none => _ | some q => _) = _
  rw [if_neg hc, ho]
theorem scan_own {o : Int → Option Nat} {c : Mt.Came} {w : List Nat} {one q : Nat} {t : Int} {l : List Int} (hc : ¬ (c t).isSome = true) (ho : o t = some q) : Mt.scan o one (t :: l) c w = Mt.scan o one l (Mt.fset c t (some one)) (w ++ [q]) := by
  show (if (c t).isSome = true then _ else match o t with | none => _ | some q => _) = _
  rw [if_neg hc, ho]
def spGive (K : PySem.W.Frag) : Sp := fun vs H Q _ => ∃ (b : Bool) (H0 : Hp) (rv : V) (rows : List (List Int)) (hd ow : Addr) (p : Nat) (m : Mt.MS), vs = [rv, .ref hd, .ref ow, .int (p : Int)] ∧ RowsQ b K H0 rv rows ∧ Same H0 H ∧ H0 hd = none ∧ H0 ow = none ∧ HR rows.length H hd ow m ∧
  Mt.Valid rows m ∧ m.h p = none ∧ p < rows.length ∧ (Mt.things rows).length ≤ 90000 ∧ rows.length ≤ 90000 ∧ ∀ m' H', Mt.Give rows m p m' → Same H0 H' → HR rows.length H' hd ow m' → Q .non H'
theorem ok_give (A : At K mg "_give" s_give ["rows", "held", "owner", "person"]) (T : Tx mg) (G_hand_on : Dfn P w K mg base "_hand_on" ["held", "owner", "came", "thing"] 1 spHand) : Dfn P w K mg base "_give" ["rows", "held", "owner", "person"] 2 (spGive K) := by
  refine A.ok sc_give (fun vs H Q E h => ?_) (fun f cdv A outer s H vs Q E hr h => ?_)
  · obtain ⟨b, H0, rv, rows, hd, ow, p, m, rfl, _⟩ := h
    rfl
  · obtain ⟨b, H0, rv, rows, hd, ow, p, m, rfl, hR, s0, fhd, fow, hm, v, hp, hpn, hU, hn, k⟩ := h
    obtain ⟨ra, vs, rfl, hra, hrb⟩ := hR
    refine ⟨_, (pss_cons (ps_set (i := 4) sc_give.nd rfl (Or.inl rfl) pe_dnewK)
      (pss_cons (ps_set (i := 5) sc_give.nd rfl (Or.inl rfl) (pe_lst (pa_cons (pv 3) pa_nil)))
      (pss_one (ps_while PassesOwn.never (pt_truth (pv 5) (by intro _; rfl)) (pss_cons (ps_set (i := 6) sc_give.nd rfl (Or.inl rfl) (pe_bm0 PySem.F.plainAttrs_list PySem.F.slot_list_pop PySem.F.type_list_pop mt_pop (pv 5)))
      (pss_one (ps_for PassesOwn.never rfl (pi_alt (pi_list (pe_ix ix_sq (pv 0) (pv 6) (fun _ _ => rfl))) (pi_tup (pe_ix ix_sq (pv 0) (pv 6) (fun _ _ => rfl)))) (pg_name (i := 7) sc_give.nd rfl (Or.inl rfl))
      (pss_cons (ps_if (pt_cmp (pc_din (hu_of hr) (pv 7) (pv 4))) (pss_one ps_continue) pss_nil)
      (pss_cons (ps_dput (hu_of hr) (pv 4) (pv 7) (pv 6) rfl)
      (pss_cons (ps_if (pt_cmp (pc_dnotin (hu_of hr) (pv 7) (pv 2))) (pss_cons (ps_expr (pe_d G_hand_on (hr.mono (by decide)) (pa_cons (pv 1) (pa_cons (pv 2) (pa_cons (pv 4) (pa_cons (pv 7) pa_nil))))))
      (pss_one ps_retN)) pss_nil)
      (pss_one (ps_expr (pe_bm PySem.F.plainAttrs_list PySem.F.slot_list_append PySem.F.type_list_append mt_append (pv 5) (pa_cons (pe_dget (hu_of hr) (pv 2) (pv 7) (fun _ _ => rfl)) pa_nil)))))))))))))), ?_⟩
    refine fun cm hcm => ?_
    have sc := same_new (o := .dK []) hcm
    refine ⟨_, rfl, by show 1 ≤ sizeLine; decide, fun wt hwt => ?_⟩
    have sw := same_new (o := .lst [V.int (p : Int)]) hwt
    have nco : cm ≠ ow := by
      obtain ⟨kvs, e⟩ := hm.2.isd
      exact (ne_of_none e hcm).symm
    have nch : cm ≠ hd := (ne_of_none hm.1 hcm).symm
    have nwh : wt ≠ hd := (ne_of_none (sc _ _ hm.1) hwt).symm
    have nwo : wt ≠ ow := by
      obtain ⟨kvs, e⟩ := hm.2.isd
      exact (ne_of_none (sc _ _ e) hwt).symm
    have nwc : wt ≠ cm := (ne_of_none upd_same hwt).symm
    have f0c : H0 cm = none := s0.free hcm
    have f0w : H0 wt = none := (s0.trans sc).free hwt
    obtain ⟨H1, e1⟩ : ∃ H1, H1 = upd (upd H cm (.dK [])) wt (.lst [V.int (p : Int)]) := ⟨_, rfl⟩
    have s01 : Same H0 H1 := by rw [e1]; exact (s0.trans sc).trans sw
    have hw1 : H1 wt = some (.lst ([p].map nV)) := by rw [e1]; exact upd_same
    have hc1 : DR H1 cm (fun _ => none) := by rw [e1]; exact (DR.new (H := H) (p := cm)).at_ fun o e => by rw [upd_ne nwc.symm]; exact e
    have hm1 : HR rows.length H1 hd ow m := by
      rw [e1]
      exact hm.at_ (fun o e => by rw [upd_ne nwh.symm, upd_ne nch.symm]; exact e) (fun o e => by rw [upd_ne nwo.symm, upd_ne nco.symm]; exact e)
    rw [← e1]
    clear e1
    have oU : ∀ s, m.o s ≠ none → s ∈ Mt.things rows := fun s hs => by
      cases e : m.o s with
      | none => exact absurd e hs
      | some x => exact Mt.mem_things (v.tie x s ((v.inv x s).mpr e))
    dsimp only [gName]
    refine while_m (fun z σ' H' => ∃ x6 x7 c w, z = Mt.todo (Mt.things rows) c w ∧ σ' = [some (.ref ra), some (.ref hd), some (.ref ow), some (.int (p : Int)), some (.ref cm), some (.ref wt), x6, x7] ∧ H' wt = some (.lst (w.map nV)) ∧ DR H' cm c ∧ HR rows.length H' hd ow m ∧ Same H0 H' ∧ Mt.WInv rows m p c w ∧ Mt.todo (Mt.things rows) c w ≤ 90001 ∧ ∀ x c', Mt.Walk rows m.o c w x c' → Mt.Walk rows m.o (fun _ => none) [p] x c') ⟨_, _, _, _, [p], rfl, rfl, hw1, hc1, hm1, s01, Mt.WInv.init, ?_, fun _ _ h => h⟩ ?_ ?_
    · unfold Mt.todo
      have := List.length_filter_le (fun t => ((fun _ => none : Mt.Came) t).isNone) (Mt.things rows)
      show _ + 1 ≤ 90001
      omega
    · rintro z σ' H2 ⟨x6, x7, c, w, rfl, rfl, hw2, hc2, hm2, s2, iw, bd, cont⟩
      refine ⟨_, rfl, !(w.map nV).isEmpty, .inl ⟨_, SqL.of hw2, rfl⟩, ?_⟩
      rcases List.eq_nil_or_concat w with e | ⟨w0, one, e⟩
      · subst e
        exact k m H2 (.no (cont _ _ .nil)) s2 hm2
      · rw [List.concat_eq_append] at e
        subst e
        have ne : (!((w0 ++ [one]).map nV).isEmpty) = true := by rw [List.map_append]; cases w0.map nV <;> rfl
        rw [ne]
        have lst1 : ((w0 ++ [one]).map nV)[((w0 ++ [one]).map nV).length - 1]? = some (nV one) := by
          rw [List.map_append, List.length_append]
          simp
        have lst2 : ((w0 ++ [one]).map nV).dropLast = w0.map nV := by
          rw [List.map_append]
          exact List.dropLast_concat
        refine ⟨_, rfl, .inl ⟨rfl, _, SqL.of hw2⟩, wt, _, _, rfl, rfl, hw2, lst1, ?_⟩
        rw [lst2]
        have hvis := iw.v one (List.mem_append_right _ List.mem_cons_self)
        have hone : one < rows.length := by
          rcases hvis with e | ⟨t, x, _, ho⟩
          · rw [e]; exact hpn
          · exact Mt.row_lt (v.tie one t ((v.inv one t).mpr ho))
        have hro := List.getElem?_eq_getElem hone
        obtain ⟨r, er⟩ : ∃ r, r = rows[one] := ⟨_, rfl⟩
        rw [← er] at hro
        have hrow : Mt.row rows one = r := Mt.row_get hro
        obtain ⟨aa, hva, hqa⟩ := hrb.at_ hro
        rw [Mt.todo_snoc] at bd
        have rU : ∀ t ∈ r, t ∈ Mt.things rows := fun t ht => Mt.mem_things (p := one) (by rw [hrow]; exact ht)
        obtain ⟨H3, e3⟩ : ∃ H3, H3 = upd H2 wt (.lst (w0.map nV)) := ⟨_, rfl⟩
        have hw3 : H3 wt = some (.lst (w0.map nV)) := by rw [e3]; exact upd_same
        have hc3 : DR H3 cm c := by rw [e3]; exact hc2.at_ fun o e => by rw [upd_ne nwc.symm]; exact e
        have hm3 : HR rows.length H3 hd ow m := by rw [e3]; exact hm2.at_ (fun o e => by rw [upd_ne nwh.symm]; exact e) (fun o e => by rw [upd_ne nwo.symm]; exact e)
        have s3 : Same H0 H3 := by rw [e3]; exact same_mut s2 f0w
        rw [← e3]
        clear e3
        have ctie : ∀ s x, c s = some x → s ∈ Mt.row rows x := fun s x e => (iw.a s x e).1
        refine alt_it (b := b) (xs := r.map V.int) (fun Q' q => ⟨_, rfl, _, rfl, alt_ix (hra.same s3) (at_nat hva) q⟩) (hqa.same s3) (for_sq (fun i σ' H' => ∃ x7 c1 w1, σ' = [some (.ref ra), some (.ref hd), some (.ref ow), some (.int (p : Int)), some (.ref cm), some (.ref wt), some (nV one), x7] ∧ H' wt = some (.lst (w1.map nV)) ∧ DR H' cm c1 ∧ HR rows.length H' hd ow m ∧ Same H0 H' ∧ Mt.scan m.o one (r.drop i) c1 w1 = Mt.scan m.o one r c w0 ∧ (∀ s x, c1 s = some x → s ∈ Mt.row rows x) ∧ Mt.todo (Mt.things rows) c1 w1 ≤ 90001) ⟨_, c, w0, rfl, hw3, hc3, hm3, s3, rfl, ctie, by omega⟩ (fun i σ' H' _ hp' => by obtain ⟨_, _, _, _, _, _, _, s4, _⟩ := hp'; exact hqa.same s4) ?_ ?_)
        · rintro i x σ' H4 hx ⟨y7, c1, w1, rfl, hw4, hc4, hm4, s4, sc4, ct4, bd4⟩
          have hir : i < r.length := by
            have := (List.getElem?_eq_some_iff.mp hx).1
            rw [List.length_map] at this
            exact this
          have hri := List.getElem?_eq_getElem hir
          obtain ⟨t, et⟩ : ∃ t, t = r[i] := ⟨_, rfl⟩
          rw [← et] at hri
          rw [List.getElem?_map, hri] at hx
          have ex : V.int t = x := Option.some.inj hx
          subst ex
          have htr : t ∈ r := List.mem_of_getElem? hri
          have hd' : r.drop i = t :: r.drop (i + 1) := by rw [et]; exact List.drop_eq_getElem_cons hir
          rw [hd'] at sc4
          have w1l : w1.length ≤ 90001 := by unfold Mt.todo at bd4; omega
          refine ⟨_, rfl, _, rfl, cm, _, rfl, hc4.get t, ?_⟩
          by_cases hin : (c1 t).isSome = true
          · have d : ((c1 t).map nV).isSome = true := by rw [Option.isSome_map]; exact hin
            rw [d]
            rw [scan_some hin] at sc4
            exact ⟨_, rfl, ⟨_, c1, w1, rfl, hw4, hc4, hm4, s4, sc4, ct4, bd4⟩⟩
          · have d : ((c1 t).map nV).isSome = false := by rw [Option.isSome_map]; exact Bool.eq_false_iff.mpr hin
            rw [d]
            have c1U : ∀ s, c1 s ≠ none → s ∈ Mt.things rows := fun s hs => by
              cases e : c1 s with
              | none => exact absurd e hs
              | some x => exact Mt.mem_things (ct4 s x e)
            obtain ⟨H5, d1, d2, d3⟩ := hc4.put t one c1U (by omega)
            have hw5 : H5 wt = some (.lst (w1.map nV)) := by rw [d3 wt nwc]; exact hw4
            have hm5 : HR rows.length H5 hd ow m := hm4.at_ (fun o e => by rw [d3 hd nch.symm]; exact e) (fun o e => by rw [d3 ow nco.symm]; exact e)
            have s5 : Same H0 H5 := fun a o e => by rw [d3 a (ne_of_none e f0c)]; exact s4 a o e
            have ct5 : ∀ s x, Mt.fset c1 t (some one) s = some x → s ∈ Mt.row rows x := fun s x e => by
              by_cases y : s = t
              · rw [y, Mt.fset_same] at e
                cases e
                rw [y, hrow]
                exact htr
              · rw [Mt.fset_ne y] at e
                exact ct4 s x e
            refine ⟨_, rfl, _, rfl, _, rfl, _, rfl, cm, H5, rfl, d1, ?_⟩
            refine ⟨_, rfl, _, rfl, ow, _, rfl, hm5.2.get t, ?_⟩
            cases ho : m.o t with
            | none =>
              rw [scan_free hin ho] at sc4
              have hwalk := cont (some t) (Mt.fset c1 t (some one)) (.found (by rw [hrow]; exact sc4.symm))
              have fo := Mt.walk_found v hwalk t rfl Mt.WInv.init
              obtain ⟨kk, hi⟩ := Mt.HInv.init v fo
              obtain ⟨m', hm'⟩ := Mt.hand_ex v hp fo.tie kk hi
              refine ⟨_, rfl, _, rfl, _, rfl, _, rfl, _, rfl, hd, ow, cm, rows.length, m, m', _, t, Mt.things rows, rfl, hm5, d2, nco, hm', fun s q e => ⟨Mt.row_lt (ct5 s q e), Mt.mem_things (ct5 s q e)⟩, oU, by omega, by omega, fun H6 kp hr6 => ?_⟩
              exact k m' H6 (.yes hwalk hm') (same_keep2 s5 kp fhd fow) hr6
            | some q =>
              rw [scan_own hin ho] at sc4
              have get5 := hm5.2.get t
              rw [ho] at get5
              refine ⟨_, rfl, _, rfl, .inl ⟨rfl, _, SqL.of hw5⟩, _, rfl, _, rfl, ow, _, rfl, get5, wt, _, nV q, rfl, rfl, hw5, small_lt (by rw [List.length_map]; omega), ?_⟩
              refine ⟨_, _, w1 ++ [q], rfl, by rw [upd_same, List.map_append]; rfl, d2.at_ fun o e => (by rw [upd_ne nwc.symm]; exact e), hm5.at_ (fun o e => by rw [upd_ne nwh.symm]; exact e) (fun o e => by rw [upd_ne nwo.symm]; exact e), same_mut s5 f0w, sc4, ct5, Nat.le_trans (todo_put (rU t htr) hin ho) bd4⟩
        · rintro σ' H4 ⟨y7, c1, w1, rfl, hw4, hc4, hm4, s4, sc4, ct4, bd4⟩
          rw [List.length_map, List.drop_length] at sc4
          have sc5 : Mt.scan m.o one (Mt.row rows one) c w0 = (none, c1, w1) := by rw [hrow]; exact sc4.symm
          have td := Mt.scan_todo' (U := Mt.things rows) (fun t ht => Mt.mem_things ht) sc5
          refine ⟨Mt.todo (Mt.things rows) c1 w1, by rw [Mt.todo_snoc]; omega, _, _, c1, w1, rfl, rfl, hw4, hc4, hm4, s4, iw.next v sc5, bd4, fun x c' hwk => cont x c' (.more sc5 hwk)⟩
    · rintro σ' H1 Q1 Q2 hQ ⟨a, b, c, d, e⟩
      exact ⟨a, b, c, d, hQ _ _ e⟩
end
end Fo
set_option maxRecDepth 100000
set_option maxHeartbeats 4000000
namespace Fo
open PySem PySem.Spec PyProof.Rows L2
abbrev s_owners : Stmt := top 18
abbrev n_owners : List Str := ["held", "person", "thing"]
theorem sc_owners : FnScope n_owners ["held"] (defScope s_owners) := ⟨rfl, rfl, rfl, by decide +kernel, rfl, by decide +kernel, by decide +kernel⟩
abbrev s_reaches : Stmt := top 19
abbrev n_reaches : List Str := ["rows", "held", "owner", "found", "person", "row", "mask", "thing", "middle"]
theorem sc_reaches : FnScope n_reaches ["rows", "held"] (defScope s_reaches) := ⟨rfl, rfl, rfl, by decide +kernel, rfl, by decide +kernel, by decide +kernel⟩
theorem nones {n : Nat} : (List.replicate n [V.non]).flatten = heldV n (fun _ => none) := by
  unfold heldV
  induction n with
  | zero => rfl
  | succ n ih =>
    rw [List.range_succ, List.map_append, ← ih, List.replicate_succ', List.flatten_append]
    rfl
section
variable {P : Program} {w : World} {K : PySem.W.Frag} {mg : Str → Option Value} {base : Heap} {C : Addr}
def spMatched (K : PySem.W.Frag) : Sp := fun vs H Q _ => ∃ (b : Bool) (rv : V) (rows : List (List Int)), vs = [rv] ∧ RowsQ b K H rv rows ∧ (Mt.things rows).length ≤ 90000 ∧ rows.length ≤ 90000 ∧
  ∀ m l H', Mt.Upto rows rows.length m → Same H H' → H l = none → H' l = some (.lst (heldV rows.length m.h)) → Q (.ref l) H'
theorem ok_matched (A : At K mg "matched" s_matched ["rows"]) (T : Tx mg) (G_give : Dfn P w K mg base "_give" ["rows", "held", "owner", "person"] 2 (spGive K)) : Dfn P w K mg base "matched" ["rows"] 3 (spMatched K) := by
  refine A.ok sc_matched (fun vs H Q E h => ?_) (fun f cdv A outer s H vs Q E hr h => ?_)
  · obtain ⟨b, rv, rows, rfl, _⟩ := h
    rfl
  · obtain ⟨b, rv, rows, rfl, hR, hU, hn, k⟩ := h
    obtain ⟨ra, vs, rfl, hra, hrb⟩ := id hR
    have vl := hrb.len
    refine ⟨_, (pss_cons (ps_set (i := 1) sc_matched.nd rfl (Or.inl rfl) (pe_op op_rep (pe_lst (pa_cons pe_non pa_nil)) (pe_callB c_len (by rfl) T.len (by decide +kernel) (pa_cons (pv 0) pa_nil))))
      (pss_cons (ps_set (i := 2) sc_matched.nd rfl (Or.inl rfl) pe_dnewK)
      (pss_cons (ps_for PassesOwn.never rfl (pi_range1 rfl T.range (pa_cons (pe_callB c_len (by rfl) T.len (by decide +kernel) (pa_cons (pv 0) pa_nil)) pa_nil)) (pg_name (i := 3) sc_matched.nd rfl (Or.inl rfl))
      (pss_one (ps_expr (pe_d G_give (hr.mono (by decide)) (pa_cons (pv 0) (pa_cons (pv 1) (pa_cons (pv 2) (pa_cons (pv 3) pa_nil))))))))
      (pss_one (ps_ret (pv 1)))))), ?_⟩
    refine ⟨by show 1 ≤ sizeLine; decide, fun l1 h1 => ?_⟩
    have s1 := same_new (o := .lst [V.non]) h1
    refine ⟨_, rfl, ra, vs, rfl, (hra.same s1).or, l1, _, [V.non], rfl, rfl, upd_same, by omega, by omega, ?_, fun hd hhd => ?_⟩
    · rw [List.length_singleton, Int.toNat_natCast, Nat.one_mul]
      exact small_le (by omega)
    rw [Int.toNat_natCast, vl, nones]
    have s2 := s1.trans (same_new (o := .lst (heldV rows.length (fun _ => none))) hhd)
    have fhd : H hd = none := s1.free hhd
    refine fun ow how => ?_
    have s3 := s2.trans (same_new (o := .dK []) how)
    have fow : H ow = none := s2.free how
    have nho : hd ≠ ow := ne_of_none upd_same how
    have hm0 : HR rows.length (upd (upd (upd H l1 (.lst [V.non])) hd (.lst (heldV rows.length (fun _ => none)))) ow (.dK [])) hd ow Mt.m0 := ⟨by rw [upd_ne nho, upd_same]; rfl, DR.new⟩
    refine ⟨_, rfl, ra, vs, rfl, (hra.same s3).or, _, rfl, by omega, by omega, for_range (lo := 0) (n := ((vs.length : Nat) : Int).toNat) (fun i σ' H' => ∃ x3 m, σ' = [some (.ref ra), some (.ref hd), some (.ref ow), x3] ∧ Mt.Upto rows i m ∧ HR rows.length H' hd ow m ∧ Same H H') ⟨_, _, rfl, .zero, hm0, s3⟩ ?_ ?_⟩
    · rintro i σ' H1 hi ⟨x3, m, rfl, u, hm, s4⟩
      have o := Mt.upto_ok u
      refine ⟨_, rfl, _, rfl, _, rfl, _, rfl, b, H, .ref ra, rows, hd, ow, i, m, by rw [Int.zero_add]; rfl, hR, s4, fhd, fow, hm, o.valid, o.late i (Nat.le_refl _), by omega, hU, hn, fun m' H' g s5 hm' => ?_⟩
      exact ⟨_, m', rfl, .succ u g, hm', s5⟩
    · rintro σ' H1 ⟨x3, m, rfl, u, hm, s4⟩
      have e : ((vs.length : Nat) : Int).toNat = rows.length := by omega
      rw [e] at u
      exact ⟨_, rfl, k m hd H1 u s4 fhd hm.1⟩
/-- who holds a thing, of the first i people -/
def cutO (i : Nat) (m : Mt.MS) : Int → Option Nat := fun t => match m.o t with
  | some p => if p < i then some p else none
  | none => none
theorem cutO_zero {m : Mt.MS} : cutO 0 m = fun _ => none := by
  funext t
  unfold cutO
  cases m.o t with
  | none => rfl
  | some p => rfl
theorem cutO_put {m : Mt.MS} {i : Nat} {t : Int} (iv : ∀ p t, m.h p = some t ↔ m.o t = some p) (h : m.h i = some t) : Mt.fset (cutO i m) t (some i) = cutO (i + 1) m := by
  funext s
  by_cases e : s = t
  · rw [e, Mt.fset_same]
    unfold cutO
    rw [(iv i t).mp h]
    show some i = if i < i + 1 then some i else none
    rw [if_pos (Nat.lt_succ_self i)]
  · rw [Mt.fset_ne e]
    unfold cutO
    cases ho : m.o s with
    | none => rfl
    | some p =>
      have hp : p ≠ i := fun z => by
        have := (iv p s).mpr ho
        rw [z, h] at this
        exact e (Option.some.inj this).symm
      show (if p < i then some p else none) = if p < i + 1 then some p else none
      by_cases c : p < i
      · rw [if_pos c, if_pos (by omega)]
      · rw [if_neg c, if_neg (by omega)]
theorem cutO_skip {m : Mt.MS} {i : Nat} (iv : ∀ p t, m.h p = some t ↔ m.o t = some p) (h : m.h i = none) : cutO i m = cutO (i + 1) m := by
  funext s
  unfold cutO
  cases ho : m.o s with
  | none => rfl
  | some p =>
    have hp : p ≠ i := fun z => by
      have := (iv p s).mpr ho
      rw [z, h] at this
      cases this
    show (if p < i then some p else none) = if p < i + 1 then some p else none
    by_cases c : p < i
    · rw [if_pos c, if_pos (by omega)]
    · rw [if_neg c, if_neg (by omega)]
theorem cutO_all {m : Mt.MS} {n : Nat} (iv : ∀ p t, m.h p = some t ↔ m.o t = some p) (late : ∀ p, n ≤ p → m.h p = none) : cutO n m = m.o := by
  funext s
  unfold cutO
  cases ho : m.o s with
  | none => rfl
  | some p =>
    have hp : p < n := by
      refine Nat.lt_of_not_le fun z => ?_
      have := (iv p s).mpr ho
      rw [late p z] at this
      cases this
    show (if p < n then some p else none) = some p
    rw [if_pos hp]
def spOwners (K : PySem.W.Frag) : Sp := fun vs H Q _ => ∃ (hd : Addr) (n : Nat) (m : Mt.MS), vs = [.ref hd] ∧ H hd = some (.lst (heldV n m.h)) ∧ (∀ p t, m.h p = some t ↔ m.o t = some p) ∧ (∀ p, n ≤ p → m.h p = none) ∧ n ≤ 90000 ∧
  ∀ d H', Same H H' → H d = none → DR H' d m.o → Q (.ref d) H'
theorem ok_owners (A : At K mg "owners" s_owners ["held"]) (T : Tx mg) : Dfn P w K mg base "owners" ["held"] 1 (spOwners K) := by
  refine A.ok sc_owners (fun vs H Q E h => ?_) (fun f cdv A outer s H vs Q E hr h => ?_)
  · obtain ⟨hd, n, m, rfl, _⟩ := h
    rfl
  · obtain ⟨hd, n, m, rfl, hh, iv, late, hn, k⟩ := h
    refine ⟨_, (pss_one (ps_ret (pe_dc (own := [("person", 1), ("thing", 2)]) (g := (gTup K 2 (gCons (gName 1) (gCons (gName 2) gNil)))) (tt := (tTest (tOp rNotN (tVar 2) (tC V.non)))) (tk := (tVar 2)) (tv := (tVar 1)) (by rfl) sc_owners.nd (pi_enum (by rfl) T.enumerate (pa_cons (pv 0) pa_nil)) (blkOk_by (own := [("person", 1), ("thing", 2)]) (N := n_owners) (sc := (defScope s_owners)) (by decide +kernel)) (fun _ _ _ _ _ => (pg_tup rfl (pgs_cons (pg_name (i := 1) sc_owners.nd rfl (Or.inl rfl)) (pgs_cons (pg_name (i := 2) sc_owners.nd rfl (Or.inl rfl)) pgs_nil)))) (fun _ _ _ _ _ => (pts_one (pt_cmpR op_notN (pv 2) pe_non (nomark _)))) (fun _ _ _ _ _ => (pv 2)) (fun _ _ _ _ _ => (pv 1))))), ?_⟩
    refine ⟨_, rfl, hd, _, rfl, SqL.of hh, fun D hD => ?_⟩
    refine dc_enumL (xs := heldV n m.h) (fun i H' => DR H' D (cutO i m) ∧ Same H H') ⟨by rw [cutO_zero]; exact DR.new, same_new hD⟩ (fun i H' _ h => SqL.of (h.2 _ _ hh)) ?_ ?_
    · rintro i x H1 c hx ⟨d1, s1⟩ hc
      have hin : i < n := by
        have := (List.getElem?_eq_some_iff.mp hx).1
        rw [heldV_len] at this
        exact this
      rw [heldV_get hin] at hx
      have ex : oI (m.h i) = x := Option.some.inj hx
      subst ex
      have nDc : D ≠ c := by
        obtain ⟨kvs, e⟩ := d1.isd
        exact ne_of_none e hc
      have s2 := s1.trans (same_new (o := .tup [.int ((i : Nat) : Int), oI (m.h i)]) hc)
      have d2 : DR (upd H1 c (.tup [.int ((i : Nat) : Int), oI (m.h i)])) D (cutO i m) := d1.at_ fun o e => by rw [upd_ne nDc]; exact e
      refine ⟨c, _, rfl, SqT.of upd_same, rfl, _, _, rfl, _, _, rfl, rfl, ?_⟩
      cases hi : m.h i with
      | none =>
        rw [hi] at d2 s2
        refine ⟨rfl, _, rfl, rfl, _, rfl, ?_⟩
        exact ⟨by rw [← cutO_skip iv hi]; exact d2, s2⟩
      | some t =>
        rw [hi] at d2 s2
        refine ⟨rfl, _, rfl, rfl, _, rfl, ?_⟩
        obtain ⟨kvs, e, h, hnd, hk⟩ := id d2
        have ln := DR.len (U := (List.range n).map fun p => (m.h p).getD 0) (f := cutO i m) (H := H1) (a := D) hnd hk fun s hs => by
          unfold cutO at hs
          cases ho : m.o s with
          | none => rw [ho] at hs; exact absurd rfl hs
          | some p =>
            have hp := (iv p s).mpr ho
            have hpn : p < n := Nat.lt_of_not_le fun z => by rw [late p z] at hp; cases hp
            exact List.mem_map.mpr ⟨p, List.mem_range.mpr hpn, by rw [hp]; rfl⟩
        rw [List.length_map, List.length_range] at ln
        refine ⟨_, rfl, _, rfl, kvs, .inl t, rfl, e, small_lt (by omega), ?_, same_mut s2 hD⟩
        obtain ⟨H', d3, d4, _⟩ := d2.put t i (U := (List.range n).map fun p => (m.h p).getD 0) (fun s hs => by
          unfold cutO at hs
          cases ho : m.o s with
          | none => rw [ho] at hs; exact absurd rfl hs
          | some p =>
            have hp := (iv p s).mpr ho
            have hpn : p < n := Nat.lt_of_not_le fun z => by rw [late p z] at hp; cases hp
            exact List.mem_map.mpr ⟨p, List.mem_range.mpr hpn, by rw [hp]; rfl⟩) (by rw [List.length_map, List.length_range]; omega)
        rw [cutO_put iv hi] at d4
        have d5 : DPut (upd H1 c (.tup [.int ((i : Nat) : Int), V.int t])) D (.int t) (nV i) (upd (upd H1 c (.tup [.int ((i : Nat) : Int), V.int t])) D (.dK (putK kvs (.inl t) (nV i)))) := DPut.k (k := .inl t) e (small_lt (by omega))
        have e6 : H' = upd (upd H1 c (.tup [.int ((i : Nat) : Int), V.int t])) D (.dK (putK kvs (.inl t) (nV i))) := by
          rcases d3 with ⟨kvs2, k2, a1, a2, a3, a4⟩ | ⟨kvs2, k2, b2, a1, _⟩
          · have a1' := a1.symm.trans e
            cases a1'
            have : k2 = .inl t := by
              cases k2 with
              | inl z => have a2' : V.int t = V.int z := a2; injection a2' with a2'; rw [a2']
              | inr z => cases a2
            rw [a4, this]
          · have a1' := a1.symm.trans e
            cases a1'
        rw [← e6]
        exact d4
    · rintro H1 ⟨d1, s1⟩
      rw [heldV_len, cutO_all iv late] at d1
      exact k D H1 s1 hD d1
theorem at_nat0 {α : Type} {xs : List α} {x : α} {j : Nat} (h : xs[j]? = some x) : atI xs (0 + (j : Int)) = some x := by rw [Int.zero_add]; exact at_nat h
theorem ixN_nat0 {n q : Nat} (h : q < n) : ixN n (0 + (q : Int)) = some q := by rw [Int.zero_add]; exact ixN_nat h
def spReaches (K : PySem.W.Frag) : Sp := fun vs H Q _ => ∃ (b : Bool) (rv : V) (rows : List (List Int)) (hd : Addr) (m : Mt.MS), vs = [rv, .ref hd] ∧ RowsQ b K H rv rows ∧ H hd = some (.lst (heldV rows.length m.h)) ∧ (∀ p t, m.h p = some t ↔ m.o t = some p) ∧ (∀ p, rows.length ≤ p → m.h p = none) ∧ rows.length ≤ 90000 ∧
  ∀ l (M : Nat → Nat) H', Same H H' → H l = none → H' l = some (.lst (numL rows.length M)) → (∀ p, p < rows.length → Mt.Bits (M p) (Mt.Reach rows m.o p)) → Q (.ref l) H'
theorem ok_reaches (A : At K mg "reaches" s_reaches ["rows", "held"]) (T : Tx mg) (G_owners : Dfn P w K mg base "owners" ["held"] 1 (spOwners K)) : Dfn P w K mg base "reaches" ["rows", "held"] 2 (spReaches K) := by
  refine A.ok sc_reaches (fun vs H Q E h => ?_) (fun f cdv A outer s H vs Q E hr h => ?_)
  · obtain ⟨b, rv, rows, hd, m, rfl, _⟩ := h
    rfl
  · obtain ⟨b, rv, rows, hd, m, rfl, hR, hh, iv, late, hn, k⟩ := h
    obtain ⟨ra, vs, rfl, hra, hrb⟩ := id hR
    have vl := hrb.len
    refine ⟨_, (pss_cons (ps_set (i := 2) sc_reaches.nd rfl (Or.inl rfl) (pe_d G_owners (hr.mono (by decide)) (pa_cons (pv 1) pa_nil)))
      (pss_cons (ps_set (i := 3) sc_reaches.nd rfl (Or.inl rfl) (pe_lst pa_nil))
      (pss_cons (ps_for PassesOwn.never rfl (pi_alt (pi_enum (by rfl) T.enumerate (pa_cons (pv 0) pa_nil)) (pi_enumT (by rfl) T.enumerate (pa_cons (pv 0) pa_nil))) (pg_tup rfl (pgs_cons (pg_name (i := 4) sc_reaches.nd rfl (Or.inl rfl)) (pgs_cons (pg_name (i := 5) sc_reaches.nd rfl (Or.inl rfl)) pgs_nil)))
      (pss_cons (ps_set (i := 6) sc_reaches.nd rfl (Or.inl rfl) (pe_op op_oneShl pe_int (pv 4)))
      (pss_cons (ps_for PassesOwn.never rfl (pi_alt (pi_list (pv 5)) (pi_tup (pv 5))) (pg_name (i := 7) sc_reaches.nd rfl (Or.inl rfl))
      (pss_one (ps_if (pt_cmp (pc_din (hu_of hr) (pv 7) (pv 2))) (pss_one (ps_aug (i := 6) sc_reaches.nd rfl (Or.inl rfl) (pe_op op_oneShl pe_int (pe_dget (hu_of hr) (pv 2) (pv 7) (fun _ _ => rfl))) (pip_of iop_or))) pss_nil)))
      (pss_one (ps_expr (pe_bm PySem.F.plainAttrs_list PySem.F.slot_list_append PySem.F.type_list_append mt_append (pv 3) (pa_cons (pv 6) pa_nil)))))))
      (pss_cons (ps_for PassesOwn.never rfl (pi_range1 rfl T.range (pa_cons (pe_callB c_len (by rfl) T.len (by decide +kernel) (pa_cons (pv 0) pa_nil)) pa_nil)) (pg_name (i := 8) sc_reaches.nd rfl (Or.inl rfl))
      (pss_one (ps_for PassesOwn.never rfl (pi_range1 rfl T.range (pa_cons (pe_callB c_len (by rfl) T.len (by decide +kernel) (pa_cons (pv 0) pa_nil)) pa_nil)) (pg_name (i := 4) sc_reaches.nd rfl (Or.inl rfl))
      (pss_one (ps_if (pt_truth (pe_op op_odd (pe_op op_shr (pe_ix ix_list (pv 3) (pv 4) (fun _ _ => rfl)) (pv 8)) pe_int) (by intro _; rfl)) (pss_one (ps_augS (pv 3) (pv 4) get_list (pe_ix ix_list (pv 3) (pv 8) (fun _ _ => rfl)) (pip_of iop_or) set_list)) pss_nil)))))
      (pss_one (ps_ret (pv 3))))))), ?_⟩
    refine ⟨_, rfl, hd, rows.length, m, rfl, hh, iv, late, hn, fun ow H1 s1 how d1 => ?_⟩
    refine ⟨Nat.zero_le _, fun fa hfa => ?_⟩
    have sf := same_new (o := .lst []) hfa
    have f0 : H fa = none := s1.free hfa
    have nfo : fa ≠ ow := by
      obtain ⟨kvs, e⟩ := d1.isd
      exact (ne_of_none e hfa).symm
    have d2 : DR (upd H1 fa (.lst [])) ow m.o := d1.at_ fun o e => by rw [upd_ne nfo.symm]; exact e
    have qlt : ∀ t q, m.o t = some q → q < rows.length := fun t q e => Nat.lt_of_not_le fun z => by
      have := (iv q t).mpr e
      rw [late q z] at this
      cases this
    refine alt_en (b := b) (xs := vs) (fun Q' q => ⟨_, rfl, q⟩) (hra.same (s1.trans sf)) (for_enS (fun i σ' H' => ∃ x4 x5 x6 x7 x8 M, σ' = [some (.ref ra), some (.ref hd), some (.ref ow), some (.ref fa), x4, x5, x6, x7, x8] ∧ H' fa = some (.lst (numL i M)) ∧ DR H' ow m.o ∧ Same H H' ∧ ∀ p, p < i → Mt.Bits (M p) (Mt.S0 rows m.o p)) ⟨_, _, _, _, _, fun _ => 0, rfl, upd_same, d2, s1.trans sf, fun p hp => absurd hp (Nat.not_lt_zero _)⟩ (fun i σ' H' _ hp => by obtain ⟨_, _, _, _, _, _, _, _, _, s3, _⟩ := hp; exact hra.same s3) ?_ ?_)
    · rintro i x σ' H2 c hx ⟨x4, x5, x6, x7, x8, M, rfl, h2, d3, s3, hM⟩ hc
      obtain ⟨aa, r, ex, hri, hqa⟩ := hrb.get hx
      subst ex
      have hir : i < rows.length := (List.getElem?_eq_some_iff.mp hri).1
      have hrow : Mt.row rows i = r := Mt.row_get hri
      obtain ⟨H3, e3⟩ : ∃ H3, H3 = upd H2 c (.tup [.int ((i : Nat) : Int), V.ref aa]) := ⟨_, rfl⟩
      have s4 : Same H2 H3 := by rw [e3]; exact same_new hc
      have hcT : SqT K H3 c [.int ((i : Nat) : Int), V.ref aa] := by rw [e3]; exact SqT.of upd_same
      rw [← e3]
      clear e3
      have h3 := s4 _ _ h2
      have d4 : DR H3 ow m.o := d3.at_ fun o e => s4 _ _ e
      have s5 := s3.trans s4
      refine ⟨c, _, rfl, hcT, rfl, _, _, rfl, _, _, rfl, rfl, ?_⟩
      refine ⟨_, rfl, i, rfl, rfl, by omega, ?_⟩
      refine alt_it (b := b) (xs := r.map V.int) (fun Q' q => ⟨_, rfl, q⟩) (hqa.same s5) (for_sq (fun j σ' H' => ∃ y7 N, σ' = [some (.ref ra), some (.ref hd), some (.ref ow), some (.ref fa), some (nV i), some (.ref aa), some (nV N), y7, x8] ∧ H' = H3 ∧ Mt.Bits N (fun q => q = i ∨ ∃ t ∈ r.take j, m.o t = some q)) ⟨x7, 2 ^ i, by rw [two_pow_nat]; rfl, rfl, (Mt.bits_one i).congr fun q => ⟨.inl, fun z => z.elim id fun ⟨t, ht, _⟩ => (by cases ht)⟩⟩ (fun j σ' H' _ hp => by obtain ⟨_, _, _, e, _⟩ := hp; rw [e]; exact hqa.same s5) ?_ ?_)
      · rintro j x σ' H4 hx2 ⟨y7, N, rfl, rfl, hN⟩
        have hjr : j < r.length := by
          have := (List.getElem?_eq_some_iff.mp hx2).1
          rw [List.length_map] at this
          exact this
        have hrj := List.getElem?_eq_getElem hjr
        obtain ⟨t, et⟩ : ∃ t, t = r[j] := ⟨_, rfl⟩
        rw [← et] at hrj
        rw [List.getElem?_map, hrj] at hx2
        have ex : V.int t = x := Option.some.inj hx2
        subst ex
        refine ⟨_, rfl, _, rfl, ow, _, rfl, d4.get t, ?_⟩
        have step : ∀ q, (∃ s ∈ r.take (j + 1), m.o s = some q) ↔ ((∃ s ∈ r.take j, m.o s = some q) ∨ m.o t = some q) := fun q => by
          rw [List.take_add_one, hrj]
          constructor
          · rintro ⟨s, hs, e⟩
            rcases List.mem_append.mp hs with g | g
            · exact .inl ⟨s, g, e⟩
            · rw [List.mem_singleton.mp g] at e; exact .inr e
          · rintro (⟨s, hs, e⟩ | e)
            · exact ⟨s, List.mem_append_left _ hs, e⟩
            · exact ⟨t, List.mem_append_right _ List.mem_cons_self, e⟩
        cases ho : m.o t with
        | none =>
          refine ⟨_, rfl, _, N, rfl, rfl, hN.congr fun q => ?_⟩
          rw [step q, ho]
          exact ⟨fun z => z.elim .inl fun z => .inr (.inl z), fun z => z.elim .inl fun z => z.elim .inr fun z => (by cases z)⟩
        | some q =>
          have get := d4.get t
          rw [ho] at get
          refine ⟨_, rfl, _, rfl, _, rfl, _, rfl, ow, _, rfl, get, q, rfl, rfl, by have := qlt t q ho; omega, _, _, rfl, rfl, ?_⟩
          have eb : V.int (Builtin.bitOr (N : Int) ((2 : Int) ^ q)) = nV (N ||| 2 ^ q) := by rw [two_pow_nat, or_nat]
          refine ⟨some (.int t), N ||| 2 ^ q, congrArg (fun z => [some (V.ref ra), some (.ref hd), some (.ref ow), some (.ref fa), some (nV i), some (.ref aa), some z, some (.int t), x8]) eb, rfl, (Mt.bits_or hN (Mt.bits_one q)).congr fun y => ?_⟩
          rw [step y, ho]
          constructor
          · rintro ((z | z) | z)
            · exact .inl z
            · exact .inr (.inl z)
            · exact .inr (.inr (by rw [z]))
          · rintro (z | z | z)
            · exact .inl (.inl z)
            · exact .inl (.inr z)
            · exact .inr (Option.some.inj z).symm
      · rintro σ' H4 ⟨y7, N, rfl, rfl, hN⟩
        rw [List.length_map, List.take_length] at hN
        refine ⟨_, rfl, .inl ⟨rfl, _, SqL.of h3⟩, _, rfl, fa, _, nV N, rfl, rfl, h3, small_lt (by rw [numL_len]; omega), ?_⟩
        refine ⟨_, _, _, _, _, Mt.fset M i N, rfl, by rw [upd_same, numL_snoc], d4.at_ fun o e => (by rw [upd_ne nfo.symm]; exact e), same_mut s5 f0, fun p hp => ?_⟩
        by_cases z : p = i
        · rw [z, Mt.fset_same]
          refine hN.congr fun q => ?_
          unfold Mt.S0
          rw [hrow]
        · rw [Mt.fset_ne z]
          exact hM p (by omega)
    · rintro σ' H2 ⟨x4, x5, x6, x7, x8, M, rfl, h2, d3, s3, hM⟩
      rw [vl] at h2 hM
      refine ⟨_, rfl, ra, vs, rfl, (hra.same s3).or, _, rfl, by omega, by omega, ?_⟩
      have en : ((vs.length : Nat) : Int).toNat = rows.length := by omega
      rw [en]
      refine for_range (lo := 0) (n := rows.length) (fun k σ' H' => ∃ x4 x5 x6 x7 x8 M, σ' = [some (.ref ra), some (.ref hd), some (.ref ow), some (.ref fa), x4, x5, x6, x7, x8] ∧ H' fa = some (.lst (numL rows.length M)) ∧ Same H H' ∧ ∀ p, p < rows.length → Mt.Bits (M p) (Mt.WS rows m.o k p)) ⟨_, _, _, _, _, M, rfl, h2, s3, hM⟩ ?_ ?_
      · rintro kk σ' H3 hk ⟨x4, x5, x6, x7, x8, M, rfl, h3, s4, hM⟩
        refine ⟨_, rfl, ra, vs, rfl, (hra.same s4).or, _, rfl, by omega, by omega, ?_⟩
        rw [en]
        refine for_range (lo := 0) (n := rows.length) (fun j σ' H' => ∃ x4 M, σ' = [some (.ref ra), some (.ref hd), some (.ref ow), some (.ref fa), x4, x5, x6, x7, some (.int (0 + (kk : Int)))] ∧ H' fa = some (.lst (numL rows.length M)) ∧ Same H H' ∧ (∀ p, p < j → p < rows.length → Mt.Bits (M p) (Mt.WS rows m.o (kk + 1) p)) ∧ ∀ p, j ≤ p → p < rows.length → Mt.Bits (M p) (Mt.WS rows m.o kk p)) ⟨_, M, rfl, h3, s4, fun p hp => absurd hp (Nat.not_lt_zero _), fun p _ hp => hM p hp⟩ ?_ ?_
        · rintro j σ' H4 hj ⟨y4, M, rfl, h4, s5, hA, hB⟩
          have hkb : Mt.Bits (M kk) (Mt.WS rows m.o kk kk) := by
            by_cases c : kk < j
            · exact Mt.ws_self (hA kk c hk)
            · exact hB kk (by omega) hk
          have hjb := hB j (Nat.le_refl _) hj
          refine ⟨_, rfl, _, rfl, fa, _, _, _, rfl, rfl, SqL.of h4, at_nat0 (numL_get hj), ?_⟩
          refine ⟨_, rfl, _, _, rfl, rfl, by omega, M j / 2 ^ kk, by rw [← shr_nat, Int.zero_add]; rfl, rfl, (((M j / 2 ^ kk % 2 : Nat) : Int) != 0), rfl, ?_⟩
          rw [Mt.bit_of]
          by_cases hb : (M j).testBit kk = true
          · rw [if_pos hb]
            refine ⟨_, rfl, _, rfl, fa, _, _, _, rfl, rfl, by omega, SqL.of h4, at_nat0 (numL_get hj), ?_⟩
            refine ⟨_, rfl, _, rfl, fa, _, _, _, rfl, rfl, SqL.of h4, at_nat0 (numL_get hk), ?_⟩
            refine ⟨_, _, rfl, rfl, fa, _, _, j, rfl, rfl, h4, by rw [numL_len]; exact ixN_nat0 hj, ?_⟩
            refine ⟨_, Mt.fset M j (M j ||| M kk), rfl, by rw [upd_same]; show some (HO.lst ((numL rows.length M).set j (V.int (Builtin.bitOr (M j : Int) (M kk : Int))))) = _; rw [or_nat, numL_set], same_mut s5 f0, fun p hp hpn => ?_, fun p hp hpn => ?_⟩
            · by_cases z : p = j
              · rw [z, Mt.fset_same]
                exact Mt.ws_step hjb hkb hb
              · rw [Mt.fset_ne z]
                exact hA p (by omega) hpn
            · rw [Mt.fset_ne (by omega)]
              exact hB p (by omega) hpn
          · rw [if_neg hb]
            refine ⟨_, M, rfl, h4, s5, fun p hp hpn => ?_, fun p hp hpn => hB p (by omega) hpn⟩
            by_cases z : p = j
            · rw [z]
              exact Mt.ws_stay hjb hb
            · exact hA p (by omega) hpn
        · rintro σ' H4 ⟨y4, M, rfl, h4, s5, hA, hB⟩
          exact ⟨_, _, _, _, _, M, rfl, h4, s5, fun p hp => hA p hp hp⟩
      · rintro σ' H3 ⟨x4, x5, x6, x7, x8, M, rfl, h3, s4, hM⟩
        exact ⟨_, rfl, k fa M H3 s4 f0 h3 fun p hp => (hM p hp).congr fun q => Mt.ws_iff⟩
end
end Fo
set_option maxRecDepth 100000
set_option maxHeartbeats 4000000
namespace Fo
open PySem PySem.Spec PyProof.Rows L2
open Classical in
noncomputable def liveB (rows : List (List Int)) (p : Nat) (t : Int) : Bool := decide (Mt.Live rows p t)
open Classical in
theorem liveB_iff {rows : List (List Int)} {p : Nat} {t : Int} : liveB rows p t = true ↔ Mt.Live rows p t := by
  unfold liveB
  exact decide_eq_true_iff
abbrev s_live_rows : Stmt := top 20
abbrev n_live_rows : List Str := ["rows", "held", "found", "owner", "person", "row", "thing"]
theorem sc_live_rows : FnScope n_live_rows ["rows"] (defScope s_live_rows) := ⟨rfl, rfl, rfl, by decide +kernel, rfl, by decide +kernel, by decide +kernel⟩
theorem liveR_get {rows : List (List Int)} {p : Nat} {r : List Int} (h : rows[p]? = some r) : (Mt.liveR rows)[p]? = some (r.filter (liveB rows p)) := by
  unfold Mt.liveR
  rw [List.getElem?_mapIdx, h]
  rfl
theorem take_snoc {α : Type} {l : List α} {i : Nat} {x : α} (h : l[i]? = some x) : l.take (i + 1) = l.take i ++ [x] := by rw [List.take_add_one, h]; rfl
section
variable {P : Program} {w : World} {K : PySem.W.Frag} {mg : Str → Option Value} {base : Heap} {C : Addr}
/-- a list that changes is no row of an older heap -/
theorem RowsB.put {H : Hp} {f : Addr} {us ws : List V} {rs : List (List Int)} (e : ∀ (a : Addr) (r : List Int), Sq true K H a (r.map V.int) → (∃ v ∈ us, v = .ref a) → Sq true K (upd H f (.lst ws)) a (r.map V.int)) : ∀ {vs : List V}, (∀ v ∈ vs, v ∈ us) → RowsB true K H vs rs → RowsB true K (upd H f (.lst ws)) vs rs := by
  intro vs
  induction rs generalizing vs with
  | nil =>
    intro _ h
    cases h
    exact .nil
  | cons r rs ih =>
    intro hv h
    cases h with
    | cons h t => exact .cons (e _ r h ⟨_, hv _ List.mem_cons_self, rfl⟩) (ih (fun v hm => hv v (List.mem_cons_of_mem _ hm)) t)
/-- rows in new lists -/
def RowsF (H H' : Hp) (l : Addr) (rs : List (List Int)) : Prop := ∃ ws, H' l = some (.lst ws) ∧ ws.length = rs.length ∧ ∀ (i : Nat) (r : List Int), rs[i]? = some r → ∃ a, ws[i]? = some (.ref a) ∧ H a = none ∧ H' a = some (.lst (r.map V.int)) ∧ a ≠ l
def spLive (K : PySem.W.Frag) : Sp := fun vs H Q _ => ∃ (b : Bool) (rv : V) (rows : List (List Int)), vs = [rv] ∧ RowsQ b K H rv rows ∧ (Mt.things rows).length ≤ 90000 ∧ rows.length ≤ 90000 ∧ (∀ r ∈ rows, r.length ≤ 90000) ∧ Mt.Few rows ∧
  ((∀ D, ¬ Mt.Ds rows D) → ∀ H', Same H H' → Q .non H') ∧ ((∃ D, Mt.Ds rows D) → ∀ l H', Same H H' → H l = none → RowsQ true K H' (.ref l) (Mt.liveR rows) → RowsF H H' l (Mt.liveR rows) → Q (.ref l) H')
theorem ok_live (A : At K mg "live_rows" s_live_rows ["rows"]) (T : Tx mg) (G_matched : Dfn P w K mg base "matched" ["rows"] 3 (spMatched K)) (G_reaches : Dfn P w K mg base "reaches" ["rows", "held"] 2 (spReaches K)) (G_owners : Dfn P w K mg base "owners" ["held"] 1 (spOwners K)) : Dfn P w K mg base "live_rows" ["rows"] 4 (spLive K) := by
  refine A.ok sc_live_rows (fun vs H Q E h => ?_) (fun f cdv A outer s H vs Q E hr h => ?_)
  · obtain ⟨b, rv, rows, rfl, _⟩ := h
    rfl
  · obtain ⟨b, rv, rows, rfl, hR, hU, hn, hrl, few, k1, k2⟩ := h
    obtain ⟨ra, vs, rfl, hra, hrb⟩ := id hR
    have vl := hrb.len
    refine ⟨_, (pss_cons (ps_set (i := 1) sc_live_rows.nd rfl (Or.inl rfl) (pe_d G_matched (hr.mono (by decide)) (pa_cons (pv 0) pa_nil)))
      (pss_cons (ps_if (pt_cmpR op_in_seq pe_non (pv 1) rfl) (pss_one (ps_ret pe_non)) pss_nil)
      (pss_cons (ps_set (i := 2) sc_live_rows.nd rfl (Or.inr rfl) (pe_d G_reaches (hr.mono (by decide)) (pa_cons (pv 0) (pa_cons (pv 1) pa_nil))))
      (pss_cons (ps_set (i := 3) sc_live_rows.nd rfl (Or.inr rfl) (pe_d G_owners (hr.mono (by decide)) (pa_cons (pv 1) pa_nil)))
      (pss_one (ps_ret (pe_lc (own := [("person", 4), ("row", 5)]) (g := (gTup K 2 (gCons (gName 4) (gCons (gName 5) gNil)))) (tt := tYes) (te := (tLc (iAlt (iList K (tVar 5)) (iTup K (tVar 5))) (gName 6) (tTru K (tOp rOdd (tOp (rI (fun _ j => 0 ≤ j) fun i j => .int (i / 2 ^ j.toNat)) (tOp (rIxL K) (tVar 2) (tDGet (tVar 3) (tVar 6))) (tVar 4)) (tC (V.int 1)))) (tVar 6) [6])) (by rfl) sc_live_rows.nd (pi_alt (pi_enum (by rfl) T.enumerate (pa_cons (pv 0) pa_nil)) (pi_enumT (by rfl) T.enumerate (pa_cons (pv 0) pa_nil))) (blkOk_by (own := [("person", 4), ("row", 5)]) (N := n_live_rows) (sc := (defScope s_live_rows)) (by decide +kernel)) (fun _ _ _ _ _ => (pg_tup rfl (pgs_cons (pg_name (i := 4) sc_live_rows.nd rfl (Or.inr rfl)) (pgs_cons (pg_name (i := 5) sc_live_rows.nd rfl (Or.inl rfl)) pgs_nil)))) (fun _ _ _ _ _ => pts_nil) (fun _ _ _ _ _ => (pe_lc (own := [("thing", 6)]) (g := (gName 6)) (tt := (tTru K (tOp rOdd (tOp (rI (fun _ j => 0 ≤ j) fun i j => .int (i / 2 ^ j.toNat)) (tOp (rIxL K) (tVar 2) (tDGet (tVar 3) (tVar 6))) (tVar 4)) (tC (V.int 1))))) (te := (tVar 6)) (by rfl) sc_live_rows.nd (pi_alt (pi_list (pv 5)) (pi_tup (pv 5))) (blkOk_by (own := [("thing", 6)]) (N := n_live_rows) (sc := (relabel (retScope s_live_rows) (envQ (defScope s_live_rows)))) (by decide +kernel)) (fun _ _ _ _ _ => (pg_name (i := 6) sc_live_rows.nd rfl (Or.inl rfl))) (fun _ _ _ _ _ => (pts_one (pt_truth (pe_op op_odd (pe_op op_shr (pe_ix ix_list (pv 2) (pe_dget (hu_of hr) (pv 3) (pv 6) (fun _ _ => rfl)) (fun _ _ => rfl)) (pv 4)) pe_int) (by intro _; rfl)))) (fun _ _ _ _ _ => (pv 6))))))))))), ?_⟩
    refine ⟨_, rfl, b, .ref ra, rows, rfl, hR, hU, hn, fun m hd H1 u s1 f1 hh => ?_⟩
    have o := Mt.upto_ok u
    refine ⟨_, rfl, hd, _, rfl, .inl (SqL.of hh), rfl, held_flat _ _, _, rfl, ?_⟩
    have ei : inV .non (heldV rows.length m.h) = decide (∃ p, p < rows.length ∧ m.h p = none) := non_in _ _
    rcases Mt.full_or o with full | ⟨p, h1, h2, h3⟩
    · have e0 : inV .non (heldV rows.length m.h) = false := by
        rw [ei]
        exact decide_eq_false fun ⟨p, a, b⟩ => full p a b
      rw [show (if false = true then !inV V.non (heldV rows.length m.h) else inV V.non (heldV rows.length m.h)) = false from e0]
      refine ⟨_, rfl, _, rfl, b, .ref ra, rows, hd, m, rfl, hR.same s1, hh, o.valid.inv, o.late, hn, fun fl M H2 s2 ffl hfl bits => ?_⟩
      have hh2 := s2 _ _ hh
      refine ⟨_, rfl, hd, rows.length, m, rfl, hh2, o.valid.inv, o.late, hn, fun ow H3 s3 fow dr => ?_⟩
      have hfl3 := s3 _ _ hfl
      have s13 := (s1.trans s2).trans s3
      have dex : ∃ D, Mt.Ds rows D := ⟨_, (Mt.dealt_ok o.valid full).1⟩
      refine alt_en (b := b) (xs := vs) (fun Q' q => ⟨_, rfl, q⟩) (hra.same s13) fun D hD => ?_
      refine lc_enS (fun i H' => ∃ ws, H' D = some (.lst ws) ∧ RowsB true K H' ws ((Mt.liveR rows).take i) ∧ Same H3 H' ∧ (∀ v ∈ ws, ∃ a, v = .ref a ∧ a ≠ D) ∧ ∀ (j : Nat) (r : List Int), ((Mt.liveR rows).take i)[j]? = some r → ∃ a, ws[j]? = some (.ref a) ∧ H3 a = none ∧ H' a = some (.lst (r.map V.int)) ∧ a ≠ D) ⟨[], upd_same, .nil, same_new hD, fun v hv => (by cases hv), fun j r h => (by rw [List.take_zero] at h; cases h)⟩ (fun i H' _ hp => by obtain ⟨_, _, _, s4, _⟩ := hp; exact hra.same (s13.trans s4)) ?_ ?_
      · rintro i x H4 c hx ⟨ws, h4, hw, s4, hne, hF⟩ hc
        obtain ⟨aa, r, ex, hri, hqa⟩ := hrb.get hx
        subst ex
        have hir : i < rows.length := (List.getElem?_eq_some_iff.mp hri).1
        have hrow : Mt.row rows i = r := Mt.row_get hri
        have rl := hrl r (List.mem_of_getElem? hri)
        have nDc : D ≠ c := ne_of_none h4 hc
        have sc := same_new (o := .tup [.int ((i : Nat) : Int), V.ref aa]) hc
        refine ⟨c, _, rfl, SqT.of upd_same, rfl, _, _, rfl, _, _, rfl, rfl, rfl, ?_⟩
        have s5 := s4.trans sc
        refine alt_it (b := b) (xs := r.map V.int) (fun Q' q => ⟨_, rfl, q⟩) (hqa.same (s13.trans s5)) fun D2 hD2 => ?_
        have fD2 : H4 D2 = none := sc.free hD2
        refine lc_sq (fun j H' => H' D2 = some (.lst (((r.take j).filter (liveB rows i)).map V.int)) ∧ Same (upd H4 c (.tup [.int ((i : Nat) : Int), V.ref aa])) H') ⟨upd_same, same_new hD2⟩ (fun j H' _ hp => hqa.same (s13.trans (s5.trans hp.2))) ?_ ?_
        · rintro j y H5 hy ⟨h5, s6⟩
          have hjr : j < r.length := by
            have := (List.getElem?_eq_some_iff.mp hy).1
            rw [List.length_map] at this
            exact this
          have hrj := List.getElem?_eq_getElem hjr
          obtain ⟨t, et⟩ : ∃ t, t = r[j] := ⟨_, rfl⟩
          rw [← et] at hrj
          rw [List.getElem?_map, hrj] at hy
          have ey : V.int t = y := Option.some.inj hy
          subst ey
          have htr : t ∈ Mt.row rows i := by rw [hrow]; exact List.mem_of_getElem? hrj
          obtain ⟨q, hq⟩ := Mt.owned o.valid full few htr
          have hqn : q < rows.length := Mt.row_lt (o.valid.tie q t ((o.valid.inv q t).mpr hq))
          have s36 := s5.trans s6
          have dr6 : DR H5 ow m.o := dr.at_ fun z e => s36 _ _ e
          have get := dr6.get t
          rw [hq] at get
          have li : liveB rows i t = (M q).testBit i := by
            have := (Mt.live_iff o.valid full few htr hq).trans (bits q hqn i).symm
            cases hb : (M q).testBit i with
            | true => exact liveB_iff.mpr (this.mpr hb)
            | false =>
              cases hl : liveB rows i t with
              | false => rfl
              | true => rw [this.mp (liveB_iff.mp hl)] at hb; cases hb
          refine ⟨rfl, _, rfl, _, rfl, _, rfl, ow, _, rfl, get, fl, _, _, _, rfl, rfl, SqL.of (s36 _ _ hfl3), at_nat (numL_get hqn), _, rfl, _, _, rfl, rfl, by omega, M q / 2 ^ i, by rw [← shr_nat]; rfl, rfl, ((M q / 2 ^ i % 2 : Nat) : Int) != 0, rfl, ?_⟩
          rw [Mt.bit_of]
          have et2 : ((r.take (j + 1)).filter (liveB rows i)) = (r.take j).filter (liveB rows i) ++ if (M q).testBit i = true then [t] else [] := by
            rw [take_snoc hrj, List.filter_append]
            congr 1
            by_cases hb : (M q).testBit i = true
            · rw [if_pos hb, List.filter_cons_of_pos (by rw [li]; exact hb)]; rfl
            · rw [if_neg hb, List.filter_cons_of_neg (by rw [li]; exact hb)]; rfl
          by_cases hb : (M q).testBit i = true
          · rw [if_pos hb]
            rw [if_pos hb] at et2
            refine ⟨_, rfl, _, h5, by rw [List.length_map]; exact small_lt (Nat.le_trans (List.length_filter_le _ _) (by rw [List.length_take]; omega)), ?_, same_mut s6 hD2⟩
            rw [upd_same, et2, List.map_append]
            rfl
          · rw [if_neg hb]
            rw [if_neg hb] at et2
            exact ⟨by rw [et2, List.append_nil]; exact h5, s6⟩
        · rintro H5 ⟨h5, s6⟩
          rw [List.length_map, List.take_length] at h5
          have s46 := sc.trans s6
          have h5D := s46 _ _ h4
          have nD2 : D2 ≠ D := (ne_of_none h4 fD2).symm
          have wl : ws.length ≤ 90000 := by rw [hw.len, List.length_take, Mt.liveR_len]; omega
          refine ⟨ws, h5D, small_lt (by omega), ws ++ [.ref D2], upd_same, ?_, same_mut (s4.trans s46) hD, fun v hv => ?_, fun j r' hj => ?_⟩
          · rw [take_snoc (liveR_get hri)]
            refine RowsB.snoc (b := true) (r := r.filter (liveB rows i)) (show SqL K _ D2 _ from SqL.of (by rw [upd_ne nD2]; exact h5)) ?_
            refine RowsB.put (us := ws) (fun a r' h ⟨v, hv, ev⟩ => ?_) (fun v hv => hv) (hw.same s46)
            obtain ⟨a', e1, n1⟩ := hne v hv
            rw [ev] at e1
            cases e1
            rcases h with (h | ⟨o', h⟩) | h
            · exact .inl (.inl (by rw [upd_ne n1]; exact h))
            · exact .inl (.inr ⟨o', by rw [upd_ne n1]; exact h⟩)
            · exact .inr h
          · rcases List.mem_append.mp hv with g | g
            · exact hne v g
            · exact ⟨D2, List.mem_singleton.mp g, nD2⟩
          · have lw := hw.len
            rw [take_snoc (liveR_get hri)] at hj
            by_cases jl : j < ((Mt.liveR rows).take i).length
            · rw [List.getElem?_append_left jl] at hj
              obtain ⟨a, a1, a2, a3, a4⟩ := hF j r' hj
              refine ⟨a, ?_, a2, by rw [upd_ne a4]; exact s46 _ _ a3, a4⟩
              rw [List.getElem?_append_left (by omega)]
              exact a1
            · have := (List.getElem?_eq_some_iff.mp hj).1
              rw [List.length_append, List.length_singleton] at this
              have ej : j = ((Mt.liveR rows).take i).length := by omega
              rw [ej, List.getElem?_concat_length] at hj
              cases hj
              refine ⟨D2, ?_, s4.free fD2, by rw [upd_ne nD2]; exact h5, nD2⟩
              rw [ej, ← lw, List.getElem?_concat_length]
      · rintro H4 ⟨ws, h4, hw, s4, hne, hF⟩
        have e : (Mt.liveR rows).take vs.length = Mt.liveR rows := List.take_of_length_le (by rw [Mt.liveR_len, vl]; exact Nat.le_refl _)
        rw [e] at hw
        refine k2 dex D H4 (s13.trans s4) (s13.free hD) ⟨D, ws, rfl, SqL.of h4, hw⟩ ⟨ws, h4, hw.len, fun j r hj => ?_⟩
        rw [← e] at hj
        obtain ⟨a, a1, a2, a3, a4⟩ := hF j r hj
        exact ⟨a, a1, s13.free a2, a3, a4⟩
    · have e0 : inV .non (heldV rows.length m.h) = true := by
        rw [ei]
        exact decide_eq_true ⟨p, h1, h2⟩
      rw [show (if false = true then !inV V.non (heldV rows.length m.h) else inV V.non (heldV rows.length m.h)) = true from e0]
      exact k1 h3 H1 s1
end
end Fo
set_option maxRecDepth 100000
set_option maxHeartbeats 4000000
namespace Fo
open PySem PySem.Spec PyProof.Rows L2
section
variable {P : Program} {w : World} {K : PySem.W.Frag} {mg : Str → Option Value} {base : Heap} {C : Addr}
theorem RowsT.app {H : Hp} : ∀ {vs ws : List V} {rs ss : List (List Int)}, RowsT K H vs rs → RowsT K H ws ss → RowsT K H (vs ++ ws) (rs ++ ss)
  | _, _, _, _, .nil, s => s
  | _, _, _, _, .cons h r, s => .cons h (r.app s)
end
theorem ext_by {α : Type} (f : α → Int) : ∀ {l1 l2 : List α}, l1.Pairwise (fun a b => f a < f b) → l2.Pairwise (fun a b => f a < f b) → (∀ x, x ∈ l1 ↔ x ∈ l2) → l1 = l2
  | [], [], _, _, _ => rfl
  | [], y :: r, _, _, h => absurd ((h y).mpr List.mem_cons_self) (by simp)
  | x :: r, [], _, _, h => absurd ((h x).mp List.mem_cons_self) (by simp)
  | x :: r, y :: q, h1, h2, h => by
    have p1 := List.pairwise_cons.mp h1
    have p2 := List.pairwise_cons.mp h2
    have e : x = y := by
      rcases List.mem_cons.mp ((h x).mp List.mem_cons_self) with e | m
      · exact e
      · rcases List.mem_cons.mp ((h y).mpr List.mem_cons_self) with e | m2
        · exact e.symm
        · have a := p2.1 x m
          have b := p1.1 y m2
          omega
    subst e
    have t : r = q := ext_by f p1.2 p2.2 fun z => by
      constructor
      · intro hz
        rcases List.mem_cons.mp ((h z).mp (List.mem_cons_of_mem _ hz)) with e | m
        · have := p1.1 z hz
          rw [e] at this
          omega
        · exact m
      · intro hz
        rcases List.mem_cons.mp ((h z).mpr (List.mem_cons_of_mem _ hz)) with e | m
        · have := p2.1 z hz
          rw [e] at this
          omega
        · exact m
    rw [t]
theorem asc_ext {l1 l2 : List Int} (h1 : l1.Pairwise (· < ·)) (h2 : l2.Pairwise (· < ·)) (h : ∀ x, x ∈ l1 ↔ x ∈ l2) : l1 = l2 := ext_by id h1 h2 h
end Fo
set_option maxRecDepth 100000
set_option maxHeartbeats 4000000
namespace Fo
open PySem PySem.Spec PyProof.Rows L2
abbrev s_live_of : Stmt := top 34
abbrev n_live_of : List Str := ["table", "live"]
theorem sc_live_of : FnScope n_live_of ["table"] (defScope s_live_of) := ⟨rfl, rfl, rfl, by decide +kernel, rfl, by decide +kernel, by decide +kernel⟩
abbrev s_idle_ties : Stmt := top 35
abbrev n_idle_ties : List Str := ["table", "live", "person", "thing"]
theorem sc_idle_ties : FnScope n_idle_ties ["table"] (defScope s_idle_ties) := ⟨rfl, rfl, rfl, by decide +kernel, rfl, by decide +kernel, by decide +kernel⟩
section
variable {P : Program} {w : World} {K : PySem.W.Frag} {mg : Str → Option Value} {base : Heap} {C : Addr}
theorem tie_at {q : List Int} : ∀ (k : Int) (rows : List (List Int)), q ∈ tieFrom k rows → ∃ (p : Nat) (t : Int), q = [k + (p : Int), t] ∧ t ∈ Mt.row rows p
  | _, [], h => by cases h
  | k, r :: rs, h => by
    rcases List.mem_append.mp (show q ∈ (r.map fun x => [k, x]) ++ tieFrom (k + 1) rs from h) with h | h
    · obtain ⟨t, ht, rfl⟩ := List.mem_map.mp h
      exact ⟨0, t, by rw [show k + ((0 : Nat) : Int) = k by omega], ht⟩
    · obtain ⟨p, t, rfl, ht⟩ := tie_at (k + 1) rs h
      exact ⟨p + 1, t, by rw [show k + 1 + (p : Int) = k + ((p + 1 : Nat) : Int) by omega], ht⟩
theorem tie_num : ∀ (k : Int) (rows : List (List Int)), (tieFrom k rows).length = rows.flatten.length
  | _, [] => rfl
  | k, r :: rs => by
    show ((r.map fun x => [k, x]) ++ tieFrom (k + 1) rs).length = _
    rw [List.length_append, List.length_map, tie_num (k + 1) rs, List.flatten_cons, List.length_append]
def spLiveOf (K : PySem.W.Frag) (C : Addr) : Sp := fun vs H Q _ => ∃ (x : V) (rows : List (List Int)), vs = [x] ∧ TableAt K C H x rows ∧ Good rows ∧ rows.length ≤ 40 ∧ (∃ D, Mt.Ds rows D) ∧
  ∀ l H', Same H H' → H l = none → RowsQ true K H' (.ref l) (Mt.liveR rows) → Q (.ref l) H'
theorem ok_live_of (A : At K mg "live_of" s_live_of ["table"]) (T : Tx mg) (tc : TC K C) (G_live_rows : Dfn P w K mg base "live_rows" ["rows"] 4 (spLive K)) : Dfn P w K mg base "live_of" ["table"] 5 (spLiveOf K C) := by
  refine A.ok sc_live_of (fun vs H Q E h => ?_) (fun f cdv A outer s H vs Q E hr h => ?_)
  · obtain ⟨_, _, rfl, _⟩ := h
    rfl
  · obtain ⟨x, rows, rfl, tb, G, hn, yes, k⟩ := h
    obtain ⟨p, dx, v, rfl, hp, hR⟩ := id tb
    refine ⟨_, (pss_cons (ps_set (i := 1) sc_live_of.nd rfl (Or.inl rfl) (pe_d G_live_rows (hr.mono (by decide)) (pa_cons (pe_fld (pv 0) rfl) pa_nil)))
      (pss_cons (ps_if (pt_cmpR op_isN (pv 1) pe_non (nomark _)) (pss_one ps_never) pss_nil)
      (pss_one (ps_ret (pv 1))))), ?_⟩
    have thl := G.few_things hn
    refine ⟨_, rfl, p, C, dx, _, v, rfl, hp, tc.cl, tc.nR, tf_rows _ _, false, v, rows, rfl, hR.q, by omega, by omega, fun r hr => Nat.le_trans (G.row_len r hr) (by omega), G.few, fun no H1 s1 => absurd yes fun ⟨D, h⟩ => no D h, fun _ l H1 s1 fl hl _ => ?_⟩
    refine ⟨_, rfl, rfl, _, rfl, ?_⟩
    rw [show decide (V.ref l = V.non) = false from decide_eq_false (by intro z; cases z)]
    exact ⟨_, rfl, k l H1 s1 fl hl⟩
open Classical in
/-- the idle ones of ties -/
noncomputable def idleF (rows : List (List Int)) (q : List Int) : Bool := !decide (Mt.Live rows (q.headD 0).toNat (q.getD 1 0))
noncomputable def idleR (rows : List (List Int)) : List (List Int) := (tieRows rows).filter (idleF rows)
def spIdle (K : PySem.W.Frag) (C : Addr) : Sp := fun vs H Q _ => ∃ (x : V) (rows : List (List Int)), vs = [x] ∧ TableAt K C H x rows ∧ Good rows ∧ rows.length ≤ 40 ∧ (∃ D, Mt.Ds rows D) ∧
  ∀ l ws H', Same H H' → H l = none → H' l = some (.lst ws) → RowsT K H' ws (idleR rows) → Q (.ref l) H'
theorem ok_idle (A : At K mg "idle_ties" s_idle_ties ["table"]) (T : Tx mg) (tc : TC K C) (G_live_of : Dfn P w K mg base "live_of" ["table"] 5 (spLiveOf K C)) (G_ties : Dfn P w K mg base "ties" ["table"] 1 (spTies K C)) : Dfn P w K mg base "idle_ties" ["table"] 6 (spIdle K C) := by
  refine A.ok sc_idle_ties (fun vs H Q E h => ?_) (fun f cdv A outer s H vs Q E hr h => ?_)
  · obtain ⟨_, _, rfl, _⟩ := h
    rfl
  · obtain ⟨x, rows, rfl, tb, G, hn, yes, k⟩ := h
    refine ⟨_, (pss_cons (ps_set (i := 1) sc_idle_ties.nd rfl (Or.inr rfl) (pe_d G_live_of (hr.mono (by decide)) (pa_cons (pv 0) pa_nil)))
      (pss_one (ps_ret (pe_lc (own := [("person", 2), ("thing", 3)]) (g := (gTup K 2 (gCons (gName 2) (gCons (gName 3) gNil)))) (tt := (tTest (tOp (rIn K true) (tVar 3) (tOp (rIxL K) (tVar 1) (tVar 2))))) (te := (tTup (tCons (tVar 2) (tCons (tVar 3) tNil)))) (by rfl) sc_idle_ties.nd (pi_list (pe_d G_ties (hr.mono (by decide)) (pa_cons (pv 0) pa_nil))) (blkOk_by (own := [("person", 2), ("thing", 3)]) (N := n_idle_ties) (sc := (defScope s_idle_ties)) (by decide +kernel)) (fun _ _ _ _ _ => (pg_tup rfl (pgs_cons (pg_name (i := 2) sc_idle_ties.nd rfl (Or.inl rfl)) (pgs_cons (pg_name (i := 3) sc_idle_ties.nd rfl (Or.inl rfl)) pgs_nil)))) (fun _ _ _ _ _ => (pts_one (pt_cmpR op_notIn_seq (pv 3) (pe_ix ix_list (pv 1) (pv 2) (fun _ _ => rfl)) rfl))) (fun _ _ _ _ _ => (pe_tup (pa_cons (pv 2) (pa_cons (pv 3) pa_nil)))))))), ?_⟩
    refine ⟨_, rfl, x, rows, rfl, tb, G, hn, yes, fun l H1 s1 fl hl => ?_⟩
    refine ⟨_, rfl, x, rows, rfl, tb.same s1, by omega, fun r hr => Nat.le_trans (G.row_len r hr) (by omega), fun tl tvs H2 s2 ftl htl htw => ?_⟩
    have hl2 := hl.same s2
    obtain ⟨la, lvs, e, hla, hlb⟩ := id hl2
    cases e
    have lvl := hlb.len
    rw [Mt.liveR_len] at lvl
    refine ⟨tl, rfl, ⟨_, SqL.of htl⟩, fun D hD => ?_⟩
    have tl' := htw.len
    refine lc_list (xs := tvs) (fun i H' => ∃ ws, H' D = some (.lst ws) ∧ RowsT K H' ws (((tieRows rows).take i).filter (idleF rows)) ∧ Same H2 H') ⟨[], upd_same, .nil, same_new hD⟩ (fun i H' _ hp => by obtain ⟨_, _, _, s⟩ := hp; exact SqL.of (s _ _ htl)) ?_ ?_
    · rintro i y H3 hy ⟨ws, h3, hw, s3⟩
      have il : i < (tieRows rows).length := by have := (List.getElem?_eq_some_iff.mp hy).1; omega
      have hqi := List.getElem?_eq_getElem il
      obtain ⟨q, eq⟩ : ∃ q, q = (tieRows rows)[i] := ⟨_, rfl⟩
      rw [← eq] at hqi
      obtain ⟨p, th, rfl, htr⟩ := tie_at 0 rows (List.mem_of_getElem? hqi)
      rw [Int.zero_add] at hqi
      obtain ⟨b, hb1, hb2⟩ := htw.get hqi
      rw [hy] at hb1
      have ey : y = .ref b := Option.some.inj hb1
      subst ey
      have pl := Mt.row_lt htr
      obtain ⟨r, hr1⟩ : ∃ r, (Mt.liveR rows)[p]? = some r := ⟨_, List.getElem?_eq_getElem (by rw [Mt.liveR_len]; exact pl)⟩
      obtain ⟨q, hq1, hq2⟩ := hlb.at_ hr1
      have er := Mt.row_get hr1
      have wl := hw.len
      have wlb : ws.length ≤ i := by
        rw [wl]
        exact Nat.le_trans (List.length_filter_le _ _) (by rw [List.length_take]; omega)
      have tlb : (tieRows rows).length ≤ 10000 := by
        have h1 := tie_num 0 rows
        have h2 := G.few_things hn
        have h3 : (Mt.things rows).length = rows.flatten.length := rfl
        show (tieFrom 0 rows).length ≤ _
        omega
      refine ⟨b, _, rfl, sqT_same s3 hb2, rfl, _, _, rfl, _, _, rfl, rfl, rfl, _, rfl, _, rfl, _, rfl, l, lvs, (p : Int), _, rfl, rfl, s3.seq hla, at_nat hq1, q, _, rfl, .inl (hq2.same s3), rfl, all_flat_ints _, _, rfl, ?_⟩
      have e1 : (if true = true then !inV (V.int th) (r.map V.int) else inV (V.int th) (r.map V.int)) = idleF rows [(p : Int), th] := by
        rw [if_pos rfl, inV_ints]
        refine (congrArg not (decide_eq_decide.mpr ?_ : decide (th ∈ r) = @decide (Mt.Live rows ((p : Int)).toNat th) (Classical.propDecidable _))).trans rfl
        rw [Int.toNat_natCast, ← er]
        exact Mt.mem_liveR
      rw [e1]
      have fo : ((tieRows rows).take (i + 1)).filter (idleF rows) = ((tieRows rows).take i).filter (idleF rows) ++ if idleF rows [(p : Int), th] = true then [[(p : Int), th]] else [] := by
        rw [List.take_add_one, hqi, List.filter_append]
        show _ ++ [[(p : Int), th]].filter (idleF rows) = _
        cases hb : idleF rows [(p : Int), th] with
        | true => rw [List.filter_cons_of_pos hb]; rfl
        | false => rw [List.filter_cons_of_neg (by rw [hb]; decide)]; rfl
      cases hb : idleF rows [(p : Int), th] with
      | true =>
        rw [hb, if_pos rfl] at fo
        refine ⟨_, rfl, _, rfl, by show 2 ≤ sizeLine; decide, fun c hc => ?_⟩
        have s4 := same_new (o := .tup [V.int (p : Int), V.int th]) hc
        refine ⟨ws, s4 _ _ h3, small_lt (by omega), _, upd_same, ?_, same_mut (s3.trans s4) hD⟩
        rw [fo]
        exact (RowsT.snoc (r := [(p : Int), th]) (SqT.of upd_same) (hw.same s4)).put (s4 _ _ h3)
      | false =>
        rw [hb, if_neg (by decide), List.append_nil] at fo
        exact ⟨ws, h3, by rw [fo]; exact hw, s3⟩
    · rintro H3 ⟨ws, h3, hw, s3⟩
      rw [tl', List.take_length] at hw
      exact k D ws H3 ((s1.trans s2).trans s3) ((s1.trans s2).free hD) h3 hw
end
end Fo
set_option maxRecDepth 100000
set_option maxHeartbeats 4000000
namespace Fo
open PySem PySem.Spec PyProof.Rows L2
section
variable {X : Cx}
def rDUpd : V → List V → Hp → VK → Prop := fun x vs H Q => ∃ (d o : Addr) (kvs more : List (Key × V)), x = .ref d ∧ vs = [.ref o] ∧ d ≠ o ∧ H d = some (.dK kvs) ∧ H o = some (.dK more) ∧ kvs.length + more.length ≤ sizeLine ∧ Q .non (upd H d (.dK (mergeK kvs more)))
theorem mtd_update : MtR X "dict.update" rDUpd := by
  intro pins s σ H x vs v us Q I rx rv h
  obtain ⟨d, o, kvs, more, rfl, rfl, ne, e, eo, hl, q⟩ := h
  obtain rfl : v = Value.ref d := rx
  obtain ⟨u, rfl, ru⟩ := rv.one
  obtain rfl : u = Value.ref o := ru
  obtain ⟨z1, hd1, vs1, rel1, dd1⟩ := dk_of I.hok e
  obtain ⟨z2, hd2, vs2, rel2, dd2⟩ := dk_of I.hok eo
  refine call_meetsIn PySem.F.slot_dict_update dd1.typeIs PySem.F.entry_dict_update (PySem.F.args_dict_update_2 _ _) (meets_dict_update (mixKind X.prog X.w) d o ne hd2) ⟨vs1, vs2, dd1, dd2, by rw [← rel1.length, ← rel2.length]; exact hl, fun h' d1 d2 hs => ?_⟩
  have he : ∃ q, h'.get? d = some q := let ⟨q, _, _, hq, _⟩ := d1; ⟨q, hq⟩
  have hz : (mergeK kvs more).length ≤ sizeLine := Nat.le_trans (length_mergeK more kvs) hl
  exact ⟨.non, _, d_write (t' := s.toks) I (by rw [e]; exact True.intro) hs he (dk_new hz hd1 (rel2.merge rel1) d1), rfl, q⟩
theorem pe_dupdate {o e : Expr} {to : TE} {t : TA} {es : List Expr} {apos cpos : Pos} (ho : PE X o to) (ha : PA X (e :: es) t)
    (hbase : attributeBase o "update" X.env (eval o X.env) = eval o X.env := by rfl)
    (hfew : ((backTo cpos (starEach (e :: es) X.env)).all (fun x => !x.1) && (backToKw cpos (keywordEach [] X.env)).all (fun x => x.1.isSome)
      && decide ((e :: es).length + ([] : List Keyword).length + (if ([] : List Keyword).isEmpty then 0 else 1) < 30)) = true := by rfl)
    (hline : (apos.endLine == cpos.line) = true := by rfl) (hs : starEach (e :: es) X.env = (false, eval e X.env) :: starEach es X.env := by rfl) (hplain : (backTo cpos (starEach es X.env)).any (·.1) = false := by rfl) :
    PE X (.Call (.Attribute o "update" apos) (e :: es) [] cpos) (tBM X.K "dict" rDUpd to t) :=
  pe_bm PySem.F.plainAttrs_dict PySem.F.slot_dict_update PySem.F.type_dict_update mtd_update ho ha hbase hfew hline hs hplain
def rSortedLL (K : PySem.W.Frag) : List V → Hp → VK → Prop := fun vs H Q => ∃ (a : Addr) (bs : List (Addr × List Int)), vs = [V.ref a] ∧ SqL K H a (bs.map fun b => V.ref b.1) ∧ (∀ b ∈ bs, SqL K H b.1 (b.2.map V.int)) ∧
  ∀ (os : List (Addr × List Int)) p, os.Perm bs → (os.map fun b => b.2).Pairwise (· ≤ ·) → H p = none → Q (.ref p) (upd H p (.lst (os.map fun b => V.ref b.1)))
theorem refs_of {bs : List (Addr × List Int)} {its : List Value} (h : Vals (bs.map fun b => V.ref b.1) its) : its = bs.map fun b => Value.ref b.1 := by
  induction bs generalizing its with
  | nil => cases h; rfl
  | cons b bs ih =>
    cases h with
    | cons r t =>
      rw [ih t, show _ = Value.ref b.1 from r]
      rfl
theorem refs_to : ∀ bs : List (Addr × List Int), Vals (bs.map fun b => V.ref b.1) (bs.map fun b => Value.ref b.1)
  | [] => .nil
  | b :: bs => .cons rfl (refs_to bs)
theorem each_refs : ∀ bs : List (Addr × List Int), PySem.W.EachIs (fun v (b : Addr × List Int) => v = Value.ref b.1) (bs.map fun b => Value.ref b.1) bs
  | [] => .nil
  | b :: bs => .cons rfl (each_refs bs)
theorem each_back {bs : List (Addr × List Int)} {out : List Value} (h : PySem.W.EachIs (fun v (b : Addr × List Int) => v = Value.ref b.1) out bs) : out = bs.map fun b => Value.ref b.1 := by
  induction h with
  | nil => rfl
  | cons h _ ih => rw [ih, h]; rfl
theorem each_of {R : Value → (Addr × List Int) → Prop} : ∀ {bs : List (Addr × List Int)}, (∀ b ∈ bs, R (Value.ref b.1) b) → PySem.W.EachIs R (bs.map fun b => Value.ref b.1) bs
  | [], _ => .nil
  | b :: bs, h => .cons (h b List.mem_cons_self) (each_of fun c hc => h c (List.mem_cons_of_mem _ hc))
theorem cr_sortedLL (hu : X.A.units + 64 < cLine) : CallR X (.builtin "sorted") (rSortedLL X.K) := by
  intro pins s σ H vs us Q I r h
  obtain ⟨a, bs, rfl, hs, hb, q⟩ := h
  obtain ⟨its, rv, hl, hz⟩ := I.list hs
  obtain ⟨u, rfl, ru⟩ := r.one
  obtain rfl : u = Value.ref a := ru
  have ei := refs_of rv
  subst ei
  have bl : bs.length ≤ sizeLine := by
    have := hz
    simpa using this
  refine PySem.W.sorted_data (R := fun v (b : Addr × List Int) => v = Value.ref b.1) (enc := fun b => .list (b.2.map .int)) hl.isList (each_refs bs) (each_of fun b hm => ?_) (PySem.W.AllAlike.of fun b b' => ?_) (PySem.W.Sortable.others fun b => ⟨fun z => (by cases z), fun xs z => (by cases z)⟩) bl (fun b _ => ?_) fun out ho eo => ?_
  · exact Dp.reads I (.list (b.2.map .int)) (V.ref b.1) (Value.ref b.1) (.lst (hb b hm) (dpAll_ints _)) rfl
  · exact PySem.W.alike_ints _ _
  · show X.A.units + 2 + (PyData.list (b.2.map .int)).depth < cLine
    rw [PyData.depth, PySem.W.depth_ints]
    omega
  · obtain ⟨n, hn⟩ := sortedAll_at s.heap (bs.map fun b => Value.ref b.1) out.toArray
    rw [PySem.W.dataLe_rows] at eo
    have eo' := each_back eo
    have pm := List.mergeSort_perm bs fun p q => decide (p.2 ≤ q.2)
    have hf := I.hok.fresh (Nat.le_succ s.heap.objs.size)
    refine ⟨.ref (s.heap.objs.size + 1), _, I.laid (t' := s.toks) (o := .lst ((bs.mergeSort fun p q => decide (p.2 ≤ q.2)).map fun b => V.ref b.1)) (fun b o e => sortedAll_old e) (Nat.le_succ _) ⟨?_, out, n, ?_, hn⟩, rfl, q (bs.mergeSort fun p q => decide (p.2 ≤ q.2)) _ pm ?_ hf⟩
    · rw [List.length_map, pm.length_eq]; exact bl
    · rw [eo']
      exact refs_to _
    · rw [List.pairwise_map]
      refine (List.pairwise_mergeSort (fun a b c h1 h2 => ?_) (fun a b => ?_) bs).imp fun h => of_decide_eq_true h
      · exact decide_eq_true (List.le_trans (of_decide_eq_true h1) (of_decide_eq_true h2))
      · by_cases h : a.2 ≤ b.2
        · rw [decide_eq_true h]; rfl
        · rw [decide_eq_true (List.le_of_lt (List.not_le.mp h)), Bool.or_true]
end
section
variable {X : Cx}
/-- name = {k: v for ..} on one line, the name a local -/
theorem ps_setDc {i : Nat} {y : Str} {py : Pos} {kx vx tg iter : Expr} {ifs : List Expr} {scope : Scope} {own : List (Str × Nat)} {pos spos : Pos} {wi : TI} {g : TG} {tt : TT} {tk tv : TE} (hc : X.calm = true) (hN : X.N.Nodup) (hy : X.N[i]? = some y) (hyl : X.env.scope.names.lookup y = some .local)
    (hsw : swapsWith (.DictComp kx vx [⟨tg, iter, ifs, 0⟩] scope pos) (some (.Name y py)) spos.line X.env = pure true) (hi : PI X tg iter wi) (ok : BlkOk X.N X.env.scope scope own)
    (hg : ∀ (s : Shared) (H : Hp) (C : Addr) (cl : List (Str × Addr)) (fp : List Addr), PG (X.blk s H scope (compEnvC scope cl C X.env) fp) tg g) (ht : ∀ (s : Shared) (H : Hp) (C : Addr) (cl : List (Str × Addr)) (fp : List Addr), PTs (X.blk s H scope (compEnvC scope cl C X.env) fp) ifs tt)
    (hk : ∀ (s : Shared) (H : Hp) (C : Addr) (cl : List (Str × Addr)) (fp : List Addr), PE (X.blk s H scope (compEnvC scope cl C X.env) fp) kx tk)
    (he : ∀ (s : Shared) (H : Hp) (C : Addr) (cl : List (Str × Addr)) (fp : List Addr), PE (X.blk s H scope (compEnvC scope cl C X.env) fp) vx tv) (hs : ∀ x, foldedSetIterable iter X.env x = pure x := by intro _; rfl) :
    PS X (.Assign [.Name y py] (.DictComp kx vx [⟨tg, iter, ifs, 0⟩] scope pos) spos) (tAsg (tDc wi g tt tk tv (own.map (·.2))) (gName i)) := by
  refine ⟨fun pins s σ H D I h => ?_⟩
  rw [exec_Assign_Name_used _ _ _ _ hsw]
  refine wpAny_bind (wpAny_standAt (wpAny_bind ?_))
  show wpAny _ X.A (do let _ ← comprehension (.DictComp kx vx [⟨tg, iter, ifs, 0⟩] scope pos) scope X.env (firstIterPos [⟨tg, iter, ifs, 0⟩] pos) newDict false (eval iter X.env) (some (assign (.Name y py) X.env))) _ _ s
  have h : tDc wi g tt tk tv (own.map (·.2)) σ H (fun x H1 => gName i x σ H1 D.nx) := h
  refine wpAny_bind (thn (dc_core (Qf := fun _ s' => SP X pins D .next s') hc hN I hi ok hg ht hk he hs h fun L C s' m H' I' q hn f => ?_) fun _ s' hq => wpAny_pure (wpAny_pure hq))
  show wpAny _ _ (assign (.Name y py) X.env (.ref L)) _ _ _
  refine wpAny_assign_Name (store_ok2 (v := V.ref L) I' hN hy (.inl hyl) rfl (fun s2 I2 ⟨a, sb, ha⟩ => ?_) (.inr hyl))
  obtain ⟨f0, f1, f2, f3, f4, f5⟩ := f
  have haC : C ≠ a := by
    rcases ha with z | z
    · rw [z]; exact f1
    · exact fun e => f4 y a z e.symm
  refine ⟨m, hn.sameBut sb haC, fun h3 sb3 => ?_⟩
  exact ⟨_, H', I2.turned (t' := s2.toks) (fun b o hb e => (sb3.2 b hb).trans e) f0 f1 f3 f4 f5, q⟩
theorem swD_true {kx vx : Expr} {gs : List Comprehension} {scope : Scope} {pos py : Pos} {y : Str} {l : Nat} {env : Env} (hk : env.scope.kind = .function) (hy : env.scope.names.lookup y = some .local) (hl : (py.line == pos.line) = true)
    (ha : (scope.names.any fun (n, k) => n == y && (k == .local || k == .cell)) = false) : swapsWith (.DictComp kx vx gs scope pos) (some (.Name y py)) l env = pure true := by
  have ky : env.kindOf y = some .local := hy
  have hb : env.blockKind = .function := by unfold Env.blockKind; rw [hk]; rfl
  unfold swapsWith
  simp only [hb, ky, ha, Expr.pos, hl]
  rfl
end
end Fo
set_option maxRecDepth 100000
set_option maxHeartbeats 4000000
namespace Fo
open PySem PySem.Spec PyProof.Rows L2
abbrev s_groups : Stmt := top 21
abbrev n_groups : List Str := ["rows", "found", "person", "row", "people", "things", "apart", "others", "known", "thing", "lot", "_"]
theorem sc_groups : FnScope n_groups ["rows"] (defScope s_groups) := ⟨rfl, rfl, rfl, by decide +kernel, rfl, by decide +kernel, by decide +kernel⟩
/-- a dict of ints as a set -/
def SD (kvs : List (Key × V)) (P : Int → Prop) : Prop := ∀ t : Int, (valV kvs (.inl t)).isSome = true ↔ P t
theorem SD.nil : SD [] fun _ => False := fun t => by
  rw [valV_nil]
  exact ⟨fun h => (by cases h), False.elim⟩
theorem SD.put {kvs : List (Key × V)} {P : Int → Prop} (h : SD kvs P) (t : Int) (v : V) : SD (putK kvs (.inl t) v) fun u => P u ∨ u = t := fun u => by
  rw [valV_put]
  by_cases e : (Sum.inl u : Key) = .inl t
  · rw [if_pos e]
    injection e with e
    exact ⟨fun _ => .inr e, fun _ => rfl⟩
  · rw [if_neg e, h u]
    exact ⟨.inl, fun z => z.elim id fun z => absurd (by rw [z]) e⟩
theorem val_key {kvs : List (Key × V)} {k : Key} : (valV kvs k).isSome = true ↔ ∃ p ∈ kvs, p.1 = k := by
  rw [← valV_any k kvs, List.any_eq_true]
  exact ⟨fun ⟨p, h, e⟩ => ⟨p, h, of_decide_eq_true e⟩, fun ⟨p, h, e⟩ => ⟨p, h, decide_eq_true e⟩⟩
theorem merge_key {k : Key} : ∀ (more kvs : List (Key × V)), (valV (mergeK kvs more) k).isSome = true ↔ (valV kvs k).isSome = true ∨ ∃ p ∈ more, p.1 = k
  | [], kvs => ⟨.inl, fun h => h.elim id fun ⟨p, hp, _⟩ => by cases hp⟩
  | q :: more, kvs => by
    show (valV (mergeK (putK kvs q.1 q.2) more) k).isSome = true ↔ _
    rw [merge_key more, valV_put]
    by_cases e : k = q.1
    · rw [if_pos e]
      exact ⟨fun _ => .inr ⟨q, List.mem_cons_self, e.symm⟩, fun _ => .inl rfl⟩
    · rw [if_neg e]
      refine or_congr_right ⟨fun ⟨p, hp, h⟩ => ⟨p, List.mem_cons_of_mem _ hp, h⟩, fun ⟨p, hp, h⟩ => ?_⟩
      rcases List.mem_cons.mp hp with rfl | hp
      · exact absurd h.symm e
      · exact ⟨p, hp, h⟩
theorem SD.merge {kvs more : List (Key × V)} {P Q : Int → Prop} (h : SD kvs P) (h2 : SD more Q) : SD (mergeK kvs more) fun t => P t ∨ Q t := fun t => by
  rw [merge_key, h t, ← val_key, h2 t]
theorem SD.congr {kvs : List (Key × V)} {P Q : Int → Prop} (h : SD kvs P) (e : ∀ t, P t ↔ Q t) : SD kvs Q := fun t => (h t).trans (e t)
/-- somebody of them may get it -/
def GetsP (rows : List (List Int)) (g : List Nat) (t : Int) : Prop := ∃ p ∈ g, t ∈ Mt.row rows p
/-- what is found so far: pairs of people and of the dict of their things; the pairs stand in H, the rest in H0 -/
inductive FR (rows : List (List Int)) (H H0 : Hp) : List V → List (List Nat) → Prop
  | nil : FR rows H H0 [] []
  | cons {c L D : Addr} {kvs : List (Key × V)} {vs : List V} {g : List Nat} {F : List (List Nat)} : H c = some (.tup [.ref L, .ref D]) → H0 L = some (.lst (g.map nV)) → H0 D = some (.dK kvs) → SD kvs (GetsP rows g) → kvs.length ≤ 40 * g.length → FR rows H H0 vs F → FR rows H H0 (.ref c :: vs) (g :: F)
theorem FR.len {rows : List (List Int)} {H H0 : Hp} : ∀ {vs : List V} {F : List (List Nat)}, FR rows H H0 vs F → vs.length = F.length
  | _, _, .nil => rfl
  | _, _, .cons _ _ _ _ _ r => congrArg (· + 1) r.len
theorem FR.same {rows : List (List Int)} {H H' H0 H0' : Hp} (e : Same H H') (e0 : Same H0 H0') : ∀ {vs : List V} {F : List (List Nat)}, FR rows H H0 vs F → FR rows H' H0' vs F
  | _, _, .nil => .nil
  | _, _, .cons a b c d l r => .cons (e _ _ a) (e0 _ _ b) (e0 _ _ c) d l (r.same e e0)
theorem FR.put {rows : List (List Int)} {H H0 : Hp} {f : Addr} {o o' : HO} (h : H f = some o) (n : ∀ xs, o ≠ .tup xs) : ∀ {vs : List V} {F : List (List Nat)}, FR rows H H0 vs F → FR rows (upd H f o') H0 vs F
  | _, _, .nil => .nil
  | _, _, .cons a b c d l r => .cons (by rw [upd_ne (ne_of a h fun z => n _ z.symm)]; exact a) b c d l (r.put h n)
theorem FR.snoc {rows : List (List Int)} {H H0 : Hp} {c L D : Addr} {kvs : List (Key × V)} {g : List Nat} (a : H c = some (.tup [.ref L, .ref D])) (b : H0 L = some (.lst (g.map nV))) (d : H0 D = some (.dK kvs)) (s : SD kvs (GetsP rows g)) (l : kvs.length ≤ 40 * g.length) : ∀ {vs : List V} {F : List (List Nat)}, FR rows H H0 vs F → FR rows H H0 (vs ++ [.ref c]) (F ++ [g])
  | _, _, .nil => .cons a b d s l .nil
  | _, _, .cons a1 b1 c1 d1 l1 r => .cons a1 b1 c1 d1 l1 (r.snoc a b d s l)
theorem FR.get {rows : List (List Int)} {H H0 : Hp} : ∀ {vs : List V} {F : List (List Nat)} {i : Nat} {g : List Nat}, FR rows H H0 vs F → F[i]? = some g → ∃ c L D kvs, vs[i]? = some (.ref c) ∧ H c = some (.tup [.ref L, .ref D]) ∧ H0 L = some (.lst (g.map nV)) ∧ H0 D = some (.dK kvs) ∧ SD kvs (GetsP rows g) ∧ kvs.length ≤ 40 * g.length
  | _, _, _, _, .nil, h => by cases h
  | _, _, 0, _, .cons a b c d l _, h => by cases Option.some.inj h; exact ⟨_, _, _, _, rfl, a, b, c, d, l⟩
  | _, _, i + 1, _, .cons _ _ _ _ _ r, h => r.get (i := i) h
open Classical in
noncomputable def hitC (rows : List (List Int)) (i : Nat) (g : List Nat) : Bool := decide (∃ p ∈ g, Mt.Tied rows i p)
open Classical in
theorem hitC_iff {rows : List (List Int)} {i : Nat} {g : List Nat} : hitC rows i g = true ↔ ∃ p ∈ g, Mt.Tied rows i p := by
  unfold hitC
  exact decide_eq_true_iff
/-- the people put in order -/
def srtG (n : Nat) (g : List Nat) : List Nat := (List.range n).filter fun p => decide (p ∈ g)
theorem srtG_mem {n : Nat} {g : List Nat} (h : ∀ p ∈ g, p < n) (p : Nat) : p ∈ srtG n g ↔ p ∈ g := by
  unfold srtG
  rw [List.mem_filter, List.mem_range, decide_eq_true_iff]
  exact ⟨fun z => z.2, fun z => ⟨h p z, z⟩⟩
theorem srtG_asc {n : Nat} {g : List Nat} : (srtG n g).Pairwise (· < ·) := List.Pairwise.filter _ List.pairwise_lt_range
theorem srtG_perm {n : Nat} {g : List Nat} (nd : g.Nodup) (h : ∀ p ∈ g, p < n) : (srtG n g).Perm g :=
  (List.perm_ext_iff_of_nodup (srtG_asc.imp fun {a b} z => Nat.ne_of_lt z) nd).mpr fun p => srtG_mem h p
/-- sorted(g) as ints -/
theorem srtG_ints {n : Nat} {g : List Nat} (nd : g.Nodup) (h : ∀ p ∈ g, p < n) {ns : List Int} (pm : ns.Perm (g.map fun (p : Nat) => (p : Int))) (up : ns.Pairwise (· ≤ ·)) : ns = (srtG n g).map fun (p : Nat) => (p : Int) := by
  have ndI : (g.map fun (p : Nat) => (p : Int)).Nodup := Mt.nodup_map nd fun x _ y _ e => by omega
  refine asc_ext (asc_of pm up ndI) (List.pairwise_map.mpr (srtG_asc.imp fun h => by omega)) fun x => ?_
  rw [pm.mem_iff, List.mem_map, List.mem_map]
  exact ⟨fun ⟨p, hp, e⟩ => ⟨p, (srtG_mem h p).mpr hp, e⟩, fun ⟨p, hp, e⟩ => ⟨p, (srtG_mem h p).mp hp, e⟩⟩
theorem any_hit {rows : List (List Int)} {i : Nat} {r : List Int} (hr : rows[i]? = some r) {g : List Nat} {kvs : List (Key × V)} (h : SD kvs (GetsP rows g)) : ((r.map fun t : Int => (valV kvs (.inl t)).isSome).any id) = hitC rows i g := by
  rw [Bool.eq_iff_iff, hitC_iff, List.any_eq_true]
  constructor
  · rintro ⟨b, hb, e⟩
    obtain ⟨t, ht, rfl⟩ := List.mem_map.mp hb
    obtain ⟨p, hp, h2⟩ := (h t).mp e
    exact ⟨p, hp, t, by rw [Mt.row_get hr]; exact ht, h2⟩
  · rintro ⟨p, hp, t, h1, h2⟩
    rw [Mt.row_get hr] at h1
    exact ⟨_, List.mem_map.mpr ⟨t, h1, rfl⟩, (h t).mpr ⟨p, hp, h2⟩⟩
theorem filt_hit {rows : List (List Int)} {i j : Nat} {F : List (List Nat)} {g : List Nat} (h : F[j]? = some g) (p : List Nat → Bool) : (F.take (j + 1)).filter p = (F.take j).filter p ++ if p g = true then [g] else [] := by
  rw [List.take_add_one, h, List.filter_append]
  show _ ++ [g].filter p = _
  by_cases c : p g = true
  · rw [List.filter_cons_of_pos c, if_pos c]; rfl
  · rw [List.filter_cons_of_neg c, if_neg c]; rfl
theorem sub_flat {a b : List (List Nat)} (h : a.Sublist b) : a.flatten.length ≤ b.flatten.length := by
  induction h with
  | slnil => exact Nat.le_refl _
  | cons x _ ih => rw [List.flatten_cons, List.length_append]; omega
  | cons_cons x _ ih => rw [List.flatten_cons, List.flatten_cons, List.length_append, List.length_append]; omega
theorem part_len {rows : List (List Int)} {i : Nat} {F : List (List Nat)} (h : Mt.Parts rows i F) (j : Nat) (p : List Nat → Bool) : (((F.take j).filter p).flatten).length ≤ i := by
  have s1 : ((F.take j).filter p).Sublist F := List.filter_sublist.trans (List.take_sublist j F)
  have := sub_flat s1
  rw [h.perm.length_eq, List.length_range] at this
  exact this
theorem part_num {rows : List (List Int)} {i : Nat} {F : List (List Nat)} (h : Mt.Parts rows i F) : F.length ≤ i := by
  have : ∀ F : List (List Nat), (∀ g ∈ F, g ≠ []) → F.length ≤ F.flatten.length := fun F => by
    induction F with
    | nil => exact fun _ => Nat.le_refl _
    | cons g F ih =>
      intro hn
      have h1 := ih fun c hc => hn c (List.mem_cons_of_mem _ hc)
      have h2 := List.length_pos_iff.mpr (hn g List.mem_cons_self)
      rw [List.length_cons, List.flatten_cons, List.length_append]
      omega
  have := this F h.ne
  rw [h.perm.length_eq, List.length_range] at this
  exact this
section
variable {P : Program} {w : World} {K : PySem.W.Frag} {mg : Str → Option Value} {base : Heap} {C : Addr}
def natI (g : List Nat) : List Int := g.map fun (p : Nat) => (p : Int)
theorem dc_list {a : Addr} {xs : List V} {g : TG} {tt : TT} {tk tv : TE} {vs : List Nat} {σ : L2.St} {H1 : Hp} {D : Addr} {Qd : Hp → Prop} (Pv : Nat → Hp → Prop) (h0 : Pv 0 (upd H1 D (.dK []))) (hl : ∀ i H, i ≤ xs.length → Pv i H → SqL K H a xs)
    (hs : ∀ i x H, xs[i]? = some x → Pv i H → g x (wipe σ vs) H fun σ2 H2 => wipe σ2 vs = wipe σ vs ∧ tt σ2 H2 fun b H3 =>
      if b = true then tk σ2 H3 fun y H4 => tv σ2 H4 fun z H5 => ∃ kvs k, y = kV k ∧ H5 D = some (.dK kvs) ∧ kvs.length < sizeLine ∧ Pv (i + 1) (upd H5 D (.dK (putK kvs k z))) else Pv (i + 1) H3) (hd : ∀ H, Pv xs.length H → Qd H) :
    ∃ W : Nat → Nat → Hp → Prop, (∃ m, W 0 m (upd H1 D (.dK []))) ∧ ∀ i m H, W i m H →
      ((Itl K a).stop i H ∧ Qd H) ∨ ((Itl K a).go i H ∧ ∃ Nx : Hp → Prop, (∀ H', Nx H' → ∃ m', m' < m ∧ W (i + 1) m' H') ∧ ∀ x H', (Itl K a).yld i H x H' → g x (wipe σ vs) H' fun σ2 H2 => wipe σ2 vs = wipe σ vs ∧ tt σ2 H2 fun b H3 =>
        if b = true then tk σ2 H3 fun y H4 => tv σ2 H4 fun z H5 => ∃ kvs k, y = kV k ∧ H5 D = some (.dK kvs) ∧ kvs.length < sizeLine ∧ Nx (upd H5 D (.dK (putK kvs k z))) else Nx H3) := by
  refine ⟨fun i m H => m = xs.length - i ∧ i ≤ xs.length ∧ Pv i H, ⟨xs.length, by simp, Nat.zero_le _, h0⟩, ?_⟩
  rintro i m H ⟨rfl, hi, p⟩
  have q := hl i H hi p
  by_cases hlt : i < xs.length
  · refine .inr ⟨⟨xs, xs[i], q, by simp [hlt]⟩, Pv (i + 1), fun H' p' => ⟨xs.length - (i + 1), by omega, rfl, hlt, p'⟩, fun x H' y => ?_⟩
    obtain ⟨e, y⟩ := y
    subst e
    exact hs i x _ (y xs q) p
  · have e : i = xs.length := by omega
    subst e
    exact .inl ⟨⟨xs, q, Nat.le_refl _⟩, hd H p⟩
theorem rowsB_os {H : Hp} : ∀ {os : List (Addr × List Int)}, (∀ b ∈ os, H b.1 = some (.lst (b.2.map V.int))) → RowsB true K H (os.map fun b => V.ref b.1) (os.map fun b => b.2)
  | [], _ => .nil
  | b :: os, h => .cons (SqL.of (h b List.mem_cons_self)) (rowsB_os fun c hc => h c (List.mem_cons_of_mem _ hc))
def spGroups (K : PySem.W.Frag) : Sp := fun vs H Q _ => ∃ (rv : V) (rows : List (List Int)), vs = [rv] ∧ RowsQ true K H rv rows ∧ rows.length ≤ 40 ∧ (∀ r ∈ rows, r.length ≤ 40) ∧
  ∀ (G : List (List Nat)) l H', Mt.Groups rows G → (G.map natI).Pairwise (· ≤ ·) → Same H H' → H l = none → RowsQ true K H' (.ref l) (G.map natI) → Q (.ref l) H'
theorem ok_groups (A : At K mg "groups" s_groups ["rows"]) (T : Tx mg) (Tan : mg "any" = none) : Dfn P w K mg base "groups" ["rows"] 1 (spGroups K) := by
  refine A.ok sc_groups (fun vs H Q E h => ?_) (fun f cdv A outer s H vs Q E hr h => ?_)
  · obtain ⟨rv, rows, rfl, _⟩ := h
    rfl
  · obtain ⟨rv, rows, rfl, ⟨ra, rvs, rfl, hra, hrb⟩, hn, hl, k⟩ := h
    have rvl := hrb.len
    refine ⟨_, (pss_cons (ps_set (i := 1) sc_groups.nd rfl (Or.inl rfl) (pe_lst pa_nil))
      (pss_cons (ps_for PassesOwn.never rfl (pi_enum (by rfl) T.enumerate (pa_cons (pv 0) pa_nil)) (pg_tup rfl (pgs_cons (pg_name (i := 2) sc_groups.nd rfl (Or.inl rfl)) (pgs_cons (pg_name (i := 3) sc_groups.nd rfl (Or.inl rfl)) pgs_nil)))
      (pss_cons (ps_set (i := 4) sc_groups.nd rfl (Or.inl rfl) (pe_lst (pa_cons (pv 2) pa_nil)))
      (pss_cons (ps_setDc (i := 5) (own := [("thing", 9)]) (g := (gName 9)) (tt := tYes) (tk := (tVar 9)) (tv := (tC (V.bl true))) (by rfl) sc_groups.nd rfl rfl (swD_true rfl rfl rfl (by decide +kernel)) (pi_list (pv 3)) (blkOk_by (own := [("thing", 9)]) (N := n_groups) (sc := (defScope s_groups)) (by decide +kernel)) (fun _ _ _ _ _ => (pg_name (i := 9) sc_groups.nd rfl (Or.inl rfl))) (fun _ _ _ _ _ => pts_nil) (fun _ _ _ _ _ => (pv 9)) (fun _ _ _ _ _ => pe_bl))
      (pss_cons (ps_set (i := 6) sc_groups.nd rfl (Or.inl rfl) (pe_lst pa_nil))
      (pss_cons (ps_for PassesOwn.never rfl (pi_list (pv 1)) (pg_tup rfl (pgs_cons (pg_name (i := 7) sc_groups.nd rfl (Or.inl rfl)) (pgs_cons (pg_name (i := 8) sc_groups.nd rfl (Or.inr rfl)) pgs_nil)))
      (pss_one (ps_if (pt_val (pe_callB (cr_any rfl) (by rfl) Tan (by decide +kernel) (pa_cons (pe_lc (own := [("thing", 9)]) (g := (gName 9)) (tt := tYes) (te := (tDIn (tVar 9) (tVar 8))) (by rfl) sc_groups.nd (pi_list (pv 3)) (blkOk_by (own := [("thing", 9)]) (N := n_groups) (sc := (defScope s_groups)) (by decide +kernel)) (fun _ _ _ _ _ => (pg_name (i := 9) sc_groups.nd rfl (Or.inl rfl))) (fun _ _ _ _ _ => pts_nil) (fun _ _ _ _ _ => (pe_cmp (pc_din (hu_of hr) (pv 9) (pv 8))))) pa_nil))) (pss_cons (ps_expr (pe_bm PySem.F.plainAttrs_list PySem.F.slot_list_extend PySem.F.type_list_extend mt_extend (pv 4) (pa_cons (pv 7) pa_nil)))
      (pss_one (ps_expr (pe_dupdate (pv 5) (pa_cons (pv 8) pa_nil))))) (pss_one (ps_expr (pe_bm PySem.F.plainAttrs_list PySem.F.slot_list_append PySem.F.type_list_append mt_append (pv 6) (pa_cons (pe_tup (pa_cons (pv 7) (pa_cons (pv 8) pa_nil))) pa_nil)))))))
      (pss_cons (ps_expr (pe_bm PySem.F.plainAttrs_list PySem.F.slot_list_append PySem.F.type_list_append mt_append (pv 6) (pa_cons (pe_tup (pa_cons (pv 4) (pa_cons (pv 5) pa_nil))) pa_nil)))
      (pss_one (ps_set (i := 1) sc_groups.nd rfl (Or.inl rfl) (pv 6)))))))))
      (pss_one (ps_ret (pe_callB (cr_sortedLL hr.units) (by rfl) T.sorted (by decide +kernel) (pa_cons (pe_lc (own := [("lot", 10), ("_", 11)]) (g := (gTup K 2 (gCons (gName 10) (gCons (gName 11) gNil)))) (tt := tYes) (te := (tCB (rSortedI K) (tCons (tVar 10) tNil))) (by rfl) sc_groups.nd (pi_list (pv 1)) (blkOk_by (own := [("lot", 10), ("_", 11)]) (N := n_groups) (sc := (defScope s_groups)) (by decide +kernel)) (fun _ _ _ _ _ => (pg_tup rfl (pgs_cons (pg_name (i := 10) sc_groups.nd rfl (Or.inl rfl)) (pgs_cons (pg_name (i := 11) sc_groups.nd rfl (Or.inl rfl)) pgs_nil)))) (fun _ _ _ _ _ => pts_nil) (fun _ _ _ _ _ => (pe_callB cr_sortedI (by rfl) T.sorted (by decide +kernel) (pa_cons (pv 10) pa_nil)))) pa_nil)))))), ?_⟩
    refine ⟨by show 0 ≤ sizeLine; decide, fun f0 hf0 => ?_⟩
    refine ⟨_, rfl, ra, rvs, rfl, Sq.same (b := true) hra (same_new hf0), for_enumL (xs := rvs) (fun i σ' H' => ∃ x2 x3 x4 x5 x6 x7 x8 x9 x10 x11 f us F, σ' = [some (.ref ra), some (.ref f), x2, x3, x4, x5, x6, x7, x8, x9, x10, x11] ∧ H' f = some (.lst us) ∧ H f = none ∧ FR rows H' H' us F ∧ Mt.Parts rows i F ∧ Same H H') ⟨_, _, _, _, _, _, _, _, _, _, f0, [], [], rfl, upd_same, hf0, .nil, .init, same_new hf0⟩ (fun i σ' H' _ hp => by obtain ⟨_, _, _, _, _, _, _, _, _, _, _, _, _, _, _, _, _, _, s1⟩ := hp; exact Sq.same (b := true) hra s1) ?_ ?_⟩
    · rintro i x σ' H1 T' hx ⟨x2, x3, x4, x5, x6, x7, x8, x9, x10, x11, f, us, F, rfl, hf, ff, hFR, hP, s1⟩ hT
      obtain ⟨a, r, rfl, hri, hqa⟩ := hrb.get hx
      have ir : i < rows.length := (List.getElem?_eq_some_iff.mp hri).1
      have rl := hl r (List.mem_of_getElem? hri)
      have er := Mt.row_get hri
      have F0 : H1 T' = none := hT
      refine ⟨T', _, rfl, SqT.of upd_same, rfl, _, _, rfl, _, _, rfl, rfl, ?_⟩
      refine ⟨_, rfl, by show 1 ≤ sizeLine; decide, fun L0 hL0 => ?_⟩
      have sT : Same H1 (upd H1 T' (.tup [.int (i : Nat), .ref a])) := same_new hT
      have sL : Same H1 (upd (upd H1 T' (.tup [.int (i : Nat), .ref a])) L0 (.lst [.int (i : Nat)])) := sT.trans (same_new hL0)
      have fL0 : H1 L0 = none := sT.free hL0
      refine ⟨_, rfl, a, rfl, ⟨_, Sq.same (b := true) hqa (s1.trans sL)⟩, fun D0 hD0 => ?_⟩
      have fD0 : H1 D0 = none := sL.free hD0
      refine dc_list (xs := r.map V.int) (fun j H' => ∃ kvs, H' D0 = some (.dK kvs) ∧ SD kvs (fun t => t ∈ r.take j) ∧ kvs.length ≤ j ∧ Same (upd (upd H1 T' (.tup [.int (i : Nat), .ref a])) L0 (.lst [.int (i : Nat)])) H') ⟨[], upd_same, SD.nil.congr fun t => ⟨False.elim, fun h => (by cases h)⟩, Nat.le_refl _, same_new hD0⟩ (fun j H' _ hp => by obtain ⟨_, _, _, _, s2⟩ := hp; exact Sq.same (b := true) hqa ((s1.trans sL).trans s2)) ?_ ?_
      · rintro j y H2 hy ⟨kvs, h2, sd, kl, s2⟩
        obtain ⟨t, ht, rfl⟩ : ∃ t, r[j]? = some t ∧ y = V.int t := by
          rw [List.getElem?_map] at hy
          cases e : r[j]? with
          | none => rw [e] at hy; cases hy
          | some u => rw [e] at hy; exact ⟨u, rfl, (Option.some.inj hy).symm⟩
        have jl : j < r.length := (List.getElem?_eq_some_iff.mp ht).1
        refine ⟨rfl, _, rfl, kvs, .inl t, rfl, h2, small_lt (by omega), _, upd_same, (sd.put t _).congr fun u => ?_, ?_, same_mut s2 hD0⟩
        · rw [List.take_add_one, ht, List.mem_append]
          exact or_congr_right List.mem_singleton.symm
        · have := length_putK kvs (.inl t) (.bl true)
          omega
      · rintro H2 ⟨kvs0, h2, sd0, kl0, s2⟩
        rw [List.length_map] at kl0
        rw [List.length_map, List.take_length] at sd0
        have s12 : Same H1 H2 := sL.trans s2
        have hL2 : H2 L0 = some (.lst [.int (i : Nat)]) := s2 _ _ upd_same
        refine ⟨by show 0 ≤ sizeLine; decide, fun A0 hA0 => ?_⟩
        have fA0 : H1 A0 = none := s12.free hA0
        have nLA : L0 ≠ A0 := ne_of_none hL2 hA0
        have nDA : D0 ≠ A0 := ne_of_none h2 hA0
        have nLD : L0 ≠ D0 := fun e => by rw [e, h2] at hL2; cases hL2
        have s13 : Same H1 (upd H2 A0 (.lst [])) := s12.trans (same_new hA0)
        have ul := hFR.len
        have num := part_num hP
        refine ⟨_, rfl, f, rfl, ⟨us, SqL.of (s13 _ _ hf)⟩, ?_⟩
        refine for_list (xs := us) (fun j σ' H' => ∃ x7 x8 kvs ws, σ' = [some (.ref ra), some (.ref f), some (.int (i : Nat)), some (.ref a), some (.ref L0), some (.ref D0), some (.ref A0), x7, x8, x9, x10, x11] ∧ H' L0 = some (.lst ((i :: ((F.take j).filter (hitC rows i)).flatten).map nV)) ∧ H' D0 = some (.dK kvs) ∧ SD kvs (GetsP rows (i :: ((F.take j).filter (hitC rows i)).flatten)) ∧ kvs.length ≤ 40 * (i :: ((F.take j).filter (hitC rows i)).flatten).length ∧ H' A0 = some (.lst ws) ∧ FR rows H' H1 ws ((F.take j).filter fun g => !hitC rows i g) ∧ Same H1 H')
          ⟨_, _, kvs0, [], rfl, by rw [upd_ne nLA]; exact hL2, by rw [upd_ne nDA]; exact h2, sd0.congr fun t => ?_, by show _ ≤ 40 * 1; omega, upd_same, .nil, s13⟩ (fun j σ' H' _ hp => by obtain ⟨_, _, _, _, _, _, _, _, _, _, _, s4⟩ := hp; exact SqL.of (s4 _ _ hf)) ?_ ?_
        · unfold GetsP
          rw [← er]
          exact ⟨fun h => ⟨i, List.mem_cons_self, h⟩, fun ⟨p, hp, h⟩ => by rw [List.mem_singleton.mp hp] at h; exact h⟩
        · rintro j y σ' H3 hy ⟨x7, x8, kvs, ws, rfl, hL3, hD3, sd, kl, hA3, hW, s3⟩
          have jl : j < F.length := by have := (List.getElem?_eq_some_iff.mp hy).1; omega
          have hgj := List.getElem?_eq_getElem jl
          obtain ⟨g, eg⟩ : ∃ g, g = F[j] := ⟨_, rfl⟩
          rw [← eg] at hgj
          obtain ⟨c, L, D, kvs', hc1, hc2, hc3, hc4, sd', kl'⟩ := hFR.get hgj
          rw [hy] at hc1
          have ey : y = .ref c := Option.some.inj hc1
          subst ey
          have pl := part_len hP j (hitC rows i)
          have pl1 := part_len hP (j + 1) (hitC rows i)
          have gl : g.length ≤ i := by
            have h1 : [g].Sublist F := List.singleton_sublist.mpr (List.mem_of_getElem? hgj)
            have := sub_flat h1
            rw [List.flatten_singleton, hP.perm.length_eq, List.length_range] at this
            exact this
          refine ⟨c, _, rfl, SqT.of (s3 _ _ hc2), rfl, _, _, rfl, _, _, rfl, rfl, ?_⟩
          refine ⟨_, rfl, a, rfl, ⟨_, Sq.same (b := true) hqa (s1.trans s3)⟩, fun E hE => ?_⟩
          refine lc_list (xs := r.map V.int) (fun l H' => H' E = some (.lst ((r.take l).map fun t => V.bl (valV kvs' (.inl t)).isSome)) ∧ Same H3 H') ⟨upd_same, same_new hE⟩ (fun l H' _ hp => Sq.same (b := true) hqa ((s1.trans s3).trans hp.2)) ?_ ?_
          · rintro l y H4 hy ⟨h4, s4⟩
            obtain ⟨t, ht, rfl⟩ : ∃ t, r[l]? = some t ∧ y = V.int t := by
              rw [List.getElem?_map] at hy
              cases e : r[l]? with
              | none => rw [e] at hy; cases hy
              | some u => rw [e] at hy; exact ⟨u, rfl, (Option.some.inj hy).symm⟩
            have ll : l < r.length := (List.getElem?_eq_some_iff.mp ht).1
            refine ⟨rfl, _, rfl, _, rfl, D, _, rfl, DGet.k (k := .inl t) ((s3.trans s4) _ _ hc4), _, h4, small_lt (by rw [List.length_map, List.length_take]; omega), ?_, same_mut s4 hE⟩
            rw [upd_same, List.take_add_one, ht, List.map_append]
            rfl
          · rintro H4 ⟨h4, s4⟩
            rw [List.length_map, List.take_length] at h4
            have hbl : (r.map fun t => V.bl (valV kvs' (.inl t)).isSome) = (r.map fun t : Int => (valV kvs' (.inl t)).isSome).map V.bl := by rw [List.map_map]; rfl
            rw [hbl] at h4
            refine ⟨E, _, rfl, SqL.of h4, _, rfl, ?_⟩
            rw [any_hit hri sd']
            have hL4 := s4 _ _ hL3
            have hD4 := s4 _ _ hD3
            have hA4 := s4 _ _ hA3
            have s14 := s3.trans s4
            cases hh : hitC rows i g with
            | true =>
              have e1 : (F.take (j + 1)).filter (hitC rows i) = (F.take j).filter (hitC rows i) ++ [g] := by rw [filt_hit (rows := rows) (i := i) hgj, if_pos hh]
              have e2 : ((F.take (j + 1)).filter fun g => !hitC rows i g) = (F.take j).filter fun g => !hitC rows i g := by rw [filt_hit (rows := rows) (i := i) hgj, if_neg (by rw [hh]; decide), List.append_nil]
              have nLD2 : L0 ≠ D := fun e => by rw [e, hc4] at fL0; cases fL0
              have nDD : D0 ≠ D := fun e => by rw [e, hc4] at fD0; cases fD0
              refine ⟨_, rfl, .inl ⟨rfl, _, SqL.of hL4⟩, _, rfl, L0, L, _, _, rfl, rfl, hL4, s14 _ _ hc3, by rw [List.length_map, List.length_map, List.length_cons]; exact small_le (by omega), ?_⟩
              refine ⟨_, rfl, .inr (.inr (.inl ⟨rfl, .inl ⟨_, by rw [upd_ne nLD.symm]; exact hD4⟩⟩)), _, rfl, D0, D, kvs, kvs', rfl, rfl, nDD, by rw [upd_ne nLD.symm]; exact hD4, by rw [upd_ne nLD2.symm]; exact s14 _ _ hc4, small_le (by rw [List.length_cons] at kl; omega), ?_⟩
              refine ⟨_, _, _, ws, rfl, ?_, upd_same, ?_, ?_, ?_, ?_, same_mut (same_mut s14 fL0) fD0⟩
              · rw [upd_ne nLD, upd_same, e1, List.flatten_append, List.flatten_singleton, ← List.map_append, List.cons_append]
              · rw [e1]
                refine (sd.merge sd').congr fun t => ?_
                unfold GetsP
                rw [List.flatten_append, List.flatten_singleton]
                constructor
                · rintro (⟨p, hp, h⟩ | ⟨p, hp, h⟩)
                  · rcases List.mem_cons.mp hp with rfl | hp
                    · exact ⟨p, List.mem_cons_self, h⟩
                    · exact ⟨p, List.mem_cons_of_mem _ (List.mem_append_left _ hp), h⟩
                  · exact ⟨p, List.mem_cons_of_mem _ (List.mem_append_right _ hp), h⟩
                · rintro ⟨p, hp, h⟩
                  rcases List.mem_cons.mp hp with rfl | hp
                  · exact .inl ⟨p, List.mem_cons_self, h⟩
                  · rcases List.mem_append.mp hp with hp | hp
                    · exact .inl ⟨p, List.mem_cons_of_mem _ hp, h⟩
                    · exact .inr ⟨p, hp, h⟩
              · have := length_mergeK kvs' kvs
                rw [e1, List.flatten_append, List.flatten_singleton, List.length_cons, List.length_append]
                rw [List.length_cons] at kl
                omega
              · rw [upd_ne nDA.symm, upd_ne nLA.symm]
                exact hA4
              · rw [e2]
                exact ((hW.same s4 (Same.refl _)).put hL4 (fun xs z => by cases z)).put (by rw [upd_ne nLD.symm]; exact hD4) (fun xs z => by cases z)
            | false =>
              have e1 : (F.take (j + 1)).filter (hitC rows i) = (F.take j).filter (hitC rows i) := by rw [filt_hit (rows := rows) (i := i) hgj, if_neg (by rw [hh]; decide), List.append_nil]
              have e2 : ((F.take (j + 1)).filter fun g => !hitC rows i g) = ((F.take j).filter fun g => !hitC rows i g) ++ [g] := by rw [filt_hit (rows := rows) (i := i) hgj, if_pos (by rw [hh]; rfl)]
              refine ⟨_, rfl, .inl ⟨rfl, _, SqL.of hA4⟩, _, rfl, _, rfl, by show 2 ≤ sizeLine; decide, fun c2 hc2' => ?_⟩
              have s5 := same_new (o := .tup [V.ref L, V.ref D]) hc2'
              have hW4 := hW.same s4 (Same.refl H1)
              have wl := hW.len
              have wl2 : ((F.take j).filter fun g => !hitC rows i g).length ≤ F.length := Nat.le_trans (List.length_filter_le _ _) (by rw [List.length_take]; omega)
              refine ⟨A0, ws, _, rfl, rfl, s5 _ _ hA4, small_lt (by omega), ?_⟩
              have nAL : L0 ≠ A0 := nLA
              refine ⟨_, _, kvs, _, rfl, ?_, ?_, ?_, ?_, upd_same, ?_, same_mut (s14.trans s5) fA0⟩
              · rw [upd_ne nLA, e1]
                exact s5 _ _ hL4
              · rw [upd_ne nDA]
                exact s5 _ _ hD4
              · rw [e1]
                exact sd
              · rw [e1]
                exact kl
              · rw [e2]
                refine FR.snoc ?_ hc3 hc4 sd' kl' ((hW4.same s5 (Same.refl _)).put (s5 _ _ hA4) (fun xs z => by cases z))
                have nc : c2 ≠ A0 := fun e => by rw [e, hA4] at hc2'; cases hc2'
                rw [upd_ne nc]
                exact upd_same
        · rintro σ' H3 ⟨x7, x8, kvs, ws, rfl, hL3, hD3, sd, kl, hA3, hW, s3⟩
          rw [ul, List.take_length] at hL3 sd kl hW
          refine ⟨_, rfl, .inl ⟨rfl, _, SqL.of hA3⟩, _, rfl, _, rfl, by show 2 ≤ sizeLine; decide, fun c2 hc2 => ?_⟩
          have s5 := same_new (o := .tup [V.ref L0, V.ref D0]) hc2
          have wl := hW.len
          have wl2 : (F.filter fun g => !hitC rows i g).length ≤ F.length := List.length_filter_le _ _
          refine ⟨A0, ws, _, rfl, rfl, s5 _ _ hA3, small_lt (by omega), ?_⟩
          have s6 : Same H1 (upd (upd H3 c2 (.tup [V.ref L0, V.ref D0])) A0 (.lst (ws ++ [.ref c2]))) := same_mut (s3.trans s5) fA0
          have nc : c2 ≠ A0 := fun e => by rw [e, hA3] at hc2; cases hc2
          refine ⟨_, rfl, _, _, _, _, _, _, _, _, _, _, A0, _, _, rfl, upd_same, s1.free fA0, ?_, hP.step (hit := hitC rows i) fun g _ => hitC_iff, s1.trans s6⟩
          refine FR.snoc (kvs := kvs) (L := L0) (D := D0) ?_ ?_ ?_ sd kl (((hW.same s5 (Same.refl _)).put (s5 _ _ hA3) (fun xs z => by cases z)).same (Same.refl _) s6)
          · rw [upd_ne nc]
            exact upd_same
          · rw [upd_ne nLA]
            exact s5 _ _ hL3
          · rw [upd_ne nDA]
            exact s5 _ _ hD3
    · rintro σ' H1 ⟨x2, x3, x4, x5, x6, x7, x8, x9, x10, x11, f, us, F, rfl, hf, ff, hFR, hP, s1⟩
      rw [rvl] at hP
      have ul := hFR.len
      have num := part_num hP
      have nd : F.flatten.Nodup := hP.perm.symm.nodup List.nodup_range
      have gnd : ∀ g ∈ F, g.Nodup := fun g hg => List.Nodup.sublist (List.sublist_flatten_of_mem hg) nd
      have glt : ∀ g ∈ F, ∀ p ∈ g, p < rows.length := fun g hg p hp => List.mem_range.mp (hP.perm.mem_iff.mp (List.mem_flatten.mpr ⟨g, hg, hp⟩))
      refine ⟨_, rfl, f, rfl, ⟨us, SqL.of hf⟩, fun D hD => ?_⟩
      refine lc_list (xs := us) (fun j H' => ∃ bs : List (Addr × List Int), H' D = some (.lst (bs.map fun b => V.ref b.1)) ∧ (∀ b ∈ bs, H' b.1 = some (.lst (b.2.map V.int)) ∧ b.1 ≠ D) ∧ (bs.map fun b => b.2) = (F.take j).map (fun g => natI (srtG rows.length g)) ∧ Same H1 H') ⟨[], upd_same, fun b hb => (by cases hb), rfl, same_new hD⟩ (fun j H' _ hp => by obtain ⟨_, _, _, _, s2⟩ := hp; exact SqL.of (s2 _ _ hf)) ?_ ?_
      · rintro j y H2 hy ⟨bs, h2, hb, hm, s2⟩
        have jl : j < F.length := by have := (List.getElem?_eq_some_iff.mp hy).1; omega
        have hgj := List.getElem?_eq_getElem jl
        obtain ⟨g, eg⟩ : ∃ g, g = F[j] := ⟨_, rfl⟩
        rw [← eg] at hgj
        have gF := List.mem_of_getElem? hgj
        obtain ⟨c, L, D', kvs', hc1, hc2, hc3, hc4, sd', kl'⟩ := hFR.get hgj
        rw [hy] at hc1
        have ey : y = .ref c := Option.some.inj hc1
        subst ey
        have bl : bs.length ≤ F.length := by
          have := congrArg List.length hm
          rw [List.length_map, List.length_map, List.length_take] at this
          omega
        have hL2 : H2 L = some (.lst ((natI g).map V.int)) := by
          have := s2 _ _ hc3
          rw [this]
          unfold natI
          rw [List.map_map]
          rfl
        refine ⟨c, _, rfl, SqT.of (s2 _ _ hc2), rfl, _, _, rfl, _, _, rfl, rfl, rfl, _, rfl, L, natI g, rfl, SqL.of hL2, fun ns' p pm up hp => ?_⟩
        have s3 := same_new (o := .lst (ns'.map V.int)) hp
        have npD : p ≠ D := fun e => by rw [e, h2] at hp; cases hp
        have ens := srtG_ints (gnd g gF) (glt g gF) pm up
        refine ⟨_, s3 _ _ h2, small_lt (by rw [List.length_map]; omega), bs ++ [(p, ns')], ?_, fun b hb' => ?_, ?_, same_mut (s2.trans s3) hD⟩
        · rw [upd_same, List.map_append]
          rfl
        · rcases List.mem_append.mp hb' with hb' | hb'
          · obtain ⟨hb1, nbD⟩ := hb b hb'
            exact ⟨by rw [upd_ne nbD]; exact s3 _ _ hb1, nbD⟩
          · rw [List.mem_singleton.mp hb']
            exact ⟨by rw [upd_ne npD]; exact upd_same, npD⟩
        · rw [List.map_append, hm, List.take_add_one, hgj, List.map_append, ens]
          rfl
      · rintro H2 ⟨bs, h2, hb, hm, s2⟩
        rw [ul, List.take_length] at hm
        refine ⟨D, bs, rfl, SqL.of h2, fun b hb' => SqL.of (hb b hb').1, fun os p pm up hp => ?_⟩
        have s3 := same_new (o := .lst (os.map fun b => V.ref b.1)) hp
        obtain ⟨G, eG⟩ : ∃ G, G = os.map fun b => b.2.map Int.toNat := ⟨_, rfl⟩
        have toN : ∀ b ∈ os, natI (b.2.map Int.toNat) = b.2 := fun b hb' => by
          have hm' : b.2 ∈ bs.map fun b => b.2 := List.mem_map.mpr ⟨b, pm.mem_iff.mp hb', rfl⟩
          rw [hm] at hm'
          obtain ⟨g, _, e⟩ := List.mem_map.mp hm'
          rw [← e]
          unfold natI
          rw [List.map_map, List.map_map]
          exact List.map_congr_left fun x _ => rfl
        have eI : G.map natI = os.map fun b => b.2 := by
          rw [eG, List.map_map]
          exact List.map_congr_left toN
        have ePm : G.Perm (F.map (srtG rows.length)) := by
          have h1 : (os.map fun b => b.2.map Int.toNat).Perm (bs.map fun b => b.2.map Int.toNat) := pm.map _
          have h2 : (bs.map fun b => b.2.map Int.toNat) = F.map (srtG rows.length) := by
            have : (bs.map fun b => b.2).map (List.map Int.toNat) = (F.map fun g => natI (srtG rows.length g)).map (List.map Int.toNat) := by rw [hm]
            rw [List.map_map, List.map_map] at this
            refine this.trans (List.map_congr_left fun g _ => ?_)
            show (natI (srtG rows.length g)).map Int.toNat = srtG rows.length g
            unfold natI
            rw [List.map_map]
            exact (List.map_congr_left fun x _ => Int.toNat_natCast x).trans (List.map_id _)
          rw [eG, ← h2]
          exact h1
        have s13 := (s1.trans s2).trans s3
        refine k G p _ (hP.groups (fun g hg => ⟨srtG_perm (gnd g hg) (glt g hg), srtG_asc⟩) ePm) (by rw [eI]; exact up) s13 ((s1.trans s2).free hp) ⟨p, _, rfl, SqL.of upd_same, ?_⟩
        rw [eI]
        exact rowsB_os fun b hb' => s3 _ _ (hb b (pm.mem_iff.mp hb')).1
end
end Fo
set_option maxRecDepth 100000
set_option maxHeartbeats 2000000
namespace Fo
open PySem PySem.Spec PyProof.Rows L2
theorem ints_of : ∀ {ns : List Int} {us : List Value}, Vals (ns.map V.int) us → IntsAre us ns
  | [], [], _ => .nil
  | n :: ns, u :: us, .cons r t => by
    obtain ⟨k, rfl⟩ := r
    exact .cons n k (ints_of t)
end Fo
set_option maxRecDepth 100000
set_option maxHeartbeats 2000000
namespace Fo
open PySem PySem.Spec PyProof.Rows L2
section
variable {P : Program} {w : World} {A : Around} {E : Value → Shared → Prop} {s : Shared} {a : Addr}
theorem sorted_setA {M : Int → Bool} {many : Nat} {Want : Value → Shared → Prop} (set : SetR w s.heap a M many) (calm : A.handled = none) (small : many ≤ 100000)
    (go : ∀ (s2 : Shared) (L : Addr) (vals : Array Value) (u : Nat) (ks : List Int), (∀ b o, s.heap.get? b = some o → s2.heap.get? b = some o) → s2.gens = s.gens → s2.os = s.os → s.heap.objs.size ≤ L →
      s2.heap.get? L = some (seqObj "list" vals u) → IntsAre vals.toList ks → ks.Pairwise (· < ·) → (∀ k, k ∈ ks ↔ M k = true) → ks.length = many → Want (.ref L) s2) :
    wpAny (model P w) A (call (.builtin "sorted") [.ref a]) Want E s := by
  obtain ⟨ob, ents, ep, tt, at1, ex1, dat1, raws, one1, mem1, bnd1, fil1, cnt1, rr1, ll1⟩ := set
  refine Calls.call_function_entry kind_sorted plain_sorted entry_sorted (args_sorted1 _) ?_
  unfold Builtin.«sorted»
  refine wpAny_bind (m := checkCount "sorted" 1 1 _) (wpAny_pure ?_)
  refine wpAny_bind (collect_set (A := A.in1) calm ⟨ob, at1, ex1.1, dat1⟩ fil1 bnd1 rr1 ll1 fun s3 items kept sz gens3 os3 perm => ?_)
  have count : items.length = many := Eq.trans perm.length_eq (by rw [List.length_map, Array.length_toList]; exact cnt1)
  have lim : items.length ≤ sizeLine := by rw [count]; exact small_le small
  have allInts := L2.ints_of items fun v hv => by
    obtain ⟨en, hen, q⟩ := List.mem_map.mp (perm.mem_iff.mp hv)
    obtain ⟨k, tk, h1, _⟩ := raws en hen
    exact ⟨k, tk, q.symm.trans h1⟩
  have keys : (items.map Builtin.Re.reRawOf).Perm (ents.toList.map keyOf) := by
    have q := perm.map Builtin.Re.reRawOf
    rw [List.map_map] at q
    exact q
  refine wpAny_bind (wpAny_newList ?_ lim)
  have new := Heap.get?_push_size s3.heap (o := seqObj "list" items.toArray 0) rfl
  refine wpAny_bind (wpAny_holding (wpAny_call_entry slot_list_sort ⟨_, new, rfl⟩ entry_list_sort (list_sort_treeAny new allInts lim fun vals ks are pm up => ⟨_, rfl, ?_⟩) (args_list_sort _)))
  obtain ⟨u, hu⟩ := sortedHeap_at (vs := items) (out := vals) new
  have all : ks.Perm (ents.toList.map keyOf) := pm.trans keys
  have less := L2.lt_of_le_nodup ks up (all.nodup_iff.mpr one1)
  refine wpAny_pure ⟨_, rfl, go _ s3.heap.objs.size vals u ks ?_ gens3 os3 sz hu are less (fun k => by rw [mem1 k, all.mem_iff]) ?_⟩
  · intro b o e
    have old := kept b o e
    have lt := Heap.lt_size old
    have ne : b ≠ s3.heap.objs.size := Nat.ne_of_lt lt
    exact (sortedHeap_old ne (by rw [size_push']; exact Nat.lt_succ_of_lt lt)).trans (Heap.get?_push_of_some _ old)
  · exact all.length_eq.trans (by rw [List.length_map, Array.length_toList]; exact cnt1)
end
def rSortSetA (w : World) : List V → Hp → VK → Prop := fun xs H Q => ∃ (a : Addr) (M : Int → Bool) (many : Nat), xs = [.ref a] ∧ H a = some (SetO w a M many) ∧ many ≤ 100000 ∧
  ∀ (ks : List Int) (L : Addr), ks.Pairwise (· < ·) → (∀ k : Int, k ∈ ks ↔ M k = true) → ks.length = many → H L = none → Q (.ref L) (upd H L (.lst (ks.map V.int)))
theorem cr_sortSetA {X : Cx} (calm : X.calm = true) : CallR X (.builtin "sorted") (rSortSetA X.w) := by
  intro pins s σ H xs us Q I r h
  obtain ⟨a, M, many, rfl, at1, small, q⟩ := h
  have R := setO_get I at1
  rw [Vals.ref1 r]
  refine sorted_setA R (I.ok.hd calm) small fun s2 L vals u ks kept gens2 os2 sz at2 are up mem len => ?_
  have fit : (ks.map V.int).length ≤ sizeLine := by rw [List.length_map, len]; exact small_le small
  have free : H L = none := I.hok.fresh sz
  have J : Inv X pins σ (upd H L (.lst (ks.map V.int))) { s with heap := s2.heap, gens := s2.gens, drawn := s2.drawn, toks := s2.toks } :=
    I.call (ch := []) (Un.laid kept sz free) (I.hok.laid kept sz ⟨fit, vals.toList, u, vals_of_ints are, at2⟩) (by rw [gens2]; exact I.bare) (fun _ z => nomatch z)
  have same : s2 = { s with heap := s2.heap, gens := s2.gens, drawn := s2.drawn, toks := s2.toks } := by
    cases s2
    cases s
    cases os2
    rfl
  rw [same]
  exact ⟨.ref L, _, J, rfl, q ks L up mem len free⟩
end Fo
set_option maxRecDepth 100000
set_option maxHeartbeats 4000000
namespace Fo
open PySem PySem.Spec PyProof.Rows L2
abbrev emptyS (w : World) : Obj := { cls := .type "set", dict := none, data := .set #[] 0 (.fresh 0 0 (!w.params.followText "set-order")) }
section
variable {P : Program} {w : World} {A : Around} {E : Value → Shared → Prop} {s : Shared}
theorem call_set_listI {l : Addr} {items : Array Value} (ns : List Int) {Q : Value → Shared → Prop} (calm : A.handled = none) (hl : s.heap.IsList l items) (areI : IntsAre items.toList ns) (room : ns.length + 1 < scanBound)
    (go : ∀ (h' : Heap) (tk c : Nat), SetR w h' s.heap.objs.size (fun j => decide (j ∈ ns)) c → c ≤ ns.length → (∀ b o, s.heap.get? b = some o → h'.get? b = some o) → Q (.ref s.heap.objs.size) { s with heap := h', toks := tk }) :
    wpAny (model P w) A (call (.type "set") [.ref l]) Q E s := by
  have many : items.size = ns.length := (Array.length_toList (xs := items)).symm.trans (IntsAre.length areI)
  obtain ⟨c, tl, hmro⟩ := F.called_set.mro
  have f1 := F.called_set.made
  have f2 := F.called_set.sub
  refine wpAny_call (codeAny_of_tree ?_)
  show wpAny _ _ (callAny (.type "set") _) _ _ _
  refine wpAny_pure ⟨Code.quiet_builtin _ (by decide +kernel), codeAny_builtin F.entry_type_call ?_⟩
  rw [Around.under_plain (weight_type_call_type "set" [.ref l] []) rfl]
  have f3 := F.called_set.notType
  have f4 := F.called_set.canCreate
  have f5 := F.typeCall_set_1 (.ref l)
  repeat (any_goals (first | assumption | wp_step))
  refine codeAny_mono (code_set_led1 (.ref l) (E := E) (Q₁ := fun obj s₁ => obj = .ref s.heap.objs.size ∧ s₁ = { s with heap := s.heap.push (emptyS w) }) ⟨rfl, rfl⟩) fun r s₁ hr => ?_
  cases r with
  | error e => exact hr
  | ok fl =>
    cases fl with
    | ret obj =>
      obtain ⟨rfl, rfl⟩ := hr
      have at0 : (s.heap.push (emptyS w)).get? s.heap.objs.size = some (emptyS w) := Heap.get?_push_size _ rfl
      have ty0 : Shared.TypeIs { s with heap := s.heap.push (emptyS w) } (.ref s.heap.objs.size) "set" := ⟨_, at0, rfl⟩
      have f6 := F.called_set.init.lookup
      have f7 := F.called_set.init.bind (.ref s.heap.objs.size)
      repeat (any_goals (first | assumption | wp_step))
      refine codeAny_mono (codeAny_call_builtin (R := wants (fun r s₂ => r = .none ∧ ∃ h' tk c, s₂ = { s with heap := h', toks := tk } ∧ SetR w h' s.heap.objs.size (fun j => decide (j ∈ ns)) c ∧ c ≤ ns.length ∧
          (∀ b o, s.heap.get? b = some o → h'.get? b = some o)) E) F.called_set.init.plain F.entry_set_init (check_set_init_1 ty0 ?_)) fun r₂ s₂ hr₂ => ?_
      · obtain ⟨⟨ocls, odict, odata, oslots⟩, old, hcl, nl, hdl⟩ := hl
        dsimp only at hcl hdl
        subst hcl; subst hdl
        have old' : (s.heap.push (emptyS w)).get? l = some { cls := .type "list", dict := odict, data := .seq items nl, slots := oslots } := Heap.get?_push_of_some _ old
        have f8 := F.sub_list_set
        have f9 := F.sub_list_frozenset
        have f10 : (Value.type "list" == Value.type "dict") = false := by decide
        have isl : (s.heap.push (emptyS w)).IsList l items := ⟨_, old', rfl, nl, rfl⟩
        unfold Builtin.«set.__init__» noKeywords Builtin.Frozenset.updateFrom
        generalize hPI : pyIter = PI
        wp_walk
        subst hPI
        refine wpAny_pyIter_list isl ?_
        refine wpAny_bind (wpAny_runValue ?_)
        have lt : l < s.heap.objs.size := Heap.lt_size old
        have calm3 : A.in1.in1.in1.handled = none := by simp [calm]
        have sz : (s.heap.push (emptyS w)).objs.size = s.heap.objs.size + 1 := Heap.size_push ..
        have ne1 : l ≠ (s.heap.push (emptyS w)).objs.size := by
          rw [sz]; exact Nat.ne_of_lt (Nat.lt_succ_of_lt lt)
        have apart : s.heap.objs.size ∉ [(s.heap.push (emptyS w)).objs.size, l] := by
          rw [sz]; simp only [List.mem_cons, List.not_mem_nil, or_false, not_or]
          exact ⟨Nat.ne_of_lt (Nat.lt_succ_self _), Nat.ne_of_gt lt⟩
        have each : ∀ (i : Nat) (v : Value), items[i]? = some v → ∃ k t, ns[i]? = some k ∧ v = .int k t := fun i v hv => by
          have hi : i < ns.length := by rw [← many]; exact (Array.getElem?_eq_some_iff.mp hv).1
          obtain ⟨t, e⟩ := PyProof.Rows.IntsAre.int_at areI i v (by rw [Array.getElem?_toList]; exact hv)
          refine ⟨ns[i], t, List.getElem?_eq_getElem hi, ?_⟩
          rw [e, List.getD_eq_getElem?_getD, List.getElem?_eq_getElem hi] <;> rfl
        refine set_update_ints ((Walks.list calm3 _ l ne1 items).toS) s.heap.objs.size
          apart ns many room each (items.size - 0) 0 _ (by omega) (Nat.zero_le _)
          ⟨⟨_, Heap.get?_push_size _ rfl, rfl, rfl⟩, (isl.push _)⟩ ?start ?fin
        case start =>
          exact ⟨0, Nat.le_refl 0, setR_new_at (Heap.get?_push_of_some _ at0)⟩
        case fin =>
          intro s' c' moved cl R
          obtain ⟨h', g2, d', tk', os'⟩ := s'
          have eg : g2 = s.gens := moved.gens
          have ed : d' = s.drawn := moved.drawn
          have eo : os' = s.os := moved.os
          subst eg; subst ed; subst eo
          show wpAny _ _ _ _ _ _
          refine wpAny_pure ?_
          show wpAny _ _ (ret Value.none) _ _ _
          rw [many] at cl
          refine wpAny_pure ⟨rfl, h', tk', c', rfl, R, cl, fun b o e => ?_⟩
          have b0 : b < s.heap.objs.size := Heap.lt_size e
          refine moved.heap b o ?_ (Heap.get?_push_of_some _ (Heap.get?_push_of_some _ e))
          simp only [sz, List.mem_cons, List.not_mem_nil, or_false, not_or]
          exact ⟨Nat.ne_of_lt b0, Nat.ne_of_lt (Nat.lt_succ_of_lt b0)⟩
      · cases r₂ with
        | error e => exact hr₂
        | ok fl₂ =>
          cases fl₂ with
          | ret r =>
            obtain ⟨rfl, h', tk, c', rfl, R, cl, kept⟩ := hr₂
            repeat (any_goals (first | assumption | wp_step))
            exact go _ _ _ R cl kept
          | _ => exact hr₂.elim
    | _ => exact hr.elim
end
theorem setR_len {w : World} {h : Heap} {a : Addr} {ns : List Int} {c : Nat} (R : SetR w h a (fun j => decide (j ∈ ns)) c) : ∀ ks : List Int, ks.Nodup → (∀ k, k ∈ ks ↔ k ∈ ns) → ks.length = c := by
  intro ks nd mem
  obtain ⟨o, es, ep, t, _, _, _, _, one, m, _, _, n, _⟩ := R
  have p : ks.Perm (es.toList.map keyOf) := by
    refine (List.perm_ext_iff_of_nodup nd one).mpr fun k => ?_
    rw [mem k, ← m k, decide_eq_true_iff]
  rw [p.length_eq, List.length_map, Array.length_toList]
  exact n
def rLenO (w : World) : List V → Hp → VK → Prop := fun xs H Q => ∃ (a : Addr) (M : Int → Bool) (n : Nat), xs = [.ref a] ∧ H a = some (SetO w a M n) ∧ Q (.int n) H
theorem cr_lenO {X : Cx} : CallR X (.builtin "len") (rLenO X.w) := by
  intro pins s σ H xs us Q I r h
  obtain ⟨a, M, n, rfl, at1, q⟩ := h
  rw [Vals.ref1 r]
  obtain ⟨o, es, ep, t, ho, hex, hd, _, _, _, bnd, hf, hn, _⟩ := setO_get I at1
  refine call_len_set ho hex hd hf (by have : (scanBound : Int) < 2 ^ 63 := by decide
                                       omega) ⟨.int n, H, I.tok _, ⟨_, by rw [hn]⟩, q⟩
/-- a set of the ints of a list; how many there are is left open but for the bound -/
def rSetL (K : PySem.W.Frag) (w : World) : List V → Hp → VK → Prop := fun xs H Q => ∃ (p : Addr) (ns : List Int), xs = [.ref p] ∧ SqL K H p (ns.map V.int) ∧ ns.length ≤ 4000 ∧ ∀ (a : Addr) (n : Nat), H a = none → n ≤ ns.length → (∀ ks : List Int, ks.Nodup → (∀ k, k ∈ ks ↔ k ∈ ns) → ks.length = n) → Q (.ref a) (upd H a (SetO w a (fun j => decide (j ∈ ns)) n))
theorem cr_setL {X : Cx} (hc : X.calm = true) : CallR X (.type "set") (rSetL X.K X.w) := by
  intro pins s σ H xs us Q I r h
  obtain ⟨p, ns, rfl, hS, hl, q⟩ := h
  cases r with
  | cons r0 r1 =>
    cases r1
    cases r0
    obtain ⟨its, rv, hT, hz⟩ := I.list hS
    refine call_set_listI ns (I.ok.hd hc) hT.isList (by simpa using Fo.ints_of rv) (by
      have : (4002 : Nat) < scanBound := by decide
      omega) fun h' tk c hR hcn hk => ?_
    refine ⟨.ref s.heap.objs.size, _, I.laid (a := s.heap.objs.size) (o := SetO X.w s.heap.objs.size (fun j => decide (j ∈ ns)) c) hk (Nat.le_refl _) ?_, rfl, q _ c (I.hok.fresh (Nat.le_refl _)) hcn (setR_len hR)⟩
    refine ⟨hR, ?_, fun h1 h2 a b => ?_⟩
    · obtain ⟨o, _, _, _, g, _⟩ := hR
      exact ⟨o, g⟩
    · obtain ⟨o, es, ep, t, g, r⟩ := a
      exact ⟨o, es, ep, t, b o g, r⟩
end Fo
set_option maxRecDepth 100000
set_option maxHeartbeats 2000000
namespace Fo
open PySem PySem.Spec PyProof.Rows L2
theorem walk_sq {K : PySem.W.Frag} {b : Bool} {a : Addr} {xs : List V} {H0 : Hp} {B : V → Hp → (Hp → Prop) → Prop} {Qd : Hp → Prop} (Pv : Nat → Hp → Prop) (h0 : Pv 0 H0) (hl : ∀ i H, i ≤ xs.length → Pv i H → Sq b K H a xs)
    (hs : ∀ i x H, xs[i]? = some x → Pv i H → B x H (Pv (i + 1))) (hd : ∀ H, Pv xs.length H → Qd H) :
    ∃ W : Nat → Nat → Hp → Prop, (∃ m, W 0 m H0) ∧ ∀ i m H, W i m H →
      ((ItS b K a).stop i H ∧ Qd H) ∨ ((ItS b K a).go i H ∧ ∃ Nx : Hp → Prop, (∀ H', Nx H' → ∃ m', m' < m ∧ W (i + 1) m' H') ∧ ∀ x H', (ItS b K a).yld i H x H' → B x H' Nx) := by
  refine ⟨fun i m H => m = xs.length - i ∧ i ≤ xs.length ∧ Pv i H, ⟨xs.length, by simp, Nat.zero_le _, h0⟩, ?_⟩
  rintro i m H ⟨rfl, hi, p⟩
  have q := hl i H hi p
  by_cases hlt : i < xs.length
  · have hx : xs[i]? = some xs[i] := List.getElem?_eq_getElem hlt
    have step : ∀ x H', H' = H → xs[i]? = some x → B x H' (Pv (i + 1)) := fun x H' e y => by
      subst e
      exact hs i x _ y p
    refine .inr ⟨?_, Pv (i + 1), fun H' p' => ⟨xs.length - (i + 1), by omega, rfl, hlt, p'⟩, fun x H' y => ?_⟩
    · cases b with
      | true => exact ⟨xs, xs[i], q, hx⟩
      | false => exact ⟨xs, xs[i], q, hx⟩
    · cases b with
      | true => exact step x H' y.1 (y.2 xs q)
      | false => exact step x H' y.1 (y.2 xs q)
  · have e : i = xs.length := by omega
    subst e
    refine .inl ⟨?_, hd H p⟩
    cases b with
    | true => exact ⟨xs, q, Nat.le_refl _⟩
    | false => exact ⟨xs, q, Nat.le_refl _⟩
end Fo
set_option maxRecDepth 100000
set_option maxHeartbeats 2000000
set_option maxRecDepth 100000
set_option maxHeartbeats 1000000
namespace Fo
open PySem PySem.Spec PyProof.Rows L2
structure ShortOf (rows : List (List Int)) (L : List Nat) : Prop where
  is : ∃ (m : Mt.MS) (p N : Nat), Mt.Upto rows rows.length m ∧ p < rows.length ∧ m.h p = none ∧ (∀ j, j < p → m.h j ≠ none) ∧ Mt.Bits N (Mt.Reach rows m.o p) ∧ L = Mt.reached (Builtin.Int.intBits (N : Int)) N
theorem ShortOf.one {rows : List (List Int)} {A B : List Nat} (a : ShortOf rows A) (b : ShortOf rows B) : A = B := by
  obtain ⟨m, p, N, u, h1, h2, h3, h4, rfl⟩ := a.is
  obtain ⟨m', p', N', u', g1, g2, g3, g4, rfl⟩ := b.is
  have em := Mt.upto_one u u'
  subst em
  have ep : p = p' := by
    rcases Nat.lt_trichotomy p p' with z | z | z
    · exact absurd h2 (g3 p z)
    · exact z
    · exact absurd g2 (h3 p' z)
  subst ep
  have en : N = N' := Nat.eq_of_testBit_eq fun q => by
    have := (h4 q).trans (g4 q).symm
    cases x : N.testBit q <;> cases y : N'.testBit q <;> simp_all
  subst en
  rfl
end Fo
namespace Mt
/-- a lot of people who may get, all together, just as many things as they are, this thing among them -/
structure Lot (rows : Rows) (t : Int) (L : List Nat) : Prop where
  asc : L.Pairwise (· < ·)
  lt : ∀ p ∈ L, p < rows.length
  hold : ∃ U : List Int, U.Nodup ∧ U.length = L.length ∧ (∀ u, u ∈ U ↔ ∃ x ∈ L, u ∈ row rows x) ∧ t ∈ U
theorem Lot.nd {rows : Rows} {t : Int} {L : List Nat} (h : Lot rows t L) : L.Nodup := h.asc.imp fun {a b} z => Nat.ne_of_lt z
end Mt
set_option maxRecDepth 100000
set_option maxHeartbeats 4000000
namespace Fo
open PySem PySem.Spec PyProof.Rows L2
theorem un65 {B : Nat} {A : Around} (hr : Room B A) : A.units + 65 < cLine := by have := hr.un; omega
abbrev s_things_of : Stmt := top 22
abbrev n_things_of : List Str := ["rows", "row", "thing"]
theorem sc_things_of : FnScope n_things_of ["rows"] (defScope s_things_of) := ⟨rfl, rfl, rfl, by decide +kernel, rfl, by decide +kernel, by decide +kernel⟩
abbrev s_rows_of : Stmt := top 23
abbrev n_rows_of : List Str := ["rows", "people", "person"]
theorem sc_rows_of : FnScope n_rows_of ["rows", "people"] (defScope s_rows_of) := ⟨rfl, rfl, rfl, by decide +kernel, rfl, by decide +kernel, by decide +kernel⟩
section
variable {P : Program} {w : World} {K : PySem.W.Frag} {mg : Str → Option Value} {base : Heap} {C : Addr}
/-- rows of one kind in a list or a tuple -/
def RowsX (c b : Bool) (K : PySem.W.Frag) (H : Hp) (v : V) (rows : List (List Int)) : Prop := ∃ a vs, v = .ref a ∧ Sq c K H a vs ∧ RowsB b K H vs rows
def spThings (K : PySem.W.Frag) : Sp := fun vs H Q _ => ∃ (c b : Bool) (rv : V) (rows : List (List Int)), vs = [rv] ∧ RowsX c b K H rv rows ∧ (Mt.things rows).length ≤ 4000 ∧
  ∀ (ks : List Int) p H', Same H H' → ks.Pairwise (· < ·) → (∀ k : Int, k ∈ ks ↔ k ∈ Mt.things rows) → SqL K H' p (ks.map V.int) → Q (.ref p) H'
theorem ok_things (A : At K mg "things_of" s_things_of ["rows"]) (T : Tx mg) : Dfn P w K mg base "things_of" ["rows"] 1 (spThings K) := by
  refine A.ok sc_things_of (fun vs H Q E h => ?_) (fun f cdv A outer s H vs Q E hr h => ?_)
  · obtain ⟨c, b, rv, rows, rfl, _⟩ := h
    rfl
  · obtain ⟨c, b, rv, rows, rfl, hR, hU, k⟩ := h
    obtain ⟨ra, vs, rfl, hra, hrb⟩ := id hR
    have vl := hrb.len
    refine ⟨_, (pss_one (ps_ret (pe_callB (cr_sortSetA rfl) (by rfl) T.sorted (by decide +kernel) (pa_cons (pe_callTy (cr_setL rfl) (by rfl) T.set (by decide +kernel) (pa_cons (pe_lc2 (own := [("row", 1), ("thing", 2)]) (vs1 := [2]) (g := (gName 1)) (tt := tYes) (wi1 := (iAlt (iList K (tVar 1)) (iTup K (tVar 1)))) (g1 := (gName 2)) (tt1 := tYes) (te := (tVar 2)) (by rfl) sc_things_of.nd (pi_alt (pi_list (pv 0)) (pi_tup (pv 0))) (blkOk_by (own := [("row", 1), ("thing", 2)]) (N := n_things_of) (sc := (defScope s_things_of)) (by decide +kernel)) (by decide) (fun _ _ _ _ _ => (pg_name (i := 1) sc_things_of.nd rfl (Or.inl rfl))) (fun _ _ _ _ _ => pts_nil) (fun _ _ _ _ _ => (pi_alt (pi_list (pv 1)) (pi_tup (pv 1)))) (fun _ _ _ _ _ => (pg_name (i := 2) sc_things_of.nd rfl (Or.inl rfl))) (fun _ _ _ _ _ => pts_nil) (fun _ _ _ _ _ => (pv 2))) pa_nil)) pa_nil)))), ?_⟩
    refine alt_it (b := c) (xs := vs) (fun Q' q => ⟨_, rfl, q⟩) hra fun D hD => ?_
    refine walk_sq (b := c) (xs := vs) (fun i H' => H' D = some (.lst (((rows.take i).flatten).map V.int)) ∧ Same H H') ⟨upd_same, same_new hD⟩ (fun i H' _ hp => hra.same hp.2) ?_ ?_
    · rintro i x H1 hx ⟨h1, s1⟩
      obtain ⟨aa, r, rfl, hri, hqa⟩ := hrb.get hx
      have hir : i < rows.length := (List.getElem?_eq_some_iff.mp hri).1
      have lk : ∀ j, ((rows.take i).flatten ++ r.take j).length ≤ 4000 := fun j => by
        have e : rows = rows.take i ++ r :: rows.drop (i + 1) := by
          have := List.getElem?_eq_some_iff.mp hri
          rw [← this.2, ← List.drop_eq_getElem_cons, List.take_append_drop]
        have hU' : rows.flatten.length ≤ 4000 := hU
        rw [e, List.flatten_append, List.flatten_cons, List.length_append, List.length_append] at hU'
        rw [List.length_append, List.length_take]
        omega
      refine ⟨rfl, ?_⟩
      refine alt_it (b := b) (xs := r.map V.int) (fun Q' q => ⟨_, rfl, q⟩) (hqa.same s1) ?_
      refine walk_sq (b := b) (xs := r.map V.int) (fun j H' => H' D = some (.lst (((rows.take i).flatten ++ r.take j).map V.int)) ∧ Same H H') ⟨by rw [List.take_zero, List.append_nil]; exact h1, s1⟩ (fun i H' _ hp => hqa.same hp.2) ?_ ?_
      · rintro j y H2 hy ⟨h2, s2⟩
        obtain ⟨u, hu, rfl⟩ : ∃ u, r[j]? = some u ∧ y = V.int u := by
          rw [List.getElem?_map] at hy
          cases e : r[j]? with
          | none => rw [e] at hy; cases hy
          | some u => rw [e] at hy; exact ⟨u, rfl, (Option.some.inj hy).symm⟩
        refine ⟨rfl, _, rfl, _, h2, by rw [List.length_map]; exact small_lt (by have := lk j; omega), ?_, same_mut s2 hD⟩
        rw [upd_same, take_snoc hu, ← List.append_assoc, List.map_append (l₂ := [u])]
        rfl
      · rintro H2 ⟨h2, s2⟩
        rw [List.length_map, List.take_length] at h2
        refine ⟨?_, s2⟩
        rw [h2, take_snoc hri, List.flatten_append, List.flatten_singleton]
    · rintro H1 ⟨h1, s1⟩
      rw [List.take_of_length_le (by omega)] at h1
      refine ⟨D, rows.flatten, rfl, SqL.of h1, hU, fun a n ha hn _ => ?_⟩
      have hU' : rows.flatten.length ≤ 4000 := hU
      refine ⟨a, _, n, rfl, upd_same, by omega, fun ks L asc mem len hL => ?_⟩
      have s2 := s1.trans (same_new (o := SetO w a (fun j => decide (j ∈ rows.flatten)) n) ha)
      exact k ks L _ (s2.trans (same_new hL)) asc (fun z => (mem z).trans decide_eq_true_iff) (SqL.of upd_same)
def spRowsOf (K : PySem.W.Frag) : Sp := fun vs H Q _ => ∃ (b : Bool) (rv : V) (rows : List (List Int)) (pa : Addr) (ps : List Nat), vs = [rv, .ref pa] ∧ RowsQ b K H rv rows ∧ (∃ c, Sq c K H pa (ps.map nV)) ∧ ps.length ≤ 4000 ∧ (∀ p ∈ ps, p < rows.length) ∧
  ∀ l H', Same H H' → RowsX true b K H' (.ref l) (ps.map (Mt.row rows)) → Q (.ref l) H'
theorem ok_rows_of (A : At K mg "rows_of" s_rows_of ["rows", "people"]) (T : Tx mg) : Dfn P w K mg base "rows_of" ["rows", "people"] 1 (spRowsOf K) := by
  refine A.ok sc_rows_of (fun vs H Q E h => ?_) (fun f cdv A outer s H vs Q E hr h => ?_)
  · obtain ⟨b, rv, rows, pa, ps, rfl, _⟩ := h
    rfl
  · obtain ⟨b, rv, rows, pa, ps, rfl, hR, ⟨c, hpa⟩, hl, hlt, k⟩ := h
    obtain ⟨ra, vs, rfl, hra, hrb⟩ := id hR
    have vl := hrb.len
    refine ⟨_, (pss_one (ps_ret (pe_lc (own := [("person", 2)]) (g := (gName 2)) (tt := tYes) (te := (tOp (rAlt (rIxL K) (rIxT K)) (tVar 0) (tVar 2))) (by rfl) sc_rows_of.nd (pi_alt (pi_list (pv 1)) (pi_tup (pv 1))) (blkOk_by (own := [("person", 2)]) (N := n_rows_of) (sc := (defScope s_rows_of)) (by decide +kernel)) (fun _ _ _ _ _ => (pg_name (i := 2) sc_rows_of.nd rfl (Or.inl rfl))) (fun _ _ _ _ _ => pts_nil) (fun _ _ _ _ _ => (pe_ix ix_sq (pv 0) (pv 2) (fun _ _ => rfl)))))), ?_⟩
    refine alt_it (b := c) (xs := ps.map nV) (fun Q' q => ⟨_, rfl, q⟩) hpa fun D hD => ?_
    refine walk_sq (b := c) (xs := ps.map nV) (fun i H' => ∃ ws, H' D = some (.lst ws) ∧ RowsB b K H ws ((ps.take i).map (Mt.row rows)) ∧ Same H H') ⟨[], upd_same, .nil, same_new hD⟩ (fun i H' _ hp => by obtain ⟨_, _, _, s1⟩ := hp; exact hpa.same s1) ?_ ?_
    · rintro i x H1 hx ⟨ws, h1, hw, s1⟩
      obtain ⟨q, hq, rfl⟩ : ∃ q, ps[i]? = some q ∧ x = nV q := by
        rw [List.getElem?_map] at hx
        cases e : ps[i]? with
        | none => rw [e] at hx; cases hx
        | some u => rw [e] at hx; exact ⟨u, rfl, (Option.some.inj hx).symm⟩
      have qn := hlt q (List.mem_of_getElem? hq)
      have il := (List.getElem?_eq_some_iff.mp hq).1
      obtain ⟨aa, ha, hsa⟩ := hrb.at_ (List.getElem?_eq_getElem qn)
      have wl : ws.length ≤ 4000 := by rw [hw.len, List.length_map, List.length_take]; omega
      refine ⟨rfl, _, rfl, _, rfl, alt_ix (hra.same s1) (at_nat ha) ⟨_, h1, small_lt (by omega), ws ++ [.ref aa], upd_same, ?_, same_mut s1 hD⟩⟩
      rw [take_snoc hq, List.map_append]
      refine RowsB.snoc ?_ hw
      rw [show Mt.row rows q = rows[q] from Mt.row_get (List.getElem?_eq_getElem qn)]
      exact hsa
    · rintro H1 ⟨ws, h1, hw, s1⟩
      rw [List.length_map, List.take_length] at hw
      exact k D H1 s1 ⟨D, ws, rfl, SqL.of h1, hw.same s1⟩
end
end Fo
set_option maxRecDepth 100000
set_option maxHeartbeats 4000000
namespace Fo
open PySem PySem.Spec PyProof.Rows L2
section
variable {X : Cx}
def rSortedTT (K : PySem.W.Frag) : List V → Hp → VK → Prop := fun vs H Q => ∃ (a : Addr) (bs : List (Addr × List Int)), vs = [V.ref a] ∧ SqL K H a (bs.map fun b => V.ref b.1) ∧ (∀ b ∈ bs, SqT K H b.1 (b.2.map V.int) ∧ b.2 ≠ []) ∧
  ∀ (os : List (Addr × List Int)) p, os.Perm bs → (os.map fun b => b.2).Pairwise (· ≤ ·) → H p = none → Q (.ref p) (upd H p (.lst (os.map fun b => V.ref b.1)))
theorem cr_sortedTT (hu : X.A.units + 64 < cLine) : CallR X (.builtin "sorted") (rSortedTT X.K) := by
  intro pins s σ H vs us Q I r h
  obtain ⟨a, bs, rfl, hs, hb, q⟩ := h
  obtain ⟨its, rv, hl, hz⟩ := I.list hs
  obtain ⟨u, rfl, ru⟩ := r.one
  obtain rfl : u = Value.ref a := ru
  have ei := refs_of rv
  subst ei
  have bl : bs.length ≤ sizeLine := by
    have := hz
    simpa using this
  refine PySem.W.sorted_data (R := fun v (b : Addr × List Int) => v = Value.ref b.1) (enc := fun b => .tuple (b.2.map .int)) hl.isList (each_refs bs) (each_of fun b hm => ?_) (PySem.W.AllAlike.of fun b b' => ?_) (.inl fun d hd => ?_) bl (fun b _ => ?_) fun out ho eo => ?_
  · exact Dp.reads I (.tuple (b.2.map .int)) (V.ref b.1) (Value.ref b.1) (.tup (hb b hm).1 (dpAll_ints _)) rfl
  · exact PySem.W.alike_ints _ _
  · obtain ⟨b, hm, rfl⟩ := List.mem_map.mp hd
    have ne := (hb b hm).2
    cases e : b.2 with
    | nil => exact absurd e ne
    | cons y r => exact ⟨_, _, rfl⟩
  · show X.A.units + 2 + (PyData.tuple (b.2.map .int)).depth < cLine
    rw [PyData.depth, PySem.W.depth_ints]
    omega
  · obtain ⟨n, hn⟩ := sortedAll_at s.heap (bs.map fun b => Value.ref b.1) out.toArray
    have el : PySem.W.dataLe false (fun b : Addr × List Int => PyData.tuple (b.2.map .int)) = PySem.W.dataLe false (fun b : Addr × List Int => PyData.list (b.2.map .int)) := rfl
    rw [el, PySem.W.dataLe_rows] at eo
    have eo' := each_back eo
    have pm := List.mergeSort_perm bs fun p q => decide (p.2 ≤ q.2)
    have hf := I.hok.fresh (Nat.le_succ s.heap.objs.size)
    refine ⟨.ref (s.heap.objs.size + 1), _, I.laid (t' := s.toks) (o := .lst ((bs.mergeSort fun p q => decide (p.2 ≤ q.2)).map fun b => V.ref b.1)) (fun b o e => sortedAll_old e) (Nat.le_succ _) ⟨?_, out, n, ?_, hn⟩, rfl, q (bs.mergeSort fun p q => decide (p.2 ≤ q.2)) _ pm ?_ hf⟩
    · rw [List.length_map, pm.length_eq]; exact bl
    · rw [eo']
      exact refs_to _
    · rw [List.pairwise_map]
      refine (List.pairwise_mergeSort (fun a b c h1 h2 => ?_) (fun a b => ?_) bs).imp fun h => of_decide_eq_true h
      · exact decide_eq_true (List.le_trans (of_decide_eq_true h1) (of_decide_eq_true h2))
      · by_cases h : a.2 ≤ b.2
        · rw [decide_eq_true h]; rfl
        · rw [decide_eq_true (List.le_of_lt (List.not_le.mp h)), Bool.or_true]
end
/-- an environment of a scope alone -/
def envA (sc : Scope) : Env := { scope := sc, locals := 0, globals := 0, cells := [], qual := "", func := none, code := .none, frame := none, builtins := 0 }
/-- the scopes of the list comprehensions of an expression, the outer ones -/
def exLcs : Nat → Expr → List Scope
  | 0, _ => []
  | n + 1, e => match e with
    | .ListComp _ _ sc _ => [sc]
    | .DictComp _ _ _ sc _ => [sc]
    | .Call _ as _ _ => as.flatMap (exLcs n)
    | .Compare l _ rs _ => exLcs n l ++ rs.flatMap (exLcs n)
    | .BoolOp _ vs _ => vs.flatMap (exLcs n)
    | .BinOp l _ r _ => exLcs n l ++ exLcs n r
    | .UnaryOp _ x _ => exLcs n x
    | .IfExp t a b _ => exLcs n t ++ exLcs n a ++ exLcs n b
    | .Subscript o x _ => exLcs n o ++ exLcs n x
    | .List es _ => es.flatMap (exLcs n)
    | .Tuple es _ _ => es.flatMap (exLcs n)
    | _ => []
def stLcs (s : Stmt) : List Scope := match s with
  | .Assign _ e .. => exLcs 12 e
  | .Return (some e) _ => exLcs 12 e
  | .If t _ _ _ => exLcs 12 t
  | .Expr e _ => exLcs 12 e
  | .AugAssign _ _ e _ => exLcs 12 e
  | .For _ e _ _ _ => exLcs 12 e
  | _ => []
/-- the statement at a path; of an if: 2 k in the body, 2 k + 1 in the else -/
def stAt : Stmt → List Nat → Stmt
  | s, [] => s
  | s, k :: r => match s with
    | .For _ _ b _ _ => stAt (b[k]?.getD s) r
    | .While _ b _ _ => stAt (b[k]?.getD s) r
    | .If _ b e _ => stAt (((if k % 2 = 0 then b else e)[k / 2]?).getD s) r
    | .FunctionDef _ _ b .. => stAt (b[k]?.getD s) r
    | _ => s
/-- the scope of the j-th comprehension of the statement at a path -/
def lcIn (s : Stmt) (p : List Nat) (j : Nat) : Scope := ((stLcs (stAt s p))[j]?).getD (defScope s)
end Fo
set_option maxRecDepth 100000
set_option maxHeartbeats 2000000
set_option maxRecDepth 100000
set_option maxHeartbeats 2000000
set_option maxRecDepth 100000
set_option maxHeartbeats 2000000
namespace Fo
open PySem PySem.Spec PyProof.Rows L2
structure Lay (w : Nat) (d : PyData) : Prop where
  hd : d.hasDict = false
  sh : d.showable = true
  dp : d.depth ≤ w
  can : d.canLay0 = true
  ish : PyData.intsShort 13 d = true
structure LayAll (w : Nat) (ds : List PyData) : Prop where
  hd : PyData.hasDictAll ds = false
  sh : PyData.showableAll ds = true
  dp : PyData.depthAll ds ≤ w
  can : PyData.canLayAll0 ds = true
  ish : PyData.intsShortAll 13 ds = true
theorem LayAll.nil {w : Nat} : LayAll w [] := ⟨rfl, rfl, Nat.zero_le _, rfl, rfl⟩
theorem LayAll.cons {w : Nat} {d : PyData} {ds : List PyData} (a : Lay w d) (b : LayAll w ds) : LayAll w (d :: ds) := by
  refine ⟨?_, ?_, ?_, ?_, ?_⟩
  · show (d.hasDict || PyData.hasDictAll ds) = false
    rw [a.hd, b.hd]; rfl
  · show (d.showable && PyData.showableAll ds) = true
    rw [a.sh, b.sh]; rfl
  · show max d.depth (PyData.depthAll ds) ≤ w
    have := a.dp; have := b.dp; omega
  · show (d.canLay0 && PyData.canLayAll0 ds) = true
    rw [a.can, b.can]; rfl
  · show (PyData.intsShort 13 d && PyData.intsShortAll 13 ds) = true
    rw [a.ish, b.ish]; rfl
theorem LayAll.tup {w : Nat} {ds : List PyData} (a : LayAll w ds) : Lay (w + 1) (.tuple ds) := ⟨a.hd, a.sh, Nat.succ_le_succ a.dp, a.can, a.ish⟩
theorem LayAll.lst {w : Nat} {ds : List PyData} (a : LayAll w ds) : Lay (w + 1) (.list ds) := ⟨a.hd, a.sh, Nat.succ_le_succ a.dp, a.can, a.ish⟩
end Fo
set_option maxRecDepth 100000
set_option maxHeartbeats 4000000
namespace Fo
open PySem PySem.Spec PyProof.Rows L2
inductive PrsT (K : PySem.W.Frag) (H : Hp) : List V → List (List (List Int)) → Prop where
  | nil : PrsT K H [] []
  | cons {v : V} {vs : List V} {R : List (List Int)} {Rs : List (List (List Int))} (h : RowsAt K H v R) (t : PrsT K H vs Rs) : PrsT K H (v :: vs) (R :: Rs)
section
variable {K : PySem.W.Frag} {H H' : Hp}
theorem PrsT.len : ∀ {vs : List V} {Rs : List (List (List Int))}, PrsT K H vs Rs → vs.length = Rs.length
  | _, _, .nil => rfl
  | _, _, .cons _ t => congrArg (· + 1) t.len
theorem PrsT.same (e : Same H H') : ∀ {vs : List V} {Rs : List (List (List Int))}, PrsT K H vs Rs → PrsT K H' vs Rs
  | _, _, .nil => .nil
  | _, _, .cons h t => .cons (h.same e) (t.same e)
theorem PrsT.snoc {v : V} {R : List (List Int)} (h : RowsAt K H v R) : ∀ {vs : List V} {Rs : List (List (List Int))}, PrsT K H vs Rs → PrsT K H (vs ++ [v]) (Rs ++ [R])
  | _, _, .nil => .cons h .nil
  | _, _, .cons a t => .cons a (t.snoc h)
theorem RowsAt.put {f : Addr} {us ws : List V} (e : H f = some (.lst us)) {v : V} {R : List (List Int)} (h : RowsAt K H v R) : RowsAt K (upd H f (.lst ws)) v R := by
  obtain ⟨a, vs, rfl, ha, hr⟩ := h
  exact ⟨a, vs, rfl, sqT_put ha e, hr.put e⟩
theorem PrsT.put {f : Addr} {us ws : List V} (e : H f = some (.lst us)) : ∀ {vs : List V} {Rs : List (List (List Int))}, PrsT K H vs Rs → PrsT K (upd H f (.lst ws)) vs Rs
  | _, _, .nil => .nil
  | _, _, .cons h t => .cons (RowsAt.put e h) (t.put e)
theorem PrsT.get : ∀ {vs : List V} {Rs : List (List (List Int))} {i : Nat} {v : V}, PrsT K H vs Rs → vs[i]? = some v → ∃ R, Rs[i]? = some R ∧ RowsAt K H v R
  | _, _, 0, _, .cons h _, e => ⟨_, rfl, by cases e; exact h⟩
  | _, _, _ + 1, _, .cons _ t, e => t.get e
theorem PrsT.dp : ∀ {vs : List V} {Rs : List (List (List Int))}, PrsT K H vs Rs → DpAll K H vs (Rs.map dR)
  | _, _, .nil => .nil
  | _, _, .cons h t => .cons h.dp t.dp
theorem dp_P {p : Addr} {vs : List V} {Rs : List (List (List Int))} (h : SqL K H p vs) (r : PrsT K H vs Rs) : Dp K H (.ref p) (.list (Rs.map dR)) := .lst h r.dp
end
theorem eqvAll_P : ∀ r : List (List (List Int)), PyData.eqvAll (r.map dR) (r.map dR) = true
  | [] => by simp [PyData.eqvAll]
  | x :: xs => by
    rw [List.map_cons, PyData.eqvAll, eqv_R, eqvAll_P xs, decide_eq_true rfl]
    rfl
theorem eqv_P (r : List (List (List Int))) : PyData.eqv (.list (r.map dR)) (.list (r.map dR)) = true := by
  rw [PyData.eqv]
  exact eqvAll_P r
theorem lay_P : ∀ rs : List (List (List Int)), PyData.canLayAll0 (rs.map dR) = true ∧ PyData.depthAll (rs.map dR) ≤ 3
  | [] => ⟨by rw [List.map_nil, PyData.canLayAll0], by rw [List.map_nil, PyData.depthAll]; omega⟩
  | n :: r => by
    obtain ⟨h1, h2⟩ := lay_P r
    have hd := dep_rows n
    constructor
    · rw [List.map_cons, PyData.canLayAll0, h1]
      show (PyData.canLay0 (.tuple _) && true) = true
      rw [PyData.canLay0, lay_rows]
      rfl
    · rw [List.map_cons, PyData.depthAll]
      have e : PyData.depth (dR n) = PyData.depthAll (n.map dI) + 1 := by
        show PyData.depth (.tuple _) = _
        rw [PyData.depth]
      omega
theorem sh_P (rs : List (List (List Int))) : SeqAt.shaped (.list (rs.map dR)) = true := by
  unfold SeqAt.shaped
  obtain ⟨h1, h2⟩ := lay_P rs
  rw [PyData.canLay0, PyData.depth, h1, Bool.true_and]
  exact decide_eq_true (by omega)
section
variable {X : Cx}
theorem alike_rows : ∀ xs ys : List (List Int), PySem.W.alikeAll (xs.map dI) (ys.map dI) = true
  | [], _ => by simp [PySem.W.alikeAll]
  | _ :: _, [] => by simp [PySem.W.alikeAll]
  | x :: xs, y :: ys => by
    rw [List.map_cons, List.map_cons, PySem.W.alikeAll, alike_rows xs ys, Bool.and_true]
    show PySem.W.alike (.tuple _) (.tuple _) = true
    rw [PySem.W.alike]
    exact PySem.W.alike_ints x y
theorem lt_I (a b : List Int) : PySem.W.dataLt (dI a) (dI b) = decide (a < b) := by
  show PySem.W.dataLt (.tuple _) (.tuple _) = _
  rw [PySem.W.dataLt_tuple]
  exact PySem.W.dataLt_ints a b
/-- the first parts of two pairs of rows decide, where they differ -/
theorem lt_P {a b c d : List Int} (h : PySem.W.dataLt (dR [c, d]) (dR [a, b]) = false) : a ≤ c := by
  have e : PySem.W.dataLt (dR [c, d]) (dR [a, b]) = if PyData.eqv (dI c) (dI a) = true then (if PyData.eqv (dI d) (dI b) = true then false else PySem.W.dataLt (dI d) (dI b)) else PySem.W.dataLt (dI c) (dI a) := PySem.W.dataLt_pair (by have := alike_rows [c] [a]; simpa [PySem.W.alikeAll] using this) (by have := alike_rows [d] [b]; simpa [PySem.W.alikeAll] using this)
  rw [e, eqv_I, lt_I c a] at h
  by_cases q : c = a
  · rw [q]
    exact List.le_refl _
  · rw [if_neg (by rw [decide_eq_true_iff]; exact q)] at h
    exact List.not_lt.mp (of_decide_eq_false h)
def rSortedPP (K : PySem.W.Frag) : List V → Hp → VK → Prop := fun vs H Q => ∃ (a : Addr) (bs : List (Addr × (List Int × List Int))), vs = [V.ref a] ∧ SqL K H a (bs.map fun b => V.ref b.1) ∧ (∀ b ∈ bs, RowsAt K H (.ref b.1) [b.2.1, b.2.2]) ∧
  ∀ (os : List (Addr × (List Int × List Int))) p, os.Perm bs → (os.map fun b => b.2.1).Pairwise (· ≤ ·) → H p = none → Q (.ref p) (upd H p (.lst (os.map fun b => V.ref b.1)))
theorem refsP_of {bs : List (Addr × (List Int × List Int))} {its : List Value} (h : Vals (bs.map fun b => V.ref b.1) its) : its = bs.map fun b => Value.ref b.1 := by
  induction bs generalizing its with
  | nil => cases h; rfl
  | cons b bs ih =>
    cases h with
    | cons r t =>
      rw [ih t, show _ = Value.ref b.1 from r]
      rfl
theorem refsP_to : ∀ bs : List (Addr × (List Int × List Int)), Vals (bs.map fun b => V.ref b.1) (bs.map fun b => Value.ref b.1)
  | [] => .nil
  | b :: bs => .cons rfl (refsP_to bs)
theorem eachP_refs : ∀ bs : List (Addr × (List Int × List Int)), PySem.W.EachIs (fun v (b : Addr × (List Int × List Int)) => v = Value.ref b.1) (bs.map fun b => Value.ref b.1) bs
  | [] => .nil
  | b :: bs => .cons rfl (eachP_refs bs)
theorem eachP_back {bs : List (Addr × (List Int × List Int))} {out : List Value} (h : PySem.W.EachIs (fun v (b : Addr × (List Int × List Int)) => v = Value.ref b.1) out bs) : out = bs.map fun b => Value.ref b.1 := by
  induction h with
  | nil => rfl
  | cons h _ ih => rw [ih, h]; rfl
theorem eachP_of {R : Value → (Addr × (List Int × List Int)) → Prop} : ∀ {bs : List (Addr × (List Int × List Int))}, (∀ b ∈ bs, R (Value.ref b.1) b) → PySem.W.EachIs R (bs.map fun b => Value.ref b.1) bs
  | [], _ => .nil
  | b :: bs, h => .cons (h b List.mem_cons_self) (eachP_of fun c hc => h c (List.mem_cons_of_mem _ hc))
def encP (b : Addr × (List Int × List Int)) : PyData := dR [b.2.1, b.2.2]
theorem cr_sortedPP (hu : X.A.units + 64 < cLine) : CallR X (.builtin "sorted") (rSortedPP X.K) := by
  intro pins s σ H vs us Q I r h
  obtain ⟨a, bs, rfl, hs, hb, q⟩ := h
  obtain ⟨its, rv, hl, hz⟩ := I.list hs
  obtain ⟨u, rfl, ru⟩ := r.one
  obtain rfl : u = Value.ref a := ru
  have ei := refsP_of rv
  subst ei
  have bl : bs.length ≤ sizeLine := by
    have := hz
    simpa using this
  refine PySem.W.sorted_data (R := fun v (b : Addr × (List Int × List Int)) => v = Value.ref b.1) (enc := encP) hl.isList (eachP_refs bs) (eachP_of fun b hm => ?_) (PySem.W.AllAlike.of fun b b' => ?_) (PySem.W.Sortable.tuples fun b => ⟨_, _, rfl⟩) bl (fun b _ => ?_) fun out ho eo => ?_
  · exact Dp.reads I (dR [b.2.1, b.2.2]) (V.ref b.1) (Value.ref b.1) (hb b hm).dp rfl
  · show PySem.W.alike (.tuple _) (.tuple _) = true
    rw [PySem.W.alike]
    exact alike_rows _ _
  · have hd := dep_rows [b.2.1, b.2.2]
    show X.A.units + 2 + (PyData.tuple _).depth < cLine
    rw [PyData.depth]
    omega
  · obtain ⟨n, hn⟩ := sortedAll_at s.heap (bs.map fun b => Value.ref b.1) out.toArray
    have eo' := eachP_back eo
    have tot := PySem.W.sortLe_total (listOrd itemOrd) false fun b : Addr × (List Int × List Int) => PySem.W.keyToks (encP b)
    obtain ⟨le, ele⟩ : ∃ le, le = PySem.W.dataLe false encP := ⟨_, rfl⟩
    rw [← ele] at eo'
    have pm := List.mergeSort_perm bs le
    have hf := I.hok.fresh (Nat.le_succ s.heap.objs.size)
    refine ⟨.ref (s.heap.objs.size + 1), _, I.laid (t' := s.toks) (o := .lst ((bs.mergeSort le).map fun b => V.ref b.1)) (fun b o e => sortedAll_old e) (Nat.le_succ _) ⟨?_, out, n, ?_, hn⟩, rfl, q (bs.mergeSort le) _ pm ?_ hf⟩
    · rw [List.length_map, pm.length_eq]; exact bl
    · rw [eo']
      exact refsP_to _
    · rw [List.pairwise_map, ele]
      refine (List.pairwise_mergeSort tot.trans (fun a b => by rw [Bool.or_eq_true]; exact tot.total a b) bs).imp fun {x y} h => ?_
      have h : (!PySem.W.dataLt (encP y) (encP x)) = true := h
      exact lt_P (by rwa [Bool.not_eq_true'] at h)
end
end Fo
namespace Mt
def rangeZ (n : Nat) : List Int := (List.range n).map fun (i : Nat) => (i : Int)
end Mt
set_option maxRecDepth 100000
set_option maxHeartbeats 4000000
namespace Fo
open PySem PySem.Spec PyProof.Rows L2
abbrev s_pieces : Stmt := top 36
abbrev n_pieces : List Str := ["table", "live", "people"]
theorem sc_pieces : FnScope n_pieces ["table"] (defScope s_pieces) := ⟨rfl, rfl, rfl, by decide +kernel, rfl, by decide +kernel, by decide +kernel⟩
section
variable {P : Program} {w : World} {K : PySem.W.Frag} {mg : Str → Option Value} {base : Heap} {C : Addr}
/-- the things of a piece -/
noncomputable def thgR (rows : List (List Int)) (g : List Nat) : List Int := (Mt.rangeZ rows.length).filter fun t => @decide (∃ p ∈ g, t ∈ Mt.row (Mt.liveR rows) p) (Classical.propDecidable _)
theorem thgR_asc {rows : List (List Int)} {g : List Nat} : (thgR rows g).Pairwise (· < ·) := by
  unfold thgR Mt.rangeZ
  exact (List.pairwise_map.mpr (List.pairwise_lt_range.imp fun h => by omega)).filter _
theorem mem_thgR {rows : List (List Int)} (G : Good rows) {g : List Nat} {t : Int} : t ∈ thgR rows g ↔ ∃ p ∈ g, t ∈ Mt.row (Mt.liveR rows) p := by
  unfold thgR
  rw [List.mem_filter]
  constructor
  · exact fun h => @of_decide_eq_true _ (Classical.propDecidable _) h.2
  · intro h
    refine ⟨?_, @decide_eq_true _ (Classical.propDecidable _) h⟩
    obtain ⟨p, _, ht⟩ := h
    rw [Mt.row_liveR] at ht
    have := G.row_rng (List.mem_filter.mp ht).1
    exact List.mem_map.mpr ⟨t.toNat, List.mem_range.mpr (by omega), by omega⟩
noncomputable def pieceR (rows : List (List Int)) (g : List Nat) : List (List Int) := [natI g, thgR rows g]
def spPieces (K : PySem.W.Frag) (C : Addr) : Sp := fun vs H Q _ => ∃ (x : V) (rows : List (List Int)), vs = [x] ∧ TableAt K C H x rows ∧ Good rows ∧ rows.length ≤ 40 ∧ (∃ D, Mt.Ds rows D) ∧
  ∀ (G : List (List Nat)) l ws H', Mt.Groups (Mt.liveR rows) G → (G.map natI).Pairwise (· ≤ ·) → Same H H' → H l = none → H' l = some (.lst ws) → PrsT K H' ws (G.map (pieceR rows)) → Q (.ref l) H'
theorem ok_pieces (A : At K mg "pieces" s_pieces ["table"]) (T : Tx mg) (tc : TC K C) (G_live_of : Dfn P w K mg base "live_of" ["table"] 5 (spLiveOf K C)) (G_groups : Dfn P w K mg base "groups" ["rows"] 1 (spGroups K)) (G_things_of : Dfn P w K mg base "things_of" ["rows"] 1 (spThings K)) (G_rows_of : Dfn P w K mg base "rows_of" ["rows", "people"] 1 (spRowsOf K)) : Dfn P w K mg base "pieces" ["table"] 6 (spPieces K C) := by
  refine A.ok sc_pieces (fun vs H Q E h => ?_) (fun f cdv A outer s H vs Q E hr h => ?_)
  · obtain ⟨_, _, rfl, _⟩ := h
    rfl
  · obtain ⟨x, rows, rfl, tb, G, hn, yes, k⟩ := h
    refine ⟨_, (pss_cons (ps_set (i := 1) sc_pieces.nd rfl (Or.inr rfl) (pe_d G_live_of (hr.mono (by decide)) (pa_cons (pv 0) pa_nil)))
      (pss_one (ps_ret (pe_lc (own := [("people", 2)]) (g := (gName 2)) (tt := tYes) (te := (tTup (tCons (tCB (rTupOf K) (tCons (tVar 2) tNil)) (tCons (tCB (rTupOf K) (tCons (tCall (spThings K) [] E0 (tCons (tCall (spRowsOf K) [] E0 (tCons (tVar 1) (tCons (tVar 2) tNil))) tNil)) tNil)) tNil)))) (by rfl) sc_pieces.nd (pi_list (pe_d G_groups (hr.mono (by decide)) (pa_cons (pv 1) pa_nil))) (blkOk_by (own := [("people", 2)]) (N := n_pieces) (sc := (defScope s_pieces)) (by decide +kernel)) (fun _ _ _ _ _ => (pg_name (i := 2) sc_pieces.nd rfl (Or.inl rfl))) (fun _ _ _ _ _ => pts_nil) (fun _ _ _ _ _ => (pe_tup (pa_cons (pe_callTy c_tuple (by rfl) T.tuple (by decide +kernel) (pa_cons (pv 2) pa_nil)) (pa_cons (pe_callTy c_tuple (by rfl) T.tuple (by decide +kernel) (pa_cons (pe_d G_things_of (hr.mono (by decide)) (pa_cons (pe_d G_rows_of (hr.mono (by decide)) (pa_cons (pv 1) (pa_cons (pv 2) pa_nil))) pa_nil)) pa_nil)) pa_nil)))))))), ?_⟩
    refine ⟨_, rfl, x, rows, rfl, tb, G, hn, yes, fun l H1 s1 fl hl => ?_⟩
    have lr40 : ∀ r ∈ Mt.liveR rows, r.length ≤ 40 := fun r hr => Nat.le_trans (G.live.row_len r hr) (by rw [Mt.liveR_len]; exact hn)
    refine ⟨_, rfl, .ref l, _, rfl, hl, by rw [Mt.liveR_len]; exact hn, lr40, fun F gl H2 hF up s2 fgl hgl => ?_⟩
    have s12 := s1.trans s2
    obtain ⟨ga, gvs, e, hga, hgb⟩ := id hgl
    cases e
    have gvl := hgb.len
    rw [List.length_map] at gvl
    have gnum := hF.num
    rw [Mt.liveR_len] at gnum
    refine ⟨gl, rfl, ⟨_, hga⟩, fun D hD => ?_⟩
    refine lc_list (xs := gvs) (fun i H' => ∃ ws, H' D = some (.lst ws) ∧ PrsT K H' ws ((F.take i).map (pieceR rows)) ∧ Same H2 H') ⟨[], upd_same, .nil, same_new hD⟩ (fun i H' _ hp => by obtain ⟨_, _, _, s⟩ := hp; exact s.seq hga) ?_ ?_
    · rintro i y H3 hy ⟨ws, h3, hw, s3⟩
      obtain ⟨pa, gi, ex, hgi, hpa⟩ := hgb.get hy
      subst ex
      have iF : i < F.length := by have := (List.getElem?_eq_some_iff.mp hy).1; omega
      obtain ⟨g, hg, eg⟩ : ∃ g, F[i]? = some g ∧ gi = natI g := by
        rw [List.getElem?_map, List.getElem?_eq_getElem iF] at hgi
        exact ⟨_, List.getElem?_eq_getElem iF, (Option.some.inj hgi).symm⟩
      subst eg
      have gm := List.mem_of_getElem? hg
      have gle := hF.len gm
      rw [Mt.liveR_len] at gle
      have wl := hw.len
      rw [List.length_map, List.length_take] at wl
      have hpaL : SqL K H3 pa ((natI g).map V.int) := s3.seq hpa
      refine ⟨rfl, _, rfl, pa, _, rfl, .inl ⟨hpaL, fun c hc => ?_⟩⟩
      have s4 := same_new (o := .tup ((natI g).map V.int)) hc
      have hn0 : (natI g).map V.int = g.map nV := by unfold natI; rw [List.map_map]; rfl
      refine ⟨_, rfl, _, rfl, true, .ref l, Mt.liveR rows, pa, g, rfl, (hl.same s2).same (s3.trans s4), ⟨true, by rw [← hn0]; exact s4.seq hpaL⟩, by omega, fun p hp => hF.lt gm hp, fun l2 H5 s5 hX => ?_⟩
      have s35 := s4.trans s5
      have thl : (Mt.things (g.map (Mt.row (Mt.liveR rows)))).length ≤ 4000 := by
        have h1 := flat_len (n := 40) (l := g.map (Mt.row (Mt.liveR rows))) fun r hr => by
          obtain ⟨p, hp, rfl⟩ := List.mem_map.mp hr
          have hl := hF.lt gm hp
          rw [Mt.row_get (List.getElem?_eq_getElem hl)]
          exact lr40 _ (List.getElem_mem hl)
        rw [List.length_map] at h1
        show (g.map (Mt.row (Mt.liveR rows))).flatten.length ≤ 4000
        omega
      refine ⟨true, true, .ref l2, _, rfl, hX, thl, fun ks p H6 s6 asc mem hp => ?_⟩
      have eks : ks = thgR rows g := Mt.asc_eqI asc thgR_asc fun t => by
        rw [mem_thgR G, mem]
        show t ∈ (g.map (Mt.row (Mt.liveR rows))).flatten ↔ _
        rw [List.mem_flatten]
        constructor
        · rintro ⟨r, hr, ht⟩
          obtain ⟨q, hq, rfl⟩ := List.mem_map.mp hr
          exact ⟨q, hq, ht⟩
        · rintro ⟨q, hq, ht⟩
          exact ⟨_, List.mem_map.mpr ⟨q, hq, rfl⟩, ht⟩
      subst eks
      have s36 := s35.trans s6
      refine ⟨p, _, rfl, .inl ⟨hp, fun d hd => ⟨by show 2 ≤ sizeLine; decide, fun e he => ?_⟩⟩⟩
      have s7 := same_new (o := .tup ((thgR rows g).map V.int)) hd
      have s8 := same_new (o := .tup [V.ref c, V.ref d]) he
      have s38 := (s36.trans s7).trans s8
      refine ⟨ws, s38 _ _ h3, small_lt (by omega), _, upd_same, ?_, same_mut (s3.trans s38) hD⟩
      rw [List.take_add_one, hg, List.map_append]
      refine (PrsT.snoc (R := pieceR rows g) ?_ (hw.same s38)).put (s38 _ _ h3)
      exact ⟨e, _, rfl, SqT.of upd_same, .cons (sqT_same ((s5.trans s6).trans (s7.trans s8)) (SqT.of upd_same)) (.cons (sqT_same s8 (SqT.of upd_same)) .nil)⟩
    · rintro H3 ⟨ws, h3, hw, s3⟩
      rw [gvl, List.take_length] at hw
      exact k F D ws H3 hF up (s12.trans s3) (s12.free hD) h3 hw
end
end Fo
set_option maxRecDepth 100000
set_option maxHeartbeats 2000000
set_option maxRecDepth 100000
set_option maxHeartbeats 2000000
set_option maxRecDepth 100000
set_option maxHeartbeats 4000000
namespace Fo
open PySem PySem.Spec PyProof.Rows L2
/-- the promise of an __init__ that does nothing -/
def spPass : Sp := fun vs H Q _ => ∃ a : Addr, vs = [.ref a] ∧ Q .non H
section
variable {X : Cx}
theorem mk_endN {pins : List (Addr × Obj)} {σ : L2.St} {H1 : Hp} {Q : XK} {hp hp2 h2 : Heap} {g1 g2 : Array GenState} {d1 d2 : Drawn} {t1 t2 : Nat} {os1 os2 : OsState} {a C : Addr} (T : Raises X (.ref C)) (I1 : Inv X pins σ H1 ⟨hp, g1, d1, t1, os1⟩)
    (ha : hp.objs.size ≤ a) (k : ∀ b o, hp.get? b = some o → hp2.get? b = some o) (un : Un (frs X.stack) [] (upd H1 a (exo a C none)) (upd H1 a (exo a C none)) hp2 h2) (hok : HOk X.prog X.w (upd H1 a (exo a C none)) h2) (ho : os2 = os1) (hb : AllBare g2)
    (q : Q (.ref C) none H1) : MkP X pins σ Q (.ref a) ⟨h2, g2, d2, t2, os2⟩ := by
  have ea : upd H1 a (exo a C none) a = some (exo a C none) := upd_same
  obtain ⟨t0, hoe⟩ := exo_at hok ea
  have hn : H1 a = none := I1.hok.fresh ha
  obtain ⟨G, g1', g2'⟩ := restrict h2 fun b => decide (b ≠ a)
  have gk : ∀ b, b ≠ a → G.get? b = h2.get? b := fun b hb => g1' b (decide_eq_true hb)
  have ge : G.get? a = none := g2' a (by simp)
  have nha : ∀ {b : Addr} {o : Obj}, hp.get? b = some o → b ≠ a := fun {b o} z => Nat.ne_of_lt (Nat.lt_of_lt_of_le (Heap.lt_size z) ha)
  have up : ∀ {b : Addr}, b ≠ a → H1 b = none → upd H1 a (exo a C none) b = none := fun {b} hb n => by rw [upd_ne hb]; exact n
  have U : Un (frs X.stack) [] H1 H1 hp G := {
    keep := fun b o z n hf hx => by
      rw [gk b (nha z)]
      exact un.keep b o (k b o z) (up (nha z) n) hf hx
    slot := fun b o z n hf hx => by
      rw [gk b (nha z)]
      exact un.slot b o (k b o z) (up (nha z) n) hf hx
    free := fun b o z n hx => n
    there := fun b o z hx => by
      rw [gk b (nha z)]
      exact un.there b o (k b o z) hx
    tups := fun b xs z => z
    frzs := fun b o v z => z
    tbls := fun b ps z => ⟨#[], by rw [Array.append_empty]; exact z⟩ }
  have hok3 : HOk X.prog X.w H1 G := fun b o z => by
    have hba : b ≠ a := ne_of_none z hn
    have z2 : upd H1 a (exo a C none) b = some o := by rw [upd_ne hba]; exact z
    have noa : ∀ {c : Addr}, upd H1 a (exo a C none) c = some (.own b) → c ≠ a := fun {c} hc => at_ne ea hc exo_own
    exact (hok b o z2).stay (fun c v hc y => by
        have hca : c ≠ a := by
          rcases hc with hc | hc
          · rw [hc]
            exact hba
          · exact noa hc
        rw [gk c hca]
        exact y)
      (fun c hc => by
        have := noa hc
        rw [upd_ne this] at hc
        exact hc) (fun c xs hc => by
        have := at_ne ea hc exo_tup
        rw [upd_ne this] at hc
        exact hc)
  have J : Inv X pins σ H1 ⟨G, g2, d2, t2, os2⟩ := I1.call' (ch := []) ho U hok3 hb (fun b z => absurd z (by simp))
  refine ⟨a, _, _, ⟨G, g2, d2, t2, os2⟩, _, .ref C, none, rfl, J, fun b o z => ?_, ge, hoe, ⟨rfl, rfl⟩, rfl, rfl, hn, rfl, hb, T, q⟩
  by_cases hba : b = a
  · rw [hba, ge] at z
    cases z
  · exact (gk b hba).symm.trans z
theorem pmk_oex0 {x : Str} {C fI : Addr} {k : Nat} {fd : FuncData} {p pos : Pos} (T : OexC X.K C) (iC : PySem.W.findIn X.K (.ref C) "__init__" = some (some (.ref fI))) (tI : PySem.W.typeIn X.K (.ref fI) = some (.type "function"))
    (F1 : FnOk X.prog X.w X.K X.mg X.base CX0 k fI fd ["self"] spPass) (hr : Room (k + 1) X.A) (hb : Binds X.K fd ["self"] []) (hg : Gl X x) (hm : X.mg x = some (.ref C))
    (hdb : (x == ("__debug__" : Str)) = false := by decide) : PMk X (.Call (.Name x p) [] [] pos) (fun _ H Q => Q (.ref C) none H) := by
  intro pins s σ H Q I h
  obtain ⟨nm, q, N, bs, bm, sn, sub, ab, col, dd, k0, k1, k2, k3, k5, hC, hbm⟩ := T.cls
  refine wpAny_Call_Name_kw (ld_glob I hg hm ?_ hdb)
  refine PySem.W.callWith_K0 I.kIn T.kC ?_
  show wpAny _ _ (call (.ref C) []) _ _ _
  obtain ⟨hp, g, dr, tk, os⟩ := s
  have hsz : hp.objs.size ≤ hp.objs.size + 1 := Nat.le_succ _
  have hn : H (hp.objs.size + 1) = none := I.hok.fresh hsz
  have kk : ∀ b o, hp.get? b = some o → ((hp.push (PySem.W.kdv_tup [])).push (PySem.HandSPX.excO C hp.objs.size)).get? b = some o := fun b o e => Heap.get?_push_of_some _ (Heap.get?_push_of_some _ e)
  have hget : ((hp.push (PySem.W.kdv_tup [])).push (PySem.HandSPX.excO C hp.objs.size)).get? (hp.objs.size + 1) = some (PySem.HandSPX.excO C hp.objs.size) := by heap_get
  have I2 : Inv X pins σ (upd H (hp.objs.size + 1) (exo (hp.objs.size + 1) C none)) ⟨(hp.push (PySem.W.kdv_tup [])).push (PySem.HandSPX.excO C hp.objs.size), g, dr, tk, os⟩ :=
    I.laid (t' := tk) (a := hp.objs.size + 1) (o := exo (hp.objs.size + 1) C none) (h' := (hp.push (PySem.W.kdv_tup [])).push (PySem.HandSPX.excO C hp.objs.size)) kk hsz (exo_ok hget)
  have r2 : Vals [V.ref (hp.objs.size + 1)] [Value.ref (hp.objs.size + 1)] := .cons rfl .nil
  refine wpAny_call (PySem.HandSPX.call_own F.excBase_ValueError (fun Y => PySem.HandSPX.refsVE_contains Y bm hbm) (I.kIn _ _ hC) (PySem.W.looks_findIn I.kIn iC) (fun self => PySem.W.bind_fn I.kIn self tI) (by show 0 ≤ sizeLine; decide)
    (codeAny_mono (F1.run _ X.stack _ (upd H (hp.objs.size + 1) (exo (hp.objs.size + 1) C none)) ⟨[Value.ref (hp.objs.size + 1)], []⟩ [Value.ref (hp.objs.size + 1)] _ (fun v H2 => v = .non ∧ H2 = upd H (hp.objs.size + 1) (exo (hp.objs.size + 1) C none) ∧ Q (.ref C) none H) (fun _ _ _ => False) (hr.make C [] []) (I2.env0.make C [] []) (hb _ [Value.ref (hp.objs.size + 1)] I2.kIn rfl) r2 ⟨_, rfl, rfl, rfl, h⟩) fun r s' hq' => ?_))
  cases r with
  | error er => exact pass0 pins σ _ _ er s' I2 hq'
  | ok fl =>
    cases fl with
    | ret u =>
      obtain ⟨v, H2, os2, bare2, un2, hok2, rv, ev, eH, q2⟩ := hq'
      subst ev
      subst eH
      obtain ⟨h2, g2, d2, t2, os'⟩ := s'
      exact ⟨rv, mk_endN (raises_own T.exC T.tyC) I hsz kk un2 hok2 os2 bare2 q2⟩
    | next => exact False.elim hq'
    | brk => exact False.elim hq'
    | cont => exact False.elim hq'
end
structure DfnX (P : Program) (w : World) (K : PySem.W.Frag) (mg : Str → Option Value) (base : Heap) (x : Str) (ps : List Str) (k : Nat) (sp : Sp) : Prop where
  ex : ∃ f fd, mg x = some (.ref f) ∧ PySem.W.keepIn K (.ref f) = true ∧ FnOk P w K mg base (CX P w) k f fd ps sp ∧ Binds K fd ps []
theorem pe_dX {X : Cx} {x : Str} {ps : List Str} {k : Nat} {sp : Sp} {E : XK} {e : Expr} {es : List Expr} {t : TA} {p pos : Pos} (G : DfnX X.prog X.w X.K X.mg X.base x ps k sp) (hr : Room k X.A) (hx : Passes (CX X.prog X.w) X E) (ha : PA X (e :: es) t) (hg : Gl X x := by rfl)
    (hdb : (x == ("__debug__" : Str)) = false := by decide) (he : starEach (e :: es) X.env = (false, eval e X.env) :: starEach es X.env := by rfl) (hpl : (backTo pos (starEach es X.env)).any (·.1) = false := by rfl) :
    PE X (.Call (.Name x p) (e :: es) [] pos) (tCall sp [] E t) := by
  obtain ⟨f, fd, hm, kp, F, b⟩ := G.ex
  exact pe_call F hr hg hm kp b .nil hx ha hdb he hpl
theorem At.okX {P : Program} {w : World} {K : PySem.W.Frag} {mg : Str → Option Value} {base : Heap} {x : Str} {st : Stmt} {N ps : List Str} {k : Nat} {sp : Sp} (a : At K mg x st ps) (S : FnScope N ps (defScope st)) (len : ∀ vs H Q E, sp vs H Q E → vs.length = ps.length)
    (hbody : ∀ (f : Addr) (cdv : Value) (A : Around) (outer : List Env) (s : Shared) (H : Hp) (vs : List V) (Q : VK) (E : XK), Room k (A.deeper (envOfC x (defScope st) s.heap.objs.size f cdv)) → sp vs H Q E →
      ∃ t, PSs (cxOf (L2.CX P w) P w K mg base N x (defScope st) f cdv A outer s H E) (defBody st) t ∧ t { nx := fun _ H' => Q .non H', rt := Q } (start N vs) H) : DfnX P w K mg base x ps (k + 1) sp := by
  obtain ⟨f, fd, hm, F, b⟩ := a.ex
  exact ⟨f, fd, hm, F.kp, F.okX S len (hbody f), b⟩
/-- what is known of an error's class, without fields -/
structure Er0 (P : Program) (w : World) (K : PySem.W.Frag) (mg : Str → Option Value) (base : Heap) (x : Str) (D : Addr) : Prop where
  oex : OexC K D
  gC : mg x = some (.ref D)
  ini : ∃ fI fd, PySem.W.findIn K (.ref D) "__init__" = some (some (.ref fI)) ∧ PySem.W.typeIn K (.ref fI) = some (.type "function") ∧ FnOk P w K mg base CX0 1 fI fd ["self"] spPass ∧ Binds K fd ["self"] []
theorem pmk_er0 {X : Cx} {x : Str} {D : Addr} {p pos : Pos} (T : Er0 X.prog X.w X.K X.mg X.base x D) (hr : Room 2 X.A) (hg : Gl X x) (hdb : (x == ("__debug__" : Str)) = false := by decide) : PMk X (.Call (.Name x p) [] [] pos) (fun _ H Q => Q (.ref D) none H) := by
  obtain ⟨fI, fd, iC, tI, F1, hb⟩ := T.ini
  exact pmk_oex0 T.oex iC tI F1 hr hb hg T.gC hdb
theorem cnt_vals {y : V} : ∀ {ys : List V} {its : List Value}, Vals ys its → ys.all flatV = true → its.countP (eqU y) = ys.countP fun z => eqV z y
  | _, _, .nil, _ => rfl
  | _, _, .cons r t, h => by
    rw [List.all_cons, Bool.and_eq_true] at h
    rw [List.countP_cons, List.countP_cons, cnt_vals t h.2, eqU_of r h.1]
def rCntV (K : PySem.W.Frag) : V → List V → Hp → VK → Prop := fun x xs H Q => ∃ (p : Addr) (ys : List V) (y : V), x = .ref p ∧ xs = [y] ∧ SqL K H p ys ∧ flatV y = true ∧ ys.all flatV = true ∧ Q (.int ((ys.countP fun z => eqV z y : Nat) : Int)) H
theorem mt_countV {X : Cx} : MtR X "list.count" (rCntV X.K) := by
  intro pins s σ H x xs v us Q I rx rxs h
  obtain ⟨p, ys, y, rfl, rfl, hs, fy, fys, q⟩ := h
  cases rx
  cases rxs with
  | cons ry rt =>
    rename_i uy ut
    cases rt
    obtain ⟨its, rv, ⟨⟨cls, dd, data, sl⟩, n, ho, hc, hdn, hd⟩, hlen⟩ := I.list hs
    simp only at hc hd
    subst hc hd
    refine call_meets PySem.F.slot_list_count ⟨_, ho, rfl⟩ PySem.F.entry_list_count (PySem.F.args_list_count_2 _ _)
      (SeqAt.list_countAt p its.toArray n dd sl uy (eqU y)) ⟨ho, fun u' hu' => mem_eqAt ry fy rv fys u' (by simpa using hu'), ?_⟩
    have ec : its.toArray.toList.countP (eqU y) = ys.countP fun z => eqV z y := cnt_vals rv fys
    refine ⟨.int ((ys.countP fun z => eqV z y : Nat) : Int), H, I.tok _, ⟨s.toks, ?_⟩, q⟩
    show Value.int ((its.toArray.toList.countP (eqU y) : Nat) : Int) s.toks = _
    rw [ec]
end Fo
set_option maxRecDepth 100000
set_option maxHeartbeats 4000000
namespace Fo
open PySem PySem.Spec PyProof.Rows L2
abbrev s_piece_kinds : Stmt := top 37
abbrev n_piece_kinds : List Str := ["table", "live", "people"]
theorem sc_piece_kinds : FnScope n_piece_kinds ["table"] (defScope s_piece_kinds) := ⟨rfl, rfl, rfl, by decide +kernel, rfl, by decide +kernel, by decide +kernel⟩
abbrev s_kind_of : Stmt := top 38
abbrev n_kind_of : List Str := ["live", "people", "person"]
theorem sc_kind_of : FnScope n_kind_of ["live", "people"] (defScope s_kind_of) := ⟨rfl, rfl, rfl, by decide +kernel, rfl, by decide +kernel, by decide +kernel⟩
abbrev s_is_ring : Stmt := top 39
abbrev n_is_ring : List Str := ["live", "people", "given", "person", "thing"]
theorem sc_is_ring : FnScope n_is_ring ["live", "people"] (defScope s_is_ring) := ⟨rfl, rfl, rfl, by decide +kernel, rfl, by decide +kernel, by decide +kernel⟩
def givenL (L : List (List Int)) (g : List Nat) : List Int := (g.map (Mt.row L)).flatten
def fullG (L : List (List Int)) (g : List Nat) : Bool := g.all fun p => decide ((Mt.row L p).length = g.length)
def ringB (L : List (List Int)) (g : List Nat) : Bool := (g.all fun p => decide ((Mt.row L p).length = 2)) && ((givenL L g).all fun t => decide ((givenL L g).count t = 2))
def kindS (L : List (List Int)) (g : List Nat) : Str := if fullG L g = true then "full" else if ringB L g = true then "ring" else "other"
theorem nat_atK {g : List Nat} {j : Nat} {y : V} (h : ((natI g).map V.int)[j]? = some y) : ∃ p, g[j]? = some p ∧ y = .int (p : Int) := by
  unfold natI at h
  rw [List.getElem?_map, List.getElem?_map] at h
  cases e : g[j]? with
  | none => rw [e] at h; cases h
  | some p => rw [e] at h; exact ⟨p, rfl, (Option.some.inj h).symm⟩
theorem cnt_eqV (ns : List Int) (u : Int) : ((ns.map V.int).countP fun z => eqV z (V.int u)) = ns.count u := by
  rw [List.countP_map]
  unfold List.count
  refine List.countP_congr fun x _ => ?_
  show decide (x = u) = true ↔ (x == u) = true
  rw [decide_eq_true_iff, beq_iff_eq]
theorem intn_dec (m n : Nat) : decide (V.int (m : Int) = V.int (n : Int)) = decide (m = n) := decide_eq_decide.mpr ⟨fun h => by injection h with h; omega, fun h => by rw [h]⟩
theorem row_in {L : List (List Int)} {p : Nat} (h : p < L.length) : Mt.row L p = L[p] := Mt.row_get (List.getElem?_eq_getElem h)
section
variable {P : Program} {w : World} {K : PySem.W.Frag} {mg : Str → Option Value} {base : Heap} {C : Addr}
def spRingE (K : PySem.W.Frag) : Sp := fun vs H Q _ => ∃ (a b : Addr) (rows : List (List Int)) (g : List Nat), vs = [.ref a, .ref b] ∧ RowsQ true K H (.ref a) rows ∧ SqL K H b ((natI g).map V.int) ∧ (∀ p ∈ g, p < rows.length) ∧ (∀ r ∈ rows, r.length ≤ 40) ∧ g.length ≤ 40 ∧ ∀ H', Same H H' → Q (.bl (ringB rows g)) H'
def spKindE (K : PySem.W.Frag) : Sp := fun vs H Q _ => ∃ (a b : Addr) (rows : List (List Int)) (g : List Nat), vs = [.ref a, .ref b] ∧ RowsQ true K H (.ref a) rows ∧ SqL K H b ((natI g).map V.int) ∧ (∀ p ∈ g, p < rows.length) ∧ (∀ r ∈ rows, r.length ≤ 40) ∧ g.length ≤ 40 ∧ ∀ H', Same H H' → Q (.str (kindS rows g)) H'
theorem ok_ringE (A : At K mg "_is_ring" s_is_ring ["live", "people"]) (T : Tx mg) : Dfn P w K mg base "_is_ring" ["live", "people"] 1 (spRingE K) := by
  refine A.ok sc_is_ring (fun vs H Q E h => ?_) (fun f cdv A outer s H vs Q E hr h => ?_)
  · obtain ⟨_, _, _, _, rfl, _⟩ := h
    rfl
  · obtain ⟨a, b, rows, g, rfl, hR, hb, hg, hr40, hl, k⟩ := h
    obtain ⟨la, lvs, e, hla, hlb⟩ := id hR
    cases e
    have gl : (natI g).length = g.length := by unfold natI; rw [List.length_map]
    have ln : ∀ i, (((g.take i).map (Mt.row rows)).flatten).length ≤ 1600 := fun i => by
      refine Nat.le_trans (flat_len (n := 40) fun r hr => ?_) (Nat.le_trans (Nat.mul_le_mul (by rw [List.length_map, List.length_take]; omega : _ ≤ 40) (Nat.le_refl 40)) (by decide))
      obtain ⟨p, hp, rfl⟩ := List.mem_map.mp hr
      have := hg p (List.mem_of_mem_take hp)
      rw [row_in this]
      exact hr40 _ (List.getElem_mem _)
    refine ⟨_, (pss_cons (ps_set (i := 2) sc_is_ring.nd rfl (Or.inr rfl) (pe_lc2 (own := [("person", 3), ("thing", 4)]) (vs1 := [4]) (g := (gName 3)) (tt := tYes) (wi1 := (iList K (tOp (rIxL K) (tVar 0) (tVar 3)))) (g1 := (gName 4)) (tt1 := tYes) (te := (tVar 4)) (by rfl) sc_is_ring.nd (pi_list (pv 1)) (blkOk_by (own := [("person", 3), ("thing", 4)]) (N := n_is_ring) (sc := (defScope s_is_ring)) (by decide +kernel)) (by decide) (fun _ _ _ _ _ => (pg_name (i := 3) sc_is_ring.nd rfl (Or.inl rfl))) (fun _ _ _ _ _ => pts_nil) (fun _ _ _ _ _ => (pi_list (pe_ix ix_list (pv 0) (pv 3) (fun _ _ => rfl)))) (fun _ _ _ _ _ => (pg_name (i := 4) sc_is_ring.nd rfl (Or.inl rfl))) (fun _ _ _ _ _ => pts_nil) (fun _ _ _ _ _ => (pv 4))))
      (pss_one (ps_ret (pe_and (pe_callB (cr_all rfl) (by rfl) T.all (by decide +kernel) (pa_cons (pe_lc (own := [("person", 3)]) (g := (gName 3)) (tt := tYes) (te := (tOp rEq (tCB (rLenS K) (tCons (tOp (rIxL K) (tVar 0) (tVar 3)) tNil)) (tC (V.int 2)))) (by rfl) sc_is_ring.nd (pi_list (pv 1)) (blkOk_by (own := [("person", 3)]) (N := n_is_ring) (sc := (defScope s_is_ring)) (by decide +kernel)) (fun _ _ _ _ _ => (pg_name (i := 3) sc_is_ring.nd rfl (Or.inl rfl))) (fun _ _ _ _ _ => pts_nil) (fun _ _ _ _ _ => (pe_cmpR op_eq (pe_callB c_len (by rfl) T.len (by decide +kernel) (pa_cons (pe_ix ix_list (pv 0) (pv 3) (fun _ _ => rfl)) pa_nil)) pe_int (nomark _)))) pa_nil)) (pe_one (pe_callB (cr_all rfl) (by rfl) T.all (by decide +kernel) (pa_cons (pe_lc (own := [("thing", 4)]) (g := (gName 4)) (tt := tYes) (te := (tOp rEq (tBM K "list" (rCntV K) (tVar 2) (tCons (tVar 4) tNil)) (tC (V.int 2)))) (by rfl) sc_is_ring.nd (pi_list (pv 2)) (blkOk_by (own := [("thing", 4)]) (N := n_is_ring) (sc := (defScope s_is_ring)) (by decide +kernel)) (fun _ _ _ _ _ => (pg_name (i := 4) sc_is_ring.nd rfl (Or.inl rfl))) (fun _ _ _ _ _ => pts_nil) (fun _ _ _ _ _ => (pe_cmpR op_eq (pe_bm PySem.F.plainAttrs_list PySem.F.slot_list_count PySem.F.type_list_count mt_countV (pv 2) (pa_cons (pv 4) pa_nil)) pe_int (nomark _)))) pa_nil))))))), ?_⟩
    refine ⟨_, rfl, b, rfl, ⟨_, hb⟩, fun D hD => ?_⟩
    refine walk_sq (b := true) (xs := (natI g).map V.int) (fun i H' => H' D = some (.lst ((((g.take i).map (Mt.row rows)).flatten).map V.int)) ∧ Same H H') ⟨upd_same, same_new hD⟩ (fun i H' _ hp => Sq.same (b := true) hb hp.2) ?_ ?_
    · rintro i y H1 hy ⟨h1, s1⟩
      obtain ⟨p, hp, rfl⟩ := nat_atK hy
      have pl := hg p (List.mem_of_getElem? hp)
      obtain ⟨q, hq1, hq2⟩ := hlb.at_ (List.getElem?_eq_getElem pl)
      obtain ⟨r, er⟩ : ∃ r, r = rows[p] := ⟨_, rfl⟩
      rw [← er] at hq2
      have rl : r.length ≤ 40 := hr40 r (by rw [er]; exact List.getElem_mem _)
      have il : i < g.length := (List.getElem?_eq_some_iff.mp hp).1
      have li := ln i
      refine ⟨rfl, _, rfl, _, rfl, a, lvs, (p : Int), .ref q, rfl, rfl, hla.same s1, at_nat hq1, q, rfl, ⟨_, Sq.same (b := true) hq2 s1⟩, ?_⟩
      refine walk_sq (b := true) (xs := r.map V.int) (fun j H' => H' D = some (.lst ((((g.take i).map (Mt.row rows)).flatten ++ r.take j).map V.int)) ∧ Same H H') ⟨by rw [List.take_zero, List.append_nil]; exact h1, s1⟩ (fun i H' _ hp => hq2.same hp.2) ?_ ?_
      · rintro j z H2 hz ⟨h2, s2⟩
        obtain ⟨u, hu, rfl⟩ : ∃ u, r[j]? = some u ∧ z = V.int u := by
          rw [List.getElem?_map] at hz
          cases e : r[j]? with
          | none => rw [e] at hz; cases hz
          | some u => rw [e] at hz; exact ⟨u, rfl, (Option.some.inj hz).symm⟩
        have jl := (List.getElem?_eq_some_iff.mp hu).1
        refine ⟨rfl, _, rfl, _, h2, by rw [List.length_map, List.length_append, List.length_take]; exact small_lt (by omega), ?_, same_mut s2 hD⟩
        rw [upd_same, show r.take (j + 1) = r.take j ++ [u] from by rw [List.take_add_one, hu]; rfl, ← List.append_assoc, List.map_append (l₂ := [u])]
        rfl
      · rintro H2 ⟨h2, s2⟩
        rw [List.length_map, List.take_length] at h2
        refine ⟨?_, s2⟩
        have e1 : ((g.take (i + 1)).map (Mt.row rows)).flatten = ((g.take i).map (Mt.row rows)).flatten ++ r := by
          rw [show g.take (i + 1) = g.take i ++ [p] from by rw [List.take_add_one, hp]; rfl, List.map_append, List.flatten_append, List.map_singleton, List.flatten_singleton, row_in pl, er]
        rw [h2, e1]
    · rintro H1 ⟨h1, s1⟩
      rw [List.length_map, gl, List.take_length] at h1
      have nl2 : (givenL rows g).length ≤ 1600 := by have := ln g.length; rwa [List.take_length] at this
      have h1 : H1 D = some (.lst ((givenL rows g).map V.int)) := h1
      have hb1 : SqL K H1 b ((natI g).map V.int) := Sq.same (b := true) hb s1
      have hla1 : SqL K H1 a lvs := hla.same s1
      refine ⟨_, rfl, b, rfl, ⟨_, hb1⟩, fun D2 hD2 => ?_⟩
      refine lc_list (xs := (natI g).map V.int) (fun i H' => H' D2 = some (.lst (((g.take i).map fun p => decide ((Mt.row rows p).length = 2)).map V.bl)) ∧ Same H1 H') ⟨upd_same, same_new hD2⟩ (fun i H' _ hp => hp.2.seq hb1) ?_ ?_
      · rintro i y H2 hy ⟨h2, s2⟩
        obtain ⟨p, hp, rfl⟩ := nat_atK hy
        have pl := hg p (List.mem_of_getElem? hp)
        have il : i < g.length := (List.getElem?_eq_some_iff.mp hp).1
        obtain ⟨q, hq1, hq2⟩ := hlb.at_ (List.getElem?_eq_getElem pl)
        refine ⟨rfl, _, rfl, _, rfl, a, lvs, (p : Int), .ref q, rfl, rfl, Sq.same (b := true) hla1 s2, at_nat hq1, q, _, rfl, .inl (Sq.same (b := true) hq2 (s1.trans s2)), rfl, ?_⟩
        refine ⟨_, h2, small_lt (by rw [List.length_map, List.length_map, List.length_take]; omega), ?_, same_mut s2 hD2⟩
        rw [upd_same, show g.take (i + 1) = g.take i ++ [p] from by rw [List.take_add_one, hp]; rfl, List.map_append, List.map_append]
        show some (HO.lst (_ ++ [V.bl (decide (V.int ((((rows[p]).map V.int).length : Nat) : Int) = V.int ((2 : Nat) : Int)))])) = some (HO.lst (_ ++ [V.bl (decide ((Mt.row rows p).length = 2))]))
        rw [intn_dec, List.length_map, row_in pl]
      · rintro H2 ⟨h2, s2⟩
        rw [List.length_map, gl, List.take_length] at h2
        have h12 : SqL K H2 D ((givenL rows g).map V.int) := SqL.of (s2 _ _ h1)
        refine ⟨D2, _, rfl, SqL.of h2, _, rfl, ?_⟩
        have e2 : ((g.map fun p => decide ((Mt.row rows p).length = 2)).all id) = g.all fun p => decide ((Mt.row rows p).length = 2) := by rw [List.all_map]; rfl
        refine ite2 (fun hc => ?_) (fun hc => ?_)
        · rw [e2] at hc
          refine ⟨_, rfl, D, rfl, ⟨_, h12⟩, fun D3 hD3 => ?_⟩
          refine lc_list (xs := (givenL rows g).map V.int) (fun i H' => H' D3 = some (.lst ((((givenL rows g).take i).map fun t => decide ((givenL rows g).count t = 2)).map V.bl)) ∧ Same H2 H') ⟨upd_same, same_new hD3⟩ (fun i H' _ hp => hp.2.seq h12) ?_ ?_
          · rintro i y H3 hy ⟨h3, s3⟩
            obtain ⟨u, hu, rfl⟩ : ∃ u, (givenL rows g)[i]? = some u ∧ y = V.int u := by
              rw [List.getElem?_map] at hy
              cases e : (givenL rows g)[i]? with
              | none => rw [e] at hy; cases hy
              | some u => rw [e] at hy; exact ⟨u, rfl, (Option.some.inj hy).symm⟩
            have il := (List.getElem?_eq_some_iff.mp hu).1
            refine ⟨rfl, _, rfl, .inl ⟨rfl, _, Sq.same (b := true) h12 s3⟩, _, rfl, D, (givenL rows g).map V.int, .int u, rfl, rfl, Sq.same (b := true) h12 s3, rfl, all_flat_ints _, rfl, ?_⟩
            refine ⟨_, h3, small_lt (by rw [List.length_map, List.length_map, List.length_take]; omega), ?_, same_mut s3 hD3⟩
            rw [upd_same, show (givenL rows g).take (i + 1) = (givenL rows g).take i ++ [u] from by rw [List.take_add_one, hu]; rfl, List.map_append, List.map_append]
            show some (HO.lst (_ ++ [V.bl (decide (V.int (((((givenL rows g).map V.int).countP fun z => eqV z (V.int u)) : Nat) : Int) = V.int ((2 : Nat) : Int)))])) = some (HO.lst (_ ++ [V.bl (decide ((givenL rows g).count u = 2))]))
            rw [intn_dec, cnt_eqV]
          · rintro H3 ⟨h3, s3⟩
            rw [List.length_map, List.take_length] at h3
            refine ⟨D3, _, rfl, SqL.of h3, ?_⟩
            have := k H3 ((s1.trans s2).trans s3)
            unfold ringB at this
            rw [hc, Bool.true_and, show ((givenL rows g).all fun t => decide ((givenL rows g).count t = 2)) = (((givenL rows g).map fun t => decide ((givenL rows g).count t = 2)).all id) from by rw [List.all_map]; rfl] at this
            exact this
        · rw [e2] at hc
          have := k H2 (s1.trans s2)
          unfold ringB at this
          rw [Bool.eq_false_iff.mpr hc, Bool.false_and] at this
          exact this
theorem ok_kindE (A : At K mg "_kind_of" s_kind_of ["live", "people"]) (T : Tx mg) (G_is_ring : Dfn P w K mg base "_is_ring" ["live", "people"] 1 (spRingE K)) : Dfn P w K mg base "_kind_of" ["live", "people"] 2 (spKindE K) := by
  refine A.ok sc_kind_of (fun vs H Q E h => ?_) (fun f cdv A outer s H vs Q E hr h => ?_)
  · obtain ⟨_, _, _, _, rfl, _⟩ := h
    rfl
  · obtain ⟨a, b, rows, g, rfl, hR, hb, hg, hr40, hl, k⟩ := h
    obtain ⟨la, lvs, e, hla, hlb⟩ := id hR
    cases e
    have gl : (natI g).length = g.length := by unfold natI; rw [List.length_map]
    refine ⟨_, (pss_cons (ps_if (pt_val (pe_callB (cr_all rfl) (by rfl) T.all (by decide +kernel) (pa_cons (pe_lc (own := [("person", 2)]) (g := (gName 2)) (tt := tYes) (te := (tOp rEq (tCB (rLenS K) (tCons (tOp (rIxL K) (tVar 0) (tVar 2)) tNil)) (tCB (rLenS K) (tCons (tVar 1) tNil)))) (by rfl) sc_kind_of.nd (pi_list (pv 1)) (blkOk_by (own := [("person", 2)]) (N := n_kind_of) (sc := (defScope s_kind_of)) (by decide +kernel)) (fun _ _ _ _ _ => (pg_name (i := 2) sc_kind_of.nd rfl (Or.inl rfl))) (fun _ _ _ _ _ => pts_nil) (fun _ _ _ _ _ => (pe_cmpR op_eq (pe_callB c_len (by rfl) T.len (by decide +kernel) (pa_cons (pe_ix ix_list (pv 0) (pv 2) (fun _ _ => rfl)) pa_nil)) (pe_callB c_len (by rfl) T.len (by decide +kernel) (pa_cons (pv 1) pa_nil)) (nomark _)))) pa_nil))) (pss_one (ps_ret pe_str)) pss_nil)
      (pss_one (ps_ret (pe_ifExp (pt_val (pe_d G_is_ring (hr.mono (by decide)) (pa_cons (pv 0) (pa_cons (pv 1) pa_nil)))) pe_str pe_str)))), ?_⟩
    refine ⟨_, rfl, b, rfl, ⟨_, hb⟩, fun D hD => ?_⟩
    refine lc_list (xs := (natI g).map V.int) (fun i H' => H' D = some (.lst (((g.take i).map fun p => decide ((Mt.row rows p).length = g.length)).map V.bl)) ∧ Same H H') ⟨upd_same, same_new hD⟩ (fun i H' _ hp => hp.2.seq hb) ?_ ?_
    · rintro i y H1 hy ⟨h1, s1⟩
      obtain ⟨p, hp, rfl⟩ := nat_atK hy
      have pl := hg p (List.mem_of_getElem? hp)
      have il : i < g.length := (List.getElem?_eq_some_iff.mp hp).1
      obtain ⟨q, hq1, hq2⟩ := hlb.at_ (List.getElem?_eq_getElem pl)
      refine ⟨rfl, _, rfl, _, rfl, a, lvs, (p : Int), .ref q, rfl, rfl, Sq.same (b := true) hla s1, at_nat hq1, q, _, rfl, .inl (Sq.same (b := true) hq2 s1), _, rfl, b, _, rfl, .inl (Sq.same (b := true) hb s1), rfl, ?_⟩
      refine ⟨_, h1, small_lt (by rw [List.length_map, List.length_map, List.length_take]; omega), ?_, same_mut s1 hD⟩
      rw [upd_same, show g.take (i + 1) = g.take i ++ [p] from by rw [List.take_add_one, hp]; rfl, List.map_append, List.map_append]
      show some (HO.lst (_ ++ [V.bl (decide (V.int ((((rows[p]).map V.int).length : Nat) : Int) = V.int ((((natI g).map V.int).length : Nat) : Int)))])) = some (HO.lst (_ ++ [V.bl (decide ((Mt.row rows p).length = g.length))]))
      rw [intn_dec, List.length_map, List.length_map, gl, row_in pl]
    · rintro H1 ⟨h1, s1⟩
      rw [List.length_map, gl, List.take_length] at h1
      refine ⟨D, _, rfl, SqL.of h1, _, rfl, ?_⟩
      have e2 : ((g.map fun p => decide ((Mt.row rows p).length = g.length)).all id) = fullG rows g := by unfold fullG; rw [List.all_map]; rfl
      rw [e2]
      refine ite2 (fun hc => ?_) (fun hc => ?_)
      · have := k H1 s1
        unfold kindS at this
        rw [if_pos hc] at this
        exact this
      · unfold kindS at k
        rw [if_neg hc] at k
        refine ⟨_, rfl, _, rfl, a, b, rows, g, rfl, hR.same s1, Sq.same (b := true) hb s1, hg, hr40, hl, fun H2 s2 => ⟨_, rfl, ?_⟩⟩
        refine ite2 (fun hc2 => ?_) (fun hc2 => ?_)
        · rw [if_pos hc2] at k
          exact k H2 (s1.trans s2)
        · rw [if_neg hc2] at k
          exact k H2 (s1.trans s2)
def spPkE (K : PySem.W.Frag) (C : Addr) : Sp := fun vs H Q _ => ∃ (x : V) (rows : List (List Int)), vs = [x] ∧ TableAt K C H x rows ∧ Good rows ∧ rows.length ≤ 40 ∧ (∃ D, Mt.Ds rows D) ∧
  ∀ (F : List (List Nat)) l H', Mt.Groups (Mt.liveR rows) F → (F.map natI).Pairwise (· ≤ ·) → Same H H' → H l = none → H' l = some (.lst ((F.map (kindS (Mt.liveR rows))).map V.str)) → Q (.ref l) H'
theorem ok_pkE (A : At K mg "piece_kinds" s_piece_kinds ["table"]) (T : Tx mg) (G_live_of : Dfn P w K mg base "live_of" ["table"] 5 (spLiveOf K C)) (G_groups : Dfn P w K mg base "groups" ["rows"] 1 (spGroups K)) (G_kind_of : Dfn P w K mg base "_kind_of" ["live", "people"] 2 (spKindE K)) : Dfn P w K mg base "piece_kinds" ["table"] 6 (spPkE K C) := by
  refine A.ok sc_piece_kinds (fun vs H Q E h => ?_) (fun f cdv A outer s H vs Q E hr h => ?_)
  · obtain ⟨_, _, rfl, _⟩ := h
    rfl
  · obtain ⟨x, rows, rfl, tb, G, hn, yes, k⟩ := h
    refine ⟨_, (pss_cons (ps_set (i := 1) sc_piece_kinds.nd rfl (Or.inr rfl) (pe_d G_live_of (hr.mono (by decide)) (pa_cons (pv 0) pa_nil)))
      (pss_one (ps_ret (pe_lc (own := [("people", 2)]) (g := (gName 2)) (tt := tYes) (te := (tCall (spKindE K) [] E0 (tCons (tVar 1) (tCons (tVar 2) tNil)))) (by rfl) sc_piece_kinds.nd (pi_list (pe_d G_groups (hr.mono (by decide)) (pa_cons (pv 1) pa_nil))) (blkOk_by (own := [("people", 2)]) (N := n_piece_kinds) (sc := (defScope s_piece_kinds)) (by decide +kernel)) (fun _ _ _ _ _ => (pg_name (i := 2) sc_piece_kinds.nd rfl (Or.inl rfl))) (fun _ _ _ _ _ => pts_nil) (fun _ _ _ _ _ => (pe_d G_kind_of (hr.mono (by decide)) (pa_cons (pv 1) (pa_cons (pv 2) pa_nil)))))))), ?_⟩
    refine ⟨_, rfl, x, rows, rfl, tb, G, hn, yes, fun l H1 s1 fl hl => ?_⟩
    have lr40 : ∀ r ∈ Mt.liveR rows, r.length ≤ 40 := fun r hr => Nat.le_trans (G.live.row_len r hr) (by rw [Mt.liveR_len]; exact hn)
    refine ⟨_, rfl, .ref l, _, rfl, hl, by rw [Mt.liveR_len]; exact hn, lr40, fun F gl H2 hF up s2 fgl hgl => ?_⟩
    obtain ⟨ga, gvs, e, hga, hgb⟩ := id hgl
    cases e
    have gvl := hgb.len
    rw [List.length_map] at gvl
    have gnum := hF.num
    rw [Mt.liveR_len] at gnum
    have s12 := s1.trans s2
    refine ⟨gl, rfl, ⟨_, hga⟩, fun D hD => ?_⟩
    refine lc_list (xs := gvs) (fun i H' => H' D = some (.lst (((F.take i).map (kindS (Mt.liveR rows))).map V.str)) ∧ Same H2 H') ⟨upd_same, same_new hD⟩ (fun i H' _ hp => hp.2.seq hga) ?_ ?_
    · rintro i y H3 hy ⟨h3, s3⟩
      obtain ⟨pa, gi, ex, hgi, hpa⟩ := hgb.get hy
      subst ex
      have iF : i < F.length := by have := (List.getElem?_eq_some_iff.mp hy).1; omega
      obtain ⟨g, hg, eg⟩ : ∃ g, F[i]? = some g ∧ gi = natI g := by
        rw [List.getElem?_map, List.getElem?_eq_getElem iF] at hgi
        exact ⟨_, List.getElem?_eq_getElem iF, (Option.some.inj hgi).symm⟩
      subst eg
      have gm := List.mem_of_getElem? hg
      refine ⟨rfl, _, rfl, _, rfl, l, pa, _, g, rfl, (hl.same s2).same s3, Sq.same (b := true) hpa s3, fun p hp => hF.lt gm hp, lr40, ?_, fun H4 s4 => ?_⟩
      · have := hF.len gm
        rw [Mt.liveR_len] at this
        omega
      · refine ⟨_, s4 _ _ h3, small_lt (by rw [List.length_map, List.length_map, List.length_take]; omega), ?_, same_mut (s3.trans s4) hD⟩
        rw [upd_same, show F.take (i + 1) = F.take i ++ [g] from by rw [List.take_add_one, hg]; rfl, List.map_append, List.map_append]
        rfl
    · rintro H3 ⟨h3, s3⟩
      rw [gvl, List.take_length] at h3
      exact k F D H3 hF up (s12.trans s3) (s12.free hD) h3
end
end Fo
set_option maxRecDepth 100000
set_option maxHeartbeats 4000000
namespace Fo
open PySem PySem.Spec PyProof.Rows L2
theorem natI_blk {c : Nat × Nat × Nat} {t : Int} : t ∈ natI (Mt.blkG c) ↔ ∃ j, j < c.2.1 ∧ t = ((c.1 + j : Nat) : Int) := by
  unfold natI
  rw [List.mem_map]
  constructor
  · rintro ⟨p, hp, rfl⟩
    rw [Mt.mem_blkG] at hp
    exact ⟨p - c.1, by omega, by omega⟩
  · rintro ⟨j, hj, rfl⟩
    exact ⟨c.1 + j, Mt.mem_blkG.mpr (by omega), rfl⟩
theorem natI_asc {g : List Nat} (h : g.Pairwise (· < ·)) : (natI g).Pairwise (· < ·) := List.pairwise_map.mpr (h.imp fun h => by omega)
theorem ascX {a b : List Int} (ha : a.Pairwise (· < ·)) (hb : b.Pairwise (· < ·)) (h : ∀ t, t ∈ a ↔ t ∈ b) : a = b :=
  List.Perm.eq_of_pairwise (le := (· < ·)) (fun a b _ _ h1 h2 => by omega) ha hb ((List.perm_ext_iff_of_nodup (ha.imp fun h => by omega) (hb.imp fun h => by omega)).mpr h)
theorem blkG_asc {c : Nat × Nat × Nat} : (Mt.blkG c).Pairwise (· < ·) := List.pairwise_map.mpr ((List.pairwise_lt_range).imp fun hab => by omega)
section
variable {R : List (List Int)} {bs : List (Nat × Nat × Nat)}
theorem thg_blk (G : Good R) (h : Mt.BlkR R bs) {c : Nat × Nat × Nat} (hc : c ∈ bs) : thgR R (Mt.blkG c) = natI (Mt.blkG c) := by
  refine ascX thgR_asc (natI_asc blkG_asc) fun t => ?_
  rw [mem_thgR G, natI_blk]
  obtain ⟨_, s1, s4, k3⟩ := h.in_ c hc
  constructor
  · rintro ⟨p, hp, ht⟩
    rw [Mt.mem_blkG] at hp
    obtain ⟨k, rfl⟩ : ∃ k, p = c.1 + k := ⟨p - c.1, by omega⟩
    obtain ⟨j, hj, rfl⟩ := (h.blk_live hc (by omega)).mp ht
    exact ⟨j, (Mt.inn_lt hj).2, rfl⟩
  · rintro ⟨j, hj, rfl⟩
    obtain ⟨k, hk, hi⟩ := Mt.inn_thing c.2.1 s4 s1 c.2.2 k3 j hj
    exact ⟨c.1 + k, Mt.mem_blkG.mpr (by omega), (h.blk_live hc hk).mpr ⟨j, hi, rfl⟩⟩
/-- a block by itself -/
def locL (s kd : Nat) : List (List Int) := (List.range s).map fun k => ((List.range s).filter (Mt.inn s kd k)).map fun (j : Nat) => (j : Int)
def kloc (s kd : Nat) : Str := kindS (locL s kd) (List.range s)
theorem row_loc {s kd k : Nat} (hk : k < s) : Mt.row (locL s kd) k = ((List.range s).filter (Mt.inn s kd k)).map fun (j : Nat) => (j : Int) := by
  unfold Mt.row locL
  rw [List.getElem?_map, List.getElem?_range hk]
  rfl
theorem row_blk (h : Mt.BlkR R bs) (asc : ∀ r ∈ R, r.Pairwise (· < ·)) {c : Nat × Nat × Nat} (hc : c ∈ bs) {k : Nat} (hk : k < c.2.1) : Mt.row (Mt.liveR R) (c.1 + k) = (Mt.row (locL c.2.1 c.2.2) k).map fun t => (c.1 : Int) + t := by
  rw [h.live_row asc hc hk, row_loc hk, List.map_map]
  exact List.map_congr_left fun j _ => by show ((c.1 + j : Nat) : Int) = (c.1 : Int) + (j : Int); omega
theorem count_shift {n x : Int} : ∀ l : List Int, (l.map fun t => n + t).count (n + x) = l.count x
  | [] => rfl
  | y :: l => by
    rw [List.map_cons, List.count_cons, List.count_cons, count_shift l]
    congr 1
    by_cases c : y = x
    · subst c; simp
    · have c2 : ¬ n + y = n + x := fun e => c (by omega)
      simp [c, c2]
theorem kind_blk (h : Mt.BlkR R bs) (asc : ∀ r ∈ R, r.Pairwise (· < ·)) {c : Nat × Nat × Nat} (hc : c ∈ bs) : kindS (Mt.liveR R) (Mt.blkG c) = kloc c.2.1 c.2.2 := by
  have e1 : fullG (Mt.liveR R) (Mt.blkG c) = fullG (locL c.2.1 c.2.2) (List.range c.2.1) := by
    unfold fullG Mt.blkG
    rw [List.all_map, List.length_map]
    refine Bool.eq_iff_iff.mpr ?_
    rw [List.all_eq_true, List.all_eq_true]
    have q : ∀ k ∈ List.range c.2.1, (Mt.row (Mt.liveR R) (c.1 + k)).length = (Mt.row (locL c.2.1 c.2.2) k).length := fun k hk => by
      rw [row_blk h asc hc (List.mem_range.mp hk), List.length_map]
    constructor
    · intro a k hk
      rw [← q k hk]
      exact a k hk
    · intro a k hk
      have z := a k hk
      rw [← q k hk] at z
      exact z
  have e2 : givenL (Mt.liveR R) (Mt.blkG c) = (givenL (locL c.2.1 c.2.2) (List.range c.2.1)).map fun t => (c.1 : Int) + t := by
    unfold givenL Mt.blkG
    rw [List.map_map, List.map_flatten, List.map_map]
    refine congrArg List.flatten (List.map_congr_left fun k hk => ?_)
    exact row_blk h asc hc (List.mem_range.mp hk)
  have e3 : ringB (Mt.liveR R) (Mt.blkG c) = ringB (locL c.2.1 c.2.2) (List.range c.2.1) := by
    unfold ringB
    rw [e2]
    congr 1
    · unfold Mt.blkG
      rw [List.all_map]
      refine Bool.eq_iff_iff.mpr ?_
      rw [List.all_eq_true, List.all_eq_true]
      have q : ∀ k ∈ List.range c.2.1, (Mt.row (Mt.liveR R) (c.1 + k)).length = (Mt.row (locL c.2.1 c.2.2) k).length := fun k hk => by
        rw [row_blk h asc hc (List.mem_range.mp hk), List.length_map]
      exact ⟨fun a k hk => by rw [← q k hk]; exact a k hk, fun a k hk => by have z := a k hk; rw [← q k hk] at z; exact z⟩
    · rw [List.all_map]
      refine congrArg (fun f => (givenL (locL c.2.1 c.2.2) (List.range c.2.1)).all f) (funext fun t => ?_)
      show decide (_ = 2) = decide (_ = 2)
      rw [count_shift]
  unfold kloc kindS
  rw [e1, e3]
end
end Fo
set_option maxRecDepth 100000
set_option maxHeartbeats 2000000
namespace Fo
open PySem PySem.Spec PyProof.Rows L2
def rSetTn (K : PySem.W.Frag) (w : World) : List V → Hp → VK → Prop := fun xs H Q => ∃ (p : Addr) (ns : List Int), xs = [.ref p] ∧ SqT K H p (ns.map V.int) ∧ ns.length ≤ 1000 ∧ ∀ (a : Addr) (n : Nat), H a = none → n ≤ ns.length → (∀ ks : List Int, ks.Nodup → (∀ k, k ∈ ks ↔ k ∈ ns) → ks.length = n) → Q (.ref a) (upd H a (SetO w a (fun j => decide (j ∈ ns)) n))
theorem cr_setTn {X : Cx} (hc : X.calm = true) : CallR X (.type "set") (rSetTn X.K X.w) := by
  intro pins s σ H xs us Q I r h
  obtain ⟨p, ns, rfl, hS, hl, q⟩ := h
  cases r with
  | cons r0 r1 =>
    cases r1
    cases r0
    obtain ⟨its, rv, hT, hz⟩ := I.tuple hS
    refine call_set_tupI ns (I.ok.hd hc) hT (by simpa using Fo.ints_of rv) (by
      have : (1002 : Nat) < scanBound := by decide
      omega) fun h' tk c hR hcn hk => ?_
    refine ⟨.ref s.heap.objs.size, _, I.laid (a := s.heap.objs.size) (o := SetO X.w s.heap.objs.size (fun j => decide (j ∈ ns)) c) hk (Nat.le_refl _) ?_, rfl, q _ c (I.hok.fresh (Nat.le_refl _)) hcn (setR_len hR)⟩
    refine ⟨hR, ?_, fun h1 h2 a b => ?_⟩
    · obtain ⟨o, _, _, _, g, _⟩ := hR
      exact ⟨o, g⟩
    · obtain ⟨o, es, ep, t, g, r⟩ := a
      exact ⟨o, es, ep, t, b o g, r⟩
end Fo
set_option maxRecDepth 100000
set_option maxHeartbeats 4000000
namespace Fo
open PySem PySem.Spec PyProof.Rows L2
abbrev s_is_renumbering : Stmt := top 13
abbrev n_is_renumbering : List Str := ["bound", "thing"]
theorem sc_is_renumbering : FnScope n_is_renumbering ["bound", "thing"] (defScope s_is_renumbering) := ⟨rfl, rfl, rfl, by decide +kernel, rfl, by decide +kernel, by decide +kernel⟩
abbrev s_renumbered : Stmt := top 31
abbrev n_renumbered : List Str := ["table", "people", "things", "numbers", "moved", "person", "row", "thing"]
theorem sc_renumbered : FnScope n_renumbered ["table", "people", "things"] (defScope s_renumbered) := ⟨rfl, rfl, rfl, by decide +kernel, rfl, by decide +kernel, by decide +kernel⟩
section
variable {P : Program} {w : World} {K : PySem.W.Frag} {mg : Str → Option Value} {base : Heap} {C : Addr}
theorem numbersOf_ints {b : Int} : ∀ {ns : List Int}, (∀ y ∈ ns, 0 ≤ y ∧ y < b) → numbersOf b (some (ns.map V.int)) = true := fun {ns} h => by
  show (ns.map V.int).all (numV b) = true
  rw [List.all_map, List.all_eq_true]
  intro y hy
  show (decide (0 ≤ y) && decide (y < b)) = true
  rw [decide_eq_true (h y hy).1, decide_eq_true (h y hy).2]
  rfl
/-- rows with people and things numbered anew -/
structure Ren (ps ts : List Int) (rows rows' : List (List Int)) : Prop where
  len : rows'.length = rows.length
  good : Good rows'
  mem : ∀ (p : Nat) (q x : Int), ps[p]? = some q → (x ∈ Mt.row rows' q.toNat ↔ ∃ t ∈ Mt.row rows p, ts[t.toNat]? = some x)
theorem perm_get {b : Nat} {ns : List Int} (pm : ns.Perm (rangeI b)) {i : Int} (h0 : 0 ≤ i) (h1 : i < b) : ∃ q : Int, ns[i.toNat]? = some q ∧ 0 ≤ q ∧ q < b := by
  have nl : ns.length = b := by rw [pm.length_eq, rangeI_len, Int.toNat_natCast]
  have e := List.getElem?_eq_getElem (show i.toNat < ns.length by omega)
  exact ⟨_, e, mem_rangeI.mp (pm.mem_iff.mp (List.mem_of_getElem? e))⟩
theorem perm_inj {b : Nat} {ns : List Int} (pm : ns.Perm (rangeI b)) {i j : Int} {q : Int} (h0 : 0 ≤ i) (g0 : 0 ≤ j) (h : ns[i.toNat]? = some q) (g : ns[j.toNat]? = some q) : i = j := by
  have nd : ns.Nodup := pm.symm.nodup (rangeI_nodup _)
  have := (List.getElem?_inj (List.getElem?_eq_some_iff.mp h).1 nd).mp (h.trans g.symm)
  omega
theorem perm_onto {b : Nat} {ns : List Int} (pm : ns.Perm (rangeI b)) {q : Int} (h0 : 0 ≤ q) (h1 : q < b) : ∃ i : Nat, i < b ∧ ns[i]? = some q := by
  have nl : ns.length = b := by rw [pm.length_eq, rangeI_len, Int.toNat_natCast]
  obtain ⟨i, hi⟩ := List.getElem?_of_mem (pm.mem_iff.mpr (mem_rangeI.mpr ⟨h0, h1⟩))
  have := (List.getElem?_eq_some_iff.mp hi).1
  exact ⟨i, by omega, hi⟩
theorem ixN_at {n q : Nat} (h : q < n) : ixN n (q : Int) = some q := by
  unfold ixN
  rw [if_pos (by omega), if_pos (by omega)]
  rfl
theorem rep_rows {H : Hp} {e : Addr} (h : SqT K H e []) : ∀ n : Nat, RowsT K H (List.replicate n [V.ref e]).flatten (List.replicate n [])
  | 0 => .nil
  | n + 1 => .cons (r := []) h (rep_rows h n)
theorem RowsT.set {H : Hp} {q : Addr} {r : List Int} (h : SqT K H q (r.map V.int)) : ∀ {vs : List V} {R : List (List Int)} (j : Nat), RowsT K H vs R → RowsT K H (vs.set j (.ref q)) (R.set j r)
  | _, _, _, .nil => .nil
  | _, _, 0, .cons h1 t => .cons h t
  | _, _, j + 1, .cons h1 t => .cons h1 (RowsT.set h j t)
/-- a row with its things numbered anew -/
def newL (ts r : List Int) : List Int := r.map fun t => (ts[t.toNat]?).getD 0
structure RenTo (ps ts : List Int) (rows : List (List Int)) (i : Nat) (R : List (List Int)) : Prop where
  len : R.length = rows.length
  row : ∀ (p : Nat) (q : Int), p < i → ps[p]? = some q → (Mt.row R q.toNat).Pairwise (· < ·) ∧ ∀ x, x ∈ Mt.row R q.toNat ↔ ∃ t ∈ Mt.row rows p, ts[t.toNat]? = some x
theorem newL_mem {rows : List (List Int)} (G : Good rows) {ts : List Int} (tm : ts.Perm (rangeI rows.length)) {p : Nat} {x : Int} : x ∈ newL ts (Mt.row rows p) ↔ ∃ t ∈ Mt.row rows p, ts[t.toNat]? = some x := by
  unfold newL
  rw [List.mem_map]
  constructor
  · rintro ⟨t, ht, rfl⟩
    have rg := G.row_rng ht
    obtain ⟨q, hq, _⟩ := perm_get tm rg.1 rg.2
    exact ⟨t, ht, by rw [hq]; rfl⟩
  · rintro ⟨t, ht, e⟩
    exact ⟨t, ht, by rw [e]; rfl⟩
theorem newL_nd {rows : List (List Int)} (G : Good rows) {ts : List Int} (tm : ts.Perm (rangeI rows.length)) {p : Nat} : (newL ts (Mt.row rows p)).Nodup := by
  unfold newL
  have nd : (Mt.row rows p).Nodup := by
    unfold Mt.row
    cases e : rows[p]? with
    | none => exact List.nodup_nil
    | some r => exact (G.asc r (List.mem_of_getElem? e)).imp fun h z => by omega
  refine Mt.nodup_map nd fun a ha b hb e => ?_
  have ra := G.row_rng ha
  have rb := G.row_rng hb
  obtain ⟨q, hq, _⟩ := perm_get tm ra.1 ra.2
  obtain ⟨u, hu, _⟩ := perm_get tm rb.1 rb.2
  rw [hq, hu] at e
  have e : q = u := e
  subst e
  exact perm_inj tm ra.1 rb.1 hq hu
theorem RenTo.step {rows R : List (List Int)} {ps ts ks : List Int} {i : Nat} {q : Int} (I : RenTo ps ts rows i R) (G : Good rows) (pm : ps.Perm (rangeI rows.length)) (tm : ts.Perm (rangeI rows.length)) (hq : ps[i]? = some q) (kp : ks.Perm (newL ts (Mt.row rows i))) (srt : ks.Pairwise (· ≤ ·)) : RenTo ps ts rows (i + 1) (R.set q.toNat ks) := by
  have qr := mem_rangeI.mp (pm.mem_iff.mp (List.mem_of_getElem? hq))
  have ql : q.toNat < R.length := by rw [I.len]; omega
  refine ⟨by rw [List.length_set, I.len], fun p u hp hu => ?_⟩
  rw [Mt.row_set ql]
  have ur := mem_rangeI.mp (pm.mem_iff.mp (List.mem_of_getElem? hu))
  by_cases e : u = q
  · subst e
    have ep : p = i := by
      have := perm_inj pm (i := (p : Int)) (j := (i : Int)) (by omega) (by omega) (by rw [Int.toNat_natCast]; exact hu) (by rw [Int.toNat_natCast]; exact hq)
      omega
    subst ep
    rw [if_pos rfl]
    refine ⟨?_, fun x => by rw [kp.mem_iff]; exact newL_mem G tm⟩
    have nd : ks.Nodup := kp.symm.nodup (newL_nd G tm)
    have h2 : ks.Pairwise (fun a b => a ≤ b ∧ a ≠ b) := List.Pairwise.and srt nd
    exact h2.imp fun h => by omega
  · rw [if_neg (by omega)]
    have : p ≠ i := fun z => e (by rw [z, hq] at hu; exact (Option.some.inj hu).symm)
    exact I.row p u (by omega) hu
theorem RenTo.done {rows R : List (List Int)} {ps ts : List Int} (I : RenTo ps ts rows rows.length R) (G : Good rows) (pm : ps.Perm (rangeI rows.length)) (tm : ts.Perm (rangeI rows.length)) : Ren ps ts rows R := by
  have nl : ps.length = rows.length := by rw [pm.length_eq, rangeI_len, Int.toNat_natCast]
  have each : ∀ r ∈ R, ∃ p : Nat, r.Pairwise (· < ·) ∧ ∀ x, x ∈ r ↔ ∃ t ∈ Mt.row rows p, ts[t.toNat]? = some x := fun r hr => by
    obtain ⟨j, hj⟩ := List.getElem?_of_mem hr
    have jl : j < R.length := (List.getElem?_eq_some_iff.mp hj).1
    rw [I.len] at jl
    obtain ⟨p, hp1, hp2⟩ := perm_onto pm (q := (j : Int)) (by omega) (by omega)
    have := I.row p j hp1 hp2
    rw [Int.toNat_natCast, Mt.row_get hj] at this
    exact ⟨p, this⟩
  refine ⟨I.len, ⟨by rw [I.len]; exact G.pos, fun r hr => ?_, fun r hr x hx => ?_⟩, fun p q x hq => ?_⟩
  · obtain ⟨p, h1, h2⟩ := each r hr
    exact h1
  · obtain ⟨p, h1, h2⟩ := each r hr
    obtain ⟨t, ht, e⟩ := (h2 x).mp hx
    have := mem_rangeI.mp (tm.mem_iff.mp (List.mem_of_getElem? e))
    rw [I.len]
    exact this
  · exact (I.row p q (by have := (List.getElem?_eq_some_iff.mp hq).1; omega) hq).2 x
def spRenum (K : PySem.W.Frag) (C : Addr) : Sp := fun vs H Q _ => ∃ (b : Nat) (a : Addr) (ns : List Int), vs = [nV b, .ref a] ∧ SqT K H a (ns.map V.int) ∧ ns.Perm (rangeI b) ∧ b ≤ 1000 ∧ ∀ H', Same H H' → Q (.bl true) H'
theorem ok_is_renumbering (A : At K mg "is_renumbering" s_is_renumbering ["bound", "thing"]) (T : Tx mg) (G_is_numbers : Dfn P w K mg base "is_numbers" ["bound", "thing"] 3 (spNumbers K C)) : Dfn P w K mg base "is_renumbering" ["bound", "thing"] 4 (spRenum K C) := by
  refine A.ok sc_is_renumbering (fun vs H Q E h => ?_) (fun f cdv A outer s H vs Q E hr h => ?_)
  · obtain ⟨_, _, _, rfl, _⟩ := h
    rfl
  · obtain ⟨b, a, ns, rfl, hq, pm, hb, k⟩ := h
    refine ⟨_, (pss_one (ps_ret (pe_and (pe_d G_is_numbers (hr.mono (by decide)) (pa_cons (pv 0) (pa_cons (pv 1) pa_nil))) (pe_and (pe_cmpR op_eq (pe_callB c_len (by rfl) T.len (by decide +kernel) (pa_cons (pv 1) pa_nil)) (pv 0) (nomark _)) (pe_one (pe_cmpR op_eq (pe_callB cr_lenO (by rfl) T.len (by decide +kernel) (pa_cons (pe_callTy (cr_setTn rfl) (by rfl) T.set (by decide +kernel) (pa_cons (pv 1) pa_nil)) pa_nil)) (pv 0) (nomark _))))))), ?_⟩
    have nl : ns.length = b := by rw [pm.length_eq, rangeI_len, Int.toNat_natCast]
    refine ⟨_, rfl, _, rfl, (b : Int), .ref a, some (ns.map V.int), rfl, Tg.ints hq (by omega), fun H1 s1 => ?_⟩
    rw [numbersOf_ints fun y hy => mem_rangeI.mp (pm.mem_iff.mp hy)]
    refine ⟨_, rfl, ?_⟩
    refine ⟨_, rfl, a, _, rfl, .inr (sqT_same s1 hq), _, rfl, ?_⟩
    rw [List.length_map, nl]
    refine ⟨rfl, _, rfl, ?_⟩
    rw [show decide (V.int ((b : Nat) : Int) = nV b) = true from decide_eq_true rfl]
    refine ⟨_, rfl, a, ns, rfl, sqT_same s1 hq, by omega, fun z n hz hn hks => ?_⟩
    have en : n = b := by rw [← hks ns (pm.symm.nodup (rangeI_nodup _)) fun _ => Iff.rfl, nl]
    subst en
    refine ⟨z, _, _, rfl, upd_same, _, rfl, rfl, ?_⟩
    rw [decide_eq_true rfl]
    exact k _ (s1.trans (same_new hz))
def spRen (K : PySem.W.Frag) (C : Addr) : Sp := fun vs H Q _ => ∃ (x : V) (rows : List (List Int)) (a b : Addr) (ps ts : List Int), vs = [x, .ref a, .ref b] ∧ TableAt K C H x rows ∧ Good rows ∧ rows.length ≤ 100 ∧ SqT K H a (ps.map V.int) ∧ SqT K H b (ts.map V.int) ∧ ps.Perm (rangeI rows.length) ∧ ts.Perm (rangeI rows.length) ∧
  ∀ p rows' H', Same H H' → H p = none → TableAt K C H' (.ref p) rows' → Ren ps ts rows rows' → Q (.ref p) H'
theorem ok_renumbered (A : At K mg "renumbered" s_renumbered ["table", "people", "things"]) (T : Tx mg) (tc : TC K C) (G_is_renumbering : Dfn P w K mg base "is_renumbering" ["bound", "thing"] 4 (spRenum K C)) (G_table_of : Dfn P w K mg base "table_of" ["rows"] 8 (spTableOf K C)) : Dfn P w K mg base "renumbered" ["table", "people", "things"] 9 (spRen K C) := by
  refine A.ok sc_renumbered (fun vs H Q E h => ?_) (fun f cdv A outer s H vs Q E hr h => ?_)
  · obtain ⟨_, _, _, _, _, _, rfl, _⟩ := h
    rfl
  · obtain ⟨x, rows, a, b, ps, ts, rfl, tb, G, hn, ha, hb, pm, tm, k⟩ := h
    refine ⟨_, (pss_cons (ps_for PassesOwn.never rfl (pi_tup (pe_tup (pa_cons (pv 1) (pa_cons (pv 2) pa_nil)))) (pg_name (i := 3) sc_renumbered.nd rfl (Or.inl rfl))
      (pss_one (ps_if (pt_not (pt_val (pe_d G_is_renumbering (hr.mono (by decide)) (pa_cons (pe_fld (pv 0) rfl) (pa_cons (pv 3) pa_nil))))) (pss_one ps_never) pss_nil)))
      (pss_cons (ps_set (i := 4) sc_renumbered.nd rfl (Or.inl rfl) (pe_op op_rep (pe_lst (pa_cons (pe_tup pa_nil) pa_nil)) (pe_fld (pv 0) rfl)))
      (pss_cons (ps_for PassesOwn.never rfl (pi_enumT (by rfl) T.enumerate (pa_cons (pe_fld (pv 0) rfl) pa_nil)) (pg_tup rfl (pgs_cons (pg_name (i := 5) sc_renumbered.nd rfl (Or.inl rfl)) (pgs_cons (pg_name (i := 6) sc_renumbered.nd rfl (Or.inl rfl)) pgs_nil)))
      (pss_one (ps_asg (pe_callTy c_tuple (by rfl) T.tuple (by decide +kernel) (pa_cons (pe_callB cr_sortedI (by rfl) T.sorted (by decide +kernel) (pa_cons (pe_lc (own := [("thing", 7)]) (g := (gName 7)) (tt := tYes) (te := (tOp (rIxT K) (tVar 2) (tVar 7))) (by rfl) sc_renumbered.nd (pi_tup (pv 6)) (blkOk_by (own := [("thing", 7)]) (N := n_renumbered) (sc := (defScope s_renumbered)) (by decide +kernel)) (fun _ _ _ _ _ => (pg_name (i := 7) sc_renumbered.nd rfl (Or.inl rfl))) (fun _ _ _ _ _ => pts_nil) (fun _ _ _ _ _ => (pe_ix ix_tup (pv 2) (pv 7) (fun _ _ => rfl)))) pa_nil)) pa_nil)) (pg_sub (pv 4) (pe_ix ix_tup (pv 1) (pv 5) (fun _ _ => rfl)) set_list))))
      (pss_one (ps_ret (pe_d G_table_of (hr.mono (by decide)) (pa_cons (pe_callTy c_tuple (by rfl) T.tuple (by decide +kernel) (pa_cons (pv 4) pa_nil)) pa_nil))))))), ?_⟩
    obtain ⟨tp, dx, v, rfl, hp, hR⟩ := id tb
    refine ⟨_, rfl, _, rfl, by show 2 ≤ sizeLine; decide, fun c hc => ?_⟩
    have s1 := same_new (o := .tup [V.ref a, V.ref b]) hc
    have nps : ps.length = rows.length := by rw [pm.length_eq, rangeI_len, Int.toNat_natCast]
    refine ⟨c, rfl, ⟨_, SqT.of upd_same⟩, for_tup (K := K) (a := c) (xs := [V.ref a, V.ref b]) (fun i σ' H' => (∃ x3 x4 x5 x6 x7, σ' = [some (.ref tp), some (.ref a), some (.ref b), x3, x4, x5, x6, x7]) ∧ Same (upd H c (.tup [V.ref a, V.ref b])) H') ⟨⟨_, _, _, _, _, rfl⟩, fun _ _ h => h⟩ (fun i σ' H' _ hp => sqT_same hp.2 (SqT.of upd_same)) ?_ ?_⟩
    · rintro i y σ' H2 hy ⟨⟨x3, x4, x5, x6, x7, rfl⟩, s2⟩
      have s12 := s1.trans s2
      obtain ⟨d, ns, rfl, hd, nm⟩ : ∃ (d : Addr) (ns : List Int), y = .ref d ∧ SqT K H d (ns.map V.int) ∧ ns.Perm (rangeI rows.length) := by
        match i, hy with
        | 0, hy => exact ⟨a, ps, (Option.some.inj hy).symm, ha, pm⟩
        | 1, hy => exact ⟨b, ts, (Option.some.inj hy).symm, hb, tm⟩
        | n + 2, hy => cases hy
      refine ⟨_, rfl, tp, C, dx, _, _, rfl, s12 _ _ hp, tc.cl, tc.nS, tf_size _ _, _, rfl, rows.length, d, ns, rfl, sqT_same s12 hd, nm, by omega, fun H3 s3 => ⟨_, rfl, ?_⟩⟩
      exact ⟨⟨_, _, _, _, _, rfl⟩, s2.trans s3⟩
    · rintro σ' H2 ⟨⟨x3, x4, x5, x6, x7, rfl⟩, s2⟩
      have s12 := s1.trans s2
      refine ⟨by show 0 ≤ sizeLine; decide, fun e he => ?_⟩
      have s3 := same_new (o := .tup []) he
      refine ⟨by show 1 ≤ sizeLine; decide, fun l hl => ?_⟩
      have s4 := same_new (o := .lst [V.ref e]) hl
      have s14 := (s12.trans s3).trans s4
      refine ⟨_, rfl, tp, C, dx, _, _, rfl, s14 _ _ hp, tc.cl, tc.nS, tf_size _ _, ?_⟩
      refine ⟨l, _, _, rfl, rfl, upd_same, by omega, by omega, by show 1 * _ ≤ sizeLine; exact Nat.le_of_lt (small_lt (by omega)), fun M hM => ?_⟩
      have M0 := s14.free hM
      have s5 := same_new (o := .lst (List.replicate ((rows.length : Nat) : Int).toNat [V.ref e]).flatten) hM
      have r0 := rep_rows (K := K) (sqT_same (s4.trans s5) (SqT.of upd_same)) ((rows.length : Nat) : Int).toNat
      rw [Int.toNat_natCast] at s5 r0 ⊢
      have nts : ts.length = rows.length := by rw [tm.length_eq, rangeI_len, Int.toNat_natCast]
      obtain ⟨ra, rvs, rfl, hra, hrt⟩ := id hR
      have rvl := hrt.len
      refine ⟨_, rfl, tp, C, dx, _, _, rfl, s5 _ _ (s14 _ _ hp), tc.cl, tc.nR, tf_rows _ _, ra, rvs, rfl, sqT_same (s14.trans s5) hra, for_enumT (xs := rvs) (fun i σ' H' => ∃ x3 x5 x6 x7 vs R, σ' = [some (.ref tp), some (.ref a), some (.ref b), x3, some (.ref M), x5, x6, x7] ∧ H' M = some (.lst vs) ∧ RowsT K H' vs R ∧ RenTo ps ts rows i R ∧ Same H H') ⟨_, _, _, _, _, _, rfl, upd_same, r0, ⟨List.length_replicate, fun p q hp => absurd hp (Nat.not_lt_zero _)⟩, s14.trans s5⟩ (fun i σ' H' _ hp => by obtain ⟨_, _, _, _, _, _, _, _, _, _, s⟩ := hp; exact sqT_same s hra) ?_ ?_⟩
      · rintro i y σ' H6 T' hy ⟨x3', x5', x6', x7', vs, R, rfl, h6, hv, I, s6⟩ hT
        have il : i < rows.length := by have := (List.getElem?_eq_some_iff.mp hy).1; omega
        have hri := List.getElem?_eq_getElem il
        obtain ⟨rb, hb1, hb2⟩ := hrt.get hri
        rw [hy] at hb1
        have ey : y = .ref rb := Option.some.inj hb1
        subst ey
        have s7 := same_new (o := .tup [.int (i : Nat), V.ref rb]) hT
        have erow : Mt.row rows i = rows[i] := Mt.row_get hri
        rw [← erow] at hb2
        obtain ⟨r, er⟩ : ∃ r, r = Mt.row rows i := ⟨_, rfl⟩
        rw [← er] at hb2
        have rl : r.length ≤ 100 := by
          rw [er, erow]
          exact Nat.le_trans (G.row_len _ (List.getElem_mem il)) hn
        have s67 := s6.trans s7
        refine ⟨T', _, rfl, SqT.of upd_same, rfl, _, _, rfl, _, _, rfl, rfl, ?_⟩
        refine ⟨_, rfl, rb, rfl, ⟨_, sqT_same s67 hb2⟩, fun D hD => ?_⟩
        refine lc_tup (xs := r.map V.int) (fun j H' => H' D = some (.lst ((newL ts (r.take j)).map V.int)) ∧ Same (upd H6 T' (.tup [.int (i : Nat), V.ref rb])) H') ⟨upd_same, same_new hD⟩ (fun j H' _ hp => sqT_same (s67.trans hp.2) hb2) ?_ ?_
        · rintro j z H8 hz ⟨h8, s8⟩
          obtain ⟨t, ht, rfl⟩ : ∃ t, r[j]? = some t ∧ z = V.int t := by
            rw [List.getElem?_map] at hz
            cases e : r[j]? with
            | none => rw [e] at hz; cases hz
            | some u => rw [e] at hz; exact ⟨u, rfl, (Option.some.inj hz).symm⟩
          have htm : t ∈ Mt.row rows i := by rw [← er]; exact List.mem_of_getElem? ht
          have tr := G.row_rng htm
          obtain ⟨u, hu, _⟩ := perm_get tm tr.1 tr.2
          refine ⟨rfl, _, rfl, _, rfl, b, _, t, V.int u, rfl, rfl, sqT_same (s67.trans s8) hb, at_of (j := t.toNat) (by omega) (by rw [List.getElem?_map, hu]; rfl), _, h8, small_lt (by unfold newL; rw [List.length_map, List.length_map, List.length_take]; omega), ?_, same_mut s8 hD⟩
          rw [upd_same, List.take_add_one, ht]
          unfold newL
          rw [List.map_append, List.map_append]
          show some (HO.lst (_ ++ [V.int u])) = some (HO.lst (_ ++ [V.int ((ts[t.toNat]?).getD 0)]))
          rw [hu]
          rfl
        · rintro H8 ⟨h8, s8⟩
          rw [List.length_map, List.take_length, er] at h8
          have s8' := s67.trans s8
          obtain ⟨q, hq, q0, q1⟩ := perm_get pm (i := (i : Int)) (by omega) (by omega)
          rw [Int.toNat_natCast] at hq
          refine ⟨D, newL ts (Mt.row rows i), rfl, SqL.of h8, fun ks p pmk srt hp9 => ?_⟩
          have s9 := same_new (o := .lst (ks.map V.int)) hp9
          refine ⟨p, _, rfl, .inl ⟨SqL.of upd_same, fun z hz => ?_⟩⟩
          have s10 := same_new (o := .tup (ks.map V.int)) hz
          have sA := (s8'.trans s9).trans s10
          have hA := ((s7.trans s8).trans s9).trans s10
          have hvA := hv.same hA
          have hMA := hA _ _ h6
          have vl := hv.len
          refine ⟨_, rfl, _, rfl, _, rfl, a, _, (i : Int), V.int q, rfl, rfl, sqT_same sA ha, atI_nat (by rw [List.getElem?_map, hq]; rfl), M, vs, q, q.toNat, rfl, rfl, hMA, by have := ixN_at (n := vs.length) (q := q.toNat) (by rw [vl, I.len]; omega); rwa [Int.toNat_of_nonneg q0] at this, ?_⟩
          refine ⟨_, _, _, _, _, _, rfl, upd_same, ?_, I.step G pm tm hq pmk srt, same_mut sA M0⟩
          exact (RowsT.set (SqT.of upd_same) _ hvA).put hMA
      · rintro σ' H6 ⟨x3', x5', x6', x7', vs, R, rfl, h6, hv, I, s6⟩
        rw [rvl] at I
        refine ⟨_, rfl, M, vs, rfl, .inl ⟨SqL.of h6, fun z hz => ?_⟩⟩
        have s7 := same_new (o := .tup vs) hz
        refine ⟨.ref z, R, rfl, ⟨z, vs, rfl, SqT.of upd_same, hv.same s7⟩, fun p H8 s8 f8 t8 => ?_⟩
        exact k p R H8 ((s6.trans s7).trans s8) ((s6.trans s7).free f8) t8 (I.done G pm tm)
end
end Fo
set_option maxRecDepth 100000
set_option maxHeartbeats 4000000
set_option maxRecDepth 100000
set_option maxHeartbeats 4000000
namespace Fo
open PySem PySem.Spec PyProof.Rows L2
def getI (l : List Int) (i : Int) : Int := (l[i.toNat]?).getD 0
theorem getI_of {l : List Int} {i x : Int} (h : l[i.toNat]? = some x) : getI l i = x := by unfold getI; rw [h]; rfl
/-- one numbering undoes the other -/
structure Undo (n : Nat) (ps ops : List Int) : Prop where
  pm : ps.Perm (rangeI n)
  qm : ops.Perm (rangeI n)
  on : ∀ p q : Int, 0 ≤ p → 0 ≤ q → (ps[p.toNat]? = some q ↔ ops[q.toNat]? = some p)
theorem Undo.symm {n : Nat} {ps ops : List Int} (h : Undo n ps ops) : Undo n ops ps := ⟨h.qm, h.pm, fun p q hp hq => (h.on q p hq hp).symm⟩
theorem perm_getI {b : Nat} {ns : List Int} (pm : ns.Perm (rangeI b)) {i : Int} (h0 : 0 ≤ i) (h1 : i < b) : ns[i.toNat]? = some (getI ns i) ∧ 0 ≤ getI ns i ∧ getI ns i < b := by
  obtain ⟨q, e, h⟩ := perm_get pm h0 h1
  rw [getI_of e]
  exact ⟨e, h⟩
theorem row_asc {R : List (List Int)} (G : Good R) (p : Nat) : (Mt.row R p).Pairwise (· < ·) := by
  unfold Mt.row
  cases e : R[p]? with
  | none => exact .nil
  | some r => exact G.asc r (List.mem_of_getElem? e)
theorem tie_iff : ∀ (k : Int) (rows : List (List Int)) (z : List Int), z ∈ tieFrom k rows ↔ ∃ (p : Nat) (t : Int), z = [k + (p : Int), t] ∧ t ∈ Mt.row rows p
  | k, [], z => by
    constructor
    · intro h
      cases h
    · rintro ⟨p, t, _, h⟩
      unfold Mt.row at h
      rw [List.getElem?_nil] at h
      cases h
  | k, r :: rs, z => by
    show z ∈ (r.map fun x => [k, x]) ++ tieFrom (k + 1) rs ↔ _
    rw [List.mem_append, tie_iff (k + 1) rs z]
    constructor
    · rintro (h | ⟨p, t, e, h⟩)
      · obtain ⟨y, hy, e⟩ := List.mem_map.mp h
        exact ⟨0, y, by rw [← e]; show [k, y] = [k + ((0 : Nat) : Int), y]; rw [show k + ((0 : Nat) : Int) = k by omega], hy⟩
      · exact ⟨p + 1, t, by rw [e, show k + 1 + (p : Int) = k + ((p + 1 : Nat) : Int) by omega], h⟩
    · rintro ⟨p, t, e, h⟩
      cases p with
      | zero => exact .inl (List.mem_map.mpr ⟨t, h, by rw [e, show k + ((0 : Nat) : Int) = k by omega]⟩)
      | succ p => exact .inr ⟨p, t, by rw [e, show k + 1 + (p : Int) = k + ((p + 1 : Nat) : Int) by omega], h⟩
theorem pair_lt {a b c d : Int} (h : a < c ∨ (a = c ∧ b < d)) : [a, b] < [c, d] := by
  rcases h with h | ⟨rfl, h⟩
  · exact List.cons_lt_cons_iff.mpr (.inl h)
  · exact List.cons_lt_cons_iff.mpr (.inr ⟨rfl, List.cons_lt_cons_iff.mpr (.inl h)⟩)
theorem tie_lt : ∀ (k : Int) (rows : List (List Int)), (∀ r ∈ rows, r.Pairwise (· < ·)) → (tieFrom k rows).Pairwise (· < ·)
  | _, [], _ => .nil
  | k, r :: rs, h => by
    show ((r.map fun x => [k, x]) ++ tieFrom (k + 1) rs).Pairwise (· < ·)
    rw [List.pairwise_append]
    refine ⟨?_, tie_lt (k + 1) rs fun q hq => h q (List.mem_cons_of_mem _ hq), fun x hx y hy => ?_⟩
    · rw [List.pairwise_map]
      exact (h r List.mem_cons_self).imp fun z => pair_lt (.inr ⟨rfl, z⟩)
    · obtain ⟨t, _, rfl⟩ := List.mem_map.mp hx
      obtain ⟨p, u, rfl, _⟩ := (tie_iff _ _ _).mp hy
      exact pair_lt (.inl (by omega))
/-- what is sorted is what is in order and has the same -/
theorem sort_eq {A B os : List (List Int)} (a : A.Pairwise (· < ·)) (pm : os.Perm B) (srt : os.Pairwise (· ≤ ·)) (nb : B.Nodup) (h : ∀ z, z ∈ A ↔ z ∈ B) : A = os := by
  have na : A.Nodup := a.imp fun h z => by rw [z] at h; exact List.lt_irrefl _ h
  exact (((List.perm_ext_iff_of_nodup na nb).mpr h).trans pm.symm).eq_of_pairwise (fun x y _ _ h1 h2 => List.le_antisymm h1 h2) (a.imp fun h => List.le_of_lt h) srt
def pairP (ps ts : List Int) (z : List Int) : List Int := [getI ps (z.headD 0), getI ts ((z.tail).headD 0)]
theorem nd_lt {A : List (List Int)} (a : A.Pairwise (· < ·)) : A.Nodup := a.imp fun h z => by rw [z] at h; exact List.lt_irrefl _ h
/-- the numbering that undoes another -/
def invL (n : Nat) (ps : List Int) : List Int := (List.range n).map fun (q : Nat) => ((ps.idxOf (q : Int) : Nat) : Int)
theorem inv_invL {n : Nat} {ps : List Int} (pm : ps.Perm (rangeI n)) : Undo n ps (invL n ps) := by
  have nl : ps.length = n := by rw [pm.length_eq, rangeI_len, Int.toNat_natCast]
  have nd : ps.Nodup := pm.symm.nodup (rangeI_nodup _)
  have ig : ∀ q : Nat, q < n → (invL n ps)[q]? = some ((ps.idxOf (q : Int) : Nat) : Int) := fun q hq => by
    unfold invL
    rw [List.getElem?_map, List.getElem?_range hq]
    rfl
  have ix : ∀ q : Nat, q < n → ps.idxOf (q : Int) < n ∧ ps[ps.idxOf (q : Int)]? = some (q : Int) := fun q hq => by
    have hm : (q : Int) ∈ ps := pm.mem_iff.mpr (mem_rangeI.mpr ⟨by omega, by omega⟩)
    have hl := List.idxOf_lt_length_iff.mpr hm
    exact ⟨by omega, by rw [List.getElem?_eq_getElem hl, List.getElem_idxOf hl]⟩
  have onn : ∀ p q : Int, 0 ≤ p → 0 ≤ q → (ps[p.toNat]? = some q ↔ (invL n ps)[q.toNat]? = some p) := fun p q hp hq => by
    constructor
    · intro h
      have qr := mem_rangeI.mp (pm.mem_iff.mp (List.mem_of_getElem? h))
      rw [ig q.toNat (by omega), Int.toNat_of_nonneg hq]
      obtain ⟨i1, i2⟩ := ix q.toNat (by omega)
      rw [Int.toNat_of_nonneg hq] at i1 i2
      have := (List.getElem?_inj (by rw [nl]; exact i1) nd).mp (i2.trans h.symm)
      rw [this, Int.toNat_of_nonneg hp]
    · intro h
      have ql : q.toNat < n := by
        have := (List.getElem?_eq_some_iff.mp h).1
        unfold invL at this
        rw [List.length_map, List.length_range] at this
        exact this
      rw [ig q.toNat ql, Int.toNat_of_nonneg hq] at h
      obtain ⟨i1, i2⟩ := ix q.toNat ql
      rw [Int.toNat_of_nonneg hq] at i1 i2
      rw [← Option.some.inj h, Int.toNat_natCast]
      exact i2
  have inl : (invL n ps).length = n := by unfold invL; rw [List.length_map, List.length_range]
  have ind : (invL n ps).Nodup := by
    unfold invL
    refine Mt.nodup_map List.nodup_range fun a ha b hb e => ?_
    obtain ⟨_, a2⟩ := ix a (List.mem_range.mp ha)
    obtain ⟨_, b2⟩ := ix b (List.mem_range.mp hb)
    have e : ps.idxOf (a : Int) = ps.idxOf (b : Int) := by
      have e : ((ps.idxOf (a : Int) : Nat) : Int) = ((ps.idxOf (b : Int) : Nat) : Int) := e
      omega
    rw [e, b2] at a2
    have := Option.some.inj a2
    omega
  have sub : ∀ x ∈ invL n ps, x ∈ rangeI n := fun x hx => by
    unfold invL at hx
    obtain ⟨q, hq, rfl⟩ := List.mem_map.mp hx
    have := (ix q (List.mem_range.mp hq)).1
    exact mem_rangeI.mpr ⟨by omega, by omega⟩
  refine ⟨pm, (List.perm_ext_iff_of_nodup ind (rangeI_nodup _)).mpr fun x => ⟨sub x, fun hx => ?_⟩, onn⟩
  exact Mt.all_in ind sub (by rw [rangeI_len, Int.toNat_natCast, inl]; exact Nat.le_refl _) x hx
end Fo
set_option maxRecDepth 100000
set_option maxHeartbeats 4000000
namespace Fo
open PySem PySem.Spec PyProof.Rows L2
section
variable {rows R : List (List Int)} {ps ts ops ots : List Int}
theorem ren_ds (G : Good rows) (I : Undo rows.length ps ops) (tm : ts.Perm (rangeI rows.length)) (h : Ren ps ts rows R) {D : List Int} (d : Mt.Ds rows D) : Mt.Ds R ((List.range rows.length).map fun (q : Nat) => getI ts (getI D (getI ops q))) := by
  have fg : ∀ (q : Nat), q < rows.length → ((List.range rows.length).map fun (q : Nat) => getI ts (getI D (getI ops q)))[q]? = some (getI ts (getI D (getI ops q))) := fun q hq => by
    rw [List.getElem?_map, List.getElem?_range hq]
    rfl
  have dg : ∀ p : Int, 0 ≤ p → p < rows.length → D[p.toNat]? = some (getI D p) ∧ getI D p ∈ Mt.row rows p.toNat := fun p p0 p1 => by
    obtain ⟨t, e, m⟩ := d.get (p := p.toNat) (by omega)
    rw [getI_of e]
    exact ⟨e, m⟩
  refine ⟨?_, fun q t e => ?_, ?_⟩
  · rw [List.length_map, List.length_range, h.len]
  · have hq : q < rows.length := by
      have := (List.getElem?_eq_some_iff.mp e).1
      rw [List.length_map, List.length_range] at this
      exact this
    rw [fg q hq] at e
    rw [← Option.some.inj e]
    obtain ⟨o1, o2, o3⟩ := perm_getI I.qm (i := (q : Int)) (by omega) (by omega)
    obtain ⟨d1, d2⟩ := dg _ o2 o3
    have pe := (I.on _ (q : Int) o2 (by omega)).mpr o1
    have rg := G.row_rng d2
    have := (h.mem _ (q : Int) (getI ts (getI D (getI ops q))) pe).mpr ⟨_, d2, (perm_getI tm rg.1 rg.2).1⟩
    rwa [Int.toNat_natCast] at this
  · refine Mt.nodup_map List.nodup_range fun a ha b hb e => ?_
    have la := List.mem_range.mp ha
    have lb := List.mem_range.mp hb
    obtain ⟨o1, o2, o3⟩ := perm_getI I.qm (i := (a : Int)) (by omega) (by omega)
    obtain ⟨u1, u2, u3⟩ := perm_getI I.qm (i := (b : Int)) (by omega) (by omega)
    obtain ⟨d1, d2⟩ := dg _ o2 o3
    obtain ⟨e1, e2⟩ := dg _ u2 u3
    have r1 := G.row_rng d2
    have r2 := G.row_rng e2
    have t1 := (perm_getI tm r1.1 r1.2).1
    have t2 := (perm_getI tm r2.1 r2.2).1
    have e : getI ts (getI D (getI ops a)) = getI ts (getI D (getI ops b)) := e
    rw [e] at t1
    have eD := perm_inj tm r1.1 r2.1 t1 t2
    rw [eD] at d1
    have := (List.getElem?_inj (List.getElem?_eq_some_iff.mp d1).1 d.nd).mp (d1.trans e1.symm)
    have eo : getI ops a = getI ops b := by omega
    rw [eo] at o1
    have := perm_inj I.qm (by omega) (by omega) o1 u1
    omega
/-- the new number of a person -/
def nP (ps : List Int) (p : Nat) : Nat := (getI ps (p : Int)).toNat
theorem nP_at {n : Nat} (pm : ps.Perm (rangeI n)) {p : Nat} (hp : p < n) : ps[p]? = some ((nP ps p : Nat) : Int) ∧ nP ps p < n := by
  obtain ⟨h1, h2, h3⟩ := perm_getI pm (i := (p : Int)) (by omega) (by omega)
  unfold nP
  rw [Int.toNat_natCast] at h1
  rw [Int.toNat_of_nonneg h2]
  exact ⟨h1, by omega⟩
theorem nP_inj {n : Nat} (pm : ps.Perm (rangeI n)) {p q : Nat} (hp : p < n) (hq : q < n) (e : nP ps p = nP ps q) : p = q := by
  have a := (nP_at pm hp).1
  have b := (nP_at pm hq).1
  rw [e] at a
  have := perm_inj pm (i := (p : Int)) (j := (q : Int)) (by omega) (by omega) (by rw [Int.toNat_natCast]; exact a) (by rw [Int.toNat_natCast]; exact b)
  omega
theorem nP_on {n : Nat} (pm : ps.Perm (rangeI n)) {q : Nat} (hq : q < n) : ∃ p, p < n ∧ nP ps p = q := by
  obtain ⟨i, hi, e⟩ := perm_onto pm (q := (q : Int)) (by omega) (by omega)
  refine ⟨i, hi, ?_⟩
  have := (nP_at pm hi).1
  rw [e] at this
  have := Option.some.inj this
  omega
theorem Ren.inv (I : Undo rows.length ps ops) (J : Undo rows.length ts ots) (G : Good rows) (h : Ren ps ts rows R) : Ren ops ots R rows where
  len := h.len.symm
  good := G
  mem := fun q p x e => by
    have ql : q < rows.length := by
      have := (List.getElem?_eq_some_iff.mp e).1
      have := I.qm.length_eq
      rw [rangeI_len, Int.toNat_natCast] at this
      omega
    have pr := mem_rangeI.mp (I.qm.mem_iff.mp (List.mem_of_getElem? e))
    have pq : ps[p.toNat]? = some (q : Int) := (I.on p (q : Int) pr.1 (by omega)).mpr (by rw [Int.toNat_natCast]; exact e)
    have hm := fun y => h.mem p.toNat (q : Int) y pq
    rw [Int.toNat_natCast] at hm
    constructor
    · intro hx
      have xr := G.row_rng hx
      obtain ⟨t1, t2, t3⟩ := perm_getI J.pm xr.1 xr.2
      exact ⟨getI ts x, (hm _).mpr ⟨x, hx, t1⟩, (J.on x _ xr.1 t2).mp t1⟩
    · rintro ⟨t, ht, et⟩
      obtain ⟨t', ht', e'⟩ := (hm t).mp ht
      have tr := h.good.row_rng ht
      rw [h.len] at tr
      have tr' := G.row_rng ht'
      have a := (J.on t' t tr'.1 tr.1).mp e'
      rw [et] at a
      rw [Option.some.inj a]
      exact ht'
theorem ren_live1 (G : Good rows) (I : Undo rows.length ps ops) (tm : ts.Perm (rangeI rows.length)) (h : Ren ps ts rows R) {p : Nat} {t : Int} (l : Mt.Live rows p t) : Mt.Live R (nP ps p) (getI ts t) := by
  obtain ⟨D, d, e⟩ := l
  have pl : p < rows.length := by
    have := (List.getElem?_eq_some_iff.mp e).1
    rw [d.len] at this
    exact this
  refine ⟨_, ren_ds G I tm h d, ?_⟩
  obtain ⟨p1, p2⟩ := nP_at I.pm pl
  rw [List.getElem?_map, List.getElem?_range p2]
  have o := (I.on (p : Int) ((nP ps p : Nat) : Int) (by omega) (by omega)).mp (by rw [Int.toNat_natCast]; exact p1)
  show some (getI ts (getI D (getI ops ((nP ps p : Nat) : Int)))) = _
  rw [getI_of o, getI_of (l := D) (i := (p : Int)) (by rw [Int.toNat_natCast]; exact e)]
structure RenW (rows R : List (List Int)) (ps ts ops ots : List Int) : Prop where
  G : Good rows
  I : Undo rows.length ps ops
  J : Undo rows.length ts ots
  h : Ren ps ts rows R
theorem RenW.live (r : RenW rows R ps ts ops ots) {p : Nat} (hp : p < rows.length) {x : Int} : x ∈ Mt.row (Mt.liveR R) (nP ps p) ↔ ∃ t ∈ Mt.row (Mt.liveR rows) p, x = getI ts t := by
  rw [Mt.mem_liveR]
  constructor
  · intro l
    have I2 : Undo R.length ops ps := by rw [r.h.len]; exact r.I.symm
    have l2 := ren_live1 (ps := ops) (ts := ots) (ops := ps) r.h.good I2 (by rw [r.h.len]; exact r.J.qm) (r.h.inv r.I r.J r.G) l
    obtain ⟨p1, p2⟩ := nP_at r.I.pm hp
    have o := (r.I.on (p : Int) ((nP ps p : Nat) : Int) (by omega) (by omega)).mp (by rw [Int.toNat_natCast]; exact p1)
    have eo : nP ops (nP ps p) = p := by
      unfold nP
      rw [show ((getI ps (p : Int)).toNat : Int) = ((nP ps p : Nat) : Int) from rfl, getI_of o]
      exact Int.toNat_natCast p
    rw [eo] at l2
    refine ⟨_, Mt.mem_liveR.mpr l2, ?_⟩
    obtain ⟨D, d, e⟩ := l
    have xr := r.h.good.row_rng (d.tie _ _ e)
    rw [r.h.len] at xr
    obtain ⟨x1, x2, x3⟩ := perm_getI r.J.qm xr.1 xr.2
    exact (getI_of ((r.J.on _ x x2 xr.1).mpr x1)).symm
  · rintro ⟨t, ht, rfl⟩
    exact ren_live1 r.G r.I r.J.pm r.h (Mt.mem_liveR.mp ht)
theorem RenW.inj (r : RenW rows R ps ts ops ots) {p q : Nat} {t u : Int} (ht : t ∈ Mt.row (Mt.liveR rows) p) (hu : u ∈ Mt.row (Mt.liveR rows) q) (e : getI ts t = getI ts u) : t = u := by
  have go : ∀ {p : Nat} {t : Int}, t ∈ Mt.row (Mt.liveR rows) p → 0 ≤ t ∧ t < (rows.length : Int) := fun {p t} h => by
    obtain ⟨D, d, e⟩ := Mt.mem_liveR.mp h
    exact r.G.row_rng (d.tie _ _ e)
  have a := go ht
  have b := go hu
  have x := (perm_getI r.J.pm a.1 a.2).1
  rw [e] at x
  exact perm_inj r.J.pm a.1 b.1 x (perm_getI r.J.pm b.1 b.2).1
theorem RenW.tied (r : RenW rows R ps ts ops ots) {p q : Nat} (hp : p < rows.length) (hq : q < rows.length) : Mt.Tied (Mt.liveR R) (nP ps p) (nP ps q) ↔ Mt.Tied (Mt.liveR rows) p q := by
  constructor
  · rintro ⟨x, h1, h2⟩
    obtain ⟨t, a, e⟩ := (r.live hp).mp h1
    obtain ⟨u, b, e2⟩ := (r.live hq).mp h2
    have := r.inj a b (e.symm.trans e2)
    subst this
    exact ⟨t, a, b⟩
  · rintro ⟨t, a, b⟩
    exact ⟨getI ts t, (r.live hp).mpr ⟨t, a, rfl⟩, (r.live hq).mpr ⟨t, b, rfl⟩⟩
theorem live_lt {p : Nat} {t : Int} (h : t ∈ Mt.row (Mt.liveR rows) p) : p < rows.length := by
  have := Mt.row_lt h
  rwa [Mt.liveR_len] at this
theorem RenW.conn (r : RenW rows R ps ts ops ots) {p q : Nat} (hp : p < rows.length) (h : Mt.Conn (Mt.liveR rows) p q) : Mt.Conn (Mt.liveR R) (nP ps p) (nP ps q) ∧ q < rows.length := by
  induction h with
  | refl => exact ⟨.refl, hp⟩
  | step _ ht ih =>
    obtain ⟨t, a, b⟩ := id ht
    exact ⟨.step ih.1 ((r.tied (live_lt a) (live_lt b)).mpr ht), live_lt b⟩
/-- a lot of people under their new numbers -/
def sG (n : Nat) (ps : List Int) (g : List Nat) : List Nat := (List.range n).filter fun q => decide (q ∈ g.map (nP ps))
theorem sG_asc {n : Nat} {g : List Nat} : (sG n ps g).Pairwise (· < ·) := List.Pairwise.filter _ List.pairwise_lt_range
theorem mem_sG {n : Nat} (pm : ps.Perm (rangeI n)) {g : List Nat} (hg : ∀ p ∈ g, p < n) {q : Nat} : q ∈ sG n ps g ↔ ∃ p ∈ g, q = nP ps p := by
  unfold sG
  rw [List.mem_filter, decide_eq_true_iff, List.mem_map]
  constructor
  · rintro ⟨_, p, hp, rfl⟩
    exact ⟨p, hp, rfl⟩
  · rintro ⟨p, hp, rfl⟩
    exact ⟨List.mem_range.mpr (nP_at pm (hg p hp)).2, p, hp, rfl⟩
theorem sG_perm {n : Nat} (pm : ps.Perm (rangeI n)) {g : List Nat} (hg : ∀ p ∈ g, p < n) (nd : g.Nodup) : (sG n ps g).Perm (g.map (nP ps)) :=
  (List.perm_ext_iff_of_nodup (sG_asc.imp fun h => by omega) (Mt.nodup_map nd fun a ha b hb e => nP_inj pm (hg a ha) (hg b hb) e)).mpr fun q => by
    rw [mem_sG pm hg, List.mem_map]
    exact ⟨fun ⟨p, hp, e⟩ => ⟨p, hp, e.symm⟩, fun ⟨p, hp, e⟩ => ⟨p, hp, e.symm⟩⟩
theorem flat_perm {α β : Type} {a b : α → List β} : ∀ {F : List α}, (∀ g ∈ F, (a g).Perm (b g)) → (F.map a).flatten.Perm (F.map b).flatten
  | [], _ => .refl _
  | g :: F, h => by
    rw [List.map_cons, List.map_cons, List.flatten_cons, List.flatten_cons]
    exact (h g List.mem_cons_self).append (flat_perm fun x hx => h x (List.mem_cons_of_mem _ hx))
theorem RenW.groups (r : RenW rows R ps ts ops ots) {F : List (List Nat)} (h : Mt.Groups (Mt.liveR rows) F) : Mt.Groups (Mt.liveR R) (F.map (sG rows.length ps)) := by
  have lt : ∀ g ∈ F, ∀ p ∈ g, p < rows.length := fun g hg p hp => by
    have := h.lt hg hp
    rwa [Mt.liveR_len] at this
  refine ⟨fun g hg => ?_, ?_, fun g hg e => ?_, ?_, fun g hg p hp q hq => ?_⟩
  · obtain ⟨c, _, rfl⟩ := List.mem_map.mp hg
    exact sG_asc
  · refine (flat_perm (b := fun g => g.map (nP ps)) fun g hg => sG_perm r.I.pm (lt g hg) (h.nd hg)).trans ?_
    rw [← List.map_flatten]
    refine (h.perm.map _).trans ?_
    rw [Mt.liveR_len, Mt.liveR_len, r.h.len]
    refine (List.perm_ext_iff_of_nodup (Mt.nodup_map List.nodup_range fun a ha b hb e => nP_inj r.I.pm (List.mem_range.mp ha) (List.mem_range.mp hb) e) List.nodup_range).mpr fun q => ?_
    rw [List.mem_map, List.mem_range]
    constructor
    · rintro ⟨p, hp, rfl⟩
      exact (nP_at r.I.pm (List.mem_range.mp hp)).2
    · intro hq
      obtain ⟨p, hp, e⟩ := nP_on r.I.pm hq
      exact ⟨p, List.mem_range.mpr hp, e⟩
  · obtain ⟨c, hc, rfl⟩ := List.mem_map.mp hg
    obtain ⟨p, hp⟩ := List.exists_mem_of_ne_nil c (h.ne c hc)
    have := (mem_sG r.I.pm (lt c hc) (q := nP ps p)).mpr ⟨p, hp, rfl⟩
    rw [e] at this
    cases this
  · refine List.pairwise_map.mpr ((List.Pairwise.and_mem.mp h.apart).imp fun {a b} ⟨ha, hb, hab⟩ p hp q hq ht => ?_)
    obtain ⟨p', hp', rfl⟩ := (mem_sG r.I.pm (lt a ha)).mp hp
    obtain ⟨q', hq', rfl⟩ := (mem_sG r.I.pm (lt b hb)).mp hq
    exact hab p' hp' q' hq' ((r.tied (lt a ha p' hp') (lt b hb q' hq')).mp ht)
  · obtain ⟨c, hc, rfl⟩ := List.mem_map.mp hg
    obtain ⟨p', hp', rfl⟩ := (mem_sG r.I.pm (lt c hc)).mp hp
    obtain ⟨q', hq', rfl⟩ := (mem_sG r.I.pm (lt c hc)).mp hq
    exact (r.conn (lt c hc p' hp') (h.conn c hc p' hp' q' hq')).1
theorem RenW.thg (r : RenW rows R ps ts ops ots) {g : List Nat} (hg : ∀ p ∈ g, p < rows.length) {x : Int} : x ∈ thgR R (sG rows.length ps g) ↔ ∃ t ∈ thgR rows g, x = getI ts t := by
  rw [mem_thgR r.h.good]
  constructor
  · rintro ⟨q, hq, hx⟩
    obtain ⟨p, hp, rfl⟩ := (mem_sG r.I.pm hg).mp hq
    obtain ⟨t, ht, e⟩ := (r.live (hg p hp)).mp hx
    exact ⟨t, (mem_thgR r.G).mpr ⟨p, hp, ht⟩, e⟩
  · rintro ⟨t, ht, rfl⟩
    obtain ⟨p, hp, h⟩ := (mem_thgR r.G).mp ht
    exact ⟨nP ps p, (mem_sG r.I.pm hg).mpr ⟨p, hp, rfl⟩, (r.live (hg p hp)).mpr ⟨t, h, rfl⟩⟩
theorem nd_liveX (G : Good rows) (p : Nat) : (Mt.row (Mt.liveR rows) p).Nodup := by
  rw [Mt.row_liveR]
  exact ((row_asc G p).imp fun h => by omega : (Mt.row rows p).Nodup).filter _
theorem RenW.row (r : RenW rows R ps ts ops ots) {p : Nat} (hp : p < rows.length) : (Mt.row (Mt.liveR R) (nP ps p)).Perm ((Mt.row (Mt.liveR rows) p).map (getI ts)) :=
  (List.perm_ext_iff_of_nodup (nd_liveX r.h.good _) (Mt.nodup_map (nd_liveX r.G p) fun a ha b hb e => r.inj ha hb e)).mpr fun x => by
    rw [r.live hp, List.mem_map]
    exact ⟨fun ⟨t, h, e⟩ => ⟨t, h, e.symm⟩, fun ⟨t, h, e⟩ => ⟨t, h, e.symm⟩⟩
theorem all_permB {α : Type} {f : α → Bool} {a b : List α} (h : a.Perm b) : a.all f = b.all f := by
  refine Bool.eq_iff_iff.mpr ?_
  rw [List.all_eq_true, List.all_eq_true]
  exact ⟨fun q x hx => q x (h.mem_iff.mpr hx), fun q x hx => q x (h.mem_iff.mp hx)⟩
theorem count_mapB {f : Int → Int} : ∀ {l : List Int} {x : Int}, (∀ y ∈ l, f y = f x → y = x) → (l.map f).count (f x) = l.count x
  | [], _, _ => rfl
  | y :: l, x, h => by
    rw [List.map_cons, List.count_cons, List.count_cons, count_mapB fun z hz => h z (List.mem_cons_of_mem _ hz)]
    congr 1
    by_cases c : y = x
    · subst c; simp
    · have c2 : ¬ f y = f x := fun e => c (h y List.mem_cons_self e)
      simp [c, c2]
theorem all_congrB {α : Type} {f g : α → Bool} {l : List α} (h : ∀ x ∈ l, f x = g x) : l.all f = l.all g := by
  refine Bool.eq_iff_iff.mpr ?_
  rw [List.all_eq_true, List.all_eq_true]
  exact ⟨fun q x hx => by rw [← h x hx]; exact q x hx, fun q x hx => by rw [h x hx]; exact q x hx⟩
theorem mem_given {L : List (List Int)} {g : List Nat} {t : Int} : t ∈ givenL L g ↔ ∃ p ∈ g, t ∈ Mt.row L p := by
  unfold givenL
  rw [List.mem_flatten]
  constructor
  · rintro ⟨l, hl, ht⟩
    obtain ⟨p, hp, rfl⟩ := List.mem_map.mp hl
    exact ⟨p, hp, ht⟩
  · rintro ⟨p, hp, ht⟩
    exact ⟨_, List.mem_map.mpr ⟨p, hp, rfl⟩, ht⟩
theorem RenW.kind (r : RenW rows R ps ts ops ots) {g : List Nat} (hg : ∀ p ∈ g, p < rows.length) (nd : g.Nodup) : kindS (Mt.liveR R) (sG rows.length ps g) = kindS (Mt.liveR rows) g := by
  have sp := sG_perm r.I.pm hg nd
  have rl : ∀ p ∈ g, (Mt.row (Mt.liveR R) (nP ps p)).length = (Mt.row (Mt.liveR rows) p).length := fun p hp => by rw [(r.row (hg p hp)).length_eq, List.length_map]
  have sl : (sG rows.length ps g).length = g.length := by rw [sp.length_eq, List.length_map]
  have e1 : fullG (Mt.liveR R) (sG rows.length ps g) = fullG (Mt.liveR rows) g := by
    unfold fullG
    rw [all_permB sp, List.all_map, sl]
    exact all_congrB fun p hp => by show decide _ = decide _; rw [rl p hp]
  have e2 : (givenL (Mt.liveR R) (sG rows.length ps g)).Perm ((givenL (Mt.liveR rows) g).map (getI ts)) := by
    unfold givenL
    refine ((sp.map _).flatten).trans ?_
    rw [List.map_map, List.map_flatten, List.map_map]
    exact flat_perm fun p hp => r.row (hg p hp)
  have e3 : ringB (Mt.liveR R) (sG rows.length ps g) = ringB (Mt.liveR rows) g := by
    unfold ringB
    congr 1
    · rw [all_permB sp, List.all_map]
      exact all_congrB fun p hp => by show decide _ = decide _; rw [rl p hp]
    · rw [all_permB e2, List.all_map]
      refine all_congrB fun t ht => ?_
      obtain ⟨p, _, hp⟩ := mem_given.mp ht
      show decide (_ = 2) = decide (_ = 2)
      rw [e2.count_eq, count_mapB fun y hy e => ?_]
      obtain ⟨q, _, hq⟩ := mem_given.mp hy
      exact r.inj hq hp e
  unfold kindS
  rw [e1, e3]
/-- what the program lists is what was carried over -/
theorem groups_perm {L : List (List Int)} {F F' : List (List Nat)} (h : Mt.Groups L F) (h' : Mt.Groups L F') : F'.Perm F :=
  (List.perm_ext_iff_of_nodup h'.nodup h.nodup).mpr fun g => ⟨fun hg => h'.has h hg, fun hg => h.has h' hg⟩
end
end Fo
set_option maxRecDepth 100000
set_option maxHeartbeats 1000000
set_option maxRecDepth 100000
set_option maxHeartbeats 4000000
set_option maxRecDepth 100000
set_option maxHeartbeats 4000000
namespace Fo
open PySem PySem.Spec PyProof.Rows L2
def prI (q : Nat × Int) : List Int := [(q.1 : Int), q.2]
def prK (q : Nat × Int) : List Key := [.inl (q.1 : Int), .inl q.2]
theorem prK_inj {a b : Nat × Int} (h : prK a = prK b) : a = b := by
  unfold prK at h
  injection h with h1 h2
  injection h2 with h2 _
  injection h1 with h1
  injection h2 with h2
  obtain ⟨a1, a2⟩ := a
  obtain ⟨b1, b2⟩ := b
  have e1 : a1 = b1 := by
    have : (a1 : Int) = (b1 : Int) := h1
    omega
  have e2 : a2 = b2 := h2
  rw [e1, e2]
def PD (kvs : List (List Key × V)) (ps : List (Nat × Int)) : Prop := kvs.map (fun kv => kv.1) = ps.map prK
theorem PD.len {kvs : List (List Key × V)} {ps : List (Nat × Int)} (h : PD kvs ps) : kvs.length = ps.length := by
  have := congrArg List.length h
  rwa [List.length_map, List.length_map] at this
theorem PD.put {kvs : List (List Key × V)} {ps : List (Nat × Int)} (h : PD kvs ps) (q : Nat × Int) (v : V) : ∃ ps', PD (putK kvs (prK q) v) ps' ∧ ps'.length ≤ ps.length + 1 ∧ (ps.Nodup → ps'.Nodup) ∧ ∀ z, z ∈ ps' ↔ z ∈ ps ∨ z = q := by
  unfold putK
  by_cases e0 : (kvs.any fun kv => decide (kv.1 = prK q)) = true
  · rw [if_pos e0]
    refine ⟨ps, ?_, by omega, id, fun z => ⟨.inl, fun y => y.elim id fun y => ?_⟩⟩
    · unfold PD
      rw [List.map_map, ← h]
      refine List.map_congr_left fun kv _ => ?_
      show (if kv.1 = prK q then (kv.1, v) else kv).1 = kv.1
      by_cases c : kv.1 = prK q
      · rw [if_pos c]
      · rw [if_neg c]
    · subst y
      obtain ⟨kv, hkv, he⟩ := List.any_eq_true.mp e0
      have hm : prK z ∈ ps.map prK := by
        rw [← h, ← of_decide_eq_true he]
        exact List.mem_map.mpr ⟨kv, hkv, rfl⟩
      obtain ⟨y, hy, ey⟩ := List.mem_map.mp hm
      exact prK_inj ey ▸ hy
  · rw [if_neg e0]
    refine ⟨ps ++ [q], ?_, by rw [List.length_append]; exact Nat.le_refl _, fun nd => ?_, fun z => by rw [List.mem_append, List.mem_singleton]⟩
    · unfold PD at h ⊢
      rw [List.map_append, List.map_append, h]
      rfl
    · refine List.nodup_append.mpr ⟨nd, List.nodup_cons.mpr ⟨fun z => (by cases z), List.nodup_nil⟩, fun x hx y hy e => e0 ?_⟩
      rw [List.mem_singleton.mp hy] at e
      subst e
      have hm : prK x ∈ kvs.map (fun kv => kv.1) := by rw [h]; exact List.mem_map.mpr ⟨x, hx, rfl⟩
      obtain ⟨kv, hkv, he⟩ := List.mem_map.mp hm
      exact List.any_eq_true.mpr ⟨kv, hkv, decide_eq_true he⟩
section
variable {P : Program} {w : World} {K : PySem.W.Frag} {mg : Str → Option Value} {base : Heap} {C : Addr}
theorem RowsT.perm {H : Hp} {xs ys : List V} (p : xs.Perm ys) : ∀ {ps : List (Nat × Int)}, RowsT K H xs (ps.map prI) → ∃ ps' : List (Nat × Int), ps'.Perm ps ∧ RowsT K H ys (ps'.map prI) := by
  induction p with
  | nil => exact fun {ps} h => ⟨ps, .refl _, h⟩
  | cons x _ ih =>
    intro ps h
    cases ps with
    | nil => cases h
    | cons q ps =>
      cases h with
      | cons a b =>
        obtain ⟨ps', h1, h2⟩ := ih b
        exact ⟨q :: ps', h1.cons q, .cons a h2⟩
  | swap x y l =>
    intro ps h
    cases ps with
    | nil => cases h
    | cons q ps =>
      cases h with
      | cons a b =>
        cases ps with
        | nil => cases b
        | cons q2 ps =>
          cases b with
          | cons c d => exact ⟨q2 :: q :: ps, .swap .., .cons c (.cons a d)⟩
  | trans _ _ ih1 ih2 =>
    intro ps h
    obtain ⟨ps1, h1, h2⟩ := ih1 h
    obtain ⟨ps2, h3, h4⟩ := ih2 h2
    exact ⟨ps2, h3.trans h1, h4⟩
end
end Fo
set_option maxRecDepth 100000
set_option maxHeartbeats 4000000
namespace Fo
open PySem PySem.Spec PyProof.Rows L2
theorem prsT_of {K : PySem.W.Frag} {H : Hp} : ∀ {bs : List (Addr × (List Int × List Int))}, (∀ b ∈ bs, RowsAt K H (.ref b.1) [b.2.1, b.2.2]) → PrsT K H (bs.map fun b => V.ref b.1) (bs.map fun b => [b.2.1, b.2.2])
  | [], _ => .nil
  | b :: bs, h => .cons (h b List.mem_cons_self) (prsT_of fun c hc => h c (List.mem_cons_of_mem _ hc))
end Fo
set_option maxRecDepth 100000
set_option maxHeartbeats 4000000
namespace Fo
open PySem PySem.Spec PyProof.Rows L2
abbrev s_law_carried : Stmt := top 52
abbrev n_law_carried : List Str := ["lots", "people", "things", "found", "one", "other", "p", "x"]
theorem sc_law_carried : FnScope n_law_carried ["lots", "people", "things"] (defScope s_law_carried) := ⟨rfl, rfl, rfl, by decide +kernel, rfl, by decide +kernel, by decide +kernel⟩
def sortI (l : List Int) : List Int := l.mergeSort fun a b => decide (a ≤ b)
theorem sortI_perm {l : List Int} : (sortI l).Perm l := List.mergeSort_perm _ _
theorem sortI_asc {l : List Int} : (sortI l).Pairwise (· ≤ ·) := by
  have h := List.pairwise_mergeSort (le := fun a b : Int => decide (a ≤ b)) (fun a b c h1 h2 => by
    have := of_decide_eq_true h1
    have := of_decide_eq_true h2
    exact decide_eq_true (by omega)) (fun a b => by
    rcases Int.le_total a b with h | h
    · rw [decide_eq_true h]; rfl
    · rw [decide_eq_true h, Bool.or_true]) l
  exact h.imp fun h => of_decide_eq_true h
theorem sortI_eq {l ns : List Int} (pm : ns.Perm l) (so : ns.Pairwise (· ≤ ·)) : ns = sortI l :=
  List.Perm.eq_of_pairwise (le := (· ≤ ·)) (fun a b _ _ h1 h2 => by omega) so sortI_asc (pm.trans sortI_perm.symm)
def carP (ps ts : List Int) (c : List Int × List Int) : List Int × List Int := (sortI (c.1.map (getI ps)), sortI (c.2.map (getI ts)))
section
variable {P : Program} {w : World} {K : PySem.W.Frag} {mg : Str → Option Value} {base : Heap} {C : Addr}
theorem rows_two {K : PySem.W.Frag} {H : Hp} {v : V} {A B : List Int} (h : RowsAt K H v [A, B]) : ∃ q a b, v = .ref q ∧ SqT K H q [.ref a, .ref b] ∧ SqT K H a (A.map V.int) ∧ SqT K H b (B.map V.int) := by
  obtain ⟨q, vs, rfl, hq, hr⟩ := h
  cases hr with
  | cons ha t =>
    cases t with
    | cons hb t => cases t; exact ⟨q, _, _, rfl, hq, ha, hb⟩
def spCar (K : PySem.W.Frag) : Sp := fun vs H Q _ => ∃ (l pa ta : Addr) (us : List V) (L : List (List Int × List Int)) (ps ts : List Int), vs = [.ref l, .ref pa, .ref ta] ∧ H l = some (.lst us) ∧ PrsT K H us (L.map fun c => [c.1, c.2]) ∧ H pa = some (.lst (ps.map V.int)) ∧ H ta = some (.lst (ts.map V.int)) ∧ L.length ≤ 1000 ∧ (∀ c ∈ L, (∀ x ∈ c.1, 0 ≤ x ∧ x < (ps.length : Int)) ∧ (∀ x ∈ c.2, 0 ≤ x ∧ x < (ts.length : Int)) ∧ c.1.length ≤ 1000 ∧ c.2.length ≤ 1000) ∧
  ∀ l' us' (os : List (List Int × List Int)) H', Same H H' → H l' = none → H' l' = some (.lst us') → PrsT K H' us' (os.map fun c => [c.1, c.2]) → (os.map (·.1)).Pairwise (· ≤ ·) → os.Perm (L.map (carP ps ts)) → Q (.ref l') H'
theorem ok_car (A : At K mg "_law_carried" s_law_carried ["lots", "people", "things"]) (T : Tx mg) : Dfn P w K mg base "_law_carried" ["lots", "people", "things"] 1 (spCar K) := by
  refine A.ok sc_law_carried (fun vs H Q E h => ?_) (fun f cdv A outer s H vs Q E hr h => ?_)
  · obtain ⟨_, _, _, _, _, _, _, rfl, _⟩ := h
    rfl
  · obtain ⟨l, pa, ta, us, L, ps, ts, rfl, hl, hu, hpa, hta, Ll, hb, k⟩ := h
    refine ⟨_, (pss_cons (ps_set (i := 3) sc_law_carried.nd rfl (Or.inl rfl) (pe_lst pa_nil))
      (pss_cons (ps_for PassesOwn.never rfl (pi_list (pv 0)) (pg_tup rfl (pgs_cons (pg_name (i := 4) sc_law_carried.nd rfl (Or.inl rfl)) (pgs_cons (pg_name (i := 5) sc_law_carried.nd rfl (Or.inl rfl)) pgs_nil)))
      (pss_one (ps_expr (pe_bm PySem.F.plainAttrs_list PySem.F.slot_list_append PySem.F.type_list_append mt_append (pv 3) (pa_cons (pe_tup (pa_cons (pe_callTy c_tuple (by rfl) T.tuple (by decide +kernel) (pa_cons (pe_callB cr_sortedI (by rfl) T.sorted (by decide +kernel) (pa_cons (pe_lc (own := [("p", 6)]) (g := (gName 6)) (tt := tYes) (te := (tOp (rIxL K) (tVar 1) (tVar 6))) (by rfl) sc_law_carried.nd (pi_tup (pv 4)) (blkOk_by (own := [("p", 6)]) (N := n_law_carried) (sc := (defScope s_law_carried)) (by decide +kernel)) (fun _ _ _ _ _ => (pg_name (i := 6) sc_law_carried.nd rfl (Or.inl rfl))) (fun _ _ _ _ _ => pts_nil) (fun _ _ _ _ _ => (pe_ix ix_list (pv 1) (pv 6) (fun _ _ => rfl)))) pa_nil)) pa_nil)) (pa_cons (pe_callTy c_tuple (by rfl) T.tuple (by decide +kernel) (pa_cons (pe_callB cr_sortedI (by rfl) T.sorted (by decide +kernel) (pa_cons (pe_lc (own := [("x", 7)]) (g := (gName 7)) (tt := tYes) (te := (tOp (rIxL K) (tVar 2) (tVar 7))) (by rfl) sc_law_carried.nd (pi_tup (pv 5)) (blkOk_by (own := [("x", 7)]) (N := n_law_carried) (sc := (defScope s_law_carried)) (by decide +kernel)) (fun _ _ _ _ _ => (pg_name (i := 7) sc_law_carried.nd rfl (Or.inl rfl))) (fun _ _ _ _ _ => pts_nil) (fun _ _ _ _ _ => (pe_ix ix_list (pv 2) (pv 7) (fun _ _ => rfl)))) pa_nil)) pa_nil)) pa_nil))) pa_nil)))))
      (pss_one (ps_ret (pe_callB (cr_sortedPP hr.units) (by rfl) T.sorted (by decide +kernel) (pa_cons (pv 3) pa_nil)))))), ?_⟩
    have ul := hu.len
    rw [List.length_map] at ul
    refine ⟨Nat.zero_le _, fun D hD => ?_⟩
    have s0 := same_new (o := .lst []) hD
    refine ⟨_, rfl, l, rfl, ⟨_, SqL.of (s0 _ _ hl)⟩, for_list (xs := us) (fun j σ' H' => ∃ (bs : List (Addr × (List Int × List Int))) (x4 x5 x6 x7 : Option V), σ' = [some (.ref l), some (.ref pa), some (.ref ta), some (.ref D), x4, x5, x6, x7] ∧ H' D = some (.lst (bs.map fun b => V.ref b.1)) ∧ (∀ b ∈ bs, RowsAt K H' (.ref b.1) [b.2.1, b.2.2]) ∧ bs.map (fun b => b.2) = (L.take j).map (carP ps ts) ∧ Same H H') ⟨[], _, _, _, _, rfl, upd_same, fun b hb => (by cases hb), rfl, s0⟩ (fun j σ' H' _ hp => by obtain ⟨_, _, _, _, _, _, _, _, _, s⟩ := hp; exact SqL.of (s _ _ hl)) ?_ ?_⟩
    · rintro j y σ' H1 hy ⟨bs, x4, x5, x6, x7, rfl, hD1, hbs, ebs, s1⟩
      obtain ⟨R, hR, hat⟩ := hu.get hy
      rw [List.getElem?_map] at hR
      obtain ⟨c, hc, rfl⟩ := Option.map_eq_some_iff.mp hR
      obtain ⟨q, a, b, rfl, hq, ha, hbb⟩ := rows_two hat
      obtain ⟨b1, b2, b3, b4⟩ := hb c (List.mem_of_getElem? hc)
      have bl : bs.length = min j L.length := by
        have := congrArg List.length ebs
        rw [List.length_map, List.length_map, List.length_take] at this
        exact this
      have jl := (List.getElem?_eq_some_iff.mp hc).1
      refine ⟨q, _, rfl, sqT_same s1 hq, rfl, _, _, rfl, _, _, rfl, rfl, ?_⟩
      refine ⟨_, rfl, .inl ⟨rfl, _, SqL.of hD1⟩, _, rfl, a, rfl, ⟨_, sqT_same s1 ha⟩, fun L1 hL1 => ?_⟩
      refine lc_tup (xs := c.1.map V.int) (fun m H' => H' L1 = some (.lst (((c.1.take m).map (getI ps)).map V.int)) ∧ Same H1 H') ⟨upd_same, same_new hL1⟩ (fun m H' _ hp => sqT_same hp.2 (sqT_same s1 ha)) ?_ ?_
      · rintro m x H2 hx ⟨h2, s2⟩
        rw [List.getElem?_map] at hx
        obtain ⟨i, hi, rfl⟩ := Option.map_eq_some_iff.mp hx
        have ir := b1 i (List.mem_of_getElem? hi)
        have ml := (List.getElem?_eq_some_iff.mp hi).1
        obtain ⟨z, hz⟩ : ∃ z, ps[i.toNat]? = some z := ⟨_, List.getElem?_eq_getElem (by omega)⟩
        refine ⟨rfl, _, rfl, _, rfl, pa, _, i, .int z, rfl, rfl, SqL.of ((s1.trans s2) _ _ hpa), ?_, ?_⟩
        · rw [show i = ((i.toNat : Nat) : Int) from (Int.toNat_of_nonneg ir.1).symm]
          exact at_nat (by rw [List.getElem?_map, hz]; rfl)
        · refine ⟨_, h2, small_lt (by rw [List.length_map, List.length_map, List.length_take]; omega), ?_, same_mut s2 hL1⟩
          rw [upd_same, List.take_add_one, hi, List.map_append, List.map_append]
          show _ = some (HO.lst (_ ++ [V.int (getI ps i)]))
          rw [getI_of hz]
      rintro H2 ⟨h2, s2⟩
      rw [List.length_map, List.take_length] at h2
      refine ⟨L1, _, rfl, SqL.of h2, fun ns p pms so hp => ⟨p, _, rfl, .inl ⟨SqL.of upd_same, fun z hz => ?_⟩⟩⟩
      have s3 := s2.trans ((same_new (o := .lst (ns.map V.int)) hp).trans (same_new (o := .tup (ns.map V.int)) hz))
      obtain ⟨H3, e3⟩ : ∃ H3, H3 = upd (upd H2 p (.lst (ns.map V.int))) z (.tup (ns.map V.int)) := ⟨_, rfl⟩
      have hz3 : SqT K H3 z (ns.map V.int) := SqT.of (by rw [e3]; exact upd_same)
      rw [← e3] at s3 ⊢
      have ens := sortI_eq pms so
      clear e3 hp hz h2 s2 hL1
      have s13 := s1.trans s3
      refine ⟨_, rfl, b, rfl, ⟨_, sqT_same s13 hbb⟩, fun L2' hL2 => ?_⟩
      refine lc_tup (xs := c.2.map V.int) (fun m H' => H' L2' = some (.lst (((c.2.take m).map (getI ts)).map V.int)) ∧ Same H3 H') ⟨upd_same, same_new hL2⟩ (fun m H' _ hp => sqT_same hp.2 (sqT_same s13 hbb)) ?_ ?_
      · rintro m x H4 hx ⟨h4, s4⟩
        rw [List.getElem?_map] at hx
        obtain ⟨i, hi, rfl⟩ := Option.map_eq_some_iff.mp hx
        have ir := b2 i (List.mem_of_getElem? hi)
        have ml := (List.getElem?_eq_some_iff.mp hi).1
        obtain ⟨z, hz⟩ : ∃ z, ts[i.toNat]? = some z := ⟨_, List.getElem?_eq_getElem (by omega)⟩
        refine ⟨rfl, _, rfl, _, rfl, ta, _, i, .int z, rfl, rfl, SqL.of ((s13.trans s4) _ _ hta), ?_, ?_⟩
        · rw [show i = ((i.toNat : Nat) : Int) from (Int.toNat_of_nonneg ir.1).symm]
          exact at_nat (by rw [List.getElem?_map, hz]; rfl)
        · refine ⟨_, h4, small_lt (by rw [List.length_map, List.length_map, List.length_take]; omega), ?_, same_mut s4 hL2⟩
          rw [upd_same, List.take_add_one, hi, List.map_append, List.map_append]
          show _ = some (HO.lst (_ ++ [V.int (getI ts i)]))
          rw [getI_of hz]
      rintro H4 ⟨h4, s4⟩
      rw [List.length_map, List.take_length] at h4
      refine ⟨L2', _, rfl, SqL.of h4, fun ms p pms so hp => ⟨p, _, rfl, .inl ⟨SqL.of upd_same, fun z2 hz2 => ?_⟩⟩⟩
      have s5 := s4.trans ((same_new (o := .lst (ms.map V.int)) hp).trans (same_new (o := .tup (ms.map V.int)) hz2))
      obtain ⟨H5, e5⟩ : ∃ H5, H5 = upd (upd H4 p (.lst (ms.map V.int))) z2 (.tup (ms.map V.int)) := ⟨_, rfl⟩
      have hz5 : SqT K H5 z2 (ms.map V.int) := SqT.of (by rw [e5]; exact upd_same)
      rw [← e5] at s5 ⊢
      have ems := sortI_eq pms so
      clear e5 hp hz2 h4 s4 hL2
      refine ⟨by show 2 ≤ sizeLine; decide, fun q2 hq2 => ?_⟩
      have s6 := s5.trans (same_new (o := .tup [V.ref z, .ref z2]) hq2)
      obtain ⟨H6, e6⟩ : ∃ H6, H6 = upd H5 q2 (.tup [V.ref z, .ref z2]) := ⟨_, rfl⟩
      have hq6 : SqT K H6 q2 [.ref z, .ref z2] := SqT.of (by rw [e6]; exact upd_same)
      have s56 : Same H5 H6 := by rw [e6]; exact same_new hq2
      rw [← e6] at s6 ⊢
      have s36 := s3.trans s6
      have s16 := s1.trans s36
      have hD6 := s36 _ _ hD1
      have hr6 : RowsAt K H6 (.ref q2) [ns, ms] := ⟨q2, _, rfl, hq6, .cons (sqT_same s6 hz3) (.cons (sqT_same s56 hz5) .nil)⟩
      refine ⟨D, _, .ref q2, rfl, rfl, hD6, small_lt (by rw [List.length_map, bl]; omega), ?_⟩
      refine ⟨bs ++ [(q2, (ns, ms))], _, _, _, _, rfl, by rw [upd_same, List.map_append]; rfl, fun x hx => ?_, ?_, same_mut s16 hD⟩
      · have put : ∀ {v : V} {R : List (List Int)}, RowsAt K H6 v R → RowsAt K (upd H6 D (.lst ((bs.map fun b => V.ref b.1) ++ [V.ref q2]))) v R := fun {v R} ⟨q, vs, e, h1, h2⟩ => ⟨q, vs, e, sqT_put h1 hD6, h2.put hD6⟩
        rcases List.mem_append.mp hx with hx | hx
        · exact put ((hbs x hx).same s36)
        · rw [List.mem_singleton.mp hx]
          exact put hr6
      · rw [List.map_append, ebs, List.take_add_one, hc, List.map_append]
        show _ ++ [(ns, ms)] = _ ++ [carP ps ts c]
        rw [ens, ems]
        rfl
    · rintro σ' H1 ⟨bs, x4, x5, x6, x7, rfl, hD1, hbs, ebs, s1⟩
      rw [ul, List.take_length] at ebs
      refine ⟨_, rfl, D, bs, rfl, SqL.of hD1, hbs, fun os p pm so hp => ?_⟩
      refine k p _ (os.map fun b => b.2) _ (s1.trans (same_new hp)) (s1.free hp) upd_same ?_ ?_ ?_
      · rw [List.map_map]
        exact prsT_of fun b hb => (hbs b (pm.mem_iff.mp hb)).same (same_new hp)
      · rw [List.map_map]
        exact so
      · rw [← ebs]
        exact pm.map _
end
end Fo
set_option maxRecDepth 100000
set_option maxHeartbeats 4000000
namespace Fo
open PySem PySem.Spec PyProof.Rows L2
def dS (us : List Str) : PyData := .list (us.map PyData.str)
def IsKind (u : Str) : Prop := u = "full" ∨ u = "ring" ∨ u = "other"
theorem kind_cases (L : List (List Int)) (g : List Nat) : IsKind (kindS L g) := by
  unfold kindS
  split
  · exact .inl rfl
  · split
    · exact .inr (.inl rfl)
    · exact .inr (.inr rfl)
theorem lay_K : ∀ us : List Str, (∀ u ∈ us, IsKind u) → PyData.canLayAll0 (us.map PyData.str) = true
  | [], _ => by rw [List.map_nil, PyData.canLayAll0]
  | u :: us, h => by
    rw [List.map_cons, PyData.canLayAll0, lay_K us fun x hx => h x (List.mem_cons_of_mem _ hx), Bool.and_true]
    rcases h u List.mem_cons_self with e | e | e <;> rw [e] <;> decide +kernel
theorem dep_K : ∀ us : List Str, PyData.depthAll (us.map PyData.str) = 0
  | [] => by rw [List.map_nil, PyData.depthAll]
  | u :: us => by rw [List.map_cons, PyData.depthAll, dep_K us, PyData.depth]; rfl
theorem sh_K {us : List Str} (h : ∀ u ∈ us, IsKind u) : SeqAt.shaped (dS us) = true := by
  unfold dS SeqAt.shaped
  rw [PyData.canLay0, PyData.depth, lay_K us h, dep_K]
  rfl
theorem dpa_K {K : PySem.W.Frag} {H : Hp} : ∀ us : List Str, DpAll K H (us.map V.str) (us.map PyData.str)
  | [] => .nil
  | u :: us => .cons (.str _) (dpa_K us)
theorem dp_K {K : PySem.W.Frag} {H : Hp} {p : Addr} {us : List Str} (h : SqL K H p (us.map V.str)) : Dp K H (.ref p) (dS us) := .lst h (dpa_K us)
theorem eqvAll_K : ∀ xs ys : List Str, PyData.eqvAll (xs.map PyData.str) (ys.map PyData.str) = decide (xs = ys)
  | [], [] => by simp [PyData.eqvAll]
  | [], y :: ys => by simp [PyData.eqvAll]
  | x :: xs, [] => by simp [PyData.eqvAll]
  | x :: xs, y :: ys => by
    rw [List.map_cons, List.map_cons, PyData.eqvAll, PyData.eqv, eqvAll_K xs ys]
    by_cases a : x = y <;> by_cases b : xs = ys <;> simp [a, b]
theorem eqv_K (xs ys : List Str) : PyData.eqv (dS xs) (dS ys) = decide (xs = ys) := by
  unfold dS
  rw [PyData.eqv]
  exact eqvAll_K xs ys
end Fo
set_option maxRecDepth 100000
set_option maxHeartbeats 4000000
namespace Fo
open PySem PySem.Spec PyProof.Rows L2
abbrev s_beside : Stmt := top 32
abbrev n_beside : List Str := ["one", "other", "moved", "row", "thing"]
theorem sc_beside : FnScope n_beside ["one", "other"] (defScope s_beside) := ⟨rfl, rfl, rfl, by decide +kernel, rfl, by decide +kernel, by decide +kernel⟩
section
variable {P : Program} {w : World} {K : PySem.W.Frag} {mg : Str → Option Value} {base : Heap} {C : Addr}
/-- rows whose things begin at a number -/
def shiftR (n : Int) (R : List (List Int)) : List (List Int) := R.map fun r => r.map fun t => n + t
def spBeside (K : PySem.W.Frag) (C : Addr) : Sp := fun vs H Q _ => ∃ (x y : V) (A B : List (List Int)), vs = [x, y] ∧ TableAt K C H x A ∧ TableAt K C H y B ∧ Good A ∧ Good B ∧ A.length + B.length ≤ 40 ∧ ∀ p H', Same H H' → H p = none → TableAt K C H' (.ref p) (A ++ shiftR A.length B) → Q (.ref p) H'
theorem ok_beside (A : At K mg "beside" s_beside ["one", "other"]) (T : Tx mg) (tc : TC K C) {tk : Tok} (hMB : mg "MOST_BESIDE" = some (.int 40 tk)) (G_table_of : Dfn P w K mg base "table_of" ["rows"] 8 (spTableOf K C)) : Dfn P w K mg base "beside" ["one", "other"] 9 (spBeside K C) := by
  refine A.ok sc_beside (fun vs H Q E h => ?_) (fun f cdv A0 outer s H vs Q E hr h => ?_)
  · obtain ⟨_, _, _, _, rfl, _⟩ := h
    rfl
  · obtain ⟨x, y, A, B, rfl, ta, tb, GA, GB, hn, k⟩ := h
    refine ⟨_, (pss_cons (ps_if (pt_cmpR op_gt (pe_op op_add (pe_fld (pv 0) rfl) (pe_fld (pv 1) rfl)) (pe_glob (v := V.int 40) (by rfl) hMB ⟨_, rfl⟩) (nomark _)) (pss_one ps_never) pss_nil)
      (pss_cons (ps_setLc (i := 2) (own := [("row", 3)]) (g := (gName 3)) (tt := tYes) (te := (tCB (rTupOf K) (tCons (tLc (iTup K (tVar 3)) (gName 4) tYes (tOp (rI0 fun i j => V.int (i + j)) (tFld K (tVar 0) "size") (tVar 4)) [4]) tNil))) (by rfl) sc_beside.nd rfl rfl (sw_true rfl rfl rfl (by decide +kernel)) (pi_tup (pe_fld (pv 1) rfl)) (blkOk_by (own := [("row", 3)]) (N := n_beside) (sc := (defScope s_beside)) (by decide +kernel)) (fun _ _ _ _ _ => (pg_name (i := 3) sc_beside.nd rfl (Or.inl rfl))) (fun _ _ _ _ _ => pts_nil) (fun _ _ _ _ _ => (pe_callTy c_tuple (by rfl) T.tuple (by decide +kernel) (pa_cons (pe_lc (own := [("thing", 4)]) (g := (gName 4)) (tt := tYes) (te := (tOp (rI0 fun i j => V.int (i + j)) (tFld K (tVar 0) "size") (tVar 4))) (by rfl) sc_beside.nd (pi_tup (pv 3)) (blkOk_by (own := [("thing", 4)]) (N := n_beside) (sc := (relabel (lcIn s_beside [1] 0) (envA (defScope s_beside)))) (by decide +kernel)) (fun _ _ _ _ _ => (pg_name (i := 4) sc_beside.nd rfl (Or.inl rfl))) (fun _ _ _ _ _ => pts_nil) (fun _ _ _ _ _ => (pe_op op_add (pe_fld (pv 0) rfl) (pv 4)))) pa_nil))))
      (pss_one (ps_ret (pe_d G_table_of (hr.mono (by decide)) (pa_cons (pe_op op_catA (pe_fld (pv 0) rfl) (pe_callTy c_tuple (by rfl) T.tuple (by decide +kernel) (pa_cons (pv 2) pa_nil))) pa_nil)))))), ?_⟩
    obtain ⟨p1, d1, v1, rfl, hp1, hRA⟩ := id ta
    obtain ⟨p2, d2, v2, rfl, hp2, hRB⟩ := id tb
    obtain ⟨ra, avs, rfl, hra, hrA⟩ := id hRA
    obtain ⟨rb, bvs, rfl, hrb, hrB⟩ := id hRB
    have al := hrA.len
    have bl := hrB.len
    refine ⟨_, rfl, p1, C, d1, _, _, rfl, hp1, tc.cl, tc.nS, tf_size _ _, _, rfl, p2, C, d2, _, _, rfl, hp2, tc.cl, tc.nS, tf_size _ _, _, _, rfl, rfl, _, _, rfl, rfl, _, rfl, ?_⟩
    refine ite2 (fun hc => absurd (of_decide_eq_true hc) (by omega)) (fun _ => ?_)
    refine ⟨_, rfl, p2, C, d2, _, _, rfl, hp2, tc.cl, tc.nR, tf_rows _ _, rb, rfl, ⟨_, hrb⟩, fun D hD => ?_⟩
    refine lc_tup (xs := bvs) (fun i H' => ∃ vs, H' D = some (.lst vs) ∧ RowsT K H' vs (shiftR A.length (B.take i)) ∧ Same H H') ⟨[], upd_same, .nil, same_new hD⟩ (fun i H' _ hp => by obtain ⟨_, _, _, s⟩ := hp; exact sqT_same s hrb) ?_ ?_
    · rintro i y H3 hy ⟨vs, h3, hv, s3⟩
      have il : i < B.length := by have := (List.getElem?_eq_some_iff.mp hy).1; omega
      have hri := List.getElem?_eq_getElem il
      obtain ⟨r, er⟩ : ∃ r, r = B[i] := ⟨_, rfl⟩
      rw [← er] at hri
      obtain ⟨a, ha1, ha2⟩ := hrB.get hri
      rw [hy] at ha1
      have ey : y = .ref a := Option.some.inj ha1
      subst ey
      have rl : r.length ≤ 40 := Nat.le_trans (GB.row_len r (List.mem_of_getElem? hri)) (by omega)
      have vl := hv.len
      unfold shiftR at vl
      rw [List.length_map, List.length_take] at vl
      refine ⟨rfl, _, rfl, a, rfl, ⟨_, sqT_same s3 ha2⟩, fun D2 hD2 => ?_⟩
      refine lc_tup (xs := r.map V.int) (fun j H' => H' D2 = some (.lst (((r.take j).map fun t => (A.length : Int) + t).map V.int)) ∧ Same H3 H') ⟨upd_same, same_new hD2⟩ (fun j H' _ hp => sqT_same (s3.trans hp.2) ha2) ?_ ?_
      · rintro j z H4 hz ⟨h4, s4⟩
        obtain ⟨t, ht, rfl⟩ : ∃ t, r[j]? = some t ∧ z = V.int t := by
          rw [List.getElem?_map] at hz
          cases e : r[j]? with
          | none => rw [e] at hz; cases hz
          | some u => rw [e] at hz; exact ⟨u, rfl, (Option.some.inj hz).symm⟩
        refine ⟨rfl, _, rfl, p1, C, d1, _, _, rfl, s4 _ _ (s3 _ _ hp1), tc.cl, tc.nS, tf_size _ _, _, rfl, _, _, rfl, rfl, _, h4, small_lt (by rw [List.length_map, List.length_map, List.length_take]; omega), ?_, same_mut s4 hD2⟩
        rw [upd_same, List.take_add_one, ht, List.map_append, List.map_append]
        rfl
      · rintro H4 ⟨h4, s4⟩
        rw [List.length_map, List.take_length] at h4
        refine ⟨D2, _, rfl, .inl ⟨SqL.of h4, fun z hz => ?_⟩⟩
        have s5 := same_new (o := .tup ((r.map fun t => (A.length : Int) + t).map V.int)) hz
        have s35 := s4.trans s5
        refine ⟨vs, s35 _ _ h3, small_lt (by omega), _, upd_same, ?_, same_mut (s3.trans s35) hD⟩
        have e : shiftR A.length (B.take (i + 1)) = shiftR A.length (B.take i) ++ [r.map fun t => (A.length : Int) + t] := by
          unfold shiftR
          rw [List.take_add_one, hri, List.map_append]
          rfl
        rw [e]
        exact (RowsT.snoc (SqT.of upd_same) (hv.same s35)).put (s35 _ _ h3)
    · rintro H3 ⟨vs, h3, hv, s3⟩
      rw [bl, List.take_length] at hv
      have vl := hv.len
      refine ⟨_, rfl, p1, C, d1, _, _, rfl, s3 _ _ hp1, tc.cl, tc.nR, tf_rows _ _, _, rfl, D, vs, rfl, .inl ⟨SqL.of h3, fun z hz => ?_⟩⟩
      have s4 := same_new (o := .tup vs) hz
      have s34 := s3.trans s4
      have shl : (shiftR A.length B).length = B.length := by unfold shiftR; rw [List.length_map]
      have ap := GA.pos
      have bp := GB.pos
      have wa := hrA.same s34
      have wb := hv.same s4
      refine ⟨ra, z, avs, vs, rfl, rfl, sqT_same s34 hra, SqT.of upd_same, by rw [vl, shl, al]; exact Nat.le_of_lt (small_lt (by omega)), fun e => ?_, fun _ e => ?_, fun _ _ q hq => ?_⟩
      · rw [e] at al
        exact absurd al (by simp; omega)
      · rw [e] at vl
        exact absurd vl (by rw [shl]; simp; omega)
      · have s5 := same_new (o := .tup (avs ++ vs)) hq
        refine ⟨.ref q, _, rfl, ⟨q, _, rfl, SqT.of upd_same, RowsT.app (wa.same s5) (wb.same s5)⟩, fun p H5 s6 f6 t6 => ?_⟩
        exact k p H5 ((s34.trans s5).trans s6) ((s34.trans s5).free f6) t6
end
end Fo
set_option maxRecDepth 100000
set_option maxHeartbeats 4000000
namespace Fo
open PySem PySem.Spec PyProof.Rows L2
section
variable {rows R : List (List Int)} {ps ts ops ots : List Int}
theorem getI_nP {n : Nat} (pm : ps.Perm (rangeI n)) {p : Nat} (hp : p < n) : getI ps (p : Int) = ((nP ps p : Nat) : Int) := by
  obtain ⟨_, h2, _⟩ := perm_getI pm (i := (p : Int)) (by omega) (by omega)
  unfold nP
  rw [Int.toNat_of_nonneg h2]
theorem natI_new {n : Nat} (pm : ps.Perm (rangeI n)) {g : List Nat} (hg : ∀ p ∈ g, p < n) : (natI g).map (getI ps) = natI (g.map (nP ps)) := by
  unfold natI
  rw [List.map_map, List.map_map]
  exact List.map_congr_left fun p hp => getI_nP pm (hg p hp)
theorem asc_le {l : List Int} (h : l.Pairwise (· < ·)) : l.Pairwise (· ≤ ·) := h.imp fun h => by omega
theorem thg_rng (G : Good rows) {g : List Nat} {t : Int} (h : t ∈ thgR rows g) : 0 ≤ t ∧ t < (rows.length : Int) := by
  obtain ⟨p, _, ht⟩ := (mem_thgR G).mp h
  obtain ⟨D, d, e⟩ := Mt.mem_liveR.mp ht
  exact G.row_rng (d.tie _ _ e)
theorem car_piece (r : RenW rows R ps ts ops ots) {g : List Nat} (hg : ∀ p ∈ g, p < rows.length) (nd : g.Nodup) : carP ps ts (natI g, thgR rows g) = (natI (sG rows.length ps g), thgR R (sG rows.length ps g)) := by
  unfold carP
  refine Prod.ext (sortI_eq ?_ (asc_le (natI_asc sG_asc))).symm (sortI_eq ?_ (asc_le thgR_asc)).symm
  · show (natI (sG rows.length ps g)).Perm ((natI g).map (getI ps))
    rw [natI_new r.I.pm hg]
    unfold natI
    exact (sG_perm r.I.pm hg nd).map _
  · show (thgR R (sG rows.length ps g)).Perm ((thgR rows g).map (getI ts))
    refine (List.perm_ext_iff_of_nodup (thgR_asc.imp fun {a b} z e => by omega) (Mt.nodup_map (thgR_asc.imp fun {a b} z e => by omega) fun a ha b hb e => ?_)).mpr fun x => ?_
    · have h1 := thg_rng r.G ha
      have h2 := thg_rng r.G hb
      have x := (perm_getI r.J.pm h1.1 h1.2).1
      rw [e] at x
      exact perm_inj r.J.pm h1.1 h2.1 x (perm_getI r.J.pm h2.1 h2.2).1
    · rw [r.thg hg, List.mem_map]
      exact ⟨fun ⟨t, h, e⟩ => ⟨t, h, e.symm⟩, fun ⟨t, h, e⟩ => ⟨t, h, e.symm⟩⟩
theorem perm_sorted {a b : List (List Int)} (pm : a.Perm b) (sa : a.Pairwise (· ≤ ·)) (sb : b.Pairwise (· ≤ ·)) : a = b :=
  List.Perm.eq_of_pairwise (le := (· ≤ ·)) (fun _ _ _ _ h1 h2 => List.le_antisymm h1 h2) sa sb pm
theorem natI_inj {a b : List Nat} (h : natI a = natI b) : a = b := Mt.natZ_inj h
theorem pieces_carried (r : RenW rows R ps ts ops ots) {F F' : List (List Nat)} (hF : Mt.Groups (Mt.liveR rows) F) (hF' : Mt.Groups (Mt.liveR R) F') (so' : (F'.map natI).Pairwise (· ≤ ·)) {os : List (List Int × List Int)} (pm : os.Perm ((F.map fun g => (natI g, thgR rows g)).map (carP ps ts))) (so : (os.map (·.1)).Pairwise (· ≤ ·)) : os.map (fun c => [c.1, c.2]) = F'.map (pieceR R) := by
  have lt : ∀ g ∈ F, ∀ p ∈ g, p < rows.length := fun g hg p hp => by
    have := hF.lt hg hp
    rwa [Mt.liveR_len] at this
  have e1 : (F.map fun g => (natI g, thgR rows g)).map (carP ps ts) = (F.map (sG rows.length ps)).map fun g => (natI g, thgR R g) := by
    rw [List.map_map, List.map_map]
    exact List.map_congr_left fun g hg => car_piece r (lt g hg) (hF.nd hg)
  rw [e1] at pm
  have pm2 : os.Perm (F'.map fun g => (natI g, thgR R g)) := pm.trans ((groups_perm (r.groups hF) hF').symm.map _)
  have ek : os.map (·.1) = F'.map natI := perm_sorted (by
    have := pm2.map (·.1)
    rw [List.map_map] at this
    exact this) so so'
  have e2 : os = F'.map fun g => (natI g, thgR R g) := by
    apply List.ext_getElem?
    intro i
    have hi := congrArg (fun l : List (List Int) => l[i]?) ek
    have hi : (os.map (·.1))[i]? = (F'.map natI)[i]? := hi
    rw [List.getElem?_map, List.getElem?_map] at hi
    rw [List.getElem?_map]
    cases ho : os[i]? with
    | none =>
      rw [ho] at hi
      cases hf : F'[i]? with
      | none => rfl
      | some g => rw [hf] at hi; cases hi
    | some c =>
      rw [ho] at hi
      cases hf : F'[i]? with
      | none => rw [hf] at hi; cases hi
      | some g =>
        rw [hf] at hi
        have hi : c.1 = natI g := Option.some.inj hi
        obtain ⟨g', _, eg⟩ := List.mem_map.mp (pm2.mem_iff.mp (List.mem_of_getElem? ho))
        have : natI g' = natI g := by rw [← hi, ← eg]
        have := natI_inj this
        subst this
        rw [← eg]
        rfl
  rw [e2, List.map_map]
  rfl
theorem mem_ties {z : List Int} : z ∈ tieRows rows ↔ ∃ (p : Nat) (t : Int), z = [(p : Int), t] ∧ t ∈ Mt.row rows p := by
  unfold tieRows
  rw [tie_iff]
  constructor
  · rintro ⟨p, t, e, h⟩
    exact ⟨p, t, by rw [e, Int.zero_add], h⟩
  · rintro ⟨p, t, e, h⟩
    exact ⟨p, t, by rw [e, Int.zero_add], h⟩
theorem ties_asc (G : Good rows) : (tieRows rows).Pairwise (· < ·) := tie_lt 0 rows G.asc
theorem idle_at {p : Nat} {t : Int} : idleF rows [(p : Int), t] = true ↔ ¬ Mt.Live rows p t := by
  unfold idleF
  rw [Bool.not_eq_true', decide_eq_false_iff_not]
  show ¬ Mt.Live rows ((p : Int).toNat) t ↔ _
  rw [Int.toNat_natCast]
theorem mem_idle {z : List Int} : z ∈ idleR rows ↔ ∃ (p : Nat) (t : Int), z = [(p : Int), t] ∧ t ∈ Mt.row rows p ∧ ¬ Mt.Live rows p t := by
  unfold idleR
  rw [List.mem_filter, mem_ties]
  constructor
  · rintro ⟨⟨p, t, rfl, h⟩, n⟩
    exact ⟨p, t, rfl, h, idle_at.mp n⟩
  · rintro ⟨p, t, rfl, h, n⟩
    exact ⟨⟨p, t, rfl, h⟩, idle_at.mpr n⟩
theorem pairP_at {n : Nat} (pm : ps.Perm (rangeI n)) {p : Nat} (hp : p < n) {t : Int} : pairP ps ts [(p : Int), t] = [((nP ps p : Nat) : Int), getI ts t] := by
  show [getI ps (p : Int), getI ts t] = _
  rw [getI_nP pm hp]
theorem idle_ren (r : RenW rows R ps ts ops ots) {os : List (List Int)} (sp : os.Perm ((idleR rows).map (pairP ps ts))) (srt : os.Pairwise (· ≤ ·)) : idleR R = os := by
  have ge : ∀ {p : Nat} {t u : Int} {q : Nat}, t ∈ Mt.row rows p → u ∈ Mt.row rows q → getI ts t = getI ts u → t = u := fun {p t u q} ht hu e => by
    have h1 := r.G.row_rng ht
    have h2 := r.G.row_rng hu
    have x := (perm_getI r.J.pm h1.1 h1.2).1
    rw [e] at x
    exact perm_inj r.J.pm h1.1 h2.1 x (perm_getI r.J.pm h2.1 h2.2).1
  refine sort_eq ((ties_asc r.h.good).filter _) sp srt (Mt.nodup_map (nd_lt ((ties_asc r.G).filter _)) fun a ha b hb e => ?_) fun z => ?_
  · obtain ⟨p, t, rfl, h1, _⟩ := mem_idle.mp ha
    obtain ⟨q, u, rfl, h2, _⟩ := mem_idle.mp hb
    rw [pairP_at r.I.pm (Mt.row_lt h1), pairP_at r.I.pm (Mt.row_lt h2)] at e
    injection e with e1 e2
    injection e2 with e2
    have := nP_inj r.I.pm (Mt.row_lt h1) (Mt.row_lt h2) (by omega)
    rw [this, ge h1 h2 e2]
  · rw [mem_idle, List.mem_map]
    have lv : ∀ {p : Nat} {t : Int}, t ∈ Mt.row rows p → (Mt.Live R (nP ps p) (getI ts t) ↔ Mt.Live rows p t) := fun {p t} ht => by
      rw [← Mt.mem_liveR, r.live (Mt.row_lt ht)]
      constructor
      · rintro ⟨u, hu, e⟩
        have lu := Mt.mem_liveR.mp hu
        obtain ⟨D, d, e'⟩ := id lu
        rw [ge ht (d.tie _ _ e') e]
        exact lu
      · exact fun h => ⟨t, Mt.mem_liveR.mpr h, rfl⟩
    constructor
    · rintro ⟨q, x, rfl, hx, n⟩
      have ql := Mt.row_lt hx
      rw [r.h.len] at ql
      obtain ⟨p, hp, rfl⟩ := nP_on r.I.pm ql
      have pe := (nP_at r.I.pm hp).1
      have := (r.h.mem p ((nP ps p : Nat) : Int) x pe).mp (by rw [Int.toNat_natCast]; exact hx)
      obtain ⟨t, ht, et⟩ := this
      have ex : getI ts t = x := getI_of et
      refine ⟨[(p : Int), t], mem_idle.mpr ⟨p, t, rfl, ht, fun l => n ?_⟩, by rw [pairP_at r.I.pm hp, ex]⟩
      rw [← ex]
      exact (lv ht).mpr l
    · rintro ⟨w, hw, rfl⟩
      obtain ⟨p, t, rfl, ht, n⟩ := mem_idle.mp hw
      have hp := Mt.row_lt ht
      have tr := r.G.row_rng ht
      refine ⟨nP ps p, getI ts t, pairP_at r.I.pm hp, ?_, fun l => n ((lv ht).mp l)⟩
      have := (r.h.mem p ((nP ps p : Nat) : Int) (getI ts t) (nP_at r.I.pm hp).1).mpr ⟨t, ht, (perm_getI r.J.pm tr.1 tr.2).1⟩
      rwa [Int.toNat_natCast] at this
def kN (u : Str) : Nat := if u = "full" then 0 else if u = "other" then 1 else 2
theorem kN_le : ∀ {a b : Str}, IsKind a → IsKind b → ltCps b.cps.toList a.cps.toList = false → kN a ≤ kN b := fun {a b} ha hb h => by
  rcases ha with rfl | rfl | rfl <;> rcases hb with rfl | rfl | rfl <;> revert h <;> decide +kernel
theorem kN_inj : ∀ {a b : Str}, IsKind a → IsKind b → kN a = kN b → a = b := fun {a b} ha hb h => by
  rcases ha with rfl | rfl | rfl <;> rcases hb with rfl | rfl | rfl <;> revert h <;> decide +kernel
theorem rising_le : ∀ {p : Str} {l : List Str}, IsKind p → (∀ x ∈ l, IsKind x) → risingS p l = true → (p :: l).Pairwise fun a b => kN a ≤ kN b
  | p, [], _, _, _ => List.pairwise_singleton _ _
  | p, x :: l, hp, hl, h => by
    have h : (!ltCps x.cps.toList p.cps.toList && risingS x l) = true := h
    rw [Bool.and_eq_true, Bool.not_eq_true'] at h
    have hx := hl x List.mem_cons_self
    have r := rising_le hx (fun y hy => hl y (List.mem_cons_of_mem _ hy)) h.2
    have px := kN_le hp hx h.1
    refine List.pairwise_cons.mpr ⟨fun y hy => ?_, r⟩
    rcases List.mem_cons.mp hy with rfl | hy
    · exact px
    · exact Nat.le_trans px (List.rel_of_pairwise_cons r hy)
theorem sorted_le {l : List Str} (hl : ∀ x ∈ l, IsKind x) (h : sortedS l = true) : l.Pairwise fun a b => kN a ≤ kN b := by
  cases l with
  | nil => exact .nil
  | cons x l => exact rising_le (hl x List.mem_cons_self) (fun y hy => hl y (List.mem_cons_of_mem _ hy)) h
theorem kinds_one {a b : List Str} (pm : a.Perm b) (ha : ∀ x ∈ a, IsKind x) (sa : sortedS a = true) (sb : sortedS b = true) : a = b :=
  List.Perm.eq_of_pairwise (le := fun a b => kN a ≤ kN b) (fun x y hx hy h1 h2 => kN_inj (ha x hx) (ha y (pm.mem_iff.mpr hy)) (by omega)) (sorted_le ha sa) (sorted_le (fun x hx => ha x (pm.mem_iff.mpr hx)) sb) pm
theorem kinds_ren (r : RenW rows R ps ts ops ots) {F F' : List (List Nat)} (hF : Mt.Groups (Mt.liveR rows) F) (hF' : Mt.Groups (Mt.liveR R) F') : (F'.map (kindS (Mt.liveR R))).Perm (F.map (kindS (Mt.liveR rows))) := by
  refine ((groups_perm (r.groups hF) hF').map _).trans ?_
  rw [List.map_map]
  refine .of_eq (List.map_congr_left fun g hg => r.kind (fun p hp => ?_) (hF.nd hg))
  have := hF.lt hg hp
  rwa [Mt.liveR_len] at this
variable {bs : List (Nat × Nat × Nat)}
def inB (bs : List (Nat × Nat × Nat)) (p x : Int) : Bool := bs.any fun c => decide (p ∈ natI (Mt.blkG c)) && decide (x ∈ natI (Mt.blkG c))
theorem blk_inn (h : Mt.BlkR rows bs) : ∀ {c : Nat × Nat × Nat} {k j : Nat}, c ∈ bs → k < c.2.1 → j < c.2.1 → ((c.1 + j : Nat) : Int) ∈ Mt.row rows (c.1 + k) → Mt.inn c.2.1 c.2.2 k j = true := by
  induction h with
  | nil => intro c k j hc; cases hc
  | @snoc R new bs s kd h s1 s4 k3 len mem all ih =>
    intro c k j hc hk hj ht
    rcases List.mem_append.mp hc with hc | hc
    · have := h.in_ c hc
      rw [Mt.row_lo (by omega)] at ht
      exact ih hc hk hj ht
    · cases List.mem_singleton.mp hc
      have ht : ((R.length + j : Nat) : Int) ∈ Mt.row (R ++ new) (R.length + k) := ht
      rw [Mt.row_hi] at ht
      rcases mem k _ ht with ⟨j', hj', e⟩ | z
      · have : j = j' := by omega
        rw [this]
        exact hj'
      · omega
theorem inB_live (h : Mt.BlkR rows bs) {p : Nat} {t : Int} (ht : t ∈ Mt.row rows p) : inB bs (p : Int) t = true ↔ Mt.Live rows p t := by
  unfold inB
  rw [h.live, List.any_eq_true]
  constructor
  · rintro ⟨c, hc, e⟩
    rw [Bool.and_eq_true] at e
    obtain ⟨k, hk, ek⟩ := natI_blk.mp (of_decide_eq_true e.1)
    obtain ⟨j, hj, rfl⟩ := natI_blk.mp (of_decide_eq_true e.2)
    have ek : p = c.1 + k := by omega
    subst ek
    exact ⟨c, hc, k, j, blk_inn h hc hk hj ht, rfl, rfl⟩
  · rintro ⟨c, hc, k, j, hi, rfl, rfl⟩
    obtain ⟨hk, hj⟩ := Mt.inn_lt hi
    exact ⟨c, hc, by rw [Bool.and_eq_true]; exact ⟨decide_eq_true (natI_blk.mpr ⟨k, hk, rfl⟩), decide_eq_true (natI_blk.mpr ⟨j, hj, rfl⟩)⟩⟩
def inT (bs : List (Nat × Nat × Nat)) (z : List Int) : Bool := inB bs (z.headD 0) (z.getD 1 0)
theorem inner_all (G : Good rows) (h : Mt.BlkR rows bs) {os : List (List Int)} (pm : os.Perm ((tieRows rows).filter (inT bs) ++ idleR rows)) (srt : os.Pairwise (· ≤ ·)) : tieRows rows = os := by
  have key : ∀ {z : List Int}, z ∈ tieRows rows → (inT bs z = true ↔ idleF rows z = false) := fun {z} hz => by
    obtain ⟨p, t, rfl, ht⟩ := mem_ties.mp hz
    have a := inB_live h ht
    have b := idle_at (rows := rows) (p := p) (t := t)
    show inB bs (p : Int) t = true ↔ _
    rw [a]
    constructor
    · intro l
      cases e : idleF rows [(p : Int), t] with
      | false => rfl
      | true => exact absurd l (b.mp e)
    · intro e
      exact Classical.byContradiction fun n => by rw [b.mpr n] at e; cases e
  refine sort_eq (ties_asc G) pm srt (List.nodup_append.mpr ⟨(nd_lt (ties_asc G)).filter _, (nd_lt (ties_asc G)).filter _, fun a ha b hb e => ?_⟩) fun z => ?_
  · subst e
    obtain ⟨h1, h2⟩ := List.mem_filter.mp ha
    obtain ⟨_, h3⟩ := List.mem_filter.mp hb
    rw [(key h1).mp h2] at h3
    cases h3
  · rw [List.mem_append, List.mem_filter]
    unfold idleR
    rw [List.mem_filter]
    constructor
    · intro hz
      cases e : idleF rows z with
      | false => exact .inl ⟨hz, (key hz).mpr e⟩
      | true => exact .inr ⟨hz, rfl⟩
    · rintro (h | h) <;> exact h.1
end
theorem good_both {A B : List (List Int)} (GA : Good A) (GB : Good B) : Good (A ++ shiftR A.length B) where
  pos := by have := GA.pos; rw [List.length_append]; omega
  asc := fun r hr => by
    rcases List.mem_append.mp hr with h | h
    · exact GA.asc r h
    · obtain ⟨s, hs, rfl⟩ := List.mem_map.mp h
      exact List.pairwise_map.mpr ((GB.asc s hs).imp fun h => by omega)
  rng := fun r hr x hx => by
    have e : (shiftR (A.length : Int) B).length = B.length := by unfold shiftR; rw [List.length_map]
    rw [List.length_append, e]
    rcases List.mem_append.mp hr with h | h
    · have := GA.rng r h x hx
      omega
    · obtain ⟨s, hs, rfl⟩ := List.mem_map.mp h
      obtain ⟨y, hy, rfl⟩ := List.mem_map.mp hx
      have := GB.rng s hs y hy
      omega
theorem natI_sh {n : Nat} {c : Nat × Nat × Nat} : natI (Mt.blkG (n + c.1, c.2.1, c.2.2)) = (natI (Mt.blkG c)).map fun p => p + (n : Int) := by
  unfold natI Mt.blkG
  rw [List.map_map, List.map_map, List.map_map]
  exact List.map_congr_left fun i _ => by show ((n + c.1 + i : Nat) : Int) = ((c.1 + i : Nat) : Int) + (n : Int); omega
theorem blk_so {R : List (List Int)} {bs : List (Nat × Nat × Nat)} (h : Mt.BlkR R bs) : ((bs.map Mt.blkG).map natI).Pairwise (· ≤ ·) := by
  rw [List.map_map]
  refine List.pairwise_map.mpr ((List.Pairwise.and_mem.mp h.apart).imp fun {a b} ⟨ha, hb, hab⟩ => ?_)
  obtain ⟨_, a1, _, _⟩ := h.in_ a ha
  obtain ⟨_, b1, _, _⟩ := h.in_ b hb
  have hd : ∀ c : Nat × Nat × Nat, 1 ≤ c.2.1 → ∃ r, natI (Mt.blkG c) = (c.1 : Int) :: r := fun c hc => by
    obtain ⟨m, em⟩ : ∃ m, c.2.1 = m + 1 := ⟨c.2.1 - 1, by omega⟩
    unfold natI Mt.blkG
    rw [em, List.range_succ_eq_map, List.map_cons, List.map_cons]
    exact ⟨_, rfl⟩
  obtain ⟨r1, e1⟩ := hd a a1
  obtain ⟨r2, e2⟩ := hd b b1
  show natI (Mt.blkG a) ≤ natI (Mt.blkG b)
  rw [e1, e2]
  exact List.cons_le_cons_iff.mpr (.inl (by omega))
end Fo
set_option maxRecDepth 100000
set_option maxHeartbeats 4000000
namespace Fo
open PySem PySem.Spec PyProof.Rows L2
abbrev s_other_person : Stmt := top 42
abbrev n_other_person : List Str := ["live", "person", "thing", "one", "row"]
theorem sc_other_person : FnScope n_other_person ["live", "person", "thing"] (defScope s_other_person) := ⟨rfl, rfl, rfl, by decide +kernel, rfl, by decide +kernel, by decide +kernel⟩
abbrev s_other_thing : Stmt := top 43
abbrev n_other_thing : List Str := ["live", "person", "thing", "one"]
theorem sc_other_thing : FnScope n_other_thing ["live", "person", "thing"] (defScope s_other_thing) := ⟨rfl, rfl, rfl, by decide +kernel, rfl, by decide +kernel, by decide +kernel⟩
abbrev s_round_from : Stmt := top 41
abbrev n_round_from : List Str := ["live", "start", "found", "person", "thing"]
theorem sc_round_from : FnScope n_round_from ["live", "start"] (defScope s_round_from) := ⟨rfl, rfl, rfl, by decide +kernel, rfl, by decide +kernel, by decide +kernel⟩
theorem cnt_flat {L : List (List Int)} (nd : ∀ p, (Mt.row L p).Nodup) (t : Int) : ∀ g : List Nat, (givenL L g).count t = (g.filter fun p => decide (t ∈ Mt.row L p)).length
  | [] => rfl
  | p :: g => by
    have ih := cnt_flat nd t g
    unfold givenL at ih ⊢
    rw [List.map_cons, List.flatten_cons, List.count_append, ih]
    by_cases h : t ∈ Mt.row L p
    · rw [List.filter_cons_of_pos (by rw [decide_eq_true h]), List.length_cons]
      have : (Mt.row L p).count t = 1 := Nat.le_antisymm (List.nodup_iff_count.mp (nd p) t) (List.count_pos_iff.mpr h)
      omega
    · rw [List.filter_cons_of_neg (by rw [decide_eq_false h]; decide), List.count_eq_zero_of_not_mem h, Nat.zero_add]
theorem two_of {α : Type} {l : List α} (h : l.length = 2) (nd : l.Nodup) : ∃ a b, a ≠ b ∧ l = [a, b] := by
  match l, h, nd with
  | [a, b], _, nd => exact ⟨a, b, fun e => (List.nodup_cons.mp nd).1 (by rw [e]; exact List.mem_cons_self), rfl⟩
theorem ring_is {L : List (List Int)} {F : List (List Nat)} {g : List Nat} (nd : ∀ p, (Mt.row L p).Nodup) (hF : Mt.Groups L F) (hg : g ∈ F) (h : ringB L g = true) : Mt.RingG L g := by
  unfold ringB at h
  rw [Bool.and_eq_true] at h
  have h1 := List.all_eq_true.mp h.1
  have h2 := List.all_eq_true.mp h.2
  refine ⟨fun p hp => two_of (of_decide_eq_true (h1 p hp)) (nd p), fun p hp t ht => ?_⟩
  have tg : t ∈ givenL L g := List.mem_flatten.mpr ⟨_, List.mem_map.mpr ⟨p, hp, rfl⟩, ht⟩
  have c2 := of_decide_eq_true (h2 t tg)
  rw [cnt_flat nd] at c2
  obtain ⟨a, b, ab, e⟩ := two_of c2 ((hF.nd hg).sublist List.filter_sublist)
  have m : ∀ q, (q ∈ g ∧ t ∈ Mt.row L q) ↔ q = a ∨ q = b := fun q => by
    have : q ∈ g.filter (fun p => decide (t ∈ Mt.row L p)) ↔ q ∈ [a, b] := by rw [e]
    rw [List.mem_filter, decide_eq_true_iff] at this
    rw [this]
    simp
  have tied : ∀ r, t ∈ Mt.row L r → r ∈ g := fun r hr => hF.tied hg hp (Mt.row_lt hr) ⟨t, ht, hr⟩
  rcases (m p).mp ⟨hp, ht⟩ with e1 | e1
  · have hb := (m b).mpr (.inr rfl)
    exact ⟨b, fun z => ab (by rw [← e1, z]), hb.1, hb.2, fun r hr => ((m r).mp ⟨tied r hr, hr⟩).imp (fun z => by rw [z, e1]) id⟩
  · have ha := (m a).mpr (.inl rfl)
    exact ⟨a, fun z => ab (by rw [← e1, z]), ha.1, ha.2, fun r hr => ((m r).mp ⟨tied r hr, hr⟩).symm.imp (fun z => by rw [z, e1]) id⟩
/-- what is found behind some steps -/
def rndI (L : List (List Int)) (s : Nat) (k : Nat) : List Int := ((List.range k).map fun i => [((Mt.wkR L s i).1 : Int), (Mt.wkR L s i).2]).flatten
theorem rndI_succ {L : List (List Int)} {s k : Nat} : rndI L s (k + 1) = rndI L s k ++ [((Mt.wkR L s k).1 : Int), (Mt.wkR L s k).2] := by
  unfold rndI
  rw [List.range_succ, List.map_append, List.flatten_append, List.map_singleton, List.flatten_singleton]
theorem rndI_len {L : List (List Int)} {s : Nat} : ∀ k, (rndI L s k).length = 2 * k
  | 0 => rfl
  | k + 1 => by
    rw [rndI_succ, List.length_append, rndI_len k]
    rfl
section
variable {P : Program} {w : World} {K : PySem.W.Frag} {mg : Str → Option Value} {base : Heap} {C : Addr}
def spOp (K : PySem.W.Frag) : Sp := fun vs H Q _ => ∃ (a : Addr) (L : List (List Int)) (p q : Nat) (t : Int), vs = [.ref a, nV p, .int t] ∧ RowsQ true K H (.ref a) L ∧ L.length ≤ 100 ∧ ((List.range L.length).filter fun q => decide (q ≠ p) && decide (t ∈ Mt.row L q))[0]? = some q ∧ ∀ H', Same H H' → Q (nV q) H'
theorem ok_op (A : At K mg "_other_person" s_other_person ["live", "person", "thing"]) (T : Tx mg) : Dfn P w K mg base "_other_person" ["live", "person", "thing"] 1 (spOp K) := by
  refine A.ok sc_other_person (fun vs H Q E h => ?_) (fun f cdv A outer s H vs Q E hr h => ?_)
  · obtain ⟨_, _, _, _, _, rfl, _⟩ := h
    rfl
  · obtain ⟨a, L, p, q, t, rfl, hR, hn, hq, k⟩ := h
    obtain ⟨la, lvs, e, hla, hlb⟩ := id hR
    cases e
    have hla : SqL K H a lvs := hla
    have lvl := hlb.len
    refine ⟨_, (pss_one (ps_ret (pe_ix ix_list (pe_lc (own := [("one", 3), ("row", 4)]) (g := (gTup K 2 (gCons (gName 3) (gCons (gName 4) gNil)))) (tt := (tAnd (tTest (tOp rNe (tVar 3) (tVar 1))) (tTest (tOp (rIn K false) (tVar 2) (tVar 4))))) (te := (tVar 3)) (by rfl) sc_other_person.nd (pi_enum (by rfl) T.enumerate (pa_cons (pv 0) pa_nil)) (blkOk_by (own := [("one", 3), ("row", 4)]) (N := n_other_person) (sc := (defScope s_other_person)) (by decide +kernel)) (fun _ _ _ _ _ => (pg_tup rfl (pgs_cons (pg_name (i := 3) sc_other_person.nd rfl (Or.inl rfl)) (pgs_cons (pg_name (i := 4) sc_other_person.nd rfl (Or.inl rfl)) pgs_nil)))) (fun _ _ _ _ _ => (pts_one (PW.pt (pw_and (pt_cmpR op_ne (pv 3) (pv 1) (nomark _)) (pw_and1 (pt_cmpR op_in_seq (pv 2) (pv 4) rfl)))))) (fun _ _ _ _ _ => (pv 3))) pe_int (fun _ _ => rfl)))), ?_⟩
    refine ⟨_, rfl, a, lvs, rfl, hla, fun D hD => ?_⟩
    refine lc_enumL (xs := lvs) (fun j H' => H' D = some (.lst (((List.range j).filter fun q => decide (q ≠ p) && decide (t ∈ Mt.row L q)).map nV)) ∧ Same H H') ⟨upd_same, same_new hD⟩ (fun j H' _ hp => hp.2.seq hla) ?_ ?_
    · rintro j y H3 T' hy ⟨h3, s3⟩ hT
      obtain ⟨b, r, rfl, hri, hqa⟩ := hlb.get hy
      have hqa : SqL K H b (r.map V.int) := hqa
      have jl : j < L.length := (List.getElem?_eq_some_iff.mp hri).1
      have sT : Same H3 (upd H3 T' (.tup [.int (j : Nat), .ref b])) := same_new hT
      refine ⟨T', _, rfl, SqT.of upd_same, rfl, _, _, rfl, _, _, rfl, rfl, ?_⟩
      refine ⟨rfl, _, rfl, _, rfl, rfl, ?_⟩
      rw [show (!decide (V.int ((j : Nat) : Int) = nV p)) = decide (j ≠ p) from by rw [intn_dec]; by_cases e : j = p <;> simp [e]]
      rw [List.range_succ, List.filter_append]
      have er : Mt.row L j = r := Mt.row_get hri
      have no : ¬ (decide (j ≠ p) && decide (t ∈ Mt.row L j)) = true → upd H3 T' (.tup [.int (j : Nat), .ref b]) D = some (.lst (((List.range j).filter (fun q => decide (q ≠ p) && decide (t ∈ Mt.row L q)) ++ [j].filter (fun q => decide (q ≠ p) && decide (t ∈ Mt.row L q))).map nV)) ∧ Same H (upd H3 T' (.tup [.int (j : Nat), .ref b])) := fun hb => by
        rw [List.filter_cons_of_neg (p := fun q => decide (q ≠ p) && decide (t ∈ Mt.row L q)) hb, List.filter_nil, List.append_nil]
        exact ⟨sT _ _ h3, s3.trans sT⟩
      by_cases jp : j ≠ p
      · rw [decide_eq_true jp]
        refine ⟨_, rfl, _, rfl, _, rfl, b, _, rfl, .inl ((s3.trans sT).seq hqa), rfl, all_flat_ints _, _, rfl, ?_⟩
        rw [show (if false = true then !inV (V.int t) (r.map V.int) else inV (V.int t) (r.map V.int)) = decide (t ∈ Mt.row L j) from by rw [if_neg (by decide), inV_ints, er]]
        by_cases tj : t ∈ Mt.row L j
        · have hb : (decide (j ≠ p) && decide (t ∈ Mt.row L j)) = true := by rw [decide_eq_true jp, decide_eq_true tj]; rfl
          rw [decide_eq_true tj]
          refine ⟨_, rfl, _, sT _ _ h3, by rw [List.length_map]; exact small_lt (Nat.le_trans (List.length_filter_le _ _) (by rw [List.length_range]; omega)), ?_, same_mut (s3.trans sT) hD⟩
          rw [upd_same, List.filter_cons_of_pos (p := fun q => decide (q ≠ p) && decide (t ∈ Mt.row L q)) hb, List.filter_nil, List.map_append]
          rfl
        · rw [decide_eq_false tj]
          exact no (by rw [decide_eq_false tj, Bool.and_false]; decide)
      · rw [decide_eq_false jp]
        exact ⟨_, rfl, no (by rw [decide_eq_false jp, Bool.false_and]; decide)⟩
    · rintro H3 ⟨h3, s3⟩
      rw [lvl] at h3
      refine ⟨D, _, _, nV q, rfl, rfl, SqL.of h3, atI_nat (j := 0) (by rw [List.getElem?_map, hq]; rfl), k H3 s3⟩
def spOt (K : PySem.W.Frag) : Sp := fun vs H Q _ => ∃ (a : Addr) (L : List (List Int)) (p : Nat) (t u : Int), vs = [.ref a, nV p, .int t] ∧ RowsQ true K H (.ref a) L ∧ p < L.length ∧ (Mt.row L p).length ≤ 100 ∧ ((Mt.row L p).filter fun u => decide (u ≠ t))[0]? = some u ∧ ∀ H', Same H H' → Q (.int u) H'
theorem ok_ot (A : At K mg "_other_thing" s_other_thing ["live", "person", "thing"]) (T : Tx mg) : Dfn P w K mg base "_other_thing" ["live", "person", "thing"] 1 (spOt K) := by
  refine A.ok sc_other_thing (fun vs H Q E h => ?_) (fun f cdv A outer s H vs Q E hr h => ?_)
  · obtain ⟨_, _, _, _, _, rfl, _⟩ := h
    rfl
  · obtain ⟨a, L, p, t, u0, rfl, hR, hp, hl, hq, k⟩ := h
    obtain ⟨la, lvs, e, hla, hlb⟩ := id hR
    cases e
    have hla : SqL K H a lvs := hla
    refine ⟨_, (pss_one (ps_ret (pe_ix ix_list (pe_lc (own := [("one", 3)]) (g := (gName 3)) (tt := (tTest (tOp rNe (tVar 3) (tVar 2)))) (te := (tVar 3)) (by rfl) sc_other_thing.nd (pi_list (pe_ix ix_list (pv 0) (pv 1) (fun _ _ => rfl))) (blkOk_by (own := [("one", 3)]) (N := n_other_thing) (sc := (defScope s_other_thing)) (by decide +kernel)) (fun _ _ _ _ _ => (pg_name (i := 3) sc_other_thing.nd rfl (Or.inl rfl))) (fun _ _ _ _ _ => (pts_one (pt_cmpR op_ne (pv 3) (pv 2) (nomark _)))) (fun _ _ _ _ _ => (pv 3))) pe_int (fun _ _ => rfl)))), ?_⟩
    obtain ⟨b, hb1, hb2⟩ := hlb.at_ (List.getElem?_eq_getElem hp)
    have er := row_in hp
    obtain ⟨r, err⟩ : ∃ r, r = Mt.row L p := ⟨_, rfl⟩
    rw [← er, ← err] at hb2
    rw [← err] at hl hq
    have hb2 : SqL K H b (r.map V.int) := hb2
    refine ⟨_, rfl, _, rfl, a, lvs, _, .ref b, rfl, rfl, hla, atI_nat hb1, b, rfl, ⟨_, hb2⟩, fun D hD => ?_⟩
    refine lc_list (xs := r.map V.int) (fun j H' => H' D = some (.lst (((r.take j).filter fun u => decide (u ≠ t)).map V.int)) ∧ Same H H') ⟨upd_same, same_new hD⟩ (fun j H' _ hp => hp.2.seq hb2) ?_ ?_
    · rintro j y H1 hy ⟨h1, s1⟩
      obtain ⟨u, hu, rfl⟩ : ∃ u, r[j]? = some u ∧ y = V.int u := by
        rw [List.getElem?_map] at hy
        cases e : r[j]? with
        | none => rw [e] at hy; cases hy
        | some u => rw [e] at hy; exact ⟨u, rfl, (Option.some.inj hy).symm⟩
      have fs : (r.take (j + 1)).filter (fun u => decide (u ≠ t)) = (r.take j).filter (fun u => decide (u ≠ t)) ++ if decide (u ≠ t) = true then [u] else [] := by
        rw [show r.take (j + 1) = r.take j ++ [u] from by rw [List.take_add_one, hu]; rfl, List.filter_append]
        congr 1
        by_cases hb : decide (u ≠ t) = true
        · rw [if_pos hb, List.filter_cons_of_pos (p := fun u => decide (u ≠ t)) hb]; rfl
        · rw [if_neg hb, List.filter_cons_of_neg (p := fun u => decide (u ≠ t)) hb]; rfl
      refine ⟨rfl, _, rfl, _, rfl, rfl, _, rfl, ?_⟩
      rw [show (!decide (V.int u = V.int t)) = decide (u ≠ t) from by rw [show decide (V.int u = V.int t) = decide (u = t) from decide_eq_decide.mpr ⟨fun h => by injection h, fun h => by rw [h]⟩]; by_cases e : u = t <;> simp [e]]
      rw [fs]
      refine ite2 (fun hc => ?_) (fun hc => ?_)
      · rw [if_pos hc]
        refine ⟨_, rfl, _, h1, small_lt (by rw [List.length_map]; exact Nat.le_trans (List.length_filter_le _ _) (by rw [List.length_take]; omega)), ?_, same_mut s1 hD⟩
        rw [upd_same, List.map_append]
        rfl
      · rw [if_neg hc, List.append_nil]
        exact ⟨h1, s1⟩
    · rintro H1 ⟨h1, s1⟩
      rw [List.length_map, List.take_length] at h1
      exact ⟨D, _, _, .int u0, rfl, rfl, SqL.of h1, atI_nat (j := 0) (by rw [List.getElem?_map, hq]; rfl), k H1 s1⟩
def spRnd (K : PySem.W.Frag) : Sp := fun vs H Q _ => ∃ (a : Addr) (L : List (List Int)) (g : List Nat) (s : Nat), vs = [.ref a, nV s] ∧ RowsQ true K H (.ref a) L ∧ L.length ≤ 40 ∧ Mt.RingG L g ∧ g.Nodup ∧ (∀ p ∈ g, p < L.length) ∧ (∀ p ∈ g, ∀ q ∈ g, Mt.Conn L p q) ∧ s ∈ g ∧ ∀ p H', Same H H' → SqT K H' p ((rndI L s g.length).map V.int) → Q (.ref p) H'
theorem ok_round_fromE (A : At K mg "_round_from" s_round_from ["live", "start"]) (T : Tx mg) (G_other_person : Dfn P w K mg base "_other_person" ["live", "person", "thing"] 1 (spOp K)) (G_other_thing : Dfn P w K mg base "_other_thing" ["live", "person", "thing"] 1 (spOt K)) : Dfn P w K mg base "_round_from" ["live", "start"] 2 (spRnd K) := by
  refine A.ok sc_round_from (fun vs H Q E h => ?_) (fun f cdv A outer s H vs Q E hr h => ?_)
  · obtain ⟨_, _, _, _, rfl, _⟩ := h
    rfl
  · obtain ⟨a, L, g, st, rfl, hR, hn, rg, nd, lt, conn, hs, k⟩ := h
    obtain ⟨la, lvs, e, hla, hlb⟩ := id hR
    cases e
    have hla : SqL K H a lvs := hla
    refine ⟨_, (pss_cons (ps_set (i := 2) sc_round_from.nd rfl (Or.inl rfl) (pe_lst pa_nil))
      (pss_cons (ps_set (i := 3) sc_round_from.nd rfl (Or.inl rfl) (pv 1))
      (pss_cons (ps_set (i := 4) sc_round_from.nd rfl (Or.inl rfl) (pe_ix ix_list (pe_ix ix_list (pv 0) (pv 1) (fun _ _ => rfl)) pe_int (fun _ _ => rfl)))
      (pss_cons (ps_while PassesOwn.never (PW.pt (pw_or (pt_cmpR op_eq (pe_callB c_len (by rfl) T.len (by decide +kernel) (pa_cons (pv 2) pa_nil)) pe_int (nomark _)) (pw_or1 (pt_cmpR op_ne (pv 3) (pv 1) (nomark _))))) (pss_cons (ps_expr (pe_bm PySem.F.plainAttrs_list PySem.F.slot_list_extend PySem.F.type_list_extend mt_extend (pv 2) (pa_cons (pe_lst (pa_cons (pv 3) (pa_cons (pv 4) pa_nil))) pa_nil)))
      (pss_cons (ps_set (i := 3) sc_round_from.nd rfl (Or.inl rfl) (pe_d G_other_person (hr.mono (by decide)) (pa_cons (pv 0) (pa_cons (pv 3) (pa_cons (pv 4) pa_nil)))))
      (pss_one (ps_set (i := 4) sc_round_from.nd rfl (Or.inl rfl) (pe_d G_other_thing (hr.mono (by decide)) (pa_cons (pv 0) (pa_cons (pv 3) (pa_cons (pv 4) pa_nil)))))))))
      (pss_one (ps_ret (pe_callTy c_tuple (by rfl) T.tuple (by decide +kernel) (pa_cons (pv 2) pa_nil)))))))), ?_⟩
    have gl : g.length ≤ L.length := by
      have := Mt.len_le nd (l2 := List.range L.length) fun p hp => List.mem_range.mpr (lt p hp)
      rwa [List.length_range] at this
    have g0 := List.length_pos_of_mem hs
    obtain ⟨r1, r2⟩ := rg.round nd conn hs
    refine ⟨by show 0 ≤ sizeLine; decide, fun fa hf => ?_⟩
    have s0 := same_new (o := .lst []) hf
    obtain ⟨b, hb1, hb2⟩ := hlb.at_ (List.getElem?_eq_getElem (lt st hs))
    obtain ⟨x, y, _, exy⟩ := rg.two st hs
    rw [← row_in (lt st hs), exy] at hb2
    have hb2 : SqL K H b [V.int x, V.int y] := hb2
    have w0 : (Mt.wkR L st 0).2 = x := by
      show ((Mt.row L st)[0]?).getD 0 = x
      rw [exy]
      rfl
    refine ⟨_, rfl, _, rfl, _, rfl, a, lvs, _, .ref b, rfl, rfl, s0.seq hla, atI_nat hb1, b, _, _, V.int x, rfl, rfl, s0.seq hb2, rfl, ?_⟩
    dsimp only [gName]
    refine while_m (fun m σ' H' => ∃ i, m = g.length - i ∧ i ≤ g.length ∧ σ' = [some (.ref a), some (nV st), some (.ref fa), some (nV (Mt.wkR L st i).1), some (.int (Mt.wkR L st i).2)] ∧ H' fa = some (.lst ((rndI L st i).map V.int)) ∧ Same H H') ⟨g.length, 0, by omega, by omega, by rw [w0]; rfl, upd_same, s0⟩ ?_ ?_
    · rintro m σ' H1 ⟨i, rfl, il, rfl, h1, s1⟩
      have ge : SqL K H1 fa ((rndI L st i).map V.int) := SqL.of h1
      refine ⟨_, rfl, fa, _, rfl, .inl ge, rfl, _, rfl, ?_⟩
      rw [show decide (V.int ((((rndI L st i).map V.int).length : Nat) : Int) = V.int 0) = decide (i = 0) from by
        rw [List.length_map, rndI_len]
        exact decide_eq_decide.mpr ⟨fun h => by injection h with h; omega, fun h => by rw [h]; rfl⟩]
      have hi := rg.in_ hs i
      by_cases i0 : i = 0
      · rw [decide_eq_true i0]
        refine ⟨_, rfl, .inl ⟨rfl, _, ge⟩, _, rfl, _, rfl, by show 2 ≤ sizeLine; decide, fun z kz => ?_⟩
        have sz := same_new (o := .lst [nV (Mt.wkR L st i).1, V.int (Mt.wkR L st i).2]) kz
        refine ⟨fa, z, _, _, rfl, rfl, sz _ _ h1, upd_same, Nat.le_of_lt (small_lt (by rw [List.length_map, rndI_len]; show 2 * i + 2 ≤ 100000; omega)), ?_⟩
        have s2 := same_mut (o := .lst ((rndI L st i).map V.int ++ [nV (Mt.wkR L st i).1, V.int (Mt.wkR L st i).2])) (s1.trans sz) hf
        obtain ⟨o1, o2, o3, o4, o5⟩ := rg.op hi.1 hi.2
        refine ⟨_, rfl, _, rfl, _, rfl, a, L, (Mt.wkR L st i).1, _, (Mt.wkR L st i).2, rfl, hR.same s2, by omega, o5, fun H2 s3 => ?_⟩
        obtain ⟨t1, t2, t3, t4⟩ := rg.ot o2 o3
        obtain ⟨x', y', _, e'⟩ := rg.two _ o2
        refine ⟨_, rfl, _, rfl, _, rfl, a, L, _, (Mt.wkR L st i).2, _, rfl, hR.same (s2.trans s3), lt _ o2, by rw [e']; show 2 ≤ 100; decide, t4, fun H3 s4 => ?_⟩
        refine ⟨g.length - (i + 1), by omega, i + 1, rfl, by omega, rfl, ?_, (s2.trans s3).trans s4⟩
        rw [(s3.trans s4) _ _ (upd_same (a := fa)), rndI_succ, List.map_append]
        rfl
      · rw [decide_eq_false i0]
        refine ⟨_, rfl, _, rfl, rfl, _, rfl, ?_⟩
        rw [show (!decide (nV (Mt.wkR L st i).1 = nV st)) = decide ((Mt.wkR L st i).1 ≠ st) from by rw [intn_dec]; by_cases e : (Mt.wkR L st i).1 = st <;> simp [e]]
        by_cases im : i < g.length
        · rw [decide_eq_true (r2 i (by omega) im)]
          refine ⟨_, rfl, .inl ⟨rfl, _, ge⟩, _, rfl, _, rfl, by show 2 ≤ sizeLine; decide, fun z kz => ?_⟩
          have sz := same_new (o := .lst [nV (Mt.wkR L st i).1, V.int (Mt.wkR L st i).2]) kz
          refine ⟨fa, z, _, _, rfl, rfl, sz _ _ h1, upd_same, Nat.le_of_lt (small_lt (by rw [List.length_map, rndI_len]; show 2 * i + 2 ≤ 100000; omega)), ?_⟩
          have s2 := same_mut (o := .lst ((rndI L st i).map V.int ++ [nV (Mt.wkR L st i).1, V.int (Mt.wkR L st i).2])) (s1.trans sz) hf
          obtain ⟨o1, o2, o3, o4, o5⟩ := rg.op hi.1 hi.2
          refine ⟨_, rfl, _, rfl, _, rfl, a, L, (Mt.wkR L st i).1, _, (Mt.wkR L st i).2, rfl, hR.same s2, by omega, o5, fun H2 s3 => ?_⟩
          obtain ⟨t1, t2, t3, t4⟩ := rg.ot o2 o3
          obtain ⟨x', y', _, e'⟩ := rg.two _ o2
          refine ⟨_, rfl, _, rfl, _, rfl, a, L, _, (Mt.wkR L st i).2, _, rfl, hR.same (s2.trans s3), lt _ o2, by rw [e']; show 2 ≤ 100; decide, t4, fun H3 s4 => ?_⟩
          refine ⟨g.length - (i + 1), by omega, i + 1, rfl, by omega, rfl, ?_, (s2.trans s3).trans s4⟩
          rw [(s3.trans s4) _ _ (upd_same (a := fa)), rndI_succ, List.map_append]
          rfl
        · have ie : i = g.length := by omega
          rw [ie, decide_eq_false (fun h => h r1)]
          rw [ie] at ge
          refine ⟨_, rfl, fa, _, rfl, .inl ⟨ge, fun q hq => ?_⟩⟩
          exact k q _ (s1.trans (same_new hq)) (SqT.of upd_same)
    · rintro σ' H1 Q1 Q2 hQ ⟨x1, e1, a1, xs1, e2, h1, e3, k1, e4, f⟩
      refine ⟨x1, e1, a1, xs1, e2, h1, e3, k1, e4, ?_⟩
      cases k1 with
      | true => exact hQ _ _ f
      | false =>
        obtain ⟨y1, z1, y2, z2, sc1, k2, z3, f⟩ := f
        exact ⟨y1, z1, y2, z2, sc1, k2, z3, hQ _ _ f⟩
end
end Fo
set_option maxRecDepth 100000
set_option maxHeartbeats 4000000
namespace Fo
open PySem PySem.Spec PyProof.Rows L2
abbrev s_round_of : Stmt := top 40
abbrev n_round_of : List Str := ["table", "number", "live", "found"]
theorem sc_round_of : FnScope n_round_of ["table", "number"] (defScope s_round_of) := ⟨rfl, rfl, rfl, by decide +kernel, rfl, by decide +kernel, by decide +kernel⟩
abbrev s_NoNumber___init : Stmt := inClass (top 4) 0
abbrev n_NoNumber___init : List Str := ["self"]
theorem sc_NoNumber___init : FnScope n_NoNumber___init ["self"] (defScope s_NoNumber___init) := ⟨rfl, rfl, rfl, by decide +kernel, rfl, by decide +kernel, by decide +kernel⟩
abbrev s_NoRing___init : Stmt := inClass (top 7) 0
abbrev n_NoRing___init : List Str := ["self"]
theorem sc_NoRing___init : FnScope n_NoRing___init ["self"] (defScope s_NoRing___init) := ⟨rfl, rfl, rfl, by decide +kernel, rfl, by decide +kernel, by decide +kernel⟩
theorem pass_NoNumber {P : Program} {w : World} {K : PySem.W.Frag} {mg : Str → Option Value} {base : Heap} {f : Addr} {fd : FuncData} (F : Fun K "__init__" "NoNumber.__init__" s_NoNumber___init f fd) : FnOk P w K mg base CX0 1 f fd ["self"] spPass := by
  refine F.ok sc_NoNumber___init (fun vs H Q E h => ?_) (fun cdv A outer s H vs Q E hr h => ?_)
  · obtain ⟨a, rfl, _⟩ := h
    rfl
  · obtain ⟨a, rfl, k⟩ := h
    exact ⟨_, pss_one ps_pass, k⟩
theorem pass_NoRing {P : Program} {w : World} {K : PySem.W.Frag} {mg : Str → Option Value} {base : Heap} {f : Addr} {fd : FuncData} (F : Fun K "__init__" "NoRing.__init__" s_NoRing___init f fd) : FnOk P w K mg base CX0 1 f fd ["self"] spPass := by
  refine F.ok sc_NoRing___init (fun vs H Q E h => ?_) (fun cdv A outer s H vs Q E hr h => ?_)
  · obtain ⟨a, rfl, _⟩ := h
    rfl
  · obtain ⟨a, rfl, k⟩ := h
    exact ⟨_, pss_one ps_pass, k⟩
theorem str_dec (u v : Str) : decide (V.str u = V.str v) = decide (u = v) := decide_eq_decide.mpr ⟨fun h => by injection h, fun h => by rw [h]⟩
theorem num_isR {b : Int} {x : V} (h : numV b x = true) : ∃ i : Nat, x = .int (i : Int) ∧ (i : Int) < b := by
  cases x with
  | int i =>
    have h' : (decide (0 ≤ i) && decide (i < b)) = true := h
    rw [Bool.and_eq_true] at h'
    have h0 := of_decide_eq_true h'.1
    exact ⟨i.toNat, congrArg V.int (by omega), by have := of_decide_eq_true h'.2; omega⟩
  | _ => cases h
theorem kind_ring {L : List (List Int)} {g : List Nat} (h : kindS L g = "ring") : ringB L g = true := by
  unfold kindS at h
  by_cases a : fullG L g = true
  · rw [if_pos a] at h
    exact absurd h (by decide)
  · rw [if_neg a] at h
    by_cases b : ringB L g = true
    · exact b
    · rw [if_neg b] at h
      exact absurd h (by decide)
theorem _root_.Mt.nd_liveG {rows : List (List Int)} (G : Good rows) (p : Nat) : (Mt.row (Mt.liveR rows) p).Nodup := by
  rw [Mt.row_liveR]
  refine List.Nodup.sublist List.filter_sublist ?_
  unfold Mt.row
  cases e : rows[p]? with
  | none => exact List.nodup_nil
  | some r => exact (G.asc r (List.mem_of_getElem? e)).imp fun {a b} h => by omega
section
variable {P : Program} {w : World} {K : PySem.W.Frag} {mg : Str → Option Value} {base : Heap} {C D_NoNumber D_NoRing : Addr}
def spRof (K : PySem.W.Frag) (C DN DR : Addr) : Sp := fun vs H Q E => ∃ (x y : V) (rows : List (List Int)) (F : List (List Nat)), vs = [x, y] ∧ TableAt K C H x rows ∧ Good rows ∧ rows.length ≤ 40 ∧ (∃ D, Mt.Ds rows D) ∧ Th K C H y ∧ Mt.Groups (Mt.liveR rows) F ∧ (F.map natI).Pairwise (· ≤ ·) ∧
  (∀ i g, y = nV i → F[i]? = some g → kindS (Mt.liveR rows) g = "ring" → ∀ p s H', g[0]? = some s → Same H H' → SqT K H' p ((rndI (Mt.liveR rows) s g.length).map V.int) → Q (.ref p) H') ∧
  (numV F.length y = false → ∀ H', Same H H' → E (.ref DN) none H') ∧ (∀ i g, y = nV i → F[i]? = some g → kindS (Mt.liveR rows) g ≠ "ring" → ∀ H', Same H H' → E (.ref DR) none H')
theorem ok_rof (A : At K mg "round_of" s_round_of ["table", "number"]) (T : Tx mg) (er_NoNumber : Er0 P w K mg base "NoNumber" D_NoNumber) (er_NoRing : Er0 P w K mg base "NoRing" D_NoRing) (G_is_number : Dfn P w K mg base "is_number" ["bound", "thing"] 2 (spNumber K C)) (G_live_of : Dfn P w K mg base "live_of" ["table"] 5 (spLiveOf K C)) (G_groups : Dfn P w K mg base "groups" ["rows"] 1 (spGroups K)) (G_kind_of : Dfn P w K mg base "_kind_of" ["live", "people"] 2 (spKindE K)) (G_round_from : Dfn P w K mg base "_round_from" ["live", "start"] 2 (spRnd K)) : DfnX P w K mg base "round_of" ["table", "number"] 6 (spRof K C D_NoNumber D_NoRing) := by
  refine A.okX sc_round_of (fun vs H Q E h => ?_) (fun f cdv A outer s H vs Q E hr h => ?_)
  · obtain ⟨_, _, _, _, rfl, _⟩ := h
    rfl
  · obtain ⟨x, y, rows, F, rfl, tb, G, hn, yes, hy, hF, up, k1, k2, k3⟩ := h
    refine ⟨_, (pss_cons (ps_set (i := 2) sc_round_of.nd rfl (Or.inl rfl) (pe_d G_live_of (hr.mono (by decide)) (pa_cons (pv 0) pa_nil)))
      (pss_cons (ps_set (i := 3) sc_round_of.nd rfl (Or.inl rfl) (pe_d G_groups (hr.mono (by decide)) (pa_cons (pv 2) pa_nil)))
      (pss_cons (ps_if (pt_not (pt_val (pe_d G_is_number (hr.mono (by decide)) (pa_cons (pe_callB c_len (by rfl) T.len (by decide +kernel) (pa_cons (pv 3) pa_nil)) (pa_cons (pv 1) pa_nil))))) (pss_one (ps_raise rfl (takes_of rfl rfl rfl rfl) (pmk_er0 er_NoNumber (hr.mono (by decide)) rfl))) pss_nil)
      (pss_cons (ps_if (pt_cmpR op_ne (pe_d G_kind_of (hr.mono (by decide)) (pa_cons (pv 2) (pa_cons (pe_ix ix_list (pv 3) (pv 1) (fun _ _ => rfl)) pa_nil))) pe_str (nomark _)) (pss_one (ps_raise rfl (takes_of rfl rfl rfl rfl) (pmk_er0 er_NoRing (hr.mono (by decide)) rfl))) pss_nil)
      (pss_one (ps_ret (pe_d G_round_from (hr.mono (by decide)) (pa_cons (pv 2) (pa_cons (pe_ix ix_list (pe_ix ix_list (pv 3) (pv 1) (fun _ _ => rfl)) pe_int (fun _ _ => rfl)) pa_nil))))))))), ?_⟩
    have lr40 : ∀ r ∈ Mt.liveR rows, r.length ≤ 40 := fun r hr => Nat.le_trans (G.live.row_len r hr) (by rw [Mt.liveR_len]; exact hn)
    refine ⟨_, rfl, x, rows, rfl, tb, G, hn, yes, fun l H1 s1 fl hl => ?_⟩
    refine ⟨_, rfl, .ref l, _, rfl, hl, by rw [Mt.liveR_len]; exact hn, lr40, fun F2 gl H2 hF2 up2 s2 fgl hgl => ?_⟩
    have eF : F2 = F := hF2.one hF up2 up
    subst eF
    obtain ⟨ga, gvs, e, hga, hgb⟩ := id hgl
    cases e
    have hga : SqL K H2 gl gvs := hga
    have gvl := hgb.len
    rw [List.length_map] at gvl
    have gnum := hF.num
    rw [Mt.liveR_len] at gnum
    have s12 := s1.trans s2
    refine ⟨_, rfl, gl, _, rfl, .inl hga, _, rfl, _, y, rfl, hy.same s12, _, rfl, ?_⟩
    rw [gvl]
    cases ny : numV ((F2.length : Nat) : Int) y with
    | false => exact k2 ny H2 s12
    | true =>
      obtain ⟨i, rfl, il⟩ := num_isR ny
      obtain ⟨g, hg⟩ : ∃ g, F2[i]? = some g := ⟨_, List.getElem?_eq_getElem (by omega)⟩
      have gm := List.mem_of_getElem? hg
      obtain ⟨pa, hp1, hp2⟩ := hgb.at_ (r := natI g) (by rw [List.getElem?_map, hg]; rfl)
      have hp2 : SqL K H2 pa ((natI g).map V.int) := hp2
      have gln := hF.len gm
      rw [Mt.liveR_len] at gln
      have glt : ∀ p ∈ g, p < (Mt.liveR rows).length := fun p hp => hF.lt gm hp
      refine ⟨_, rfl, _, rfl, _, rfl, gl, gvs, _, .ref pa, rfl, rfl, hga, atI_nat hp1, l, pa, _, g, rfl, hl.same s2, hp2, glt, lr40, by omega, fun H3 s3 => ?_⟩
      refine ⟨rfl, _, rfl, ?_⟩
      rw [str_dec]
      by_cases kr : kindS (Mt.liveR rows) g = "ring"
      · rw [decide_eq_true kr]
        obtain ⟨st, hst⟩ : ∃ st, g[0]? = some st := ⟨_, List.getElem?_eq_getElem (List.length_pos_iff.mpr (hF.ne g gm))⟩
        have ndr : ∀ p, (Mt.row (Mt.liveR rows) p).Nodup := fun p => Mt.nd_liveG G p
        have s13 := s12.trans s3
        refine ⟨_, rfl, _, rfl, _, rfl, gl, gvs, _, .ref pa, rfl, rfl, s3.seq hga, atI_nat hp1, pa, _, _, nV st, rfl, rfl, s3.seq hp2, atI_nat (j := 0) (by unfold natI; rw [List.map_map, List.getElem?_map, hst]; rfl), ?_⟩
        refine ⟨l, _, g, st, rfl, (hl.same s2).same s3, by rw [Mt.liveR_len]; exact hn, ring_is ndr hF gm (kind_ring kr), hF.nd gm, glt, hF.conn g gm, List.mem_of_getElem? hst, fun p H4 s4 hp => ?_⟩
        exact k1 i g rfl hg kr p st H4 hst (s13.trans s4) hp
      · rw [decide_eq_false kr]
        exact k3 i g rfl hg kr H3 (s12.trans s3)
end
end Fo
set_option maxRecDepth 100000
set_option maxHeartbeats 4000000
set_option maxRecDepth 100000
set_option maxHeartbeats 4000000
namespace Fo
open PySem PySem.Spec PyProof.Rows HT
/-- every second one, from the place a on -/
def evr {α : Type} (a : Nat) (xs : List α) : List α := (List.range ((xs.length - a + 1) / 2)).filterMap fun m => xs[a + m * 2]?
section
variable {prog : Program} {w : World} {A : Around} {E : Value → Shared → Prop} {s : Shared}
def loO (a : Nat) : Option Int → Prop := fun o => o = some (a : Int) ∨ (o = none ∧ a = 0)
theorem adjust_two {a n : Nat} (h : a ≤ n) {o : Option Int} (ho : loO a o) : Builtin.Slice.sliceAdjust o none 2 (n : Int) = ((a : Int), (n : Int)) := by
  unfold Builtin.Slice.sliceAdjust
  have h1 : ¬ ((2 : Int) < 0) := by omega
  simp only [h1, if_false]
  rcases ho with rfl | ⟨rfl, rfl⟩
  · have h2 : ¬ ((a : Int) < 0) := by omega
    simp only [h2, if_false]
    rw [Int.min_eq_left (by omega)]
  · rfl
theorem places_two {a n : Nat} (h : a ≤ n) : Builtin.Slice.slicePlaces (a : Int) (n : Int) 2 = (n - a + 1) / 2 := by
  unfold Builtin.Slice.slicePlaces
  have h1 : ((2 : Int) > 0) := by omega
  simp only [h1, if_true]
  split <;> omega
theorem applied_two {sl : Addr} {vl vu vs : Value} {a n : Nat} (h : a ≤ n) {o : Option Int} (ho : loO a o) {Q : Int × Int × Nat → Shared → Prop} (hs : s.heap.IsSliceOf sl vl vu vs) (pl : IsPart vl o) (pu : IsPart vu none) (ps : IsPart vs (some 2))
    (k : Q ((a : Int), 2, (n - a + 1) / 2) s) : wpAny (model prog w) A (Builtin.Slice.sliceApplied (.ref sl) (pure (n : Int))) Q E s := by
  obtain ⟨os, hos, hcs, hds⟩ := id hs
  unfold Builtin.Slice.sliceApplied Builtin.Slice.sliceFields
  refine wpAny_bind (wpAny_bind (wpAny_field hos hds (x := vl) rfl (wpAny_bind (wpAny_field hos hds (x := vu) rfl (wpAny_bind (wpAny_field hos hds (x := vs) rfl (wpAny_pure ?_)))))))
  refine wpAny_bind (slicePart_ ps ?_)
  show wpAny _ _ (if ((2 : Int) == 0) = true then _ else _) _ _ s
  rw [if_neg (by decide)]
  refine wpAny_bind (slicePart_ pl (wpAny_bind (slicePart_ pu (wpAny_bind (wpAny_pure ?_)))))
  show wpAny _ _ (match Builtin.Slice.sliceAdjust o none 2 (n : Int) with | (lo, hi) => pure (lo, (2 : Int), Builtin.Slice.slicePlaces lo hi 2)) _ _ s
  rw [adjust_two h ho]
  show wpAny _ _ (pure ((a : Int), (2 : Int), Builtin.Slice.slicePlaces (a : Int) (n : Int) 2)) _ _ s
  rw [places_two h]
  exact wpAny_pure k
theorem pick_two (a : Nat) (xs : Array Value) : ((List.range ((xs.size - a + 1) / 2)).filterMap fun (m : Nat) => xs[((a : Int) + (m : Int) * 2).toNat]?).toArray = (evr a xs.toList).toArray := by
  unfold evr
  rw [Array.length_toList]
  refine congrArg List.toArray ?_
  have aux : ∀ (l : List Nat) (f g : Nat → Option Value), (∀ x ∈ l, f x = g x) → l.filterMap f = l.filterMap g := by
    intro l f g hfg
    induction l with
    | nil => rfl
    | cons x l ih => rw [List.filterMap_cons, List.filterMap_cons, hfg x List.mem_cons_self, ih fun y hy => hfg y (List.mem_cons_of_mem _ hy)]
  refine aux _ _ _ fun m _ => ?_
  have e1 : ((a : Int) + (m : Int) * 2).toNat = a + m * 2 := by omega
  rw [e1, Array.getElem?_toList]
theorem evr_len {α : Type} (a : Nat) (xs : List α) : (evr a xs).length ≤ xs.length := by
  unfold evr
  refine Nat.le_trans (List.length_filterMap_le _ _) ?_
  rw [List.length_range]
  omega
theorem getItem_tuple_two {t sl : Addr} {items : Array Value} {vl vu vs : Value} {a : Nat} (h : a ≤ items.size) {o : Option Int} (ho : loO a o) {Q : Value → Shared → Prop} (ht : IsTup s.heap t items) (hs : s.heap.IsSliceOf sl vl vu vs) (pl : IsPart vl o) (pu : IsPart vu none) (ps : IsPart vs (some 2))
    (k : Q (.ref s.heap.objs.size) { s with heap := s.heap.push { cls := .type "tuple", data := .seq (evr a items.toList).toArray } })
    (hsz : items.size ≤ sizeLine) : wpAny (model prog w) A (getItem (.ref t) (.ref sl)) Q E s := by
  have htake : sizeOk (.seq (evr a items.toList).toArray) := by
    show (evr a items.toList).toArray.size ≤ sizeLine
    rw [List.size_toArray]
    exact Nat.le_trans (evr_len _ _) (by rw [Array.length_toList]; exact hsz)
  obtain ⟨os, hos, hcs, hds⟩ := id hs
  have hTs : s.TypeIs (.ref sl) "slice" := ⟨os, hos, hcs⟩
  unfold getItem
  try with_reducible refine wpAny_holding ?_
  first | refine wpAny_bind (wpAny_pure ?_) | skip
  refine wpAny_bind (wpAny_sequenceKey ht.typeIs (by decide) ?_)
  refine wpAny_bind (wpAny_callSpecial?_slot (name := Str.ofString "__getitem__") ht.typeIs PyProof.Rows.slot_tuple_getitem
    (wpAny_call_entry PyProof.Rows.slot_tuple_getitem ht.typeIs entry_tuple_getitem ?_ (args_tuple_getitem _ _)))
  show wpAny _ _ (Builtin.Tuple.tupleItemsOf (.ref t) >>= _) _ _ s
  refine wpAny_bind (tupleItemsOf_ ht ?_)
  refine wpAny_bind (wpAny_typeOf hTs ?_)
  rw [if_pos (by decide)]
  refine wpAny_bind (applied_two h ho hs pl pu ps ?_)
  have hno : ¬ (((a : Int) == 0 && (2 : Int) == 1 && (items.size - a + 1) / 2 == items.size) = true) := by
    intro q
    rw [Bool.and_eq_true, Bool.and_eq_true] at q
    exact absurd q.1.2 (by decide)
  show wpAny _ _ (if ((a : Int) == 0 && (2 : Int) == 1 && (items.size - a + 1) / 2 == items.size) = true then _ else _) _ _ s
  rw [if_neg hno, pick_two]
  first
    | exact wpAny_bind (m := Builtin.Tuple.tupleExact _) (wpAny_newObj_type (wpAny_pure ⟨_, rfl, wpAny_pure k⟩) htake)
    | exact wpAny_bind (m := Builtin.Tuple.tupleExact _) (wpAny_newObj_type (wpAny_bind (wpAny_pure (wpAny_pure ⟨_, rfl, wpAny_pure k⟩))) htake)
    | exact wpAny_bind (wpAny_bind (m := Builtin.Tuple.tupleExact _) (wpAny_newObj_type (wpAny_pure (wpAny_pure ⟨_, rfl, wpAny_pure k⟩)) htake))
    | exact wpAny_bind (wpAny_bind (m := Builtin.Tuple.tupleExact _) (wpAny_newObj_type (wpAny_pure ⟨_, rfl, wpAny_pure k⟩) htake))
end
end Fo
namespace Fo
open PySem PySem.Spec PyProof.Rows L2
theorem vals_evr {a : Nat} {xs : List V} {its : List Value} (r : Vals xs its) : Vals (evr a xs) (evr a its) := by
  have rl : xs.length = its.length := r.length
  have at_ : ∀ (l : List Nat), Vals (l.filterMap fun m => xs[a + m * 2]?) (l.filterMap fun m => its[a + m * 2]?) := by
    have get : ∀ {xs : List V} {its : List Value}, Vals xs its → ∀ i : Nat, (∃ (x : V) (v : Value), xs[i]? = some x ∧ its[i]? = some v ∧ RelV x v) ∨ (xs[i]? = none ∧ its[i]? = none) := by
      intro xs its r
      induction r with
      | nil => intro i; exact .inr ⟨rfl, rfl⟩
      | cons h t ih =>
        intro i
        cases i with
        | zero => exact .inl ⟨_, _, rfl, rfl, h⟩
        | succ i => exact ih i
    intro l
    induction l with
    | nil => exact .nil
    | cons m l ih =>
      rcases get r (a + m * 2) with ⟨x, v, e1, e2, rv⟩ | ⟨e1, e2⟩
      · rw [List.filterMap_cons, List.filterMap_cons, e1, e2]
        exact .cons rv ih
      · rw [List.filterMap_cons, List.filterMap_cons, e1, e2]
        exact ih
  unfold evr
  rw [rl]
  exact at_ _
/-- t[::2], t[1::2] -/
def tStepA (K : PySem.W.Frag) (te : TE) (tl : TO) : TE := fun σ H Q => te σ H fun x H1 => tl σ H1 fun o H2 => ∃ a xs n, x = .ref a ∧ SqT K H2 a xs ∧ loO n o ∧ n ≤ xs.length ∧ ∀ p, H2 p = none → Q (.ref p) (upd H2 p (.tup (evr n xs)))
theorem pe_stepA {X : Cx} {e : Expr} {te : TE} {lo : Option Expr} {tl : TO} {k : Nat} {p1 p3 pos : Pos} (he : PE X e te) (hl : PO X lo tl) : PE X (.Subscript e (.Slice lo none (some (.Constant (.int 2) k p1)) p3) pos) (tStepA X.K te tl) := by
  refine ⟨fun pins s σ H Q I h => ?_⟩
  refine Subscript_ (thn (he.run pins s σ H _ I h) fun v s1 ⟨x, H1, I1, r1, q1⟩ => ?_)
  have hst : PO X (some (.Constant (.int 2) k p1)) (tPart (tC (.int 2))) := po_some pe_int
  refine wpAny_Slice (thn (hl.run pins s1 σ H1 _ I1 q1) fun vl s2 ⟨l, H2, I2, pl, q2⟩ => ?_)
  obtain ⟨a, xs, n, ex, hx, ho, hn, q⟩ := q2
  subst ex
  cases r1
  refine thn (po_none.run pins s2 σ H2 (fun o H3 => o = none ∧ H3 = H2) I2 ⟨rfl, rfl⟩) fun vu s3 ⟨u, H3, I3, pu, eu, e3⟩ => ?_
  subst eu e3
  refine thn (hst.run pins s3 σ H3 (fun o H4 => o = some 2 ∧ H4 = H3) I3 ⟨2, rfl, rfl, rfl⟩) fun vs s4 ⟨o, H4, I4, ps, eo, e4⟩ => ?_
  subst eo e4
  have I5 : Inv X pins σ H4 { s4 with heap := s4.heap.push { cls := .type "slice", data := .fields #[vl, vu, vs] } } := I4.kept (t' := s4.toks) fun b ob q => Heap.get?_push_of_some _ q
  obtain ⟨its, r, ht, hz⟩ := I5.tuple hx
  have hlen : its.toArray.size = xs.length := by rw [List.size_toArray]; exact r.length.symm
  show wpAny (model X.prog X.w) X.A (subscriptTail e (.Slice lo none (some (.Constant (.int 2) k p1)) p3) (.ref a) (.ref s4.heap.objs.size)) (EP X pins σ Q) X.xe { s4 with heap := s4.heap.push { cls := .type "slice", data := .fields #[vl, vu, vs] } }
  refine tail_any (ops := [.ref a, .ref s4.heap.objs.size]) ht.typeIs PyProof.Rows.slot_tuple_getitem.lookup ?_ (by with_unfolding_all rfl)
  refine getItem_tuple_two (a := n) (by rw [hlen]; exact hn) ho ht (Heap.IsSliceOf.new _ vl vu vs) pl pu ps ?_ (by rw [hlen]; exact hz)
  refine ⟨.ref _, _, I5.laid (t' := s4.toks) (o := .tup (evr n xs)) (fun b ob q => Heap.get?_push_of_some _ q) (Nat.le_refl _) ?_, rfl, q _ (I5.hok.fresh (Nat.le_refl _))⟩
  exact ⟨Nat.le_trans (evr_len _ _) hz, _, vals_evr r, IsTup.new _ _⟩
end Fo
set_option maxRecDepth 100000
set_option maxHeartbeats 2000000
namespace Fo
open PySem PySem.Spec PyProof.Rows L2
section
variable {P : Program} {w : World} {A : Around} {E : Value → Shared → Prop} {s : Shared} {a : Addr}
theorem collect_tup {Q : List Value → Shared → Prop} {o : Obj} {its : List Value} {n : Nat} (at0 : s.heap.get? a = some o) (oc : o.cls = .type "tuple") (od : o.data = .seq its.toArray n) (lim : its.length ≤ sizeLine)
    (fin : Q its { s with heap := (s.heap.push { cls := .type "list", data := .seq ([] : List Value).toArray }).update s.heap.objs.size (Obj.mapSeq (· ++ its.toArray)) }) :
    wpAny (model P w) A (collect (.ref a)) Q E s := by
  have l0 : (s.heap.push { cls := .type "list", data := .seq ([] : List Value).toArray }).get? s.heap.objs.size = some { cls := .type "list", data := .seq #[] 0 } := Heap.get?_push_size _ rfl
  have l1 := Heap.get?_update_self (Obj.mapSeq (· ++ its.toArray)) l0 rfl
  unfold collect
  refine wpAny_bind (wpAny_runValue (codeAny_builtin F.entry_proto_collect ?_))
  rw [Around.under_plainId F.plain_proto_collect _]
  show wpAny _ A.in1 (newList [] >>= fun l => again (.builtin "list.__iadd__" ⟨[l, .ref a], []⟩)) _ _ s
  refine wpAny_bind (wpAny_newObj_type ?_)
  refine wpAny_pure ⟨plainId_quiet F.plain_list_iadd _, codeAny_builtin F.entry_list_iadd ?_⟩
  rw [Around.under_plainId F.plain_list_iadd _]
  show wpAny _ A.in1 (Builtin.List.listExtendWith (.ref s.heap.objs.size) (.ref a) (.ref s.heap.objs.size)) _ _ _
  have last : wpAny (model P w) A (match Value.ref s.heap.objs.size with
      | Value.ref a => do
        match (← load a).data with
          | Data.seq xs _ => pure xs.toList
          | _ => unsupported "internal:collect"
      | _ => unsupported "internal:collect") Q E { s with heap := (s.heap.push { cls := .type "list", data := .seq ([] : List Value).toArray }).update s.heap.objs.size (Obj.mapSeq (· ++ its.toArray)) } := by
    show wpAny _ A (load s.heap.objs.size >>= _) _ _ _
    refine wpAny_bind (wpAny_load l1 ?_)
    refine wpAny_pure ?_
    show Q ((#[] : Array Value) ++ its.toArray).toList _
    rw [show ((#[] : Array Value) ++ its.toArray).toList = its by simp]
    exact fin
  refine wpAny_mono (wpAny_extend_seq (hsz := by rw [List.size_toArray]; exact lim) (A := A) (R := fun r s' => r = .ok (.ret (.ref s.heap.objs.size)) ∧ s' = { s with heap := (s.heap.push { cls := .type "list", data := .seq ([] : List Value).toArray }).update s.heap.objs.size (Obj.mapSeq (· ++ its.toArray)) })
    (s := { s with heap := s.heap.push { cls := .type "list", data := .seq ([] : List Value).toArray } }) _ a _ 0 (.inr rfl) l0 (Heap.get?_push_of_some _ at0) oc od ⟨rfl, rfl⟩) (fun f s' h => ?_) (fun e s' h => ?_)
  · cases f with
    | done f =>
      obtain ⟨e, rfl⟩ := h
      cases e
      exact last
    | again c' => exact ⟨h.1, codeAny_mono h.2 fun r s'' hr => by obtain ⟨rfl, rfl⟩ := hr; exact last⟩
  · exact absurd h.1 (by simp)
theorem sorted_tupA {o : Obj} {its : List Value} {n : Nat} {ns : List Int} {Want : Value → Shared → Prop} (at0 : s.heap.get? a = some o) (oc : o.cls = .type "tuple") (od : o.data = .seq its.toArray n) (areI : IntsAre its ns) (lim : its.length ≤ sizeLine)
    (go : ∀ (s2 : Shared) (L : Addr) (vals : Array Value) (u : Nat) (ks : List Int), (∀ b o, s.heap.get? b = some o → s2.heap.get? b = some o) → s2.gens = s.gens → s2.os = s.os → s.heap.objs.size ≤ L →
      s2.heap.get? L = some (seqObj "list" vals u) → IntsAre vals.toList ks → ks.Pairwise (· ≤ ·) → ks.Perm ns → Want (.ref L) s2) :
    wpAny (model P w) A (call (.builtin "sorted") [.ref a]) Want E s := by
  refine Calls.call_function_entry kind_sorted plain_sorted entry_sorted (args_sorted1 _) ?_
  unfold Builtin.«sorted»
  refine wpAny_bind (m := checkCount "sorted" 1 1 _) (wpAny_pure ?_)
  refine wpAny_bind (collect_tup at0 oc od lim ?_)
  obtain ⟨h3, e3⟩ : ∃ h3, h3 = (s.heap.push { cls := .type "list", data := .seq ([] : List Value).toArray }).update s.heap.objs.size (Obj.mapSeq (· ++ its.toArray)) := ⟨_, rfl⟩
  have kept : ∀ b o, s.heap.get? b = some o → h3.get? b = some o := fun b o hb => by
    rw [e3]
    exact (Heap.get?_update_other _ _ (Nat.ne_of_gt (Heap.lt_size hb))).trans (Heap.get?_push_of_some _ hb)
  have sz : s.heap.objs.size ≤ h3.objs.size := by
    rw [e3, Heap.size_after_update, Heap.size_push]
    exact Nat.le_succ _
  rw [← e3]
  refine wpAny_bind (wpAny_newList ?_ lim)
  have new := Heap.get?_push_size h3 (o := seqObj "list" its.toArray 0) rfl
  refine wpAny_bind (wpAny_holding (wpAny_call_entry slot_list_sort ⟨_, new, rfl⟩ entry_list_sort (list_sort_treeAny new areI lim fun vals ks are pm up => ⟨_, rfl, ?_⟩) (args_list_sort _)))
  obtain ⟨u, hu⟩ := sortedHeap_at (vs := its) (out := vals) new
  refine wpAny_pure ⟨_, rfl, go _ h3.objs.size vals u ks ?_ rfl rfl sz hu are up pm⟩
  intro b o e
  have old := kept b o e
  have lt := Heap.lt_size old
  have ne : b ≠ h3.objs.size := Nat.ne_of_lt lt
  exact (sortedHeap_old ne (by rw [size_push']; exact Nat.lt_succ_of_lt lt)).trans (Heap.get?_push_of_some _ old)
end
def rSortTupI (K : PySem.W.Frag) : List V → Hp → VK → Prop := fun xs H Q => ∃ (a : Addr) (ns : List Int), xs = [.ref a] ∧ SqT K H a (ns.map V.int) ∧
  ∀ (ks : List Int) (L : Addr), ks.Pairwise (· ≤ ·) → ks.Perm ns → H L = none → Q (.ref L) (upd H L (.lst (ks.map V.int)))
theorem cr_sortTupI {X : Cx} : CallR X (.builtin "sorted") (rSortTupI X.K) := by
  intro pins s σ H xs us Q I r h
  obtain ⟨a, ns, rfl, hS, q⟩ := h
  obtain ⟨its, rv, ⟨o, e, oc, n, od⟩, hz⟩ := I.tuple hS
  rw [Vals.ref1 r]
  have li : its.length = ns.length := by rw [← rv.length, List.length_map]
  rw [List.length_map] at hz
  refine sorted_tupA e oc od (Fo.ints_of rv) (by rw [li]; exact hz) fun s2 L vals u ks kept gens2 os2 sz at2 are up pm => ?_
  have fit : (ks.map V.int).length ≤ sizeLine := by rw [List.length_map, pm.length_eq]; exact hz
  have free : H L = none := I.hok.fresh sz
  have J : Inv X pins σ (upd H L (.lst (ks.map V.int))) { s with heap := s2.heap, gens := s2.gens, drawn := s2.drawn, toks := s2.toks } :=
    I.call (ch := []) (Un.laid kept sz free) (I.hok.laid kept sz ⟨fit, vals.toList, u, vals_of_ints are, at2⟩) (by rw [gens2]; exact I.bare) (fun _ z => nomatch z)
  have same : s2 = { s with heap := s2.heap, gens := s2.gens, drawn := s2.drawn, toks := s2.toks } := by
    cases s2
    cases s
    cases os2
    rfl
  rw [same]
  exact ⟨.ref L, _, J, rfl, q ks L up pm free⟩
end Fo
set_option maxRecDepth 100000
set_option maxHeartbeats 4000000
set_option maxRecDepth 100000
set_option maxHeartbeats 4000000
namespace Fo
open PySem PySem.Spec PyProof.Rows L2
abbrev s_law_rounds_right : Stmt := top 53
abbrev n_law_rounds_right : List Str := ["table", "idle", "number", "kind", "told", "size", "lot", "at", "thing"]
theorem sc_law_rounds_right : FnScope n_law_rounds_right ["table"] (defScope s_law_rounds_right) := ⟨rfl, rfl, rfl, by decide +kernel, rfl, by decide +kernel, by decide +kernel⟩
theorem passNo {X : Cx} : Passes (L2.CX X.prog X.w) X (fun _ _ _ => False) := fun _ _ _ _ _ _ _ h => by
  obtain ⟨_, _, _, _, _, _, _, _, _, _, _, _, z⟩ := h
  exact z.elim
theorem rnd_len {L : List (List Int)} {s k : Nat} : (rndI L s k).length = 2 * k := rndI_len k
theorem rnd_at {L : List (List Int)} {s : Nat} : ∀ {k i : Nat}, i < k → (rndI L s k)[2 * i]? = some ((Mt.wkR L s i).1 : Int) ∧ (rndI L s k)[2 * i + 1]? = some (Mt.wkR L s i).2
  | 0, i, h => by omega
  | k + 1, i, h => by
    have hl := rnd_len (L := L) (s := s) (k := k)
    rw [rndI_succ]
    by_cases c : i < k
    · obtain ⟨h1, h2⟩ := rnd_at (L := L) (s := s) c
      rw [List.getElem?_append_left (by omega), List.getElem?_append_left (by omega)]
      exact ⟨h1, h2⟩
    · have e : i = k := by omega
      subst e
      rw [List.getElem?_append_right (by omega), List.getElem?_append_right (by omega), hl, Nat.sub_self, show 2 * i + 1 - 2 * i = 1 from by omega]
      exact ⟨rfl, rfl⟩
def pplR (L : List (List Int)) (s k : Nat) : List Int := (List.range k).map fun i => ((Mt.wkR L s i).1 : Int)
def thsR (L : List (List Int)) (s k : Nat) : List Int := (List.range k).map fun i => (Mt.wkR L s i).2
theorem fm_some {α β : Type} {f : α → Option β} {g : α → β} : ∀ {l : List α}, (∀ x ∈ l, f x = some (g x)) → l.filterMap f = l.map g
  | [], _ => rfl
  | x :: l, h => by
    rw [List.filterMap_cons, h x List.mem_cons_self, List.map_cons, fm_some fun y hy => h y (List.mem_cons_of_mem _ hy)]
theorem evr_ppl {L : List (List Int)} {s k : Nat} : evr 0 ((rndI L s k).map V.int) = (pplR L s k).map V.int := by
  unfold evr pplR
  rw [List.length_map, rnd_len, List.map_map, show (2 * k - 0 + 1) / 2 = k from by omega]
  refine fm_some fun i hi => ?_
  rw [List.getElem?_map, show 0 + i * 2 = 2 * i from by omega, (rnd_at (List.mem_range.mp hi)).1]
  rfl
theorem evr_ths {L : List (List Int)} {s k : Nat} : evr 1 ((rndI L s k).map V.int) = (thsR L s k).map V.int := by
  unfold evr thsR
  rw [List.length_map, rnd_len, List.map_map, show (2 * k - 1 + 1) / 2 = k from by omega]
  refine fm_some fun i hi => ?_
  rw [List.getElem?_map, show 1 + i * 2 = 2 * i + 1 from by omega, (rnd_at (List.mem_range.mp hi)).2]
  rfl
structure RgRound (L : List (List Int)) (g : List Nat) (s : Nat) : Prop where
  ring : Mt.RingG L g
  nd : g.Nodup
  hs : s ∈ g
  back : (Mt.wkR L s g.length).1 = s
  no : ∀ k, 1 ≤ k → k < g.length → (Mt.wkR L s k).1 ≠ s
theorem RgRound.dist {L : List (List Int)} {g : List Nat} {s : Nat} (r : RgRound L g s) {i j : Nat} (hij : i < j) (hj : j < g.length) : (Mt.wkR L s i).1 ≠ (Mt.wkR L s j).1 :=
  r.ring.apart r.hs j (fun k h1 h2 => r.no k h1 (by omega)) i hij
theorem perm_of_sub {α : Type} [DecidableEq α] {a b : List α} (na : a.Nodup) (nb : b.Nodup) (sub : ∀ x ∈ a, x ∈ b) (l : b.length ≤ a.length) : a.Perm b := by
  refine (List.perm_ext_iff_of_nodup na nb).mpr fun x => ⟨sub x, fun hx => Classical.byContradiction fun nx => ?_⟩
  have := Mt.len_le (l1 := x :: a) (l2 := b) (List.nodup_cons.mpr ⟨nx, na⟩) fun y hy => by
    rcases List.mem_cons.mp hy with rfl | hy
    · exact hx
    · exact sub y hy
  rw [List.length_cons] at this
  omega
theorem RgRound.ppl {L : List (List Int)} {g : List Nat} {s : Nat} (r : RgRound L g s) : (pplR L s g.length).Perm (natI g) := by
  refine perm_of_sub ?_ (Mt.nodup_map r.nd fun a _ b _ e => by omega) (fun x hx => ?_) (by unfold pplR natI; rw [List.length_map, List.length_map, List.length_range]; omega)
  · refine List.pairwise_map.mpr ((List.pairwise_lt_range).imp_of_mem fun {a b} ha hb hab e => ?_)
    exact r.dist hab (List.mem_range.mp hb) (by omega)
  · obtain ⟨i, _, rfl⟩ := List.mem_map.mp hx
    exact List.mem_map.mpr ⟨_, (r.ring.in_ r.hs i).1, rfl⟩
theorem RgRound.ths_nd {L : List (List Int)} {g : List Nat} {s : Nat} (r : RgRound L g s) : (thsR L s g.length).Nodup := by
  refine List.pairwise_map.mpr ((List.pairwise_lt_range).imp_of_mem fun {i j} hi hj hij e => ?_)
  have hj := List.mem_range.mp hj
  obtain ⟨a1, a2, a3, a4, a5⟩ := r.ring.step r.hs i
  have pj := r.ring.in_ r.hs j
  rw [← e] at pj
  rcases a3 _ pj.2 with z | z
  · exact r.dist hij hj z.symm
  · have ej : j = i + 1 := by
      rcases Nat.lt_trichotomy (i + 1) j with c | c | c
      · exact absurd z.symm (r.dist c hj)
      · omega
      · omega
    subst ej
    exact a4 e.symm
theorem RgRound.ths {L : List (List Int)} {g : List Nat} {s : Nat} (r : RgRound L g s) {T : List Int} (nT : T.Nodup) (mem : ∀ p ∈ g, ∀ t ∈ Mt.row L p, t ∈ T) (len : T.length = g.length) : (thsR L s g.length).Perm T := by
  refine perm_of_sub r.ths_nd nT (fun x hx => ?_) (by unfold thsR; rw [List.length_map, List.length_range]; omega)
  obtain ⟨i, _, rfl⟩ := List.mem_map.mp hx
  obtain ⟨h1, h2⟩ := r.ring.in_ r.hs i
  exact mem _ h1 _ h2
/-- both things beside a person of the round are the person's -/
theorem RgRound.beside {L : List (List Int)} {g : List Nat} {s : Nat} (r : RgRound L g s) {i : Nat} (hi : i < g.length) : (Mt.wkR L s i).2 ∈ Mt.row L (Mt.wkR L s i).1 ∧ (if i = 0 then (Mt.wkR L s (g.length - 1)).2 else (Mt.wkR L s (i - 1)).2) ∈ Mt.row L (Mt.wkR L s i).1 := by
  refine ⟨(r.ring.in_ r.hs i).2, ?_⟩
  by_cases c : i = 0
  · rw [if_pos c, c]
    have h := (r.ring.step r.hs (g.length - 1)).2.1
    rw [show g.length - 1 + 1 = g.length from by omega, r.back] at h
    exact h
  · rw [if_neg c]
    have h := (r.ring.step r.hs (i - 1)).2.1
    rwa [show i - 1 + 1 = i from by omega] at h
theorem rgC_two {m : Nat} (h : m ≤ 40) : RgC 0 (((2 * m : Nat)) : Int) 2 m := by
  have all : ∀ m : Fin 41, Builtin.Range.small 0 (((2 * m.1 : Nat)) : Int) 2 = true ∧ Builtin.Range.rangeSize 0 (((2 * m.1 : Nat)) : Int) 2 = m.1 := by decide +kernel
  exact ⟨by decide, by decide, (all ⟨m, by omega⟩).1, (all ⟨m, by omega⟩).2⟩
theorem ix_last {n : Nat} (h : 0 < n) : ixN n (-1) = some (n - 1) := by
  unfold ixN
  rw [if_neg (by omega), if_pos (by omega)]
  exact congrArg some (by omega)
theorem flat_intsR (ns : List Int) : (ns.map V.int).all flatV = true := by
  rw [List.all_eq_true]
  intro x hx
  obtain ⟨n, _, rfl⟩ := List.mem_map.mp hx
  rfl
theorem any_rowR (q : List Int) : ∀ R : List (List Int), ((R.map dI).any fun z => PyData.eqv z (dI q)) = decide (q ∈ R)
  | [] => rfl
  | x :: R => by
    rw [List.map_cons, List.any_cons, any_rowR q R, eqv_I]
    by_cases e : x = q
    · rw [e, decide_eq_true rfl, decide_eq_true (List.mem_cons_self)]
      rfl
    · rw [decide_eq_false e, Bool.false_or]
      exact decide_eq_decide.mpr ⟨List.mem_cons_of_mem _, fun h => (List.mem_cons.mp h).elim (fun y => absurd y.symm e) id⟩
theorem thg_lenB {rows : List (List Int)} (G : Good rows) {D : List Int} (d : Mt.Ds rows D) {F : List (List Nat)} (hF : Mt.Groups (Mt.liveR rows) F) {g : List Nat} (hg : g ∈ F) : (thgR rows g).length = g.length :=
  hF.things G.live.few (Mt.ds_liveR.mpr d) hg (thgR_asc.imp fun {a b} z e => by omega) fun t => mem_thgR G
section
variable {P : Program} {w : World} {K : PySem.W.Frag} {mg : Str → Option Value} {base : Heap} {C D_NoNumber D_NoRing : Addr}
def spRds (K : PySem.W.Frag) (C : Addr) : Sp := fun vs H Q _ => ∃ (x : V) (rows : List (List Int)), vs = [x] ∧ TableAt K C H x rows ∧ Good rows ∧ rows.length ≤ 20 ∧ (∃ D, Mt.Ds rows D) ∧ ∀ H', Same H H' → Q (.bl true) H'
theorem ok_rds (A : At K mg "_law_rounds_right" s_law_rounds_right ["table"]) (T : Tx mg) (tc : TC K C) (G_idle_ties : Dfn P w K mg base "idle_ties" ["table"] 6 (spIdle K C)) (G_piece_kinds : Dfn P w K mg base "piece_kinds" ["table"] 6 (spPkE K C)) (G_pieces : Dfn P w K mg base "pieces" ["table"] 6 (spPieces K C)) (G_round_of : DfnX P w K mg base "round_of" ["table", "number"] 6 (spRof K C D_NoNumber D_NoRing)) : Dfn P w K mg base "_law_rounds_right" ["table"] 7 (spRds K C) := by
  refine A.ok sc_law_rounds_right (fun vs H Q E h => ?_) (fun f cdv A outer s H vs Q E hr h => ?_)
  · obtain ⟨_, _, rfl, _⟩ := h
    rfl
  · obtain ⟨x, rows, rfl, tb, G, hn, ⟨D, d⟩, k⟩ := h
    refine ⟨_, (pss_cons (ps_set (i := 1) sc_law_rounds_right.nd rfl (Or.inl rfl) (pe_d G_idle_ties (hr.mono (by decide)) (pa_cons (pv 0) pa_nil)))
      (pss_cons (ps_for PassesOwn.never rfl (pi_enum (by rfl) T.enumerate (pa_cons (pe_d G_piece_kinds (hr.mono (by decide)) (pa_cons (pv 0) pa_nil)) pa_nil)) (pg_tup rfl (pgs_cons (pg_name (i := 2) sc_law_rounds_right.nd rfl (Or.inl rfl)) (pgs_cons (pg_name (i := 3) sc_law_rounds_right.nd rfl (Or.inl rfl)) pgs_nil)))
      (pss_one (ps_if (pt_cmpR op_eq (pv 3) pe_str (nomark _)) (pss_cons (ps_set (i := 4) sc_law_rounds_right.nd rfl (Or.inl rfl) (pe_dX (E := fun _ _ _ => False) G_round_of (hr.mono (by decide)) passNo (pa_cons (pv 0) (pa_cons (pv 2) pa_nil))))
      (pss_cons (ps_set (i := 5) sc_law_rounds_right.nd rfl (Or.inl rfl) (pe_callB c_len (by rfl) T.len (by decide +kernel) (pa_cons (pv 4) pa_nil)))
      (pss_cons (ps_set (i := 6) sc_law_rounds_right.nd rfl (Or.inl rfl) (pe_ix ix_list (pe_d G_pieces (hr.mono (by decide)) (pa_cons (pv 0) pa_nil)) (pv 2) (fun _ _ => rfl)))
      (pss_cons (ps_if (PW.pt (pw_or (pt_cmpR (op_neD hr.units) (pe_callB cr_sortTupI (by rfl) T.sorted (by decide +kernel) (pa_cons (pe_stepA (pv 4) po_none) pa_nil)) (pe_callTy c_list (by rfl) T.list (by decide +kernel) (pa_cons (pe_ix ix_tup (pv 6) pe_int (fun _ _ => rfl)) pa_nil)) (nomark _)) (pw_or (pt_cmpR (op_neD hr.units) (pe_callB cr_sortTupI (by rfl) T.sorted (by decide +kernel) (pa_cons (pe_stepA (pv 4) (po_some pe_int)) pa_nil)) (pe_callTy c_list (by rfl) T.list (by decide +kernel) (pa_cons (pe_ix ix_tup (pv 6) pe_int (fun _ _ => rfl)) pa_nil)) (nomark _)) (pw_or1 (pt_cmpR op_ne (pe_ix ix_tup (pv 4) pe_int (fun _ _ => rfl)) (pe_ix ix_tup (pe_ix ix_tup (pv 6) pe_int (fun _ _ => rfl)) pe_int (fun _ _ => rfl)) (nomark _)))))) (pss_one (ps_ret pe_bl)) pss_nil)
      (pss_one (ps_for PassesOwn.never rfl (pi_range3 rfl T.range (pa_cons pe_int (pa_cons (pv 5) (pa_cons pe_int pa_nil)))) (pg_name (i := 7) sc_law_rounds_right.nd rfl (Or.inl rfl))
      (pss_one (ps_for PassesOwn.never rfl (pi_tup (pe_tup (pa_cons (pe_ix ix_tup (pv 4) (pe_op op_add (pv 7) pe_int) (fun _ _ => rfl)) (pa_cons (pe_ix ix_tup (pv 4) (pe_op op_sub (pv 7) pe_int) (fun _ _ => rfl)) pa_nil)))) (pg_name (i := 8) sc_law_rounds_right.nd rfl (Or.inl rfl))
      (pss_one (ps_if (PW.pt (pw_or (pt_cmpR op_notIn_seq (pv 8) (pe_ix ix_tup (pe_fld (pv 0) rfl) (pe_ix ix_tup (pv 4) (pv 7) (fun _ _ => rfl)) (fun _ _ => rfl)) rfl) (pw_or1 (pt_cmpR (op_inD (un65 hr)) (pe_tup (pa_cons (pe_ix ix_tup (pv 4) (pv 7) (fun _ _ => rfl)) (pa_cons (pv 8) pa_nil))) (pv 1) rfl)))) (pss_one (ps_ret pe_bl)) pss_nil)))))))))) pss_nil)))
      (pss_one (ps_ret pe_bl)))), ?_⟩
    obtain ⟨tp, dx, rv, rfl, htp, hR⟩ := id tb
    refine ⟨_, rfl, .ref tp, rows, rfl, tb, G, by omega, ⟨D, d⟩, fun il iw H1 s1 _ hil hiw => ?_⟩
    have tb1 := tb.same s1
    refine ⟨_, rfl, .ref tp, rows, rfl, tb1, G, by omega, ⟨D, d⟩, fun F kl H2 hF so s2 _ hkl => ?_⟩
    have s12 := s1.trans s2
    have hil2 := s2 _ _ hil
    refine ⟨kl, _, rfl, SqL.of hkl, for_enumL (xs := (F.map (kindS (Mt.liveR rows))).map V.str) (fun i σ' H' => (∃ x2 x3 x4 x5 x6 x7 x8, σ' = [some (.ref tp), some (.ref il), x2, x3, x4, x5, x6, x7, x8]) ∧ Same H2 H') ⟨⟨_, _, _, _, _, _, _, rfl⟩, Same.refl H2⟩ (fun i σ' H' _ hp => SqL.of (hp.2 _ _ hkl)) ?_ ?_⟩
    · rintro i y σ' H3 T' hy ⟨⟨x2, x3, x4, x5, x6, x7, x8, rfl⟩, s3⟩ hT
      rw [List.getElem?_map, List.getElem?_map] at hy
      obtain ⟨kd, hkd, rfl⟩ := Option.map_eq_some_iff.mp hy
      obtain ⟨g, hg, rfl⟩ := Option.map_eq_some_iff.mp hkd
      have gm := List.mem_of_getElem? hg
      have il' := (List.getElem?_eq_some_iff.mp hg).1
      have sT := s3.trans (same_new (o := .tup [.int (i : Nat), V.str (kindS (Mt.liveR rows) g)]) hT)
      refine ⟨T', _, rfl, SqT.of upd_same, rfl, _, _, rfl, _, _, rfl, rfl, ?_⟩
      generalize upd H3 T' (.tup [.int (i : Nat), V.str (kindS (Mt.liveR rows) g)]) = H4 at sT ⊢
      have s14 := s12.trans sT
      have tb4 := tb.same s14
      refine ⟨_, rfl, rfl, _, rfl, ite2 (fun hc => ?_) (fun _ => ?_)⟩
      · have hk : kindS (Mt.liveR rows) g = "ring" := by have := of_decide_eq_true hc; injection this
        have glt : ∀ p ∈ g, p < rows.length := fun p hp => by have := hF.lt gm hp; rwa [Mt.liveR_len] at this
        have g40 : g.length ≤ 40 := by have := hF.len gm; rw [Mt.liveR_len] at this; omega
        refine ⟨_, rfl, _, rfl, .ref tp, .int (i : Int), rows, F, rfl, tb4, G, by omega, ⟨D, d⟩, th_int, hF, so, fun i' g' ey hg' hk' p s0 H5 hs0 s5 hp => ?_, fun hnum => ?_, fun i' g' ey hg' hne => ?_⟩
        · have ei : i' = i := by injection ey with ey; omega
          subst ei
          rw [hg] at hg'
          cases Option.some.inj hg'
          have s0m := List.mem_of_getElem? hs0
          have rr : RgRound (Mt.liveR rows) g s0 := by
            have ring := ring_is (nd_liveX G) hF gm (kind_ring hk)
            obtain ⟨b1, b2⟩ := ring.round (hF.nd gm) (hF.conn g gm) s0m
            exact ⟨ring, hF.nd gm, s0m, b1, b2⟩
          have tl : (rndI (Mt.liveR rows) s0 g.length).length = 2 * g.length := rnd_len
          have s15 := s14.trans s5
          have tb5 := tb.same s15
          refine ⟨_, rfl, p, _, rfl, .inr hp, ?_⟩
          rw [List.length_map, tl]
          refine ⟨_, rfl, .ref tp, rows, rfl, tb5, G, by omega, ⟨D, d⟩, fun F2 pl pw H6 hF2 so2 s6 _ hpl hpw => ?_⟩
          have eF : F2 = F := hF2.one hF so2 so
          subst eF
          obtain ⟨pv, hpv⟩ : ∃ pv, pw[i']? = some pv := ⟨_, List.getElem?_eq_getElem (by rw [hpw.len, List.length_map]; exact il')⟩
          obtain ⟨R, hRr, hat⟩ := hpw.get hpv
          rw [List.getElem?_map, hg] at hRr
          have hRr : pieceR rows g = R := Option.some.inj hRr
          subst hRr
          obtain ⟨q, a, b, rfl, hq, ha, hb⟩ := rows_two hat
          have hp6 := sqT_same s6 hp
          refine ⟨_, rfl, pl, _, _, .ref q, rfl, rfl, SqL.of hpl, at_nat hpv, ?_⟩
          refine ⟨_, rfl, ?_⟩
          delta tNoPart
          refine ⟨p, _, 0, rfl, hp6, .inr ⟨rfl, rfl⟩, Nat.zero_le _, fun e1 he1 => ?_⟩
          have s7 := same_new (o := .tup (evr 0 ((rndI (Mt.liveR rows) s0 g.length).map V.int))) he1
          refine ⟨e1, pplR (Mt.liveR rows) s0 g.length, rfl, SqT.of (by rw [upd_same, evr_ppl]), fun ks l1 so1 pm1 hl1 => ?_⟩
          have s8 := s7.trans (same_new (o := .lst (ks.map V.int)) hl1)
          have ek : ks = natI g := List.Perm.eq_of_pairwise (le := (· ≤ ·)) (fun a b _ _ h1 h2 => by omega) so1 ((natI_asc (hF.asc g gm)).imp fun h => by omega) (pm1.trans rr.ppl)
          subst ek
          obtain ⟨H7, e7⟩ : ∃ H7, H7 = upd (upd H6 e1 (.tup (evr 0 ((rndI (Mt.liveR rows) s0 g.length).map V.int)))) l1 (.lst ((natI g).map V.int)) := ⟨_, rfl⟩
          have h7 : H7 l1 = some (.lst ((natI g).map V.int)) := by rw [e7]; exact upd_same
          rw [← e7] at s8 ⊢
          clear e7 s7
          refine ⟨_, rfl, q, _, _, .ref a, rfl, rfl, sqT_same s8 hq, atI_nat (j := 0) rfl, a, _, rfl, .inr (sqT_same s8 ha), fun l2 hl2 => ?_⟩
          have s9 := s8.trans (same_new (o := .lst ((natI g).map V.int)) hl2)
          refine ⟨_, _, .lst (SqL.of (same_new hl2 _ _ h7)) (dpAll_ints _), .lst (SqL.of upd_same) (dpAll_ints _), sh_I _, sh_I _, ?_⟩
          have shL : ∀ ns : List Int, (!PyData.eqv (.list (ns.map PyData.int)) (.list (ns.map PyData.int))) = false := fun ns => by
            have sh : SeqAt.shaped (.list (ns.map PyData.int)) = true := sh_I ns
            rw [SeqAt.eqv_refl _ (SeqAt.canLay_of_shaped sh)]
            rfl
          rw [shL]
          refine ⟨_, rfl, ite2 (fun n => absurd n (by decide)) (fun _ => ?_)⟩
          generalize upd H7 l2 (.lst ((natI g).map V.int)) = H8 at s9 ⊢
          refine ⟨_, rfl, 1, rfl, p, _, 1, rfl, sqT_same s9 hp6, .inl rfl, by rw [List.length_map, tl]; have := List.length_pos_of_mem s0m; omega, fun e2 he2 => ?_⟩
          have s10 := s9.trans (same_new (o := .tup (evr 1 ((rndI (Mt.liveR rows) s0 g.length).map V.int))) he2)
          refine ⟨e2, thsR (Mt.liveR rows) s0 g.length, rfl, SqT.of (by rw [upd_same, evr_ths]), fun ks l3 so3 pm3 hl3 => ?_⟩
          have s11 := s10.trans (same_new (o := .lst (ks.map V.int)) hl3)
          have ek : ks = thgR rows g := List.Perm.eq_of_pairwise (le := (· ≤ ·)) (fun a b _ _ h1 h2 => by omega) so3 (thgR_asc.imp fun h => by omega) (pm3.trans (rr.ths (thgR_asc.imp fun {a b} z e => by omega) (fun p hp t ht => (mem_thgR G).mpr ⟨p, hp, ht⟩) (thg_lenB G d hF gm)))
          subst ek
          obtain ⟨H9, e9⟩ : ∃ H9, H9 = upd (upd H8 e2 (.tup (evr 1 ((rndI (Mt.liveR rows) s0 g.length).map V.int)))) l3 (.lst ((thgR rows g).map V.int)) := ⟨_, rfl⟩
          have h9 : H9 l3 = some (.lst ((thgR rows g).map V.int)) := by rw [e9]; exact upd_same
          rw [← e9] at s11 ⊢
          clear e9 s10
          refine ⟨_, rfl, q, _, _, .ref b, rfl, rfl, sqT_same s11 hq, atI_nat (j := 1) rfl, b, _, rfl, .inr (sqT_same s11 hb), fun l4 hl4 => ?_⟩
          have s12' := s11.trans (same_new (o := .lst ((thgR rows g).map V.int)) hl4)
          refine ⟨_, _, .lst (SqL.of (same_new hl4 _ _ h9)) (dpAll_ints _), .lst (SqL.of upd_same) (dpAll_ints _), sh_I _, sh_I _, ?_⟩
          rw [shL]
          refine ⟨_, rfl, ite2 (fun n => absurd n (by decide)) (fun _ => ?_)⟩
          generalize upd H9 l4 (.lst ((thgR rows g).map V.int)) = HA at s12' ⊢
          have s0A := (s15.trans s6).trans s12'
          have hpA := sqT_same s12' hp6
          have haA := sqT_same s12' ha
          have hqA := sqT_same s12' hq
          have m1 : 0 < g.length := List.length_pos_of_mem s0m
          have at0 : ((rndI (Mt.liveR rows) s0 g.length).map V.int)[0]? = some (.int (s0 : Int)) := by
            have := (rnd_at (L := Mt.liveR rows) (s := s0) m1).1
            rw [List.getElem?_map, this]
            rfl
          have at0g : ((natI g).map V.int)[0]? = some (.int (s0 : Int)) := by
            unfold natI
            rw [List.getElem?_map, List.getElem?_map, hs0]
            rfl
          refine ⟨_, rfl, p, _, _, .int (s0 : Int), rfl, rfl, hpA, atI_nat (j := 0) at0, _, rfl, q, _, _, .ref a, rfl, rfl, hqA, atI_nat (j := 0) rfl, a, _, _, .int (s0 : Int), rfl, rfl, haA, atI_nat (j := 0) at0g, ?_⟩
          refine ⟨rfl, _, rfl, ite2 (fun n => absurd n (by rw [decide_eq_true rfl]; decide)) (fun _ => ?_)⟩
          have s0A' : Same H1 HA := (((s2.trans sT).trans s5).trans s6).trans s12'
          refine ⟨_, rfl, 0, _, 2, g.length, rfl, rgC_two g40, for_rangeC (lo := 0) (c := 2) (n := g.length) (fun m σ' H' => (∃ y7 y8, σ' = [some (.ref tp), some (.ref il), some (.int (i' : Int)), some (.str (kindS (Mt.liveR rows) g)), some (.ref p), some (.int ((2 * g.length : Nat) : Int)), some (.ref q), y7, y8]) ∧ Same HA H') ⟨⟨_, _, rfl⟩, Same.refl HA⟩ ?_ ?_⟩
          · rintro m σ' HB hm ⟨⟨y7, y8, rfl⟩, sB⟩
            have eat : (0 : Int) + ((m : Nat) : Int) * 2 = ((2 * m : Nat) : Int) := by omega
            rw [eat]
            obtain ⟨r1, r2⟩ := rnd_at (L := Mt.liveR rows) (s := s0) hm
            obtain ⟨b1, b2⟩ := rr.beside hm
            have hpB := sqT_same sB hpA
            have pAt : ((rndI (Mt.liveR rows) s0 g.length).map V.int)[2 * m]? = some (.int ((Mt.wkR (Mt.liveR rows) s0 m).1 : Int)) := by rw [List.getElem?_map, r1]; rfl
            have tAt : atI ((rndI (Mt.liveR rows) s0 g.length).map V.int) (((2 * m : Nat) : Int) + 1) = some (.int (Mt.wkR (Mt.liveR rows) s0 m).2) := by
              rw [show ((2 * m : Nat) : Int) + 1 = ((2 * m + 1 : Nat) : Int) from by omega]
              exact at_nat (by rw [List.getElem?_map, r2]; rfl)
            obtain ⟨t2, et2⟩ : ∃ t2, t2 = (if m = 0 then (Mt.wkR (Mt.liveR rows) s0 (g.length - 1)).2 else (Mt.wkR (Mt.liveR rows) s0 (m - 1)).2) := ⟨_, rfl⟩
            rw [← et2] at b2
            have uAt : atI ((rndI (Mt.liveR rows) s0 g.length).map V.int) (((2 * m : Nat) : Int) - 1) = some (.int t2) := by
              by_cases c : m = 0
              · subst c
                rw [if_pos rfl] at et2
                have r3 := (rnd_at (L := Mt.liveR rows) (s := s0) (k := g.length) (i := g.length - 1) (by omega)).2
                rw [show 2 * (g.length - 1) + 1 = 2 * g.length - 1 from by omega] at r3
                show atI _ (-1) = _
                unfold atI
                have ix : ixN ((rndI (Mt.liveR rows) s0 g.length).map V.int).length (-1) = some (2 * g.length - 1) := by
                  rw [List.length_map, tl]
                  exact ix_last (by omega)
                rw [ix]
                show ((rndI (Mt.liveR rows) s0 g.length).map V.int)[2 * g.length - 1]? = _
                rw [List.getElem?_map, r3, et2]
                rfl
              · rw [if_neg c] at et2
                have r3 := (rnd_at (L := Mt.liveR rows) (s := s0) (k := g.length) (i := m - 1) (by omega)).2
                rw [show ((2 * m : Nat) : Int) - 1 = ((2 * (m - 1) + 1 : Nat) : Int) from by omega]
                exact at_nat (by rw [List.getElem?_map, r3, et2]; rfl)
            refine ⟨_, rfl, _, rfl, _, _, rfl, rfl, p, _, _, .int _, rfl, rfl, hpB, tAt, ?_⟩
            refine ⟨_, rfl, _, rfl, _, _, rfl, rfl, p, _, _, .int _, rfl, rfl, hpB, uAt, ?_⟩
            refine ⟨by show 2 ≤ sizeLine; decide, fun c hc => ?_⟩
            have sC := same_new (o := .tup [V.int (Mt.wkR (Mt.liveR rows) s0 m).2, .int t2]) hc
            have hcC : SqT K (upd HB c (.tup [V.int (Mt.wkR (Mt.liveR rows) s0 m).2, .int t2])) c [V.int (Mt.wkR (Mt.liveR rows) s0 m).2, .int t2] := SqT.of upd_same
            generalize upd HB c (.tup [V.int (Mt.wkR (Mt.liveR rows) s0 m).2, .int t2]) = HC at sC hcC ⊢
            refine ⟨c, rfl, ⟨_, hcC⟩, for_tup (xs := [V.int (Mt.wkR (Mt.liveR rows) s0 m).2, .int t2]) (fun _ σ' H' => (∃ y8, σ' = [some (.ref tp), some (.ref il), some (.int (i' : Int)), some (.str (kindS (Mt.liveR rows) g)), some (.ref p), some (.int ((2 * g.length : Nat) : Int)), some (.ref q), some (.int ((2 * m : Nat) : Int)), y8]) ∧ Same HC H') ⟨⟨_, rfl⟩, Same.refl HC⟩ (fun _ σ' H' _ hp => sqT_same hp.2 hcC) ?_ ?_⟩
            · rintro j y σ' HD hy ⟨⟨y8, rfl⟩, sD⟩
              obtain ⟨t, rfl, ht⟩ : ∃ t, y = V.int t ∧ t ∈ Mt.row (Mt.liveR rows) (Mt.wkR (Mt.liveR rows) s0 m).1 := by
                match j, hy with
                | 0, hy => exact ⟨_, (Option.some.inj hy).symm, b1⟩
                | 1, hy => exact ⟨_, (Option.some.inj hy).symm, b2⟩
                | j + 2, hy => simp at hy
              have sAD := (sB.trans sC).trans sD
              have s0D := s0A.trans sAD
              obtain ⟨tp', dx', rv', e', htpD, hRD⟩ := tb.same s0D
              cases e'
              obtain ⟨ra, rvs, rfl, hra, hrb⟩ := id hRD
              have lv := Mt.mem_liveR.mp ht
              obtain ⟨E, e, et⟩ := id lv
              have tr := e.tie _ _ et
              have pl' := Mt.row_lt tr
              obtain ⟨rA, hrA, hrT⟩ := hrb.get (List.getElem?_eq_getElem pl')
              rw [Mt.row_get (List.getElem?_eq_getElem pl')] at tr
              refine ⟨_, rfl, _, rfl, tp, C, dx', _, _, rfl, htpD, tc.cl, tc.nR, tf_rows _ _, _, rfl, _, rfl, p, _, _, .int _, rfl, rfl, sqT_same sAD hpA, at_nat pAt, ?_⟩
              refine ⟨ra, _, _, .ref rA, rfl, rfl, hra, at_nat hrA, ?_⟩
              refine ⟨rA, _, rfl, .inr hrT, rfl, flat_intsR _, ?_⟩
              rw [if_pos rfl, inV_ints, decide_eq_true tr]
              refine ⟨_, rfl, ite2 (fun n => absurd n (by decide)) (fun _ => ?_)⟩
              refine ⟨_, rfl, _, rfl, p, _, _, .int _, rfl, rfl, sqT_same sAD hpA, at_nat pAt, _, rfl, by show 2 ≤ sizeLine; decide, fun z hz => ?_⟩
              have sZ := same_new (o := .tup [V.int ((Mt.wkR (Mt.liveR rows) s0 m).1 : Int), .int t]) hz
              have s1Z := (s0A'.trans sAD).trans sZ
              refine ⟨_, rfl, dI [((Mt.wkR (Mt.liveR rows) s0 m).1 : Int), t], (idleR rows).map dI, .tup (SqT.of upd_same) (.cons (.int _) (.cons (.int _) .nil)), .lst (SqL.of (s1Z _ _ hil)) (rowsT_dp (hiw.same s1Z)), sh_I _, sh_L _, ?_⟩
              have no : [((Mt.wkR (Mt.liveR rows) s0 m).1 : Int), t] ∉ idleR rows := fun h => by
                have h2 := (List.mem_filter.mp h).2
                unfold idleF at h2
                have : Mt.Live rows ((([((Mt.wkR (Mt.liveR rows) s0 m).1 : Int), t]).headD 0).toNat) ([((Mt.wkR (Mt.liveR rows) s0 m).1 : Int), t].getD 1 0) := by
                  show Mt.Live rows (((Mt.wkR (Mt.liveR rows) s0 m).1 : Int).toNat) t
                  rw [Int.toNat_natCast]
                  exact lv
                rw [Bool.not_eq_true'] at h2
                exact (decide_eq_false_iff_not.mp h2) this
              rw [any_rowR, decide_eq_false no]
              refine ⟨_, rfl, ite2 (fun n => absurd n (by decide)) (fun _ => ?_)⟩
              exact ⟨⟨_, rfl⟩, sD.trans sZ⟩
            · rintro σ' HD ⟨⟨y8, rfl⟩, sD⟩
              exact ⟨⟨_, _, rfl⟩, (sB.trans sC).trans sD⟩
          · rintro σ' HB ⟨⟨y7, y8, rfl⟩, sB⟩
            exact ⟨⟨_, _, _, _, _, _, _, rfl⟩, ((sT.trans s5).trans s6).trans (s12'.trans sB)⟩
        · have : numV (F.length : Int) (V.int (i : Int)) = true := by
            show (decide (0 ≤ (i : Int)) && decide ((i : Int) < (F.length : Int))) = true
            rw [decide_eq_true (by omega), decide_eq_true (by omega)]
            rfl
          rw [this] at hnum
          cases hnum
        · have ei : i' = i := by injection ey with ey; omega
          subst ei
          rw [hg] at hg'
          cases Option.some.inj hg'
          exact absurd hk hne
      · exact ⟨⟨_, _, _, _, _, _, _, rfl⟩, sT⟩
    · rintro σ' H3 ⟨⟨x2, x3, x4, x5, x6, x7, x8, rfl⟩, s3⟩
      exact k H3 (s12.trans s3)
end
end Fo
set_option maxRecDepth 100000
set_option maxHeartbeats 4000000
namespace Fo
open PySem PySem.Spec PyProof.Rows L2
/-- the things of an own block for a person, given as a list -/
def OwnL (b s kd k : Nat) (ns : List Int) : Prop := ns.Nodup ∧ ∀ x, x ∈ ns ↔ ∃ j, Mt.inn s kd k j = true ∧ x = ((b + j : Nat) : Int)
def OwnH (b s kd k : Nat) (ns : List Int) : Prop := ns.Nodup ∧ ∀ x, x ∈ ns ↔ ∃ j, j < s ∧ (kd = 1 ∧ 2 < s → j = k ∨ j = (k + 1) % s) ∧ x = ((b + j : Nat) : Int)
theorem OwnH.own {b s kd k : Nat} {ns : List Int} (h : OwnH b s kd k ns) (hk : k < s) (n : ¬ (kd = 2 ∧ 2 < s)) : OwnL b s kd k ns := by
  refine ⟨h.1, fun x => (h.2 x).trans ?_⟩
  constructor
  · rintro ⟨j, hj, hc, rfl⟩
    refine ⟨j, ?_, rfl⟩
    unfold Mt.inn
    rw [decide_eq_true hk, decide_eq_true hj]
    by_cases c : kd = 1 ∧ 2 < s
    · rw [if_pos c]
      rcases hc c with e | e
      · rw [decide_eq_true e]; rfl
      · rw [decide_eq_true e, Bool.or_true]; rfl
    · rw [if_neg c, if_neg n]; rfl
  · rintro ⟨j, hj, rfl⟩
    refine ⟨j, (Mt.inn_lt hj).2, fun c => ?_, rfl⟩
    unfold Mt.inn at hj
    rw [if_pos c, Bool.and_eq_true, Bool.or_eq_true] at hj
    exact hj.2.imp of_decide_eq_true of_decide_eq_true
theorem own_two {b s k : Nat} (hk : k < s) (h2 : 2 < s) : OwnH b s 1 k [((b : Nat) : Int) + (k : Int), ((b : Nat) : Int) + ((k : Int) + 1) % (s : Int)] := by
  have e : ((k : Int) + 1) % (s : Int) = (((k + 1) % s : Nat) : Int) := by rw [Int.natCast_emod]; rfl
  have ne : (k + 1) % s ≠ k := by
    by_cases c : k + 1 < s
    · rw [Nat.mod_eq_of_lt c]; omega
    · rw [show k + 1 = s from by omega, Nat.mod_self]; omega
  have lt : (k + 1) % s < s := Nat.mod_lt _ (by omega)
  rw [e]
  obtain ⟨m, em⟩ : ∃ m, m = (k + 1) % s := ⟨_, rfl⟩
  rw [← em] at ne lt ⊢
  refine ⟨List.nodup_cons.mpr ⟨fun h => ?_, List.nodup_cons.mpr ⟨List.not_mem_nil, List.nodup_nil⟩⟩, fun x => ?_⟩
  · have := List.mem_singleton.mp h
    omega
  · rw [List.mem_cons, List.mem_singleton]
    constructor
    · intro h
      rcases h with h | h
      · exact ⟨k, hk, fun _ => .inl rfl, by omega⟩
      · exact ⟨m, lt, fun _ => .inr em, by omega⟩
    · intro ⟨j, hj, hc, e⟩
      rcases hc ⟨rfl, h2⟩ with h | h
      · exact .inl (by omega)
      · exact .inr (by omega)
/-- the new rows of a block -/
structure NewR (b s kd : Nat) (new : List (List Int)) (i : Nat) : Prop where
  len : new.length = i
  mem : ∀ k t, t ∈ Mt.row new k → (∃ j, Mt.inn s kd k j = true ∧ t = ((b + j : Nat) : Int)) ∨ (0 ≤ t ∧ t < (b : Int))
  all : ∀ k j, k < i → Mt.inn s kd k j = true → ((b + j : Nat) : Int) ∈ Mt.row new k
theorem NewR.nil {b s kd : Nat} : NewR b s kd [] 0 := ⟨rfl, fun k t h => (by cases k <;> cases h), fun k j h => absurd h (Nat.not_lt_zero _)⟩
theorem NewR.snoc {b s kd : Nat} {new : List (List Int)} {i : Nat} (h : NewR b s kd new i) {r : List Int} (m : ∀ x ∈ r, (∃ j, Mt.inn s kd i j = true ∧ x = ((b + j : Nat) : Int)) ∨ (0 ≤ x ∧ x < (b : Int))) (a : ∀ j, Mt.inn s kd i j = true → ((b + j : Nat) : Int) ∈ r) : NewR b s kd (new ++ [r]) (i + 1) := by
  have hl := h.len
  have at_ : ∀ k, Mt.row (new ++ [r]) k = if k < i then Mt.row new k else if k = i then r else [] := fun k => by
    unfold Mt.row
    by_cases c : k < i
    · rw [if_pos c, List.getElem?_append_left (by omega)]
    · rw [if_neg c, List.getElem?_append_right (by omega), hl]
      by_cases d : k = i
      · rw [if_pos d, d, Nat.sub_self]; rfl
      · rw [if_neg d, List.getElem?_eq_none (by show 1 ≤ _; omega)]; rfl
  refine ⟨by rw [List.length_append, hl]; rfl, fun k t ht => ?_, fun k j hk hj => ?_⟩
  · rw [at_] at ht
    by_cases c : k < i
    · rw [if_pos c] at ht
      exact h.mem k t ht
    · rw [if_neg c] at ht
      by_cases d : k = i
      · rw [if_pos d] at ht
        rw [d]
        exact m t ht
      · rw [if_neg d] at ht
        cases ht
  · rw [at_]
    by_cases c : k < i
    · rw [if_pos c]
      exact h.all k j c hj
    · have d : k = i := by omega
      rw [if_neg c, if_pos d]
      rw [d] at hj
      exact a j hj
section
variable {P : Program} {w : World} {K : PySem.W.Frag} {mg : Str → Option Value} {base : Heap} {C : Addr}
def spBlk21 (K : PySem.W.Frag) : Sp := fun vs H Q _ => ∃ (t l : Addr) (n : Int), vs = [.ref t, .int n] ∧ Tape H t l ∧ 1 ≤ n ∧ n ≤ 12 ∧ ∀ (v : V) (rows : List (List Int)) (bs : List (Nat × Nat × Nat)) (H' : Hp), Good rows → (rows.length : Int) ≤ n → Mt.BlkR rows bs → Gr t H H' → Tape H' t l → RowsAt K H' v rows → Q v H'
def WBlk21 (K : PySem.W.Frag) (t l fa : Addr) (n : Int) (H : Hp) (m : Nat) (σ' : L2.St) (H' : Hp) : Prop :=
  ∃ (vs : List V) (rs : List (List Int)) (bs : List (Nat × Nat × Nat)) (x3 x4 x5 x6 x7 x8 x9 x10 : Option V), σ' = [some (.ref t), some (.int n), some (.ref fa), x3, x4, x5, x6, x7, x8, x9, x10] ∧ m + rs.length = n.toNat ∧ H' fa = some (.lst vs) ∧ RowsT K H' vs rs ∧ Blk rs.length rs ∧ Mt.BlkR rs bs ∧ Gr t H H' ∧ Tape H' t l
theorem ok_blk21 (A : At K mg "_law_blocks" s_law_blocks ["tape", "most"]) (T : Tx mg) (G_law_pick : Dfn P w K mg base "_law_pick" ["tape", "size"] 1 spPick) : Dfn P w K mg base "_law_blocks" ["tape", "most"] 2 (spBlk21 K) := by
  refine A.ok sc_law_blocks (fun vs H Q E h => ?_) (fun f cdv A outer s H vs Q E hr h => ?_)
  · obtain ⟨t, l, n, rfl, _⟩ := h
    rfl
  · obtain ⟨t, l, n, rfl, hT, hn, hn2, k⟩ := h
    refine ⟨_, (pss_cons (ps_set (i := 2) sc_law_blocks.nd rfl (Or.inl rfl) (pe_lst pa_nil))
      (pss_cons (ps_while PassesOwn.never (PW.pt (pw_or (pt_cmpR op_eq (pe_callB c_len (by rfl) T.len (by decide +kernel) (pa_cons (pv 2) pa_nil)) pe_int (nomark _)) (pw_or1 (PW.pt (pw_and (pt_cmpR op_lt (pe_callB c_len (by rfl) T.len (by decide +kernel) (pa_cons (pv 2) pa_nil)) (pv 1) (nomark _)) (pw_and1 (pt_cmpR op_gt (pe_d G_law_pick (hr.mono (by decide)) (pa_cons (pv 0) (pa_cons pe_int pa_nil))) pe_int (nomark _)))))))) (pss_cons (ps_set (i := 3) sc_law_blocks.nd rfl (Or.inr rfl) (pe_callB c_len (by rfl) T.len (by decide +kernel) (pa_cons (pv 2) pa_nil)))
      (pss_cons (ps_set (i := 4) sc_law_blocks.nd rfl (Or.inl rfl) (pe_op op_add pe_int (pe_d G_law_pick (hr.mono (by decide)) (pa_cons (pv 0) (pa_cons (pe_callB (c_min rfl) (by rfl) T.min (by decide +kernel) (pa_cons pe_int (pa_cons (pe_op op_sub (pv 1) (pv 3)) pa_nil))) pa_nil)))))
      (pss_cons (ps_set (i := 5) sc_law_blocks.nd rfl (Or.inl rfl) (pe_d G_law_pick (hr.mono (by decide)) (pa_cons (pv 0) (pa_cons pe_int pa_nil))))
      (pss_one (ps_for PassesOwn.never rfl (pi_range1 rfl T.range (pa_cons (pv 4) pa_nil)) (pg_name (i := 6) sc_law_blocks.nd rfl (Or.inr rfl))
      (pss_cons (ps_set (i := 7) sc_law_blocks.nd rfl (Or.inl rfl) (pe_listRg rfl (by rfl) T.list (prg_2 (by rfl) T.range (pv 3) (pe_op op_add (pv 3) (pv 4)))))
      (Evl.pss_cut (ps_if (PW.pt (pw_and (pt_cmpR op_eq (pv 5) pe_int (nomark _)) (pw_and1 (pt_cmpR op_gt (pv 4) pe_int (nomark _))))) (pss_one (ps_set (i := 7) sc_law_blocks.nd rfl (Or.inl rfl) (pe_lst (pa_cons (pe_op op_add (pv 3) (pv 6)) (pa_cons (pe_op op_add (pv 3) (pe_op op_mod (pe_callTy c_int (by rfl) T.int (by decide +kernel) (pa_cons (pe_op op_add (pv 6) pe_int) pa_nil)) (pv 4))) pa_nil))))) pss_nil)
      (Evl.pss_cut (ps_if (PW.pt (pw_and (pt_cmpR op_eq (pv 5) pe_int (nomark _)) (pw_and1 (pt_cmpR op_gt (pv 4) pe_int (nomark _))))) (pss_one (ps_setLc (i := 7) (own := [("j", 9)]) (g := (gName 9)) (tt := (tTest (tOp rNe (tVar 9) (tVar 6)))) (te := (tOp (rI0 fun i j => V.int (i + j)) (tVar 3) (tVar 9))) (by rfl) sc_law_blocks.nd rfl rfl (sw_true rfl rfl rfl (by decide +kernel)) (pi_range1 rfl T.range (pa_cons (pv 4) pa_nil)) (blkOk_by (own := [("j", 9)]) (N := n_law_blocks) (sc := (defScope s_law_blocks)) (by decide +kernel)) (fun _ _ _ _ _ => (pg_name (i := 9) sc_law_blocks.nd rfl (Or.inl rfl))) (fun _ _ _ _ _ => (pts_one (pt_cmpR op_ne (pv 9) (pv 6) (nomark _)))) (fun _ _ _ _ _ => (pe_op op_add (pv 3) (pv 9))))) pss_nil)
      (pss_cons (ps_setLc (i := 8) (own := [("thing", 10)]) (g := (gName 10)) (tt := (tTest (tOp rEq (tCall spPick [] E0 (tCons (tVar 0) (tCons (tC (V.int 4)) tNil))) (tC (V.int 0))))) (te := (tVar 10)) (by rfl) sc_law_blocks.nd rfl rfl (sw_true rfl rfl rfl (by decide +kernel)) (pi_range1 rfl T.range (pa_cons (pv 3) pa_nil)) (blkOk_by (own := [("thing", 10)]) (N := n_law_blocks) (sc := (defScope s_law_blocks)) (by decide +kernel)) (fun _ _ _ _ _ => (pg_name (i := 10) sc_law_blocks.nd rfl (Or.inl rfl))) (fun _ _ _ _ _ => (pts_one (pt_cmpR op_eq (pe_d G_law_pick (hr.mono (by decide)) (pa_cons (pv 0) (pa_cons pe_int pa_nil))) pe_int (nomark _)))) (fun _ _ _ _ _ => (pv 10)))
      (pss_one (ps_expr (pe_bm PySem.F.plainAttrs_list PySem.F.slot_list_append PySem.F.type_list_append mt_append (pv 2) (pa_cons (pe_callTy c_tuple (by rfl) T.tuple (by decide +kernel) (pa_cons (pe_callB cr_sortedI (by rfl) T.sorted (by decide +kernel) (pa_cons (pe_op op_cat (pv 7) (pv 8)) pa_nil)) pa_nil)) pa_nil))))))))))))))
      (pss_one (ps_ret (pe_callTy c_tuple (by rfl) T.tuple (by decide +kernel) (pa_cons (pv 2) pa_nil)))))), ?_⟩
    refine ⟨Nat.zero_le _, fun fa hf => ?_⟩
    have nf := hT.free hf
    refine ⟨WBlk21 K t l fa n H, ⟨n.toNat, [], [], [], none, none, none, none, none, none, none, none, rfl, by simp, upd_same, .nil, ⟨fun _ h => (by cases h), fun _ h => (by cases h)⟩, .nil, gr_mut (Gr.refl H) hf, hT.new hf⟩, ?_⟩
    rintro m σ' H1 ⟨vs, rs, bs, x3, x4, x5, x6, x7, x8, x9, x10, rfl, hm, hfa, hrs, hB, hK, g1, T1⟩
    have vl := hrs.len
    refine (show ∀ R : Bool → Hp → Prop, (∀ b H2, Gr t H1 H2 → Tape H2 t l → (b = true → 0 < m) → (b = false → 1 ≤ rs.length) → R b H2) → ((tOr (tTest (tOp rEq (tCB (rLenS K) (tCons (tVar 2) tNil)) (tC (V.int 0)))) (tAnd (tTest (tOp (rI0 fun i j => V.bl (decide (i < j))) (tCB (rLenS K) (tCons (tVar 2) tNil)) (tVar 1))) (tTest (tOp (rI0 fun i j => V.bl (decide (j < i))) (tCall spPick [] E0 (tCons (tVar 0) (tCons (tC (V.int 3)) tNil))) (tC (V.int 0)))))) : TT) [some (.ref t), some (.int n), some (.ref fa), x3, x4, x5, x6, x7, x8, x9, x10] H1 R from fun R hR => ?_) _ (fun b H2 g2 T2 hb1 hb2 => ?_)
    · refine ⟨_, rfl, fa, vs, rfl, .inl (SqL.of hfa), rfl, _, rfl, ?_⟩
      refine ite2 (fun hc => ?_) (fun hc => ?_)
      · have h0 := of_decide_eq_true hc
        injection h0 with h0
        exact hR _ _ (Gr.refl _) T1 (fun _ => by omega) (fun h => (by cases h))
      · have h0 : ¬ ((vs.length : Nat) : Int) = 0 := fun q => hc (by rw [q]; exact decide_eq_true rfl)
        refine ⟨_, rfl, fa, vs, rfl, .inl (SqL.of hfa), _, rfl, _, _, rfl, rfl, _, rfl, ?_⟩
        refine ite2 (fun hc => ?_) (fun hc => ?_)
        · have h1 := of_decide_eq_true hc
          refine ⟨_, rfl, t, l, 3, rfl, T1, by decide, by decide, fun x H2 _ _ g2 T2 => ⟨_, _, rfl, rfl, _, rfl, ?_⟩⟩
          exact hR _ _ g2 T2 (fun _ => by omega) (fun _ => by omega)
        · exact hR _ _ (Gr.refl _) T1 (fun h => (by cases h)) (fun _ => by omega)
    · have hfa2 : H2 fa = some (.lst vs) := g2 _ _ nf.1 hfa
      have hrs2 := hrs.gr g2 T1
      cases b with
      | false =>
        refine ⟨_, rfl, fa, vs, rfl, .inl ⟨SqL.of hfa2, fun z hz => ?_⟩⟩
        have g12 := g1.trans g2
        have hz0 : H z = none := g12.fresh T2 hz
        exact k _ rs bs _ ⟨hb2 rfl, hB.asc, hB.rng⟩ (by omega) hK (gr_mut g12 hz0) (T2.new hz) ⟨z, vs, rfl, SqT.of upd_same, hrs2.same (same_new hz)⟩
      | true =>
        have hm0 := hb1 rfl
        refine ⟨fun σ' H' => ∃ m', m' < m ∧ WBlk21 K t l fa n H m' σ' H', fun _ _ h => h, ?_⟩
        refine ⟨_, rfl, fa, vs, rfl, .inl (SqL.of hfa2), ?_⟩
        refine ⟨_, rfl, _, rfl, _, rfl, _, _, rfl, rfl, 4, _, rfl, t, l, _, rfl, T2, by split <;> omega, by split <;> omega, fun sz H3 s0 s1 g3 T3 => ⟨_, _, rfl, rfl, ?_⟩⟩
        have sb : (vs.length : Int) + (1 + sz) ≤ n ∧ sz < 4 := by
          split at s1 <;> omega
        refine ⟨_, rfl, t, l, 3, rfl, T3, by decide, by decide, fun kd H4 kd0 kd1 g4 T4 => ?_⟩
        obtain ⟨S, eS⟩ : ∃ S, S = (1 + sz).toNat := ⟨_, rfl⟩
        have eSI : ((S : Nat) : Int) = 1 + sz := by omega
        obtain ⟨kn, ekn⟩ : ∃ kn, kn = kd.toNat := ⟨_, rfl⟩
        have eknI : ((kn : Nat) : Int) = kd := by rw [ekn]; exact Int.toNat_of_nonneg kd0
        have g24 := (g2.trans g3).trans g4
        have hfa4 : H4 fa = some (.lst vs) := (g3.trans g4) _ _ nf.1 hfa2
        have hrs4 := hrs.gr g24 T1
        refine ⟨_, rfl, _, rfl, by omega, by omega, for_range (lo := 0) (n := (1 + sz).toNat) (fun i σ' H' => ∃ (vs' : List V) (rs' : List (List Int)) (new : List (List Int)) (x6 x7 x8 x9 x10 : Option V), rs' = rs ++ new ∧ NewR vs.length S kn new i ∧ σ' = [some (.ref t), some (.int n), some (.ref fa), some (.int (vs.length : Nat)), some (.int (1 + sz)), some (.int kd), x6, x7, x8, x9, x10] ∧ rs'.length = rs.length + i ∧ H' fa = some (.lst vs') ∧ RowsT K H' vs' rs' ∧ Blk (vs.length + (1 + sz)) rs' ∧ Gr t H H' ∧ Tape H' t l)
          ⟨vs, rs, [], _, _, _, _, _, (List.append_nil rs).symm, NewR.nil, rfl, rfl, hfa4, hrs4, ⟨hB.asc, fun r hr x hx => by have := hB.rng r hr x hx; omega⟩, g1.trans g24, T4⟩ ?_ ?_⟩
        · rintro i σ' H5 hi ⟨vs', rs', new, y6, y7, y8, y9, y10, ers, hN, rfl, hl', hfa5, hrs5, hB5, g5, T5⟩
          have iS : i < S := by omega
          have hik : ((0 : Int) + (i : Int)) < 1 + sz := by omega
          -- row = list(range(base, base + size))
          refine ⟨_, rfl, _, rfl, _, rfl, _, _, rfl, rfl, _, _, rfl, rfl, RgOk.of_le (by omega) (by omega) (by omega) (by omega), fun ra hra => ?_⟩
          -- if kind == 1
          refine ⟨fun σ' H' => ∃ (ra : Addr) (row : List Int), σ' = [some (.ref t), some (.int n), some (.ref fa), some (.int (vs.length : Nat)), some (.int (1 + sz)), some (.int kd), some (.int (0 + (i : Int))), some (.ref ra), y8, y9, y10] ∧ H' ra = some (.lst (row.map V.int)) ∧ row.Nodup ∧ (∀ x ∈ row, (vs.length : Int) ≤ x ∧ x < vs.length + (1 + sz)) ∧ row.length ≤ 12 ∧ OwnH vs.length S kn i row ∧ Gr t H5 H' ∧ Tape H' t l, ?_, ?_⟩
          · have rgm : rgV (vs.length : Int) ((vs.length : Int) + (1 + sz)) = ((List.range (1 + sz).toNat).map fun (j : Nat) => (vs.length : Int) + (j : Int)).map V.int := by
              unfold rgV
              rw [List.map_map]
              have e : ((vs.length : Int) + (1 + sz) - vs.length).toNat = (1 + sz).toNat := by omega
              rw [e]
              rfl
            have first : ¬ (kn = 1 ∧ 2 < S) → ∃ (ra' : Addr) (row : List Int), ra' = ra ∧ (upd H5 ra (.lst (rgV (vs.length : Int) ((vs.length : Int) + (1 + sz))))) ra' = some (.lst (row.map V.int)) ∧ row.Nodup ∧ (∀ x ∈ row, (vs.length : Int) ≤ x ∧ x < vs.length + (1 + sz)) ∧ row.length ≤ 12 ∧ OwnH vs.length S kn i row := by
              intro no
              refine ⟨ra, (List.range (1 + sz).toNat).map fun (j : Nat) => (vs.length : Int) + (j : Int), rfl, by rw [upd_same, rgm], ?_, fun x hx => ?_, by rw [List.length_map, List.length_range]; omega, ⟨?_, fun x => ?_⟩⟩
              rotate_left 2
              · exact List.Pairwise.map _ (fun (a b : Nat) (h : a ≠ b) (q : (vs.length : Int) + (a : Int) = (vs.length : Int) + (b : Int)) => h (by omega)) List.nodup_range
              · rw [List.mem_map]
                constructor
                · rintro ⟨j, hj, rfl⟩
                  exact ⟨j, by have := List.mem_range.mp hj; omega, fun c => absurd c no, by omega⟩
                · rintro ⟨j, hj, _, rfl⟩
                  exact ⟨j, List.mem_range.mpr (by omega), by omega⟩
              · exact List.Pairwise.map _ (fun (a b : Nat) (h : a ≠ b) (q : (vs.length : Int) + (a : Int) = (vs.length : Int) + (b : Int)) => h (by omega)) List.nodup_range
              · obtain ⟨j, hj, rfl⟩ := List.mem_map.mp hx
                have := List.mem_range.mp hj
                omega
            have keep : ¬ (kn = 1 ∧ 2 < S) → ∃ (ra' : Addr) (row : List Int), [some (V.ref t), some (V.int n), some (V.ref fa), some (V.int (vs.length : Nat)), some (V.int (1 + sz)), some (V.int kd), some (V.int (0 + (i : Int))), some (V.ref ra), y8, y9, y10] = [some (V.ref t), some (V.int n), some (V.ref fa), some (V.int (vs.length : Nat)), some (V.int (1 + sz)), some (V.int kd), some (V.int (0 + (i : Int))), some (V.ref ra'), y8, y9, y10] ∧ (upd H5 ra (.lst (rgV (vs.length : Int) ((vs.length : Int) + (1 + sz))))) ra' = some (.lst (row.map V.int)) ∧ row.Nodup ∧ (∀ x ∈ row, (vs.length : Int) ≤ x ∧ x < vs.length + (1 + sz)) ∧ row.length ≤ 12 ∧ OwnH vs.length S kn i row ∧ Gr t H5 (upd H5 ra (.lst (rgV (vs.length : Int) ((vs.length : Int) + (1 + sz))))) ∧ Tape (upd H5 ra (.lst (rgV (vs.length : Int) ((vs.length : Int) + (1 + sz))))) t l := by
              intro no
              obtain ⟨ra', row, e, h1, h2, h3, h4, h5⟩ := first no
              subst e
              exact ⟨ra', row, rfl, h1, h2, h3, h4, h5, Gr.new hra, T5.new hra⟩
            refine ⟨_, rfl, rfl, _, rfl, ?_⟩
            refine ite2 (fun hk1 => ?_) (fun hn => keep fun c => hn (by
              have e1 : kn = 1 := c.1
              have e2 : kd = 1 := by rw [← eknI, e1]; rfl
              rw [e2]; exact decide_eq_true rfl))
            have hk1 : kd = 1 := by have := of_decide_eq_true hk1; injection this
            refine ⟨_, rfl, _, _, rfl, rfl, _, rfl, ?_⟩
            refine ite2 (fun hc => ?_) (fun hn => keep fun c => hn (decide_eq_true (by omega)))
            have hc2 := of_decide_eq_true hc
            refine ⟨_, rfl, _, rfl, _, _, rfl, rfl, _, rfl, _, rfl, _, _, rfl, rfl, .inl ⟨_, rfl, _, rfl, _, _, rfl, rfl, (by show (0 : Int) < 1 + sz; omega), _, _, rfl, rfl, by show 2 ≤ sizeLine; decide, fun q hq => ?_⟩⟩
            have hq5 : H5 q = none := Gr.fresh (Gr.new hra) (T5.new hra) hq
            have m0 := Int.emod_nonneg (0 + (i : Int) + 1) (show (1 + sz) ≠ 0 by omega)
            have m1 := Int.emod_lt_of_pos (0 + (i : Int) + 1) (show 0 < 1 + sz by omega)
            have mn := mod_ne (show (0 : Int) ≤ 0 + (i : Int) by omega) hik hc2
            refine ⟨q, [(vs.length : Int) + (0 + (i : Int)), (vs.length : Int) + (0 + (i : Int) + 1) % (1 + sz)], rfl, upd_same, ?_, fun x hx => ?_, by show 2 ≤ 12; decide, ?_, gr_mut (Gr.new hra) hq5, (T5.new hra).new hq⟩
            · refine List.pairwise_cons.mpr ⟨fun b hb => ?_, List.pairwise_singleton _ _⟩
              rw [List.mem_singleton.mp hb]
              omega
            · rcases List.mem_cons.mp hx with h | h
              · omega
              · rw [List.mem_singleton.mp h]
                omega
            · have o2 := own_two (b := vs.length) iS (by omega)
              rw [eSI, ← Int.zero_add (i : Int)] at o2
              have e1 : kn = 1 := Int.ofNat.inj (eknI.trans hk1)
              rw [e1]
              exact o2
          · rintro σ' H6 ⟨rb, row, rfl, hrb, hnd, hrr, hrl, hOH, g6, T6⟩
            -- if kind == 2
            refine ⟨fun σ' H' => ∃ (ra : Addr) (row : List Int), σ' = [some (.ref t), some (.int n), some (.ref fa), some (.int (vs.length : Nat)), some (.int (1 + sz)), some (.int kd), some (.int (0 + (i : Int))), some (.ref ra), y8, y9, y10] ∧ H' ra = some (.lst (row.map V.int)) ∧ row.Nodup ∧ (∀ x ∈ row, (vs.length : Int) ≤ x ∧ x < vs.length + (1 + sz)) ∧ row.length ≤ 12 ∧ OwnL vs.length S kn i row ∧ Gr t H5 H' ∧ Tape H' t l, ?_, ?_⟩
            · refine ⟨_, rfl, rfl, _, rfl, ?_⟩
              refine ite2 (fun hk2 => ?_) (fun hn => ⟨rb, row, rfl, hrb, hnd, hrr, hrl, hOH.own iS (fun c => hn (by
                have e1 : kn = 2 := c.1
                have e2 : kd = 2 := by rw [← eknI, e1]; rfl
                rw [e2]; exact decide_eq_true rfl)), g6, T6⟩)
              have hk2 : kd = 2 := by have := of_decide_eq_true hk2; injection this
              refine ⟨_, rfl, _, _, rfl, rfl, _, rfl, ?_⟩
              refine ite2 (fun hs2 => ?_) (fun hn => ⟨rb, row, rfl, hrb, hnd, hrr, hrl, hOH.own iS (fun c => hn (decide_eq_true (by omega))), g6, T6⟩)
              have hs2 := of_decide_eq_true hs2
              refine ⟨_, rfl, _, rfl, by omega, by omega, fun D hD => ?_⟩
              have hD5 : H5 D = none := g6.fresh T6 hD
              refine lc_range (lo := 0) (n := (1 + sz).toNat) (fun j H' => ∃ out : List Int, H' D = some (.lst (out.map V.int)) ∧ out.length ≤ j ∧ out.Pairwise (· < ·) ∧ (∀ x ∈ out, (vs.length : Int) ≤ x ∧ x < vs.length + (j : Int)) ∧ (∀ x, x ∈ out ↔ ∃ m, m < j ∧ m ≠ i ∧ x = ((vs.length + m : Nat) : Int)) ∧ Gr t H6 H' ∧ Tape H' t l)
                ⟨[], upd_same, Nat.le_refl _, .nil, fun _ h => (by cases h), fun x => ⟨fun h => (by cases h), fun ⟨m, hm, _⟩ => absurd hm (Nat.not_lt_zero _)⟩, Gr.new hD, T6.new hD⟩ ?_ ?_
              · rintro j H7 hj ⟨out, hDo, hol, hop, hor, hoi, g7, T7⟩
                refine ⟨rfl, _, rfl, _, rfl, rfl, _, rfl, ?_⟩
                refine ite2 (fun hne => ?_) (fun hne => ⟨out, hDo, by omega, hop, fun x hx => by have := hor x hx; omega, fun x => (hoi x).trans ⟨fun ⟨m, h1, h2, h3⟩ => ⟨m, by omega, h2, h3⟩, fun ⟨m, h1, h2, h3⟩ => ⟨m, by
                  have ej : j = i := Classical.byContradiction fun z => hne (by rw [decide_eq_false (fun q => z (by injection q with q; omega))]; rfl)
                  omega, h2, h3⟩⟩, g7, T7⟩)
                have hji : j ≠ i := fun e => by subst e; rw [decide_eq_true rfl] at hne; cases hne
                refine ⟨_, rfl, _, rfl, _, _, rfl, rfl, _, hDo, by rw [List.length_map]; exact small_lt (by omega), ?_⟩
                refine ⟨out ++ [(vs.length : Int) + (0 + (j : Int))], by rw [upd_same, map_snoc], by rw [List.length_append, List.length_singleton]; omega, asc_snoc hop fun x hx => by have := hor x hx; omega, fun x hx => ?_, fun x => ?_, gr_mut g7 hD, T7.mut (T6.free hD)⟩
                · rcases List.mem_append.mp hx with h | h
                  · have := hor x h
                    omega
                  · rw [List.mem_singleton.mp h]
                    omega
                · rw [List.mem_append, List.mem_singleton, hoi]
                  constructor
                  · rintro (⟨m, h1, h2, h3⟩ | rfl)
                    · exact ⟨m, by omega, h2, h3⟩
                    · exact ⟨j, by omega, hji, by omega⟩
                  · rintro ⟨m, h1, h2, rfl⟩
                    by_cases e : m = j
                    · exact .inr (by omega)
                    · exact .inl ⟨m, by omega, h2, rfl⟩
              · rintro H7 ⟨out, hDo, hol, hop, hor, hoi, g7, T7⟩
                refine ⟨D, out, rfl, hDo, nodup_of_lt hop, fun x hx => by have := hor x hx; omega, by omega, ⟨nodup_of_lt hop, fun x => (hoi x).trans ?_⟩, g6.trans g7, T7⟩
                constructor
                · rintro ⟨m, h1, h2, rfl⟩
                  refine ⟨m, ?_, rfl⟩
                  unfold Mt.inn
                  rw [decide_eq_true iS, decide_eq_true (show m < S by omega), if_neg (by omega), if_pos (by omega), decide_eq_false h2]
                  rfl
                · rintro ⟨m, hm, rfl⟩
                  have := (Mt.inn_lt hm).2
                  refine ⟨m, by omega, fun e => ?_, rfl⟩
                  unfold Mt.inn at hm
                  rw [if_neg (by omega), if_pos (by omega), decide_eq_true e, Bool.and_eq_true] at hm
                  cases hm.2
            · rintro σ' H7 ⟨rc, row2, rfl, hrc, hnd2, hrr2, hrl2, hOL, g7, T7⟩
              -- ahead
              refine ⟨_, rfl, _, rfl, by omega, by omega, fun D hD => ?_⟩
              have nD := T7.free hD
              refine lc_range (lo := 0) (n := ((vs.length : Nat) : Int).toNat) (fun j H' => ∃ out : List Int, H' D = some (.lst (out.map V.int)) ∧ out.length ≤ j ∧ out.Pairwise (· < ·) ∧ (∀ x ∈ out, 0 ≤ x ∧ x < (j : Int)) ∧ Gr t H7 H' ∧ Tape H' t l)
                ⟨[], upd_same, Nat.le_refl _, .nil, fun _ h => (by cases h), Gr.new hD, T7.new hD⟩ ?_ ?_
              · rintro j H8 hj ⟨out, hDo, hol, hop, hor, g8, T8⟩
                refine ⟨rfl, _, rfl, t, l, 4, rfl, T8, by decide, by decide, fun x H9 _ _ g9 T9 => ⟨rfl, _, rfl, ?_⟩⟩
                have hD9 : H9 D = some (.lst (out.map V.int)) := g9 _ _ nD.1 hDo
                refine ite2 (fun _ => ?_) (fun _ => ⟨out, hD9, by omega, hop, fun x hx => by have := hor x hx; omega, g8.trans g9, T9⟩)
                refine ⟨_, rfl, _, hD9, by rw [List.length_map]; exact small_lt (by omega), ?_⟩
                refine ⟨out ++ [0 + (j : Int)], by rw [upd_same, map_snoc], by rw [List.length_append, List.length_singleton]; omega, asc_snoc hop fun x hx => by have := hor x hx; omega, fun x hx => ?_, gr_mut (g8.trans g9) hD, T9.mut nD⟩
                rcases List.mem_append.mp hx with h | h
                · have := hor x h
                  omega
                · rw [List.mem_singleton.mp h]
                  omega
              · rintro H8 ⟨out, hDo, hol, hop, hor, g8, T8⟩
                have g58 := g7.trans g8
                have hfa8 : H8 fa = some (.lst vs') := g58 _ _ nf.1 hfa5
                have hrc8 : H8 rc = some (.lst (row2.map V.int)) := g8 _ _ (T7.ne_ints' hrc) hrc
                have hrs8 := hrs5.gr g58 T5
                refine ⟨_, rfl, .inl ⟨rfl, _, SqL.of hfa8⟩, _, rfl, _, rfl, rc, D, _, _, rfl, rfl, hrc8, hDo, by rw [List.length_map, List.length_map]; exact small_le (by omega), fun ca hca => ?_⟩
                have ncf : fa ≠ ca := ne_of_none hfa8 hca
                refine ⟨ca, row2 ++ out, rfl, SqL.of (by rw [upd_same, List.map_append]), fun ns' p pms so hp => ⟨p, _, rfl, .inl ⟨SqL.of upd_same, fun q hq => ?_⟩⟩⟩
                have npf : fa ≠ p := ne_of_none (show (upd H8 ca (.lst (row2.map V.int ++ out.map V.int))) fa = some (.lst vs') by rw [upd_ne ncf]; exact hfa8) hp
                have nqf : fa ≠ q := ne_of_none (show (upd (upd H8 ca (.lst (row2.map V.int ++ out.map V.int))) p (.lst (ns'.map V.int))) fa = some (.lst vs') by rw [upd_ne npf, upd_ne ncf]; exact hfa8) hq
                have e9 : (upd (upd (upd H8 ca (.lst (row2.map V.int ++ out.map V.int))) p (.lst (ns'.map V.int))) q (.tup (ns'.map V.int))) fa = some (.lst vs') := by rw [upd_ne nqf, upd_ne npf, upd_ne ncf]; exact hfa8
                have g89 : Gr t H8 (upd (upd (upd H8 ca (.lst (row2.map V.int ++ out.map V.int))) p (.lst (ns'.map V.int))) q (.tup (ns'.map V.int))) := ((Gr.new hca).trans (Gr.new hp)).trans (Gr.new hq)
                have T9 := ((T8.new (o := .lst (row2.map V.int ++ out.map V.int)) hca).new (o := .lst (ns'.map V.int)) hp).new (o := .tup (ns'.map V.int)) hq
                refine ⟨fa, vs', .ref q, rfl, rfl, e9, small_lt (by rw [hrs5.len]; omega), ?_⟩
                have nd : (row2 ++ out).Nodup := by
                  show (row2 ++ out).Pairwise (· ≠ ·)
                  rw [List.pairwise_append]
                  exact ⟨hnd2, nodup_of_lt hop, fun a ha b hb q => by
                    have := hrr2 a ha
                    have := hor b hb
                    omega⟩
                refine ⟨vs' ++ [.ref q], rs' ++ [ns'], new ++ [ns'], _, _, _, _, _, by rw [ers, List.append_assoc], hN.snoc (fun x hx => ?_) (fun j hj => pms.mem_iff.mpr (List.mem_append_left _ ((hOL.2 _).mpr ⟨j, hj, rfl⟩))), rfl, by rw [List.length_append, hl']; rfl, upd_same, ?_, ⟨fun r hr => ?_, fun r hr x hx => ?_⟩, gr_mut (g5.trans (g58.trans g89)) hf, T9.mut nf⟩
                · rcases List.mem_append.mp (pms.mem_iff.mp hx) with h2 | h2
                  · exact .inl ((hOL.2 x).mp h2)
                  · have := hor x h2
                    exact .inr (by omega)
                · exact RowsT.snoc (SqT.of (by rw [upd_ne nqf.symm, upd_same])) ((hrs8.gr g89 T8).put e9)
                · rcases List.mem_append.mp hr with h | h
                  · exact hB5.asc r h
                  · rw [List.mem_singleton.mp h]
                    exact asc_of pms so nd
                · rcases List.mem_append.mp hr with h | h
                  · exact hB5.rng r h x hx
                  · rw [List.mem_singleton.mp h] at hx
                    rcases List.mem_append.mp (pms.mem_iff.mp hx) with h2 | h2
                    · have := hrr2 x h2
                      omega
                    · have := hor x h2
                      omega
        · rintro σ' H5 ⟨vs', rs', new, y6, y7, y8, y9, y10, ers, hN, rfl, hl', hfa5, hrs5, hB5, g5, T5⟩
          rw [← eS] at hN
          refine ⟨n.toNat - rs'.length, by omega, vs', rs', bs ++ [(rs.length, S, kn)], _, _, _, _, _, _, _, _, rfl, by omega, hfa5, hrs5, ⟨hB5.asc, fun r hr x hx => ?_⟩, ?_, g5, T5⟩
          · have := hB5.rng r hr x hx
            omega
          · rw [ers]
            rw [vl] at hN
            exact .snoc hK (by omega) (by omega) (by omega) hN.len hN.mem fun k j h => hN.all k j (Mt.inn_lt h).1 h
end
end Fo
set_option maxRecDepth 100000
set_option maxHeartbeats 4000000
namespace Fo
open PySem PySem.Spec PyProof.Rows L2
abbrev s_law : Stmt := top 54
abbrev n_law : List Str := ["script", "tape", "table", "many", "people", "things", "moved", "lots", "one", "other", "inner", "second", "both", "due", "p", "x", "lot"]
theorem sc_law : FnScope n_law ["script"] (defScope s_law) := ⟨rfl, rfl, rfl, by decide +kernel, rfl, by decide +kernel, by decide +kernel⟩
section
variable {P : Program} {w : World} {K : PySem.W.Frag} {mg : Str → Option Value} {base : Heap} {C : Addr}
def BLq (c : Nat × Nat × Nat) : List (List Int) := [natI (Mt.blkG c), natI (Mt.blkG c)]
theorem flat_le {n : Nat} : ∀ {R : List (List Int)}, (∀ r ∈ R, r.length ≤ n) → R.flatten.length ≤ R.length * n
  | [], _ => Nat.zero_le _
  | r :: R, h => by
    rw [List.flatten_cons, List.length_append, List.length_cons, Nat.succ_mul]
    have := h r List.mem_cons_self
    have h2 : R.flatten.length ≤ R.length * n := flat_le fun x hx => h x (List.mem_cons_of_mem _ hx)
    omega
theorem rowsT_es {K : PySem.W.Frag} {H : Hp} : ∀ {us : List V} {R : List (List Int)}, RowsT K H us R → ∃ es : List (Addr × List Int), us = es.map (fun b => V.ref b.1) ∧ es.map (fun b => b.2) = R ∧ ∀ b ∈ es, SqT K H b.1 (b.2.map V.int)
  | _, _, .nil => ⟨[], rfl, rfl, fun b hb => (by cases hb)⟩
  | _, _, .cons (a := a) (r := r) h t => by
    obtain ⟨es, e1, e2, e3⟩ := rowsT_es t
    refine ⟨(a, r) :: es, by rw [e1]; rfl, by rw [List.map_cons, e2], fun b hb => ?_⟩
    rcases List.mem_cons.mp hb with rfl | hb
    · exact h
    · exact e3 b hb
theorem PrsT.gr {K : PySem.W.Frag} {t l : Addr} {H H' : Hp} (g : Gr t H H') (T : Tape H t l) : ∀ {vs : List V} {Rs : List (List (List Int))}, PrsT K H vs Rs → PrsT K H' vs Rs
  | _, _, .nil => .nil
  | _, _, .cons h t => .cons (h.gr g T) (t.gr g T)
theorem prsT_app {K : PySem.W.Frag} {H : Hp} : ∀ {us ws : List V} {R S : List (List (List Int))}, PrsT K H us R → PrsT K H ws S → PrsT K H (us ++ ws) (R ++ S)
  | _, _, _, _, .nil, h => h
  | _, _, _, _, .cons h t, r => .cons h (prsT_app t r)
theorem lots_blk {rows : List (List Int)} {bs : List (Nat × Nat × Nat)} (G : Good rows) (h : Mt.BlkR rows bs) : (bs.map Mt.blkG).map (pieceR rows) = bs.map BLq := by
  rw [List.map_map]
  exact List.map_congr_left fun c hc => by show [natI (Mt.blkG c), thgR rows (Mt.blkG c)] = _; rw [thg_blk G h hc]; rfl
def spLaw (K : PySem.W.Frag) : Sp := fun vs H Q _ => ∃ (a : Addr) (ns : List Int), vs = [.ref a] ∧ SqL K H a (ns.map V.int) ∧ ns.length ≤ 63 ∧ ∀ H', Q (.bl true) H'
theorem ok_law {f : Addr} {fd : FuncData} (F : Fun K "law" "law" s_law f fd) (T : Tx mg) (tc : TC K C) (Tan : mg "any" = none) (G_Table : MkT P w K mg base C 6 1 (spInit K C) (spEqT K C))
    (G_law_tape : Dfn P w K mg base "_law_tape" ["script"] 1 (spTape K)) (G_law_blocks : Dfn P w K mg base "_law_blocks" ["tape", "most"] 2 (spBlk21 K)) (G_law_order : Dfn P w K mg base "_law_order" ["tape", "many"] 2 spOrder) (G_renumbered : Dfn P w K mg base "renumbered" ["table", "people", "things"] 9 (spRen K C)) (G_pieces : Dfn P w K mg base "pieces" ["table"] 6 (spPieces K C)) (G_law_carried : Dfn P w K mg base "_law_carried" ["lots", "people", "things"] 1 (spCar K))
    (G_idle_ties : Dfn P w K mg base "idle_ties" ["table"] 6 (spIdle K C)) (G_piece_kinds : Dfn P w K mg base "piece_kinds" ["table"] 6 (spPkE K C)) (G_law_rounds_right : Dfn P w K mg base "_law_rounds_right" ["table"] 7 (spRds K C)) (G_ties : Dfn P w K mg base "ties" ["table"] 1 (spTies K C)) (G_beside : Dfn P w K mg base "beside" ["one", "other"] 9 (spBeside K C)) : FnOk P w K mg base CX0 10 f fd ["script"] (spLaw K) := by
  refine F.ok sc_law (fun vs H Q E h => ?_) (fun cdv A outer s H vs Q E hr h => ?_)
  · obtain ⟨a, ns, rfl, _⟩ := h
    rfl
  · obtain ⟨sa, ns, rfl, hS, hlen, k⟩ := h
    refine ⟨_, (pss_cons (ps_set (i := 1) sc_law.nd rfl (Or.inl rfl) (pe_d G_law_tape (hr.mono (by decide)) (pa_cons (pv 0) pa_nil)))
      (pss_cons (ps_set (i := 2) sc_law.nd rfl (Or.inl rfl) (pe_makeTable G_Table (hr.mono (by decide)) (pe_d G_law_blocks (hr.mono (by decide)) (pa_cons (pv 1) (pa_cons pe_int pa_nil)))))
      (pss_cons (ps_set (i := 3) sc_law.nd rfl (Or.inr rfl) (pe_fld (pv 2) rfl))
      (pss_cons (ps_set (i := 4) sc_law.nd rfl (Or.inr rfl) (pe_d G_law_order (hr.mono (by decide)) (pa_cons (pv 1) (pa_cons (pv 3) pa_nil))))
      (pss_cons (ps_set (i := 5) sc_law.nd rfl (Or.inr rfl) (pe_d G_law_order (hr.mono (by decide)) (pa_cons (pv 1) (pa_cons (pv 3) pa_nil))))
      (pss_cons (ps_set (i := 6) sc_law.nd rfl (Or.inl rfl) (pe_d G_renumbered (hr.mono (by decide)) (pa_cons (pv 2) (pa_cons (pe_callTy c_tuple (by rfl) T.tuple (by decide +kernel) (pa_cons (pv 4) pa_nil)) (pa_cons (pe_callTy c_tuple (by rfl) T.tuple (by decide +kernel) (pa_cons (pv 5) pa_nil)) pa_nil)))))
      (pss_cons (ps_set (i := 7) sc_law.nd rfl (Or.inr rfl) (pe_d G_pieces (hr.mono (by decide)) (pa_cons (pv 2) pa_nil)))
      (pss_cons (ps_if (pt_cmpR (op_neD hr.units) (pe_d G_pieces (hr.mono (by decide)) (pa_cons (pv 6) pa_nil)) (pe_d G_law_carried (hr.mono (by decide)) (pa_cons (pv 7) (pa_cons (pv 4) (pa_cons (pv 5) pa_nil)))) (nomark _)) (pss_one (ps_ret pe_bl)) pss_nil)
      (pss_cons (ps_if (pt_cmpR (op_neD hr.units) (pe_d G_idle_ties (hr.mono (by decide)) (pa_cons (pv 6) pa_nil)) (pe_callB (cr_sortedTT hr.units) (by rfl) T.sorted (by decide +kernel) (pa_cons (pe_lc (own := [("p", 14), ("x", 15)]) (g := (gTup K 2 (gCons (gName 14) (gCons (gName 15) gNil)))) (tt := tYes) (te := (tTup (tCons (tOp (rIxL K) (tVar 4) (tVar 14)) (tCons (tOp (rIxL K) (tVar 5) (tVar 15)) tNil)))) (by rfl) sc_law.nd (pi_list (pe_d G_idle_ties (hr.mono (by decide)) (pa_cons (pv 2) pa_nil))) (blkOk_by (own := [("p", 14), ("x", 15)]) (N := n_law) (sc := (defScope s_law)) (by decide +kernel)) (fun _ _ _ _ _ => (pg_tup rfl (pgs_cons (pg_name (i := 14) sc_law.nd rfl (Or.inl rfl)) (pgs_cons (pg_name (i := 15) sc_law.nd rfl (Or.inl rfl)) pgs_nil)))) (fun _ _ _ _ _ => pts_nil) (fun _ _ _ _ _ => (pe_tup (pa_cons (pe_ix ix_list (pv 4) (pv 14) (fun _ _ => rfl)) (pa_cons (pe_ix ix_list (pv 5) (pv 15) (fun _ _ => rfl)) pa_nil))))) pa_nil)) (nomark _)) (pss_one (ps_ret pe_bl)) pss_nil)
      (pss_cons (ps_if (PW.pt (pw_or (pt_cmpR (op_neD hr.units) (pe_callB L2.cr_sortedS (by rfl) T.sorted (by decide +kernel) (pa_cons (pe_d G_piece_kinds (hr.mono (by decide)) (pa_cons (pv 6) pa_nil)) pa_nil)) (pe_callB L2.cr_sortedS (by rfl) T.sorted (by decide +kernel) (pa_cons (pe_d G_piece_kinds (hr.mono (by decide)) (pa_cons (pv 2) pa_nil)) pa_nil)) (nomark _)) (pw_or1 (pt_not (pt_val (pe_d G_law_rounds_right (hr.mono (by decide)) (pa_cons (pv 6) pa_nil))))))) (pss_one (ps_ret pe_bl)) pss_nil)
      (pss_cons (ps_for PassesOwn.never rfl (pi_list (pv 7)) (pg_tup rfl (pgs_cons (pg_name (i := 8) sc_law.nd rfl (Or.inl rfl)) (pgs_cons (pg_name (i := 9) sc_law.nd rfl (Or.inl rfl)) pgs_nil)))
      (pss_one (ps_if (PW.pt (pw_or (pt_cmpR (op_neD hr.units) (pv 8) (pv 9) (nomark _)) (pw_or1 (pt_cmpR (op_neD hr.units) (pe_callTy c_list (by rfl) T.list (by decide +kernel) (pa_cons (pv 8) pa_nil)) (pe_listRg rfl (by rfl) T.list (prg_2 (by rfl) T.range (pe_ix ix_tup (pv 8) pe_int (fun _ _ => rfl)) (pe_op op_add (pe_ix ix_tup (pv 8) (pe_un un_neg pe_int) (fun _ _ => rfl)) pe_int))) (nomark _))))) (pss_one (ps_ret pe_bl)) pss_nil)))
      (pss_cons (ps_setLc (i := 10) (own := [("p", 14), ("x", 15)]) (g := (gTup K 2 (gCons (gName 14) (gCons (gName 15) gNil)))) (tt := (tB (tCB (rAny K) (tCons (tLc (iList K (tVar 7)) (gName 16) tYes (tAndV (tOp (rIn K false) (tVar 14) (tOp (rIxT K) (tVar 16) (tC (V.int 0)))) (tOp (rIn K false) (tVar 15) (tOp (rIxT K) (tVar 16) (tC (V.int 1))))) [16]) tNil)))) (te := (tTup (tCons (tVar 14) (tCons (tVar 15) tNil)))) (by rfl) sc_law.nd rfl rfl (sw_true rfl rfl rfl (by decide +kernel)) (pi_list (pe_d G_ties (hr.mono (by decide)) (pa_cons (pv 2) pa_nil))) (blkOk_by (own := [("p", 14), ("x", 15)]) (N := n_law) (sc := (defScope s_law)) (by decide +kernel)) (fun _ _ _ _ _ => (pg_tup rfl (pgs_cons (pg_name (i := 14) sc_law.nd rfl (Or.inr rfl)) (pgs_cons (pg_name (i := 15) sc_law.nd rfl (Or.inr rfl)) pgs_nil)))) (fun _ _ _ _ _ => (pts_one (pt_val (pe_callB (cr_any rfl) (by rfl) Tan (by decide +kernel) (pa_cons (pe_lc (own := [("lot", 16)]) (g := (gName 16)) (tt := tYes) (te := (tAndV (tOp (rIn K false) (tVar 14) (tOp (rIxT K) (tVar 16) (tC (V.int 0)))) (tOp (rIn K false) (tVar 15) (tOp (rIxT K) (tVar 16) (tC (V.int 1)))))) (by rfl) sc_law.nd (pi_list (pv 7)) (blkOk_by (own := [("lot", 16)]) (N := n_law) (sc := (relabel (lcIn s_law [11] 0) (envA (defScope s_law)))) (by decide +kernel)) (fun _ _ _ _ _ => (pg_name (i := 16) sc_law.nd rfl (Or.inl rfl))) (fun _ _ _ _ _ => pts_nil) (fun _ _ _ _ _ => (pe_and (pe_cmpR op_in_seq (pv 14) (pe_ix ix_tup (pv 16) pe_int (fun _ _ => rfl)) rfl) (pe_one (pe_cmpR op_in_seq (pv 15) (pe_ix ix_tup (pv 16) pe_int (fun _ _ => rfl)) rfl))))) pa_nil))))) (fun _ _ _ _ _ => (pe_tup (pa_cons (pv 14) (pa_cons (pv 15) pa_nil)))))
      (pss_cons (ps_if (pt_cmpR (op_neD hr.units) (pe_callB (cr_sortedTT hr.units) (by rfl) T.sorted (by decide +kernel) (pa_cons (pe_op op_cat (pv 10) (pe_d G_idle_ties (hr.mono (by decide)) (pa_cons (pv 2) pa_nil))) pa_nil)) (pe_d G_ties (hr.mono (by decide)) (pa_cons (pv 2) pa_nil)) (nomark _)) (pss_one (ps_ret pe_bl)) pss_nil)
      (pss_cons (ps_set (i := 11) sc_law.nd rfl (Or.inl rfl) (pe_makeTable G_Table (hr.mono (by decide)) (pe_d G_law_blocks (hr.mono (by decide)) (pa_cons (pv 1) (pa_cons pe_int pa_nil)))))
      (pss_cons (ps_set (i := 12) sc_law.nd rfl (Or.inl rfl) (pe_d G_beside (hr.mono (by decide)) (pa_cons (pv 2) (pa_cons (pv 11) pa_nil))))
      (pss_cons (ps_set (i := 13) sc_law.nd rfl (Or.inl rfl) (pe_op op_cat (pv 7) (pe_lc (own := [("lot", 16)]) (g := (gName 16)) (tt := tYes) (te := (tTup (tCons (tCB (rTupOf K) (tCons (tLc (iTup K (tOp (rIxT K) (tVar 16) (tC (V.int 0)))) (gName 14) tYes (tOp (rI0 fun i j => V.int (i + j)) (tVar 14) (tVar 3)) [14]) tNil)) (tCons (tCB (rTupOf K) (tCons (tLc (iTup K (tOp (rIxT K) (tVar 16) (tC (V.int 1)))) (gName 15) tYes (tOp (rI0 fun i j => V.int (i + j)) (tVar 15) (tVar 3)) [15]) tNil)) tNil)))) (by rfl) sc_law.nd (pi_list (pe_d G_pieces (hr.mono (by decide)) (pa_cons (pv 11) pa_nil))) (blkOk_by (own := [("lot", 16)]) (N := n_law) (sc := (defScope s_law)) (by decide +kernel)) (fun _ _ _ _ _ => (pg_name (i := 16) sc_law.nd rfl (Or.inl rfl))) (fun _ _ _ _ _ => pts_nil) (fun _ _ _ _ _ => (pe_tup (pa_cons (pe_callTy c_tuple (by rfl) T.tuple (by decide +kernel) (pa_cons (pe_lc (own := [("p", 14)]) (g := (gName 14)) (tt := tYes) (te := (tOp (rI0 fun i j => V.int (i + j)) (tVar 14) (tVar 3))) (by rfl) sc_law.nd (pi_tup (pe_ix ix_tup (pv 16) pe_int (fun _ _ => rfl))) (blkOk_by (own := [("p", 14)]) (N := n_law) (sc := (relabel (lcIn s_law [15] 0) (envA (defScope s_law)))) (by decide +kernel)) (fun _ _ _ _ _ => (pg_name (i := 14) sc_law.nd rfl (Or.inl rfl))) (fun _ _ _ _ _ => pts_nil) (fun _ _ _ _ _ => (pe_op op_add (pv 14) (pv 3)))) pa_nil)) (pa_cons (pe_callTy c_tuple (by rfl) T.tuple (by decide +kernel) (pa_cons (pe_lc (own := [("x", 15)]) (g := (gName 15)) (tt := tYes) (te := (tOp (rI0 fun i j => V.int (i + j)) (tVar 15) (tVar 3))) (by rfl) sc_law.nd (pi_tup (pe_ix ix_tup (pv 16) pe_int (fun _ _ => rfl))) (blkOk_by (own := [("x", 15)]) (N := n_law) (sc := (relabel (lcIn s_law [15] 0) (envA (defScope s_law)))) (by decide +kernel)) (fun _ _ _ _ _ => (pg_name (i := 15) sc_law.nd rfl (Or.inl rfl))) (fun _ _ _ _ _ => pts_nil) (fun _ _ _ _ _ => (pe_op op_add (pv 15) (pv 3)))) pa_nil)) pa_nil)))))))
      (pss_one (ps_ret (pe_and (pe_cmpR (op_eqD hr.units) (pe_d G_pieces (hr.mono (by decide)) (pa_cons (pv 12) pa_nil)) (pv 13) (nomark _)) (pe_one (pe_cmpR (op_eqD hr.units) (pe_d G_piece_kinds (hr.mono (by decide)) (pa_cons (pv 12) pa_nil)) (pe_op op_cat (pe_d G_piece_kinds (hr.mono (by decide)) (pa_cons (pv 2) pa_nil)) (pe_d G_piece_kinds (hr.mono (by decide)) (pa_cons (pv 11) pa_nil))) (nomark _)))))))))))))))))))))), ?_⟩
    refine ⟨_, rfl, sa, ns, rfl, hS, fun t l H1 s1 _ _ T1 => ?_⟩
    refine ⟨_, rfl, t, l, 12, rfl, T1, by decide, by decide, fun v rows bs H2 G hl hK g2 T2 R2 => ?_⟩
    refine ⟨rows, G, by omega, R2, fun tp d1 H3 s3 _ h1 => ?_⟩
    have T3 := T2.keep s3
    have tb3 : TableAt K C H3 (.ref tp) rows := ⟨tp, d1, v, rfl, h1, R2.same s3⟩
    have n12 : rows.length ≤ 12 := by omega
    refine ⟨_, rfl, tp, C, d1, _, _, rfl, h1, tc.cl, tc.nS, tf_size _ _, ?_⟩
    refine ⟨_, rfl, _, rfl, t, l, (rows.length : Int), rfl, T3, by omega, by omega, fun o1 ps H4 pm fo1 ho1 g4 T4 => ?_⟩
    refine ⟨_, rfl, _, rfl, t, l, (rows.length : Int), rfl, T4, by omega, by omega, fun o2 ts H5 tm fo2 ho2 g5 T5 => ?_⟩
    have no1 := T3.free fo1
    have no2 := T4.free fo2
    have hp5 : H5 o1 = some (.lst (ps.map V.int)) := g5 _ _ no1.1 ho1
    have tb5 : TableAt K C H5 (.ref tp) rows := (tb3.gr g4 T3).gr g5 T4
    refine ⟨_, rfl, _, rfl, o1, _, rfl, .inl ⟨SqL.of hp5, fun pa hpa => ?_⟩⟩
    have s6 := same_new (o := .tup (ps.map V.int)) hpa
    obtain ⟨H6, e6⟩ : ∃ H6, H6 = upd H5 pa (.tup (ps.map V.int)) := ⟨_, rfl⟩
    have pa6 : SqT K H6 pa (ps.map V.int) := SqT.of (by rw [e6]; exact upd_same)
    rw [← e6] at s6 ⊢
    refine ⟨_, rfl, o2, _, rfl, .inl ⟨SqL.of (s6 _ _ ho2), fun ta hta => ?_⟩⟩
    have s7 := same_new (o := .tup (ts.map V.int)) hta
    obtain ⟨H7, e7⟩ : ∃ H7, H7 = upd H6 ta (.tup (ts.map V.int)) := ⟨_, rfl⟩
    have ta7 : SqT K H7 ta (ts.map V.int) := SqT.of (by rw [e7]; exact upd_same)
    rw [← e7] at s7 ⊢
    have s57 := s6.trans s7
    refine ⟨.ref tp, rows, pa, ta, ps, ts, rfl, tb5.same s57, G, by omega, sqT_same s7 pa6, ta7, pm, tm, fun mp R H8 s8 _ hm ren => ?_⟩
    have rw_ : RenW rows R ps ts (invL rows.length ps) (invL rows.length ts) := ⟨G, inv_invL pm, inv_invL tm, ren⟩
    have s58 := s57.trans s8
    have GR := ren.good
    have Rl := ren.len
    obtain ⟨D0, d0⟩ := hK.ex
    have dR : ∃ D, Mt.Ds R D := ⟨_, ren_ds G (inv_invL pm) tm ren d0⟩
    -- lots = pieces(table)
    have tb8 := tb5.same s58
    refine ⟨_, rfl, .ref tp, rows, rfl, tb8, G, by omega, ⟨D0, d0⟩, fun F0 ll lw H9 hF0 so0 s9 fll hll hlw => ?_⟩
    have eF : F0 = bs.map Mt.blkG := hF0.one hK.groups so0 (blk_so hK)
    subst eF
    rw [lots_blk G hK] at hlw
    have s59 := s58.trans s9
    have tb9 := tb5.same s59
    have hm9 := hm.same s9
    have hps9 := s59 _ _ hp5
    have hts9 := s59 _ _ ho2
    have bsl : bs.length ≤ 12 := by
      have := hF0.num
      rw [List.length_map, Mt.liveR_len] at this
      omega
    -- pieces(moved) != _law_carried(lots, people, things)
    refine ⟨_, rfl, .ref mp, R, rfl, hm9, GR, by omega, dR, fun F1 ml mw HA hF1 so1 sA fml hml hmw => ?_⟩
    have nl : ps.length = rows.length := by rw [pm.length_eq, rangeI_len, Int.toNat_natCast]
    have ml' : ts.length = rows.length := by rw [tm.length_eq, rangeI_len, Int.toNat_natCast]
    refine ⟨_, rfl, _, rfl, _, rfl, ll, o1, o2, lw, bs.map (fun c => (natI (Mt.blkG c), natI (Mt.blkG c))), ps, ts, rfl, sA _ _ hll, ?_, sA _ _ hps9, sA _ _ hts9, by rw [List.length_map]; omega, fun c hc => ?_, fun cl cw os HB sB fcl hcl hcw so pmo => ?_⟩
    · rw [List.map_map]
      exact hlw.same sA
    · obtain ⟨b, hb, rfl⟩ := List.mem_map.mp hc
      have ib := hK.in_ b hb
      have rg : ∀ x ∈ natI (Mt.blkG b), 0 ≤ x ∧ x < (rows.length : Int) := fun x hx => by
        obtain ⟨j, hj, rfl⟩ := natI_blk.mp hx
        omega
      have ln : (natI (Mt.blkG b)).length ≤ 1000 := by
        unfold natI Mt.blkG
        rw [List.length_map, List.length_map, List.length_range]
        omega
      exact ⟨fun x hx => by rw [nl]; exact rg x hx, fun x hx => by rw [ml']; exact rg x hx, ln, ln⟩
    have ecar : os.map (fun c => [c.1, c.2]) = F1.map (pieceR R) := by
      refine pieces_carried rw_ hK.groups hF1 so1 ?_ so
      have e : ((bs.map Mt.blkG).map fun g => (natI g, thgR rows g)) = bs.map fun c => (natI (Mt.blkG c), natI (Mt.blkG c)) := by
        rw [List.map_map]
        exact List.map_congr_left fun c hc => by show (natI (Mt.blkG c), thgR rows (Mt.blkG c)) = _; rw [thg_blk G hK hc]
      rw [e]
      exact pmo
    rw [ecar] at hcw
    have sAB := sA.trans sB
    refine ⟨_, _, dp_P (SqL.of (sB _ _ hml)) (hmw.same sB), dp_P (SqL.of hcl) hcw, sh_P _, sh_P _, ?_⟩
    rw [eqv_P]
    refine ⟨_, rfl, ite2 (fun n => absurd n (by decide)) (fun _ => ?_)⟩
    have s9B := sAB
    have tT : (tieRows rows).length ≤ 144 := by
      unfold tieRows
      rw [tie_num]
      refine Nat.le_trans (flat_le fun r hr => G.row_len r hr) ?_
      exact Nat.mul_le_mul n12 n12
    have lwl : lw.length = bs.length := by
      have := hlw.len
      rwa [List.length_map] at this
    -- idle_ties(moved)
    have iT : (idleR rows).length ≤ 144 := by
      refine Nat.le_trans (List.length_filter_le _ _) ?_
      unfold tieRows
      rw [tie_num]
      refine Nat.le_trans (flat_le fun r hr => G.row_len r hr) ?_
      exact Nat.mul_le_mul n12 n12
    refine ⟨_, rfl, .ref mp, R, rfl, hm9.same s9B, GR, by omega, dR, fun il iw HC sC fil hil hiw => ?_⟩
    have s9C := s9B.trans sC
    refine ⟨_, rfl, .ref tp, rows, rfl, tb9.same s9C, G, by omega, ⟨D0, d0⟩, fun jl jw HD sD fjl hjl hjw => ?_⟩
    have s9D := s9C.trans sD
    refine ⟨jl, rfl, ⟨_, SqL.of hjl⟩, fun L1 hL1 => ?_⟩
    have jwl := hjw.len
    refine lc_list (xs := jw) (fun j H' => ∃ es : List (Addr × List Int), H' L1 = some (.lst (es.map fun b => V.ref b.1)) ∧ (∀ b ∈ es, SqT K H' b.1 (b.2.map V.int)) ∧ es.map (fun b => b.2) = ((idleR rows).take j).map (pairP ps ts) ∧ Same HD H') ⟨[], upd_same, fun b hb => (by cases hb), rfl, same_new hL1⟩ (fun j H' _ hp => by obtain ⟨_, _, _, _, s⟩ := hp; exact SqL.of (s _ _ hjl)) ?_ ?_
    · rintro j y HE hy ⟨es, hE, hes, ees, sE⟩
      have jl := (List.getElem?_eq_some_iff.mp hy).1
      obtain ⟨r, hr_⟩ : ∃ r, (idleR rows)[j]? = some r := ⟨_, List.getElem?_eq_getElem (by omega)⟩
      obtain ⟨p, t', rfl, ht', _⟩ := mem_idle.mp (List.mem_of_getElem? hr_)
      obtain ⟨e, he, hee⟩ := hjw.get hr_
      rw [hy] at he
      cases Option.some.inj he
      have pl := Mt.row_lt ht'
      have tr := G.row_rng ht'
      have s9E := s9D.trans sE
      have a1 := (nP_at pm pl).1
      have a2 := (perm_getI tm tr.1 tr.2).1
      have el : es.length ≤ j := by
        have := congrArg List.length ees
        rw [List.length_map, List.length_map, List.length_take] at this
        omega
      refine ⟨e, _, rfl, sqT_same sE hee, rfl, _, _, rfl, _, _, rfl, rfl, rfl, ?_⟩
      refine ⟨_, rfl, _, rfl, o1, _, (p : Int), .int ((nP ps p : Nat) : Int), rfl, rfl, SqL.of (s9E _ _ hps9), at_nat (by rw [List.getElem?_map, a1]; rfl), ?_⟩
      refine ⟨_, rfl, _, rfl, o2, _, t', .int (getI ts t'), rfl, rfl, SqL.of (s9E _ _ hts9), ?_, ?_⟩
      · rw [show t' = ((t'.toNat : Nat) : Int) from (Int.toNat_of_nonneg tr.1).symm]
        exact at_nat (by rw [List.getElem?_map, Int.toNat_of_nonneg tr.1, a2]; rfl)
      refine ⟨by show 2 ≤ sizeLine; decide, fun q hq => ?_⟩
      have sq := same_new (o := .tup [V.int ((nP ps p : Nat) : Int), .int (getI ts t')]) hq
      have hE2 := sq _ _ hE
      refine ⟨_, hE2, small_lt (by rw [List.length_map]; have := iT; omega), es ++ [(q, pairP ps ts [(p : Int), t'])], by rw [upd_same, List.map_append]; rfl, fun b hb => ?_, ?_, same_mut (sE.trans sq) hL1⟩
      · rcases List.mem_append.mp hb with hb | hb
        · exact sqT_put (sqT_same sq (hes b hb)) hE2
        · rw [List.mem_singleton.mp hb, pairP_at pm pl]
          exact sqT_put (SqT.of upd_same) hE2
      · rw [List.map_append, ees, List.take_add_one, hr_, List.map_append]
        rfl
    rintro HE ⟨es, hE, hes, ees, sE⟩
    rw [jwl, List.take_length] at ees
    refine ⟨L1, es, rfl, SqL.of hE, fun b hb => ⟨hes b hb, ?_⟩, fun es2 q pme soe hq => ?_⟩
    · have : b.2 ∈ (idleR rows).map (pairP ps ts) := by rw [← ees]; exact List.mem_map.mpr ⟨b, hb, rfl⟩
      obtain ⟨z, _, ez⟩ := List.mem_map.mp this
      rw [← ez]
      exact fun h => by cases h
    have sq := same_new (o := .lst (es2.map fun b => V.ref b.1)) hq
    have eid : idleR R = es2.map fun b => b.2 := idle_ren rw_ (by rw [← ees]; exact pme.map _) soe
    have sCE := sD.trans sE
    have rT : ∀ {l : List (Addr × List Int)} {H' : Hp}, (∀ b ∈ l, SqT K H' b.1 (b.2.map V.int)) → RowsT K H' (l.map fun b => V.ref b.1) (l.map fun b => b.2) := fun {l H'} h => by
      induction l with
      | nil => exact .nil
      | cons x l ih => exact .cons (h x List.mem_cons_self) (ih fun b hb => h b (List.mem_cons_of_mem _ hb))
    have hq2 : (upd HE q (.lst (es2.map fun b => V.ref b.1))) q = some (.lst (es2.map fun b => V.ref b.1)) := upd_same
    have he2 := rT (l := es2) fun b hb => sqT_same sq (hes b (pme.mem_iff.mp hb))
    rw [← eid] at he2
    have s9F := (s9C.trans sCE).trans sq
    refine ⟨_, _, .lst (SqL.of ((sCE.trans sq) _ _ hil)) (rowsT_dp (hiw.same (sCE.trans sq))), .lst (SqL.of hq2) (rowsT_dp he2), sh_L _, sh_L _, ?_⟩
    rw [eqv_L, decide_eq_true rfl]
    refine ⟨_, rfl, ite2 (fun n => absurd n (by decide)) (fun _ => ?_)⟩
    generalize upd HE q (.lst (es2.map fun b => V.ref b.1)) = HF at s9F ⊢
    -- kinds
    refine ⟨_, rfl, .ref mp, R, rfl, hm9.same s9F, GR, by omega, dR, fun F2 kl HG hF2 so2 sG1 fkl hkl => ?_⟩
    have eF2 : F2 = F1 := hF2.one hF1 so2 so1
    subst eF2
    have iskR : ∀ x ∈ F2.map (kindS (Mt.liveR R)), IsKind x := fun x hx => by
      obtain ⟨g, _, rfl⟩ := List.mem_map.mp hx
      exact kind_cases _ _
    have fl2 : F2.length ≤ 12 := by
      have := hF2.num
      rw [Mt.liveR_len] at this
      omega
    refine ⟨kl, _, rfl, SqL.of hkl, by rw [List.length_map]; omega, fun ys q1 pmy soy hq1 => ?_⟩
    have sq1 := same_new (o := .lst (ys.map V.str)) hq1
    have hq1' : (upd HG q1 (.lst (ys.map V.str))) q1 = some (.lst (ys.map V.str)) := upd_same
    have s9G := (s9F.trans sG1).trans sq1
    generalize upd HG q1 (.lst (ys.map V.str)) = HH at s9G hq1' ⊢
    refine ⟨_, rfl, .ref tp, rows, rfl, tb9.same s9G, G, by omega, ⟨D0, d0⟩, fun F3 kl2 HI hF3 so3 sI fkl2 hkl2 => ?_⟩
    have eF3 : F3 = bs.map Mt.blkG := hF3.one hK.groups so3 (blk_so hK)
    subst eF3
    refine ⟨kl2, _, rfl, SqL.of hkl2, by rw [List.length_map, List.length_map]; omega, fun zs q2 pmz soz hq2 => ?_⟩
    have sq2 := same_new (o := .lst (zs.map V.str)) hq2
    have iskY : ∀ x ∈ ys, IsKind x := fun x hx => iskR x (pmy.mem_iff.mp hx)
    have eyz : ys = zs := kinds_one (pmy.trans ((kinds_ren rw_ hF3 hF2).trans pmz.symm)) iskY soy soz
    subst eyz
    have hq2' : (upd HI q2 (.lst (ys.map V.str))) q2 = some (.lst (ys.map V.str)) := upd_same
    have s9J := (s9G.trans sI).trans sq2
    have hq1J := (sI.trans sq2) _ _ hq1'
    generalize upd HI q2 (.lst (ys.map V.str)) = HJ at s9J hq2' hq1J ⊢
    refine ⟨_, _, dp_K (SqL.of hq1J), dp_K (SqL.of hq2'), sh_K iskY, sh_K iskY, ?_⟩
    rw [eqv_K, decide_eq_true rfl]
    refine ⟨_, rfl, ite2 (fun n => absurd n (by decide)) (fun _ => ?_)⟩
    refine ⟨_, rfl, .ref mp, R, rfl, hm9.same s9J, GR, by omega, dR, fun HK sK => ?_⟩
    refine ⟨_, rfl, ite2 (fun n => absurd n (by decide)) (fun _ => ?_)⟩
    have s9K := s9J.trans sK
    have hll9 : H9 ll = some (.lst lw) := hll
    refine ⟨_, rfl, ll, rfl, ⟨_, SqL.of (s9K _ _ hll)⟩, for_list (xs := lw) (fun j σ' H' => (∃ x8 x9, σ' = [some (.ref sa), some (.ref t), some (.ref tp), some (.int (rows.length : Int)), some (.ref o1), some (.ref o2), some (.ref mp), some (.ref ll), x8, x9, none, none, none, none, none, none, none]) ∧ Same H9 H') ⟨⟨_, _, rfl⟩, s9K⟩ (fun j σ' H' _ hp => SqL.of (hp.2 _ _ hll)) ?_ ?_⟩
    · rintro j y σ' HL hy ⟨⟨x8, x9, rfl⟩, sL⟩
      obtain ⟨Rr, hRr, hat⟩ := hlw.get hy
      rw [List.getElem?_map] at hRr
      obtain ⟨c, hc, rfl⟩ := Option.map_eq_some_iff.mp hRr
      obtain ⟨q, a, b, rfl, hq, ha, hb⟩ := rows_two hat
      have ib := hK.in_ c (List.mem_of_getElem? hc)
      refine ⟨q, _, rfl, sqT_same sL hq, rfl, _, _, rfl, _, _, rfl, rfl, ?_⟩
      have haL := sqT_same sL ha
      have hbL := sqT_same sL hb
      refine ⟨_, rfl, _, rfl, dI (natI (Mt.blkG c)), dI (natI (Mt.blkG c)), dp_rowI haL, dp_rowI hbL, sh_I _, sh_I _, ?_⟩
      rw [eqv_I, decide_eq_true rfl]
      refine ⟨_, rfl, ite2 (fun n => absurd n (by decide)) (fun _ => ?_)⟩
      refine ⟨_, rfl, a, _, rfl, .inr haL, fun z1 hz1 => ?_⟩
      have sz := same_new (o := .lst ((natI (Mt.blkG c)).map V.int)) hz1
      have hz1' : (upd HL z1 (.lst ((natI (Mt.blkG c)).map V.int))) z1 = some (.lst ((natI (Mt.blkG c)).map V.int)) := upd_same
      have haZ := sqT_same sz haL
      have sLZ := sL.trans sz
      generalize upd HL z1 (.lst ((natI (Mt.blkG c)).map V.int)) = HZ at sz hz1' haZ sLZ ⊢
      have ln : (natI (Mt.blkG c)).length = c.2.1 := by unfold natI Mt.blkG; rw [List.length_map, List.length_map, List.length_range]
      have at_ : ∀ i, i < c.2.1 → ((natI (Mt.blkG c)).map V.int)[i]? = some (.int ((c.1 + i : Nat) : Int)) := fun i hi => by
        unfold natI Mt.blkG
        rw [List.getElem?_map, List.getElem?_map, List.getElem?_map, List.getElem?_range hi]
        rfl
      refine ⟨_, rfl, a, _, _, .int ((c.1 + 0 : Nat) : Int), rfl, rfl, haZ, atI_nat (j := 0) (at_ 0 (by omega)), ?_⟩
      refine ⟨_, rfl, _, rfl, a, _, _, .int ((c.1 + (c.2.1 - 1) : Nat) : Int), rfl, rfl, haZ, ?_, _, _, rfl, rfl, _, _, rfl, rfl, RgOk.of_le (by omega) (by omega) (by omega) (by omega), fun z2 hz2 => ?_⟩
      · show atI _ (-1) = _
        unfold atI
        rw [List.length_map, ln, ix_last (by omega)]
        exact at_ _ (by omega)
      have erg : rgV ((c.1 + 0 : Nat) : Int) (((c.1 + (c.2.1 - 1) : Nat) : Int) + 1) = (natI (Mt.blkG c)).map V.int := by
        unfold rgV natI Mt.blkG
        rw [List.map_map, List.map_map, show (((c.1 + (c.2.1 - 1) : Nat) : Int) + 1 - ((c.1 + 0 : Nat) : Int)).toNat = c.2.1 from by omega]
        exact List.map_congr_left fun i _ => by show V.int (((c.1 + 0 : Nat) : Int) + (i : Int)) = V.int ((c.1 + i : Nat) : Int); exact congrArg V.int (by omega)
      rw [erg]
      have sz2 := same_new (o := .lst ((natI (Mt.blkG c)).map V.int)) hz2
      refine ⟨_, _, .lst (SqL.of (sz2 _ _ hz1')) (dpAll_ints _), .lst (SqL.of upd_same) (dpAll_ints _), sh_I _, sh_I _, ?_⟩
      have shL : (!PyData.eqv (.list ((natI (Mt.blkG c)).map PyData.int)) (.list ((natI (Mt.blkG c)).map PyData.int))) = false := by
        have sh : SeqAt.shaped (.list ((natI (Mt.blkG c)).map PyData.int)) = true := sh_I _
        rw [SeqAt.eqv_refl _ (SeqAt.canLay_of_shaped sh)]
        rfl
      rw [shL]
      refine ⟨_, rfl, ite2 (fun n => absurd n (by decide)) (fun _ => ?_)⟩
      exact ⟨⟨_, _, rfl⟩, sLZ.trans sz2⟩
    rintro σ' HL ⟨⟨x8, x9, rfl⟩, sL⟩
    -- inner
    refine ⟨_, rfl, .ref tp, rows, rfl, tb9.same sL, by omega, fun r hr => by have := G.row_len r hr; omega, fun tl tw HM sM ftl htl htw => ?_⟩
    have s9M := sL.trans sM
    have twl := htw.len
    refine ⟨tl, rfl, ⟨_, SqL.of htl⟩, fun L2 hL2 => ?_⟩
    refine lc_list (xs := tw) (fun j H' => ∃ us, H' L2 = some (.lst us) ∧ RowsT K H' us (((tieRows rows).take j).filter (inT bs)) ∧ Same HM H') ⟨[], upd_same, .nil, same_new hL2⟩ (fun j H' _ hp => by obtain ⟨_, _, _, s⟩ := hp; exact SqL.of (s _ _ htl)) ?_ ?_
    · rintro j y HN hy ⟨us, hN, hus, sN⟩
      have jl := (List.getElem?_eq_some_iff.mp hy).1
      obtain ⟨r, hr_⟩ : ∃ r, (tieRows rows)[j]? = some r := ⟨_, List.getElem?_eq_getElem (by omega)⟩
      obtain ⟨p, t', rfl, ht'⟩ := mem_ties.mp (List.mem_of_getElem? hr_)
      obtain ⟨e, he, hee⟩ := htw.get hr_
      rw [hy] at he
      cases Option.some.inj he
      have s9N := s9M.trans sN
      have es : ((tieRows rows).take (j + 1)).filter (inT bs) = ((tieRows rows).take j).filter (inT bs) ++ if inT bs [(p : Int), t'] = true then [[(p : Int), t']] else [] := by
        rw [List.take_add_one, hr_, List.filter_append]
        show _ ++ List.filter _ [[(p : Int), t']] = _
        rw [List.filter_cons]
        rfl
      refine ⟨e, _, rfl, sqT_same sN hee, rfl, _, _, rfl, _, _, rfl, rfl, rfl, ?_⟩
      refine ⟨_, rfl, ll, rfl, ⟨_, SqL.of (s9N _ _ hll)⟩, fun L3 hL3 => ?_⟩
      obtain ⟨fb, efb⟩ : ∃ fb : Nat × Nat × Nat → Bool, fb = fun c => decide ((p : Int) ∈ natI (Mt.blkG c)) && decide (t' ∈ natI (Mt.blkG c)) := ⟨_, rfl⟩
      refine lc_list (xs := lw) (fun m H' => H' L3 = some (.lst (((bs.take m).map fb).map V.bl)) ∧ Same HN H') ⟨upd_same, same_new hL3⟩ (fun m H' _ hp => SqL.of (hp.2 _ _ (s9N _ _ hll))) ?_ ?_
      · rintro m y HO hy2 ⟨hO, sO⟩
        obtain ⟨Rr, hRr, hat⟩ := hlw.get hy2
        rw [List.getElem?_map] at hRr
        obtain ⟨c, hc, rfl⟩ := Option.map_eq_some_iff.mp hRr
        obtain ⟨q, a, b, rfl, hq, ha, hb⟩ := rows_two hat
        have s9O := s9N.trans sO
        have ml := (List.getElem?_eq_some_iff.mp hc).1
        have nx : (((bs.take (m + 1)).map fb).map V.bl) = ((bs.take m).map fb).map V.bl ++ [V.bl (fb c)] := by rw [List.take_add_one, hc, List.map_append, List.map_append]; rfl
        have sml : (((bs.take m).map fb).map V.bl).length < sizeLine := small_lt (by rw [List.length_map, List.length_map, List.length_take]; omega)
        refine ⟨rfl, _, rfl, _, rfl, q, _, _, .ref a, rfl, rfl, sqT_same s9O hq, atI_nat (j := 0) rfl, a, _, rfl, .inr (sqT_same s9O ha), rfl, flat_intsR _, ?_⟩
        rw [if_neg (by decide), inV_ints]
        by_cases c1 : (p : Int) ∈ natI (Mt.blkG c)
        · rw [decide_eq_true c1]
          refine ⟨_, rfl, ite2 (fun _ => ?_) (fun n => absurd rfl n)⟩
          refine ⟨_, rfl, _, rfl, q, _, _, .ref b, rfl, rfl, sqT_same s9O hq, atI_nat (j := 1) rfl, b, _, rfl, .inr (sqT_same s9O hb), rfl, flat_intsR _, ?_⟩
          rw [if_neg (by decide), inV_ints]
          refine ⟨_, hO, sml, ?_, same_mut sO hL3⟩
          have efc : fb c = decide (t' ∈ natI (Mt.blkG c)) := by rw [efb]; show (decide _ && _) = _; rw [decide_eq_true c1]; rfl
          rw [upd_same, nx, efc]
        · rw [decide_eq_false c1]
          refine ⟨_, rfl, ite2 (fun n => absurd n (by decide)) (fun _ => ?_)⟩
          refine ⟨_, hO, sml, ?_, same_mut sO hL3⟩
          have efc : fb c = false := by rw [efb]; show (decide _ && _) = _; rw [decide_eq_false c1]; rfl
          rw [upd_same, nx, efc]
      rintro HO ⟨hO, sO⟩
      rw [lwl, List.take_length] at hO
      refine ⟨L3, bs.map fb, rfl, SqL.of hO, _, rfl, ?_⟩
      have eb : (bs.map fb).any id = inT bs [(p : Int), t'] := by rw [List.any_map, efb]; rfl
      rw [eb]
      have s9O := s9N.trans sO
      have hN2 := sO _ _ hN
      have ul : us.length ≤ 144 := by
        have h1 := hus.len
        have h2 := List.length_filter_le (inT bs) ((tieRows rows).take j)
        rw [List.length_take] at h2
        omega
      refine ite2 (fun hb => ?_) (fun hb => ?_)
      · refine ⟨_, rfl, _, rfl, by show 2 ≤ sizeLine; decide, fun q hq => ?_⟩
        have sq := same_new (o := .tup [V.int (p : Int), .int t']) hq
        have hN3 := sq _ _ hN2
        refine ⟨us, hN3, small_lt (by omega), us ++ [.ref q], upd_same, ?_, same_mut ((sN.trans sO).trans sq) hL2⟩
        rw [es, if_pos hb]
        exact RowsT.put hN3 (RowsT.snoc (r := [(p : Int), t']) (SqT.of upd_same) ((hus.same sO).same sq))
      · rw [es, if_neg hb, List.append_nil]
        exact ⟨us, hN2, hus.same sO, sN.trans sO⟩
    rintro HN ⟨us, hN, hus, sN⟩
    rw [twl, List.take_length] at hus
    have s9N := s9M.trans sN
    have tw3 := htw.same sN
    refine ⟨_, rfl, _, rfl, .ref tp, rows, rfl, tb9.same s9N, G, by omega, ⟨D0, d0⟩, fun i3 w3 HO sO fi3 hi3 hw3 => ?_⟩
    have ul : us.length ≤ 144 := by
      have h1 := hus.len
      have h2 := List.length_filter_le (inT bs) (tieRows rows)
      omega
    have w3l := hw3.len
    refine ⟨L2, i3, us, w3, rfl, rfl, sO _ _ hN, hi3, Nat.le_of_lt (small_lt (by omega)), fun p3 hp3 => ?_⟩
    have sp3 := same_new (o := .lst (us ++ w3)) hp3
    obtain ⟨ea, e1, e2, e3⟩ := rowsT_es (hus.same (sO.trans sp3))
    obtain ⟨eb, f1, f2, f3⟩ := rowsT_es (hw3.same sp3)
    have hp3' : (upd HO p3 (.lst (us ++ w3))) p3 = some (.lst ((ea ++ eb).map fun b => V.ref b.1)) := by rw [upd_same, List.map_append, ← e1, ← f1]
    have s9P := (s9N.trans sO).trans sp3
    generalize upd HO p3 (.lst (us ++ w3)) = HP at s9P hp3' e3 f3 ⊢
    refine ⟨p3, ea ++ eb, rfl, SqL.of hp3', fun b hb => ?_, fun es4 q4 pm4 so4 hq4 => ?_⟩
    · rcases List.mem_append.mp hb with hb | hb
      · have hm : b.2 ∈ (tieRows rows).filter (inT bs) := by rw [← e2]; exact List.mem_map.mpr ⟨b, hb, rfl⟩
        obtain ⟨p, t', e, _⟩ := mem_ties.mp (List.mem_filter.mp hm).1
        exact ⟨e3 b hb, by rw [e]; exact fun h => by cases h⟩
      · have hm : b.2 ∈ idleR rows := by rw [← f2]; exact List.mem_map.mpr ⟨b, hb, rfl⟩
        obtain ⟨p, t', e, _⟩ := mem_idle.mp hm
        exact ⟨f3 b hb, by rw [e]; exact fun h => by cases h⟩
    have eti : tieRows rows = es4.map fun b => b.2 := inner_all G hK (by
      have := pm4.map fun b => b.2
      rw [List.map_append, e2, f2] at this
      exact this) so4
    have sq4 := same_new (o := .lst (es4.map fun b => V.ref b.1)) hq4
    have hq4' : (upd HP q4 (.lst (es4.map fun b => V.ref b.1))) q4 = some (.lst (es4.map fun b => V.ref b.1)) := upd_same
    have he4 := rT (l := es4) fun b hb => sqT_same sq4 (by
      rcases List.mem_append.mp (pm4.mem_iff.mp hb) with hb | hb
      · exact e3 b hb
      · exact f3 b hb)
    rw [← eti] at he4
    have s9Q := s9P.trans sq4
    generalize upd HP q4 (.lst (es4.map fun b => V.ref b.1)) = HQ at s9Q hq4' he4 ⊢
    refine ⟨_, rfl, .ref tp, rows, rfl, tb9.same s9Q, by omega, fun r hr => by have := G.row_len r hr; omega, fun t5 w5 HR sR ft5 ht5 hw5 => ?_⟩
    refine ⟨_, _, .lst (SqL.of (sR _ _ hq4')) (rowsT_dp (he4.same sR)), .lst (SqL.of ht5) (rowsT_dp hw5), sh_L _, sh_L _, ?_⟩
    rw [eqv_L, decide_eq_true rfl]
    refine ⟨_, rfl, ite2 (fun n => absurd n (by decide)) (fun _ => ?_)⟩
    have s9R := s9Q.trans sR
    have TR := T5.keep (s59.trans s9R)
    have nll := (T5.keep s58).free fll
    have tbR := tb9.same s9R
    have hlwR := hlw.same s9R
    have hllR := s9R _ _ hll
    clear s9Q s9P s9N s9M s9K s9J s9G s9F s9D s9C s9B sAB sA sB
    refine ⟨_, rfl, t, l, 6, rfl, TR, by decide, by decide, fun v2 rows2 bs2 HS G2 hl2 hK2 gS TS R2' => ?_⟩
    refine ⟨rows2, G2, by omega, R2', fun tp2 d2 HT sT _ h2 => ?_⟩
    have tb2T : TableAt K C HT (.ref tp2) rows2 := ⟨tp2, d2, v2, rfl, h2, R2'.same sT⟩
    have tbT := (tbR.gr gS TR).same sT
    have hlwT := (hlwR.gr gS TR).same sT
    have hllT : HT ll = some (.lst lw) := sT _ _ (gS _ _ nll.1 hllR)
    have n6 : rows2.length ≤ 6 := by omega
    refine ⟨_, rfl, _, rfl, .ref tp, .ref tp2, rows, rows2, rfl, tbT, tb2T, G, G2, by omega, fun bp HU sU _ hbp => ?_⟩
    have GB := good_both G G2
    have hKB : Mt.BlkR (rows ++ shiftR rows.length rows2) (bs ++ Mt.shB rows.length bs2) := hK.app hK2
    have lB : (rows ++ shiftR (rows.length : Int) rows2).length ≤ 18 := by
      unfold shiftR
      rw [List.length_append, List.length_map]
      omega
    have tbU := tbT.same sU
    have tb2U := tb2T.same sU
    -- due
    refine ⟨_, rfl, _, rfl, .ref tp2, rows2, rfl, tb2U, G2, by omega, hK2.ex, fun F4 l4 w4 HV hF4 so4 sV fl4 hl4 hw4 => ?_⟩
    have eF4 : F4 = bs2.map Mt.blkG := hF4.one hK2.groups so4 (blk_so hK2)
    subst eF4
    rw [lots_blk G2 hK2] at hw4
    have w4l := hw4.len
    rw [List.length_map] at w4l
    have bsl2 : bs2.length ≤ 6 := by
      have := hF4.num
      rw [List.length_map, Mt.liveR_len] at this
      omega
    refine ⟨l4, rfl, ⟨_, SqL.of hl4⟩, fun L5 hL5 => ?_⟩
    have nat_sh : ∀ c : Nat × Nat × Nat, ((natI (Mt.blkG c)).map fun p => p + (rows.length : Int)) = natI (Mt.blkG (rows.length + c.1, c.2.1, c.2.2)) := fun c => natI_sh.symm
    refine lc_list (xs := w4) (fun j H' => ∃ us, H' L5 = some (.lst us) ∧ PrsT K H' us ((bs2.take j).map fun c => BLq (rows.length + c.1, c.2.1, c.2.2)) ∧ Same HV H') ⟨[], upd_same, .nil, same_new hL5⟩ (fun j H' _ hp => by obtain ⟨_, _, _, s⟩ := hp; exact SqL.of (s _ _ hl4)) ?_ ?_
    · rintro j y HW hy ⟨us, hW, hus, sW⟩
      obtain ⟨Rr, hRr, hat⟩ := hw4.get hy
      rw [List.getElem?_map] at hRr
      obtain ⟨c, hc, rfl⟩ := Option.map_eq_some_iff.mp hRr
      obtain ⟨q, a, b, rfl, hq, ha, hb⟩ := rows_two hat
      have jl := (List.getElem?_eq_some_iff.mp hc).1
      have ib := hK2.in_ c (List.mem_of_getElem? hc)
      have ln : (natI (Mt.blkG c)).length = c.2.1 := by unfold natI Mt.blkG; rw [List.length_map, List.length_map, List.length_range]
      refine ⟨rfl, _, rfl, q, _, _, .ref a, rfl, rfl, sqT_same sW hq, atI_nat (j := 0) rfl, a, rfl, ⟨_, sqT_same sW ha⟩, fun L6 hL6 => ?_⟩
      refine lc_tup (xs := (natI (Mt.blkG c)).map V.int) (fun m H' => H' L6 = some (.lst ((((natI (Mt.blkG c)).take m).map fun p => p + (rows.length : Int)).map V.int)) ∧ Same HW H') ⟨upd_same, same_new hL6⟩ (fun m H' _ hp => sqT_same (sW.trans hp.2) ha) ?_ ?_
      · rintro m x HX hx ⟨hX, sX⟩
        rw [List.getElem?_map] at hx
        obtain ⟨i, hi, rfl⟩ := Option.map_eq_some_iff.mp hx
        have ml := (List.getElem?_eq_some_iff.mp hi).1
        refine ⟨rfl, _, rfl, _, rfl, _, _, rfl, rfl, ?_⟩
        refine ⟨_, hX, small_lt (by rw [List.length_map, List.length_map, List.length_take]; omega), ?_, same_mut sX hL6⟩
        rw [upd_same, List.take_add_one, hi, List.map_append, List.map_append]
        rfl
      rintro HX ⟨hX, sX⟩
      rw [List.length_map, List.take_length, nat_sh] at hX
      refine ⟨L6, _, rfl, .inl ⟨SqL.of hX, fun z hz => ?_⟩⟩
      have sz := same_new (o := .tup ((natI (Mt.blkG (rows.length + c.1, c.2.1, c.2.2))).map V.int)) hz
      obtain ⟨HY, eY⟩ : ∃ HY, HY = upd HX z (.tup ((natI (Mt.blkG (rows.length + c.1, c.2.1, c.2.2))).map V.int)) := ⟨_, rfl⟩
      have hzY : SqT K HY z ((natI (Mt.blkG (rows.length + c.1, c.2.1, c.2.2))).map V.int) := SqT.of (by rw [eY]; exact upd_same)
      have sWY : Same HW HY := by rw [eY]; exact sX.trans sz
      rw [← eY]
      refine ⟨_, rfl, q, _, _, .ref b, rfl, rfl, sqT_same (sW.trans sWY) hq, atI_nat (j := 1) rfl, b, rfl, ⟨_, sqT_same (sW.trans sWY) hb⟩, fun L7 hL7 => ?_⟩
      refine lc_tup (xs := (natI (Mt.blkG c)).map V.int) (fun m H' => H' L7 = some (.lst ((((natI (Mt.blkG c)).take m).map fun p => p + (rows.length : Int)).map V.int)) ∧ Same HY H') ⟨upd_same, same_new hL7⟩ (fun m H' _ hp => sqT_same ((sW.trans sWY).trans hp.2) hb) ?_ ?_
      · rintro m x HX' hx ⟨hX', sX'⟩
        rw [List.getElem?_map] at hx
        obtain ⟨i, hi, rfl⟩ := Option.map_eq_some_iff.mp hx
        have ml := (List.getElem?_eq_some_iff.mp hi).1
        refine ⟨rfl, _, rfl, _, rfl, _, _, rfl, rfl, ?_⟩
        refine ⟨_, hX', small_lt (by rw [List.length_map, List.length_map, List.length_take]; omega), ?_, same_mut sX' hL7⟩
        rw [upd_same, List.take_add_one, hi, List.map_append, List.map_append]
        rfl
      rintro HZ ⟨hZ, sZ⟩
      rw [List.length_map, List.take_length, nat_sh] at hZ
      refine ⟨L7, _, rfl, .inl ⟨SqL.of hZ, fun z2 hz2 => ?_⟩⟩
      have sz2 := same_new (o := .tup ((natI (Mt.blkG (rows.length + c.1, c.2.1, c.2.2))).map V.int)) hz2
      obtain ⟨HA2, eA2⟩ : ∃ HA2, HA2 = upd HZ z2 (.tup ((natI (Mt.blkG (rows.length + c.1, c.2.1, c.2.2))).map V.int)) := ⟨_, rfl⟩
      have hz2A : SqT K HA2 z2 ((natI (Mt.blkG (rows.length + c.1, c.2.1, c.2.2))).map V.int) := SqT.of (by rw [eA2]; exact upd_same)
      have sYA : Same HY HA2 := by rw [eA2]; exact sZ.trans sz2
      rw [← eA2]
      refine ⟨by show 2 ≤ sizeLine; decide, fun q2 hq2 => ?_⟩
      have sq2 := same_new (o := .tup [V.ref z, .ref z2]) hq2
      obtain ⟨HB2, eB2⟩ : ∃ HB2, HB2 = upd HA2 q2 (.tup [V.ref z, .ref z2]) := ⟨_, rfl⟩
      have hq2B : SqT K HB2 q2 [.ref z, .ref z2] := SqT.of (by rw [eB2]; exact upd_same)
      have sAB2 : Same HA2 HB2 := by rw [eB2]; exact sq2
      rw [← eB2]
      have sWB := (sWY.trans sYA).trans sAB2
      have hWB := sWB _ _ hW
      have ul : us.length ≤ 6 := by
        have := hus.len
        rw [List.length_map, List.length_take] at this
        omega
      refine ⟨us, hWB, small_lt (by omega), us ++ [.ref q2], upd_same, ?_, same_mut (sW.trans sWB) hL5⟩
      rw [List.take_add_one, hc, List.map_append]
      exact PrsT.put hWB (PrsT.snoc (R := BLq (rows.length + c.1, c.2.1, c.2.2)) ⟨q2, _, rfl, hq2B, .cons (sqT_same (sYA.trans sAB2) hzY) (.cons (sqT_same sAB2 hz2A) .nil)⟩ (hus.same sWB))
    rintro HW ⟨us, hW, hus, sW⟩
    rw [w4l, List.take_length] at hus
    have ul : us.length ≤ 6 := by
      have := hus.len
      rw [List.length_map] at this
      omega
    have sTW := (sU.trans sV).trans sW
    refine ⟨ll, L5, lw, us, rfl, rfl, sTW _ _ hllT, hW, Nat.le_of_lt (small_lt (by omega)), fun dl hdl => ?_⟩
    have sdl := same_new (o := .lst (lw ++ us)) hdl
    obtain ⟨HX, eX⟩ : ∃ HX, HX = upd HW dl (.lst (lw ++ us)) := ⟨_, rfl⟩
    have hdlX : HX dl = some (.lst (lw ++ us)) := by rw [eX]; exact upd_same
    have sWX : Same HW HX := by rw [eX]; exact sdl
    show gName 13 (.ref dl) _ (upd HW dl (.lst (lw ++ us))) _
    rw [← eX]
    have sTX := sTW.trans sWX
    have dueX : PrsT K HX (lw ++ us) ((bs ++ Mt.shB rows.length bs2).map BLq) := by
      rw [List.map_append]
      refine prsT_app (hlwT.same sTX) ?_
      unfold Mt.shB
      rw [List.map_map]
      exact hus.same sWX
    have hbX := hbp.same ((sV.trans sW).trans sWX)
    refine ⟨_, rfl, .ref bp, _, rfl, hbX, GB, by omega, hKB.ex, fun F5 l7 w7 HY hF5 so5 sY _ hl7 hw7 => ?_⟩
    have eF5 : F5 = (bs ++ Mt.shB rows.length bs2).map Mt.blkG := hF5.one hKB.groups so5 (blk_so hKB)
    subst eF5
    rw [lots_blk GB hKB] at hw7
    refine ⟨_, rfl, _, _, dp_P (SqL.of hl7) hw7, dp_P (SqL.of (sY _ _ hdlX)) (dueX.same sY), sh_P _, sh_P _, ?_⟩
    rw [eqv_P]
    refine ⟨_, rfl, ite2 (fun _ => ?_) (fun n => absurd rfl n)⟩
    have tbY := (tbT.same sTX).same sY
    have tb2Y := (tb2T.same sTX).same sY
    refine ⟨_, rfl, .ref bp, _, rfl, hbX.same sY, GB, by omega, hKB.ex, fun F6 l8 HZ hF6 so6 sZ _ hl8 => ?_⟩
    have eF6 : F6 = (bs ++ Mt.shB rows.length bs2).map Mt.blkG := hF6.one hKB.groups so6 (blk_so hKB)
    subst eF6
    refine ⟨_, rfl, .ref tp, rows, rfl, tbY.same sZ, G, by omega, ⟨D0, d0⟩, fun F7 l9 HA2 hF7 so7 sA2 _ hl9 => ?_⟩
    have eF7 : F7 = bs.map Mt.blkG := hF7.one hK.groups so7 (blk_so hK)
    subst eF7
    refine ⟨_, rfl, .ref tp2, rows2, rfl, (tb2Y.same sZ).same sA2, G2, by omega, hK2.ex, fun F8 la HB2 hF8 so8 sB2 _ hla => ?_⟩
    have eF8 : F8 = bs2.map Mt.blkG := hF8.one hK2.groups so8 (blk_so hK2)
    subst eF8
    refine ⟨l9, la, _, _, rfl, rfl, sB2 _ _ hl9, hla, Nat.le_of_lt (small_lt (by rw [List.length_map, List.length_map, List.length_map, List.length_map, List.length_map, List.length_map]; omega)), fun pl hpl => ?_⟩
    have spl := same_new (o := .lst ((((bs.map Mt.blkG).map (kindS (Mt.liveR rows))).map V.str) ++ (((bs2.map Mt.blkG).map (kindS (Mt.liveR rows2))).map V.str))) hpl
    have ek : ((bs ++ Mt.shB rows.length bs2).map Mt.blkG).map (kindS (Mt.liveR (rows ++ shiftR rows.length rows2))) = (bs.map Mt.blkG).map (kindS (Mt.liveR rows)) ++ (bs2.map Mt.blkG).map (kindS (Mt.liveR rows2)) := by
      rw [List.map_map, List.map_map, List.map_map]
      have a1 : (bs ++ Mt.shB rows.length bs2).map (kindS (Mt.liveR (rows ++ shiftR rows.length rows2)) ∘ Mt.blkG) = (bs ++ Mt.shB rows.length bs2).map fun c => kloc c.2.1 c.2.2 := List.map_congr_left fun c hc => kind_blk hKB GB.asc hc
      have a2 : bs.map (kindS (Mt.liveR rows) ∘ Mt.blkG) = bs.map fun c => kloc c.2.1 c.2.2 := List.map_congr_left fun c hc => kind_blk hK G.asc hc
      have a3 : bs2.map (kindS (Mt.liveR rows2) ∘ Mt.blkG) = bs2.map fun c => kloc c.2.1 c.2.2 := List.map_congr_left fun c hc => kind_blk hK2 G2.asc hc
      rw [a1, a2, a3, List.map_append]
      unfold Mt.shB
      rw [List.map_map]
      rfl
    have isk : ∀ x ∈ ((bs ++ Mt.shB rows.length bs2).map Mt.blkG).map (kindS (Mt.liveR (rows ++ shiftR rows.length rows2))), IsKind x := fun x hx => by
      obtain ⟨g, _, rfl⟩ := List.mem_map.mp hx
      exact kind_cases _ _
    have hpl' : (upd HB2 pl (.lst ((((bs.map Mt.blkG).map (kindS (Mt.liveR rows))).map V.str) ++ (((bs2.map Mt.blkG).map (kindS (Mt.liveR rows2))).map V.str)))) pl = some (.lst ((((bs ++ Mt.shB rows.length bs2).map Mt.blkG).map (kindS (Mt.liveR (rows ++ shiftR rows.length rows2)))).map V.str)) := by rw [upd_same, ek, List.map_append]
    refine ⟨_, _, dp_K (SqL.of (((sA2.trans sB2).trans spl) _ _ hl8)), dp_K (SqL.of hpl'), sh_K isk, sh_K isk, ?_⟩
    rw [eqv_K, decide_eq_true rfl]
    exact k _
theorem compose {fa fI fE : Addr} {fd fdI fdE : FuncData} {tk tkhMB : Tok} {D_NoNumber D_NoRing : Addr} {f_NoNumber f_NoRing : Addr} {fd_NoNumber fd_NoRing : FuncData} (T : Tx mg) (tc : TC K C) (Tan : mg "any" = none) (hC : mg "Table" = some (.ref C)) (hMR : mg "MOST_ROWS" = some (.int 12 tk)) (hMB : mg "MOST_BESIDE" = some (.int 40 tkhMB)) (o_NoNumber : OexC K D_NoNumber) (g_NoNumber : mg "NoNumber" = some (.ref D_NoNumber)) (j_NoNumber : PySem.W.findIn K (.ref D_NoNumber) "__init__" = some (some (.ref f_NoNumber))) (y_NoNumber : PySem.W.typeIn K (.ref f_NoNumber) = some (.type "function")) (F_NoNumber : Fun K "__init__" "NoNumber.__init__" s_NoNumber___init f_NoNumber fd_NoNumber) (o_NoRing : OexC K D_NoRing) (g_NoRing : mg "NoRing" = some (.ref D_NoRing)) (j_NoRing : PySem.W.findIn K (.ref D_NoRing) "__init__" = some (some (.ref f_NoRing))) (y_NoRing : PySem.W.typeIn K (.ref f_NoRing) = some (.type "function")) (F_NoRing : Fun K "__init__" "NoRing.__init__" s_NoRing___init f_NoRing fd_NoRing) (mI : Mk K C fI) (FI : Fun K "__init__" "Table.__init__" s_Table___init fI fdI)
    (qe : PySem.W.findIn K (.ref C) "__eq__" = some (some (.ref fE))) (ie : PySem.W.isFn K (.ref fE) = true) (FE : Fun K "__eq__" "Table.__eq__" s_Table___eq fE fdE)
    
    (A_is_integer : At K mg "is_integer" s_is_integer ["thing"]) (A_is_number : At K mg "is_number" s_is_number ["bound", "thing"]) (A_is_numbers : At K mg "is_numbers" s_is_numbers ["bound", "thing"]) (A_is_ascending : At K mg "is_ascending" s_is_ascending ["bound", "thing"]) (A_check_rows : At K mg "_check_rows" s_check_rows ["rows"]) (A_law_tape : At K mg "_law_tape" s_law_tape ["script"]) (A_law_pick : At K mg "_law_pick" s_law_pick ["tape", "size"]) (A_law_blocks : At K mg "_law_blocks" s_law_blocks ["tape", "most"]) (A_law_order : At K mg "_law_order" s_law_order ["tape", "many"]) (A_is_renumbering : At K mg "is_renumbering" s_is_renumbering ["bound", "thing"]) (A_table_of : At K mg "table_of" s_table_of ["rows"]) (A_renumbered : At K mg "renumbered" s_renumbered ["table", "people", "things"]) (A_hand_on : At K mg "_hand_on" s_hand_on ["held", "owner", "came", "thing"]) (A_give : At K mg "_give" s_give ["rows", "held", "owner", "person"]) (A_matched : At K mg "matched" s_matched ["rows"]) (A_owners : At K mg "owners" s_owners ["held"]) (A_reaches : At K mg "reaches" s_reaches ["rows", "held"]) (A_live_rows : At K mg "live_rows" s_live_rows ["rows"]) (A_live_of : At K mg "live_of" s_live_of ["table"]) (A_groups : At K mg "groups" s_groups ["rows"]) (A_things_of : At K mg "things_of" s_things_of ["rows"]) (A_rows_of : At K mg "rows_of" s_rows_of ["rows", "people"]) (A_pieces : At K mg "pieces" s_pieces ["table"]) (A_law_carried : At K mg "_law_carried" s_law_carried ["lots", "people", "things"]) (A_ties : At K mg "ties" s_ties ["table"]) (A_idle_ties : At K mg "idle_ties" s_idle_ties ["table"]) (A_is_ring : At K mg "_is_ring" s_is_ring ["live", "people"]) (A_kind_of : At K mg "_kind_of" s_kind_of ["live", "people"]) (A_piece_kinds : At K mg "piece_kinds" s_piece_kinds ["table"]) (A_other_person : At K mg "_other_person" s_other_person ["live", "person", "thing"]) (A_other_thing : At K mg "_other_thing" s_other_thing ["live", "person", "thing"]) (A_round_from : At K mg "_round_from" s_round_from ["live", "start"]) (A_round_of : At K mg "round_of" s_round_of ["table", "number"]) (A_law_rounds_right : At K mg "_law_rounds_right" s_law_rounds_right ["table"]) (A_beside : At K mg "beside" s_beside ["one", "other"])
    (F : Fun K "law" "law" s_law fa fd) : FnOk P w K mg base CX0 10 fa fd ["script"] (spLaw K) := by
  have e_NoNumber : Er0 P w K mg base "NoNumber" D_NoNumber := ⟨o_NoNumber, g_NoNumber, f_NoNumber, fd_NoNumber, j_NoNumber, y_NoNumber, pass_NoNumber F_NoNumber, F_NoNumber.binds fun _ _ _ _ _ _ us hl => match us, hl with | [_], _ => rfl⟩
  have e_NoRing : Er0 P w K mg base "NoRing" D_NoRing := ⟨o_NoRing, g_NoRing, f_NoRing, fd_NoRing, j_NoRing, y_NoRing, pass_NoRing F_NoRing, F_NoRing.binds fun _ _ _ _ _ _ us hl => match us, hl with | [_], _ => rfl⟩
  have R_is_integer : Dfn P w K mg base _ _ 1 (spInteger K C) := ok_is_integer A_is_integer T tc
  have R_is_number : Dfn P w K mg base _ _ 2 (spNumber K C) := ok_is_number A_is_number T R_is_integer
  have R_is_numbers : Dfn P w K mg base _ _ 3 (spNumbers K C) := ok_is_numbers A_is_numbers T R_is_number
  have R_is_ascending : Dfn P w K mg base _ _ 4 (spAsc K C) := ok_is_ascending A_is_ascending T R_is_numbers
  have R_check_rows : Dfn P w K mg base _ _ 5 (spCheck K) := ok_check A_check_rows T hMR R_is_ascending
  have GT : MkT P w K mg base C 6 1 (spInit K C) (spEqT K C) := ⟨hC, tc, ⟨fI, fdI, mI, ok_init FI T tc R_check_rows, FI.binds fun _ _ _ _ _ _ us hl => match us, hl with | [_, _], _ => rfl⟩, ⟨fE, fdE, ok_eq FE T tc hC, FE.binds fun _ _ _ _ _ _ us hl => match us, hl with | [_, _], _ => rfl, qe, ie⟩⟩
  have R_law_tape : Dfn P w K mg base _ _ 1 (spTape K) := ok_tape A_law_tape T
  have R_law_pick : Dfn P w K mg base _ _ 1 (spPick) := ok_pick A_law_pick T
  have RN_law_blocks : Dfn P w K mg base _ _ 2 (spBlk21 K) := ok_blk21 A_law_blocks T R_law_pick
  have R_law_order : Dfn P w K mg base _ _ 2 (spOrder) := ok_order A_law_order T R_law_pick
  have RN_is_renumbering : Dfn P w K mg base _ _ 4 (spRenum K C) := ok_is_renumbering A_is_renumbering T R_is_numbers
  have R_table_of : Dfn P w K mg base _ _ 8 (spTableOf K C) := ok_table_of A_table_of T GT
  have R_renumbered : Dfn P w K mg base _ _ 9 (spRen K C) := ok_renumbered A_renumbered T tc RN_is_renumbering R_table_of
  have R_hand_on : Dfn P w K mg base _ _ 1 (spHand) := ok_hand A_hand_on T
  have R_give : Dfn P w K mg base _ _ 2 (spGive K) := ok_give A_give T R_hand_on
  have R_matched : Dfn P w K mg base _ _ 3 (spMatched K) := ok_matched A_matched T R_give
  have R_owners : Dfn P w K mg base _ _ 1 (spOwners K) := ok_owners A_owners T
  have R_reaches : Dfn P w K mg base _ _ 2 (spReaches K) := ok_reaches A_reaches T R_owners
  have R_live_rows : Dfn P w K mg base _ _ 4 (spLive K) := ok_live A_live_rows T R_matched R_reaches R_owners
  have R_live_of : Dfn P w K mg base _ _ 5 (spLiveOf K C) := ok_live_of A_live_of T tc R_live_rows
  have R_groups : Dfn P w K mg base _ _ 1 (spGroups K) := ok_groups A_groups T Tan
  have R_things_of : Dfn P w K mg base _ _ 1 (spThings K) := ok_things A_things_of T
  have R_rows_of : Dfn P w K mg base _ _ 1 (spRowsOf K) := ok_rows_of A_rows_of T
  have R_pieces : Dfn P w K mg base _ _ 6 (spPieces K C) := ok_pieces A_pieces T tc R_live_of R_groups R_things_of R_rows_of
  have R_law_carried : Dfn P w K mg base _ _ 1 (spCar K) := ok_car A_law_carried T
  have R_ties : Dfn P w K mg base _ _ 1 (spTies K C) := ok_ties A_ties T tc
  have R_idle_ties : Dfn P w K mg base _ _ 6 (spIdle K C) := ok_idle A_idle_ties T tc R_live_of R_ties
  have R_is_ring : Dfn P w K mg base _ _ 1 (spRingE K) := ok_ringE A_is_ring T
  have R_kind_of : Dfn P w K mg base _ _ 2 (spKindE K) := ok_kindE A_kind_of T R_is_ring
  have R_piece_kinds : Dfn P w K mg base _ _ 6 (spPkE K C) := ok_pkE A_piece_kinds T R_live_of R_groups R_kind_of
  have R_other_person : Dfn P w K mg base _ _ 1 (spOp K) := ok_op A_other_person T
  have R_other_thing : Dfn P w K mg base _ _ 1 (spOt K) := ok_ot A_other_thing T
  have R_round_from : Dfn P w K mg base _ _ 2 (spRnd K) := ok_round_fromE A_round_from T R_other_person R_other_thing
  have RX_round_of : DfnX P w K mg base _ _ 6 (spRof K C D_NoNumber D_NoRing) := ok_rof A_round_of T e_NoNumber e_NoRing R_is_number R_live_of R_groups R_kind_of R_round_from
  have R_law_rounds_right : Dfn P w K mg base _ _ 7 (spRds K C) := ok_rds A_law_rounds_right T tc R_idle_ties R_piece_kinds R_pieces RX_round_of
  have R_beside : Dfn P w K mg base _ _ 9 (spBeside K C) := ok_beside A_beside T tc hMB R_table_of
  exact ok_law F T tc Tan GT R_law_tape RN_law_blocks R_law_order R_renumbered R_pieces R_law_carried R_idle_ties R_piece_kinds R_law_rounds_right R_ties R_beside
end
end Fo
set_option maxRecDepth 100000
set_option maxHeartbeats 4000000
namespace Fo
open PySem PySem.Spec PyProof.Rows L2
theorem kit_own {K : PySem.W.Frag} {C : Addr} {T : String} {b : Bool} (hm : PySem.W.kitMeta T = true) (h : PySem.W.mroIn K C (.type T) = some b) : PySem.W.kitOne K (.ref C) (.type T) = some b := by
  have e : (Value.ref C == Value.type T) = false := by
    rw [beq_eq_false_iff_ne]
    intro q
    cases q
  show (if (Value.ref C == Value.type T) = true then some true else if PySem.W.kitMeta T = true then PySem.W.mroIn K C (.type T) else none) = some b
  rw [e, if_neg (by decide), if_pos hm, h]
theorem at_mk {K : PySem.W.Frag} {h : Heap} {mg : Str → Option Value} (X : K.In h) (G : h.Ns mainGlobals mg) {x : Str} {st : Stmt} {ps : List Str} {f : Addr} {oc : Value} {od an : Option Addr} {sl : Array (Option Value)} {kV dc pm cd ct : Value}
    (a : PySem.W.nsIn K mainGlobals x = some (some (.ref f))) (l : K.lookup f = some ⟨oc, od, .func (PySem.W.fnOf x x (defArgs st) (defBody st) (defScope st) .none kV dc pm an cd ct), sl⟩) (c : PySem.W.codeIn K cd x = true) (k : PySem.W.keepIn K (.ref f) = true)
    (b : ∀ (kV doc pm : Value) (an : Option Addr) (cdv ct : Value) (us : List Value), us.length = ps.length → bindArgs (PySem.W.fnOf x x (defArgs st) (defBody st) (defScope st) Value.none kV doc pm an cdv ct) { pos := us } = pure (ps.zip us)) : At K mg x st ps :=
  ⟨f, _, PySem.W.mg_of X G a, fun_mk (st := st) l c k, (fun_mk (st := st) l c k).binds b⟩
theorem all_mk {l : PySem.W.OpenLaw} {w : World} {K : PySem.W.Frag} {h : Heap} {mg : Str → Option Value} {fa C : Addr} {tk tkhMB : Tok} (X : K.In h) (G : h.Ns mainGlobals mg) (hfa : mg "law" = some (.ref fa))
    {f1 : Addr} {od1 an1 : Option Addr} {sl1 : Array (Option Value)} {oc1 kV1 dc1 pm1 cd1 ct1 : Value}
    {f2 : Addr} {od2 an2 : Option Addr} {sl2 : Array (Option Value)} {oc2 kV2 dc2 pm2 cd2 ct2 : Value}
    {f3 : Addr} {od3 an3 : Option Addr} {sl3 : Array (Option Value)} {oc3 kV3 dc3 pm3 cd3 ct3 : Value}
    {f4 : Addr} {od4 an4 : Option Addr} {sl4 : Array (Option Value)} {oc4 kV4 dc4 pm4 cd4 ct4 : Value}
    {f5 : Addr} {od5 an5 : Option Addr} {sl5 : Array (Option Value)} {oc5 kV5 dc5 pm5 cd5 ct5 : Value}
    {f6 : Addr} {od6 an6 : Option Addr} {sl6 : Array (Option Value)} {oc6 kV6 dc6 pm6 cd6 ct6 : Value}
    {f7 : Addr} {od7 an7 : Option Addr} {sl7 : Array (Option Value)} {oc7 kV7 dc7 pm7 cd7 ct7 : Value}
    {f8 : Addr} {od8 an8 : Option Addr} {sl8 : Array (Option Value)} {oc8 kV8 dc8 pm8 cd8 ct8 : Value}
    {f9 : Addr} {od9 an9 : Option Addr} {sl9 : Array (Option Value)} {oc9 kV9 dc9 pm9 cd9 ct9 : Value}
    {f10 : Addr} {od10 an10 : Option Addr} {sl10 : Array (Option Value)} {oc10 kV10 dc10 pm10 cd10 ct10 : Value}
    {f11 : Addr} {od11 an11 : Option Addr} {sl11 : Array (Option Value)} {oc11 kV11 dc11 pm11 cd11 ct11 : Value}
    {f12 : Addr} {od12 an12 : Option Addr} {sl12 : Array (Option Value)} {oc12 kV12 dc12 pm12 cd12 ct12 : Value}
    {f13 : Addr} {od13 an13 : Option Addr} {sl13 : Array (Option Value)} {oc13 kV13 dc13 pm13 cd13 ct13 : Value}
    {f14 : Addr} {od14 an14 : Option Addr} {sl14 : Array (Option Value)} {oc14 kV14 dc14 pm14 cd14 ct14 : Value}
    {f15 : Addr} {od15 an15 : Option Addr} {sl15 : Array (Option Value)} {oc15 kV15 dc15 pm15 cd15 ct15 : Value}
    {f16 : Addr} {od16 an16 : Option Addr} {sl16 : Array (Option Value)} {oc16 kV16 dc16 pm16 cd16 ct16 : Value}
    {f17 : Addr} {od17 an17 : Option Addr} {sl17 : Array (Option Value)} {oc17 kV17 dc17 pm17 cd17 ct17 : Value}
    {f18 : Addr} {od18 an18 : Option Addr} {sl18 : Array (Option Value)} {oc18 kV18 dc18 pm18 cd18 ct18 : Value}
    {f19 : Addr} {od19 an19 : Option Addr} {sl19 : Array (Option Value)} {oc19 kV19 dc19 pm19 cd19 ct19 : Value}
    {f20 : Addr} {od20 an20 : Option Addr} {sl20 : Array (Option Value)} {oc20 kV20 dc20 pm20 cd20 ct20 : Value}
    {f21 : Addr} {od21 an21 : Option Addr} {sl21 : Array (Option Value)} {oc21 kV21 dc21 pm21 cd21 ct21 : Value}
    {f22 : Addr} {od22 an22 : Option Addr} {sl22 : Array (Option Value)} {oc22 kV22 dc22 pm22 cd22 ct22 : Value}
    {f23 : Addr} {od23 an23 : Option Addr} {sl23 : Array (Option Value)} {oc23 kV23 dc23 pm23 cd23 ct23 : Value}
    {f24 : Addr} {od24 an24 : Option Addr} {sl24 : Array (Option Value)} {oc24 kV24 dc24 pm24 cd24 ct24 : Value}
    {f25 : Addr} {od25 an25 : Option Addr} {sl25 : Array (Option Value)} {oc25 kV25 dc25 pm25 cd25 ct25 : Value}
    {f26 : Addr} {od26 an26 : Option Addr} {sl26 : Array (Option Value)} {oc26 kV26 dc26 pm26 cd26 ct26 : Value}
    {f27 : Addr} {od27 an27 : Option Addr} {sl27 : Array (Option Value)} {oc27 kV27 dc27 pm27 cd27 ct27 : Value}
    {f28 : Addr} {od28 an28 : Option Addr} {sl28 : Array (Option Value)} {oc28 kV28 dc28 pm28 cd28 ct28 : Value}
    {f29 : Addr} {od29 an29 : Option Addr} {sl29 : Array (Option Value)} {oc29 kV29 dc29 pm29 cd29 ct29 : Value}
    {f30 : Addr} {od30 an30 : Option Addr} {sl30 : Array (Option Value)} {oc30 kV30 dc30 pm30 cd30 ct30 : Value}
    {f31 : Addr} {od31 an31 : Option Addr} {sl31 : Array (Option Value)} {oc31 kV31 dc31 pm31 cd31 ct31 : Value}
    {f32 : Addr} {od32 an32 : Option Addr} {sl32 : Array (Option Value)} {oc32 kV32 dc32 pm32 cd32 ct32 : Value}
    {f33 : Addr} {od33 an33 : Option Addr} {sl33 : Array (Option Value)} {oc33 kV33 dc33 pm33 cd33 ct33 : Value}
    {f34 : Addr} {od34 an34 : Option Addr} {sl34 : Array (Option Value)} {oc34 kV34 dc34 pm34 cd34 ct34 : Value}
    {f35 : Addr} {od35 an35 : Option Addr} {sl35 : Array (Option Value)} {oc35 kV35 dc35 pm35 cd35 ct35 : Value}
    {f36 : Addr} {od36 an36 : Option Addr} {sl36 : Array (Option Value)} {oc36 kV36 dc36 pm36 cd36 ct36 : Value}
    {f37 : Addr} {od37 an37 : Option Addr} {sl37 : Array (Option Value)} {oc37 kV37 dc37 pm37 cd37 ct37 : Value}
    {f38 : Addr} {od38 an38 : Option Addr} {sl38 : Array (Option Value)} {oc38 kV38 dc38 pm38 cd38 ct38 : Value}
    {DE : Addr}
    {B0 N0 : Addr} {nm0 q0 : Str} {bs0 : List Value} {sn0 : List Str} {sub0 : List Value} {ab0 : Bool} {col0 : Option Bool} {dd0 : Option Addr} {m00 m10 m20 m30 m50 : Option Value}
    {fX0 : Addr} {odX0 anX0 : Option Addr} {slX0 : Array (Option Value)} {ocX0 kVX0 dcX0 pmX0 cdX0 ctX0 : Value}
    {B1 N1 : Addr} {nm1 q1 : Str} {bs1 : List Value} {sn1 : List Str} {sub1 : List Value} {ab1 : Bool} {col1 : Option Bool} {dd1 : Option Addr} {m01 m11 m21 m31 m51 : Option Value}
    {fX1 : Addr} {odX1 anX1 : Option Addr} {slX1 : Array (Option Value)} {ocX1 kVX1 dcX1 pmX1 cdX1 ctX1 : Value}
    (aC : PySem.W.nsIn K mainGlobals "Table" = some (some (.ref C)))
    (aI : PySem.W.findIn K (.ref C) "__init__" = some (some (.ref f1)))
    (iI : PySem.W.isFn K (.ref f1) = true)
    (l1 : K.lookup f1 = some ⟨oc1, od1, .func (PySem.W.fnOf "__init__" "Table.__init__" (defArgs s_Table___init) (defBody s_Table___init) (defScope s_Table___init) .none kV1 dc1 pm1 an1 cd1 ct1), sl1⟩)
    (c1 : PySem.W.codeIn K cd1 "Table.__init__" = true)
    (k1 : PySem.W.keepIn K (.ref f1) = true)
    (aE : PySem.W.findIn K (.ref C) "__eq__" = some (some (.ref f2)))
    (iE : PySem.W.isFn K (.ref f2) = true)
    (l2 : K.lookup f2 = some ⟨oc2, od2, .func (PySem.W.fnOf "__eq__" "Table.__eq__" (defArgs s_Table___eq) (defBody s_Table___eq) (defScope s_Table___eq) .none kV2 dc2 pm2 an2 cd2 ct2), sl2⟩)
    (c2 : PySem.W.codeIn K cd2 "Table.__eq__" = true)
    (k2 : PySem.W.keepIn K (.ref f2) = true)
    (aL : PySem.W.nsIn K mainGlobals "law" = some (some (.ref f3)))
    (l3 : K.lookup f3 = some ⟨oc3, od3, .func (PySem.W.fnOf "law" "law" (defArgs s_law) (defBody s_law) (defScope s_law) .none kV3 dc3 pm3 an3 cd3 ct3), sl3⟩)
    (c3 : PySem.W.codeIn K cd3 "law" = true)
    (k3 : PySem.W.keepIn K (.ref f3) = true)
    (a4 : PySem.W.nsIn K mainGlobals "is_integer" = some (some (.ref f4)))
    (l4 : K.lookup f4 = some ⟨oc4, od4, .func (PySem.W.fnOf "is_integer" "is_integer" (defArgs s_is_integer) (defBody s_is_integer) (defScope s_is_integer) .none kV4 dc4 pm4 an4 cd4 ct4), sl4⟩)
    (c4 : PySem.W.codeIn K cd4 "is_integer" = true)
    (k4 : PySem.W.keepIn K (.ref f4) = true)
    (a5 : PySem.W.nsIn K mainGlobals "is_number" = some (some (.ref f5)))
    (l5 : K.lookup f5 = some ⟨oc5, od5, .func (PySem.W.fnOf "is_number" "is_number" (defArgs s_is_number) (defBody s_is_number) (defScope s_is_number) .none kV5 dc5 pm5 an5 cd5 ct5), sl5⟩)
    (c5 : PySem.W.codeIn K cd5 "is_number" = true)
    (k5 : PySem.W.keepIn K (.ref f5) = true)
    (a6 : PySem.W.nsIn K mainGlobals "is_numbers" = some (some (.ref f6)))
    (l6 : K.lookup f6 = some ⟨oc6, od6, .func (PySem.W.fnOf "is_numbers" "is_numbers" (defArgs s_is_numbers) (defBody s_is_numbers) (defScope s_is_numbers) .none kV6 dc6 pm6 an6 cd6 ct6), sl6⟩)
    (c6 : PySem.W.codeIn K cd6 "is_numbers" = true)
    (k6 : PySem.W.keepIn K (.ref f6) = true)
    (a7 : PySem.W.nsIn K mainGlobals "is_ascending" = some (some (.ref f7)))
    (l7 : K.lookup f7 = some ⟨oc7, od7, .func (PySem.W.fnOf "is_ascending" "is_ascending" (defArgs s_is_ascending) (defBody s_is_ascending) (defScope s_is_ascending) .none kV7 dc7 pm7 an7 cd7 ct7), sl7⟩)
    (c7 : PySem.W.codeIn K cd7 "is_ascending" = true)
    (k7 : PySem.W.keepIn K (.ref f7) = true)
    (a8 : PySem.W.nsIn K mainGlobals "_check_rows" = some (some (.ref f8)))
    (l8 : K.lookup f8 = some ⟨oc8, od8, .func (PySem.W.fnOf "_check_rows" "_check_rows" (defArgs s_check_rows) (defBody s_check_rows) (defScope s_check_rows) .none kV8 dc8 pm8 an8 cd8 ct8), sl8⟩)
    (c8 : PySem.W.codeIn K cd8 "_check_rows" = true)
    (k8 : PySem.W.keepIn K (.ref f8) = true)
    (a9 : PySem.W.nsIn K mainGlobals "_law_tape" = some (some (.ref f9)))
    (l9 : K.lookup f9 = some ⟨oc9, od9, .func (PySem.W.fnOf "_law_tape" "_law_tape" (defArgs s_law_tape) (defBody s_law_tape) (defScope s_law_tape) .none kV9 dc9 pm9 an9 cd9 ct9), sl9⟩)
    (c9 : PySem.W.codeIn K cd9 "_law_tape" = true)
    (k9 : PySem.W.keepIn K (.ref f9) = true)
    (a10 : PySem.W.nsIn K mainGlobals "_law_pick" = some (some (.ref f10)))
    (l10 : K.lookup f10 = some ⟨oc10, od10, .func (PySem.W.fnOf "_law_pick" "_law_pick" (defArgs s_law_pick) (defBody s_law_pick) (defScope s_law_pick) .none kV10 dc10 pm10 an10 cd10 ct10), sl10⟩)
    (c10 : PySem.W.codeIn K cd10 "_law_pick" = true)
    (k10 : PySem.W.keepIn K (.ref f10) = true)
    (a11 : PySem.W.nsIn K mainGlobals "_law_blocks" = some (some (.ref f11)))
    (l11 : K.lookup f11 = some ⟨oc11, od11, .func (PySem.W.fnOf "_law_blocks" "_law_blocks" (defArgs s_law_blocks) (defBody s_law_blocks) (defScope s_law_blocks) .none kV11 dc11 pm11 an11 cd11 ct11), sl11⟩)
    (c11 : PySem.W.codeIn K cd11 "_law_blocks" = true)
    (k11 : PySem.W.keepIn K (.ref f11) = true)
    (a12 : PySem.W.nsIn K mainGlobals "_law_order" = some (some (.ref f12)))
    (l12 : K.lookup f12 = some ⟨oc12, od12, .func (PySem.W.fnOf "_law_order" "_law_order" (defArgs s_law_order) (defBody s_law_order) (defScope s_law_order) .none kV12 dc12 pm12 an12 cd12 ct12), sl12⟩)
    (c12 : PySem.W.codeIn K cd12 "_law_order" = true)
    (k12 : PySem.W.keepIn K (.ref f12) = true)
    (a13 : PySem.W.nsIn K mainGlobals "is_renumbering" = some (some (.ref f13)))
    (l13 : K.lookup f13 = some ⟨oc13, od13, .func (PySem.W.fnOf "is_renumbering" "is_renumbering" (defArgs s_is_renumbering) (defBody s_is_renumbering) (defScope s_is_renumbering) .none kV13 dc13 pm13 an13 cd13 ct13), sl13⟩)
    (c13 : PySem.W.codeIn K cd13 "is_renumbering" = true)
    (k13 : PySem.W.keepIn K (.ref f13) = true)
    (a14 : PySem.W.nsIn K mainGlobals "table_of" = some (some (.ref f14)))
    (l14 : K.lookup f14 = some ⟨oc14, od14, .func (PySem.W.fnOf "table_of" "table_of" (defArgs s_table_of) (defBody s_table_of) (defScope s_table_of) .none kV14 dc14 pm14 an14 cd14 ct14), sl14⟩)
    (c14 : PySem.W.codeIn K cd14 "table_of" = true)
    (k14 : PySem.W.keepIn K (.ref f14) = true)
    (a15 : PySem.W.nsIn K mainGlobals "renumbered" = some (some (.ref f15)))
    (l15 : K.lookup f15 = some ⟨oc15, od15, .func (PySem.W.fnOf "renumbered" "renumbered" (defArgs s_renumbered) (defBody s_renumbered) (defScope s_renumbered) .none kV15 dc15 pm15 an15 cd15 ct15), sl15⟩)
    (c15 : PySem.W.codeIn K cd15 "renumbered" = true)
    (k15 : PySem.W.keepIn K (.ref f15) = true)
    (a16 : PySem.W.nsIn K mainGlobals "_hand_on" = some (some (.ref f16)))
    (l16 : K.lookup f16 = some ⟨oc16, od16, .func (PySem.W.fnOf "_hand_on" "_hand_on" (defArgs s_hand_on) (defBody s_hand_on) (defScope s_hand_on) .none kV16 dc16 pm16 an16 cd16 ct16), sl16⟩)
    (c16 : PySem.W.codeIn K cd16 "_hand_on" = true)
    (k16 : PySem.W.keepIn K (.ref f16) = true)
    (a17 : PySem.W.nsIn K mainGlobals "_give" = some (some (.ref f17)))
    (l17 : K.lookup f17 = some ⟨oc17, od17, .func (PySem.W.fnOf "_give" "_give" (defArgs s_give) (defBody s_give) (defScope s_give) .none kV17 dc17 pm17 an17 cd17 ct17), sl17⟩)
    (c17 : PySem.W.codeIn K cd17 "_give" = true)
    (k17 : PySem.W.keepIn K (.ref f17) = true)
    (a18 : PySem.W.nsIn K mainGlobals "matched" = some (some (.ref f18)))
    (l18 : K.lookup f18 = some ⟨oc18, od18, .func (PySem.W.fnOf "matched" "matched" (defArgs s_matched) (defBody s_matched) (defScope s_matched) .none kV18 dc18 pm18 an18 cd18 ct18), sl18⟩)
    (c18 : PySem.W.codeIn K cd18 "matched" = true)
    (k18 : PySem.W.keepIn K (.ref f18) = true)
    (a19 : PySem.W.nsIn K mainGlobals "owners" = some (some (.ref f19)))
    (l19 : K.lookup f19 = some ⟨oc19, od19, .func (PySem.W.fnOf "owners" "owners" (defArgs s_owners) (defBody s_owners) (defScope s_owners) .none kV19 dc19 pm19 an19 cd19 ct19), sl19⟩)
    (c19 : PySem.W.codeIn K cd19 "owners" = true)
    (k19 : PySem.W.keepIn K (.ref f19) = true)
    (a20 : PySem.W.nsIn K mainGlobals "reaches" = some (some (.ref f20)))
    (l20 : K.lookup f20 = some ⟨oc20, od20, .func (PySem.W.fnOf "reaches" "reaches" (defArgs s_reaches) (defBody s_reaches) (defScope s_reaches) .none kV20 dc20 pm20 an20 cd20 ct20), sl20⟩)
    (c20 : PySem.W.codeIn K cd20 "reaches" = true)
    (k20 : PySem.W.keepIn K (.ref f20) = true)
    (a21 : PySem.W.nsIn K mainGlobals "live_rows" = some (some (.ref f21)))
    (l21 : K.lookup f21 = some ⟨oc21, od21, .func (PySem.W.fnOf "live_rows" "live_rows" (defArgs s_live_rows) (defBody s_live_rows) (defScope s_live_rows) .none kV21 dc21 pm21 an21 cd21 ct21), sl21⟩)
    (c21 : PySem.W.codeIn K cd21 "live_rows" = true)
    (k21 : PySem.W.keepIn K (.ref f21) = true)
    (a22 : PySem.W.nsIn K mainGlobals "live_of" = some (some (.ref f22)))
    (l22 : K.lookup f22 = some ⟨oc22, od22, .func (PySem.W.fnOf "live_of" "live_of" (defArgs s_live_of) (defBody s_live_of) (defScope s_live_of) .none kV22 dc22 pm22 an22 cd22 ct22), sl22⟩)
    (c22 : PySem.W.codeIn K cd22 "live_of" = true)
    (k22 : PySem.W.keepIn K (.ref f22) = true)
    (a23 : PySem.W.nsIn K mainGlobals "groups" = some (some (.ref f23)))
    (l23 : K.lookup f23 = some ⟨oc23, od23, .func (PySem.W.fnOf "groups" "groups" (defArgs s_groups) (defBody s_groups) (defScope s_groups) .none kV23 dc23 pm23 an23 cd23 ct23), sl23⟩)
    (c23 : PySem.W.codeIn K cd23 "groups" = true)
    (k23 : PySem.W.keepIn K (.ref f23) = true)
    (a24 : PySem.W.nsIn K mainGlobals "things_of" = some (some (.ref f24)))
    (l24 : K.lookup f24 = some ⟨oc24, od24, .func (PySem.W.fnOf "things_of" "things_of" (defArgs s_things_of) (defBody s_things_of) (defScope s_things_of) .none kV24 dc24 pm24 an24 cd24 ct24), sl24⟩)
    (c24 : PySem.W.codeIn K cd24 "things_of" = true)
    (k24 : PySem.W.keepIn K (.ref f24) = true)
    (a25 : PySem.W.nsIn K mainGlobals "rows_of" = some (some (.ref f25)))
    (l25 : K.lookup f25 = some ⟨oc25, od25, .func (PySem.W.fnOf "rows_of" "rows_of" (defArgs s_rows_of) (defBody s_rows_of) (defScope s_rows_of) .none kV25 dc25 pm25 an25 cd25 ct25), sl25⟩)
    (c25 : PySem.W.codeIn K cd25 "rows_of" = true)
    (k25 : PySem.W.keepIn K (.ref f25) = true)
    (a26 : PySem.W.nsIn K mainGlobals "pieces" = some (some (.ref f26)))
    (l26 : K.lookup f26 = some ⟨oc26, od26, .func (PySem.W.fnOf "pieces" "pieces" (defArgs s_pieces) (defBody s_pieces) (defScope s_pieces) .none kV26 dc26 pm26 an26 cd26 ct26), sl26⟩)
    (c26 : PySem.W.codeIn K cd26 "pieces" = true)
    (k26 : PySem.W.keepIn K (.ref f26) = true)
    (a27 : PySem.W.nsIn K mainGlobals "_law_carried" = some (some (.ref f27)))
    (l27 : K.lookup f27 = some ⟨oc27, od27, .func (PySem.W.fnOf "_law_carried" "_law_carried" (defArgs s_law_carried) (defBody s_law_carried) (defScope s_law_carried) .none kV27 dc27 pm27 an27 cd27 ct27), sl27⟩)
    (c27 : PySem.W.codeIn K cd27 "_law_carried" = true)
    (k27 : PySem.W.keepIn K (.ref f27) = true)
    (a28 : PySem.W.nsIn K mainGlobals "ties" = some (some (.ref f28)))
    (l28 : K.lookup f28 = some ⟨oc28, od28, .func (PySem.W.fnOf "ties" "ties" (defArgs s_ties) (defBody s_ties) (defScope s_ties) .none kV28 dc28 pm28 an28 cd28 ct28), sl28⟩)
    (c28 : PySem.W.codeIn K cd28 "ties" = true)
    (k28 : PySem.W.keepIn K (.ref f28) = true)
    (a29 : PySem.W.nsIn K mainGlobals "idle_ties" = some (some (.ref f29)))
    (l29 : K.lookup f29 = some ⟨oc29, od29, .func (PySem.W.fnOf "idle_ties" "idle_ties" (defArgs s_idle_ties) (defBody s_idle_ties) (defScope s_idle_ties) .none kV29 dc29 pm29 an29 cd29 ct29), sl29⟩)
    (c29 : PySem.W.codeIn K cd29 "idle_ties" = true)
    (k29 : PySem.W.keepIn K (.ref f29) = true)
    (a30 : PySem.W.nsIn K mainGlobals "_is_ring" = some (some (.ref f30)))
    (l30 : K.lookup f30 = some ⟨oc30, od30, .func (PySem.W.fnOf "_is_ring" "_is_ring" (defArgs s_is_ring) (defBody s_is_ring) (defScope s_is_ring) .none kV30 dc30 pm30 an30 cd30 ct30), sl30⟩)
    (c30 : PySem.W.codeIn K cd30 "_is_ring" = true)
    (k30 : PySem.W.keepIn K (.ref f30) = true)
    (a31 : PySem.W.nsIn K mainGlobals "_kind_of" = some (some (.ref f31)))
    (l31 : K.lookup f31 = some ⟨oc31, od31, .func (PySem.W.fnOf "_kind_of" "_kind_of" (defArgs s_kind_of) (defBody s_kind_of) (defScope s_kind_of) .none kV31 dc31 pm31 an31 cd31 ct31), sl31⟩)
    (c31 : PySem.W.codeIn K cd31 "_kind_of" = true)
    (k31 : PySem.W.keepIn K (.ref f31) = true)
    (a32 : PySem.W.nsIn K mainGlobals "piece_kinds" = some (some (.ref f32)))
    (l32 : K.lookup f32 = some ⟨oc32, od32, .func (PySem.W.fnOf "piece_kinds" "piece_kinds" (defArgs s_piece_kinds) (defBody s_piece_kinds) (defScope s_piece_kinds) .none kV32 dc32 pm32 an32 cd32 ct32), sl32⟩)
    (c32 : PySem.W.codeIn K cd32 "piece_kinds" = true)
    (k32 : PySem.W.keepIn K (.ref f32) = true)
    (a33 : PySem.W.nsIn K mainGlobals "_other_person" = some (some (.ref f33)))
    (l33 : K.lookup f33 = some ⟨oc33, od33, .func (PySem.W.fnOf "_other_person" "_other_person" (defArgs s_other_person) (defBody s_other_person) (defScope s_other_person) .none kV33 dc33 pm33 an33 cd33 ct33), sl33⟩)
    (c33 : PySem.W.codeIn K cd33 "_other_person" = true)
    (k33 : PySem.W.keepIn K (.ref f33) = true)
    (a34 : PySem.W.nsIn K mainGlobals "_other_thing" = some (some (.ref f34)))
    (l34 : K.lookup f34 = some ⟨oc34, od34, .func (PySem.W.fnOf "_other_thing" "_other_thing" (defArgs s_other_thing) (defBody s_other_thing) (defScope s_other_thing) .none kV34 dc34 pm34 an34 cd34 ct34), sl34⟩)
    (c34 : PySem.W.codeIn K cd34 "_other_thing" = true)
    (k34 : PySem.W.keepIn K (.ref f34) = true)
    (a35 : PySem.W.nsIn K mainGlobals "_round_from" = some (some (.ref f35)))
    (l35 : K.lookup f35 = some ⟨oc35, od35, .func (PySem.W.fnOf "_round_from" "_round_from" (defArgs s_round_from) (defBody s_round_from) (defScope s_round_from) .none kV35 dc35 pm35 an35 cd35 ct35), sl35⟩)
    (c35 : PySem.W.codeIn K cd35 "_round_from" = true)
    (k35 : PySem.W.keepIn K (.ref f35) = true)
    (a36 : PySem.W.nsIn K mainGlobals "round_of" = some (some (.ref f36)))
    (l36 : K.lookup f36 = some ⟨oc36, od36, .func (PySem.W.fnOf "round_of" "round_of" (defArgs s_round_of) (defBody s_round_of) (defScope s_round_of) .none kV36 dc36 pm36 an36 cd36 ct36), sl36⟩)
    (c36 : PySem.W.codeIn K cd36 "round_of" = true)
    (k36 : PySem.W.keepIn K (.ref f36) = true)
    (a37 : PySem.W.nsIn K mainGlobals "_law_rounds_right" = some (some (.ref f37)))
    (l37 : K.lookup f37 = some ⟨oc37, od37, .func (PySem.W.fnOf "_law_rounds_right" "_law_rounds_right" (defArgs s_law_rounds_right) (defBody s_law_rounds_right) (defScope s_law_rounds_right) .none kV37 dc37 pm37 an37 cd37 ct37), sl37⟩)
    (c37 : PySem.W.codeIn K cd37 "_law_rounds_right" = true)
    (k37 : PySem.W.keepIn K (.ref f37) = true)
    (a38 : PySem.W.nsIn K mainGlobals "beside" = some (some (.ref f38)))
    (l38 : K.lookup f38 = some ⟨oc38, od38, .func (PySem.W.fnOf "beside" "beside" (defArgs s_beside) (defBody s_beside) (defScope s_beside) .none kV38 dc38 pm38 an38 cd38 ct38), sl38⟩)
    (c38 : PySem.W.codeIn K cd38 "beside" = true)
    (k38 : PySem.W.keepIn K (.ref f38) = true)
    (aDE : PySem.W.nsIn K mainGlobals "DrawError" = some (some (.ref DE)))
    (aVE : PySem.W.nsIn K mainGlobals "ValueError" = some none)
    (deC : PySem.W.subIn K (.ref DE) (.type "BaseException") = some true)
    (dsC : PySem.W.isClsIn K DE = true)
    (dtC : PySem.W.typeIn K (.ref DE) = some (.type "type"))
    (aB0 : PySem.W.nsIn K mainGlobals "NoNumber" = some (some (.ref B0)))
    (xL0 : K.lookup B0 = some (excClassObj nm0 q0 B0 N0 bs0 [.ref DE, .type "ValueError", .type "Exception", .type "BaseException", .type "object"] true sn0 sub0 ab0 col0 dd0 m00 m10 m20 m30 m50 "ValueError.__new__"))
    (xsa0 : PySem.W.findIn K (.ref B0) "__setattr__" = some (some (.builtin "object.__setattr__")))
    (xga0 : PySem.W.findIn K (.ref B0) "__getattribute__" = some (some (.builtin "BaseException.__getattribute__")))
    (xgg0 : PySem.W.findIn K (.ref B0) "__getattr__" = some none)
    (xca0 : PySem.W.findIn K (.ref B0) "__class__" = some (some (.builtin "object.__class__")))
    (xmo0 : PySem.W.mroIn K B0 (.type "object") = some true)
    (xmv0 : PySem.W.mroIn K B0 (.type "ValueError") = some true)
    (xis0 : PySem.W.isClsIn K B0 = true)
    (xiB0 : PySem.W.findIn K (.ref B0) "__init__" = some (some (.ref fX0)))
    (xtf0 : PySem.W.typeIn K (.ref fX0) = some (.type "function"))
    (lX0 : K.lookup fX0 = some ⟨ocX0, odX0, .func (PySem.W.fnOf "__init__" "NoNumber.__init__" (defArgs s_NoNumber___init) (defBody s_NoNumber___init) (defScope s_NoNumber___init) .none kVX0 dcX0 pmX0 anX0 cdX0 ctX0), slX0⟩)
    (cX0 : PySem.W.codeIn K cdX0 "NoNumber.__init__" = true)
    (kX0 : PySem.W.keepIn K (.ref fX0) = true)
    (xkC0 : PySem.W.keepIn K (.ref B0) = true)
    (xeC0 : PySem.W.subIn K (.ref B0) (.type "BaseException") = some true)
    (xtC0 : PySem.W.typeIn K (.ref B0) = some (.type "type"))
    (dbC0 : PySem.W.subIn K (.ref B0) (.ref DE) = some true)
    (dss0 : PySem.W.subIn K (.ref B0) (.ref B0) = some true)
    (aB1 : PySem.W.nsIn K mainGlobals "NoRing" = some (some (.ref B1)))
    (xL1 : K.lookup B1 = some (excClassObj nm1 q1 B1 N1 bs1 [.ref DE, .type "ValueError", .type "Exception", .type "BaseException", .type "object"] true sn1 sub1 ab1 col1 dd1 m01 m11 m21 m31 m51 "ValueError.__new__"))
    (xsa1 : PySem.W.findIn K (.ref B1) "__setattr__" = some (some (.builtin "object.__setattr__")))
    (xga1 : PySem.W.findIn K (.ref B1) "__getattribute__" = some (some (.builtin "BaseException.__getattribute__")))
    (xgg1 : PySem.W.findIn K (.ref B1) "__getattr__" = some none)
    (xca1 : PySem.W.findIn K (.ref B1) "__class__" = some (some (.builtin "object.__class__")))
    (xmo1 : PySem.W.mroIn K B1 (.type "object") = some true)
    (xmv1 : PySem.W.mroIn K B1 (.type "ValueError") = some true)
    (xis1 : PySem.W.isClsIn K B1 = true)
    (xiB1 : PySem.W.findIn K (.ref B1) "__init__" = some (some (.ref fX1)))
    (xtf1 : PySem.W.typeIn K (.ref fX1) = some (.type "function"))
    (lX1 : K.lookup fX1 = some ⟨ocX1, odX1, .func (PySem.W.fnOf "__init__" "NoRing.__init__" (defArgs s_NoRing___init) (defBody s_NoRing___init) (defScope s_NoRing___init) .none kVX1 dcX1 pmX1 anX1 cdX1 ctX1), slX1⟩)
    (cX1 : PySem.W.codeIn K cdX1 "NoRing.__init__" = true)
    (kX1 : PySem.W.keepIn K (.ref fX1) = true)
    (xkC1 : PySem.W.keepIn K (.ref B1) = true)
    (xeC1 : PySem.W.subIn K (.ref B1) (.type "BaseException") = some true)
    (xtC1 : PySem.W.typeIn K (.ref B1) = some (.type "type"))
    (dbC1 : PySem.W.subIn K (.ref B1) (.ref DE) = some true)
    (dss1 : PySem.W.subIn K (.ref B1) (.ref B1) = some true)
    (pg : PySem.W.plainGet K C Str.empty = true)
    (hd : PySem.W.hasDictIn K C = true)
    (po : PySem.W.plainOver K C = true)
    (sa : PySem.W.findIn K (.ref C) "__setattr__" = some (some (.builtin "object.__setattr__")))
    (mk : PySem.W.makesIn K C = true)
    (kc : PySem.W.keepIn K (.ref C) = true)
    (tha : PySem.W.findIn K (.ref C) "__class__" = some (some (.builtin "object.__class__")))
    (thn : PySem.W.specialIn K (.builtin "object.__class__") "__get__" = some (some (.builtin "getset_descriptor.__get__")))
    (thk : PySem.W.takesIn K (.builtin "object.__class__") = some true)
    (thm : PySem.W.mroIn K C (.type "object") = some true)
    (tne : PySem.W.findIn K (.ref C) "__ne__" = some (some (.builtin "object.__ne__")))
    (n_rows : PySem.W.findIn K (.ref C) "rows" = some none)
    (n_size : PySem.W.findIn K (.ref C) "size" = some none)
    (kI : PySem.W.mroIn K C (.type "int") = some false)
    (kB : PySem.W.mroIn K C (.type "bool") = some false)
    (kT : PySem.W.mroIn K C (.type "tuple") = some false)
    (kS : PySem.W.mroIn K C (.type "str") = some false)
    (kL : PySem.W.mroIn K C (.type "list") = some false)
    (mr : PySem.W.nsIn K mainGlobals "MOST_ROWS" = some (some (.int 12 tk)))
    (c_hMB : PySem.W.nsIn K mainGlobals "MOST_BESIDE" = some (some (.int 40 tkhMB)))
    (z_len : PySem.W.nsIn K mainGlobals "len" = some none)
    (z_list : PySem.W.nsIn K mainGlobals "list" = some none)
    (z_range : PySem.W.nsIn K mainGlobals "range" = some none)
    (z_tuple : PySem.W.nsIn K mainGlobals "tuple" = some none)
    (z_sorted : PySem.W.nsIn K mainGlobals "sorted" = some none)
    (z_int : PySem.W.nsIn K mainGlobals "int" = some none)
    (z_min : PySem.W.nsIn K mainGlobals "min" = some none)
    (z_isinstance : PySem.W.nsIn K mainGlobals "isinstance" = some none)
    (z_all : PySem.W.nsIn K mainGlobals "all" = some none)
    (z_enumerate : PySem.W.nsIn K mainGlobals "enumerate" = some none)
    (z_zip : PySem.W.nsIn K mainGlobals "zip" = some none)
    (z_set : PySem.W.nsIn K mainGlobals "set" = some none)
    (z_repr : PySem.W.nsIn K mainGlobals "repr" = some none)
    (z_str : PySem.W.nsIn K mainGlobals "str" = some none)
    (z_bool : PySem.W.nsIn K mainGlobals "bool" = some none)
    (z_any : PySem.W.nsIn K mainGlobals "any" = some none) :
    ∃ fd : FuncData, (∀ (s : Shared) (v : Value), BindsTo s fd ⟨[v], []⟩ [("script", v)]) ∧ ∀ base : Heap, K.In base → base.Ns mainGlobals mg → FnOk l.prog w K mg base CX0 10 fa fd ["script"] (spLaw K) := by
  have e := hfa.symm.trans (PySem.W.mg_of X G aL)
  cases e
  have T : Tx mg := ⟨PySem.W.mg_none_of X G z_len, PySem.W.mg_none_of X G z_list, PySem.W.mg_none_of X G z_range, PySem.W.mg_none_of X G z_tuple, PySem.W.mg_none_of X G z_sorted, PySem.W.mg_none_of X G z_int, PySem.W.mg_none_of X G z_min, PySem.W.mg_none_of X G z_isinstance, PySem.W.mg_none_of X G z_all, PySem.W.mg_none_of X G z_enumerate, PySem.W.mg_none_of X G z_zip, PySem.W.mg_none_of X G z_set, PySem.W.mg_none_of X G z_repr, PySem.W.mg_none_of X G z_str, PySem.W.mg_none_of X G z_bool⟩
  have tc : TC K C := ⟨⟨pg, hd, po, sa⟩, tha, thn, thk, thm, tne, n_rows, n_size, kit_own (by decide +kernel) kI, kit_own (by decide +kernel) kB, kit_own (by decide +kernel) kT, kit_own (by decide +kernel) kS, kit_own (by decide +kernel) kL⟩
  exact ⟨PySem.W.fnOf "law" "law" (defArgs s_law) (defBody s_law) (defScope s_law) .none kV3 dc3 pm3 an3 cd3 ct3, fun s v => .of_eq rfl, fun base _ _ =>
    compose T tc (PySem.W.mg_none_of X G z_any) (PySem.W.mg_of X G aC) (PySem.W.mg_of X G mr) (PySem.W.mg_of X G c_hMB) ⟨⟨nm0, q0, N0, bs0, _, sn0, sub0, ab0, col0, dd0, m00, m10, m20, m30, m50, xL0, (show PySem.HandSPX.refsVE [.type "ValueError", .type "Exception", .type "BaseException", .type "object"] = true by decide +kernel)⟩, xsa0, xeC0, xtC0, xkC0⟩ (PySem.W.mg_of X G aB0) xiB0 xtf0 (fun_mk (st := s_NoNumber___init) lX0 cX0 kX0) ⟨⟨nm1, q1, N1, bs1, _, sn1, sub1, ab1, col1, dd1, m01, m11, m21, m31, m51, xL1, (show PySem.HandSPX.refsVE [.type "ValueError", .type "Exception", .type "BaseException", .type "object"] = true by decide +kernel)⟩, xsa1, xeC1, xtC1, xkC1⟩ (PySem.W.mg_of X G aB1) xiB1 xtf1 (fun_mk (st := s_NoRing___init) lX1 cX1 kX1) ⟨mk, aI, iI, kc⟩ (fun_mk (st := s_Table___init) l1 c1 k1) aE iE (fun_mk (st := s_Table___eq) l2 c2 k2)
      (at_mk (ps := ["thing"]) X G a4 l4 c4 k4 fun _ _ _ _ _ _ us hl => match us, hl with | [_], _ => rfl)
      (at_mk (ps := ["bound", "thing"]) X G a5 l5 c5 k5 fun _ _ _ _ _ _ us hl => match us, hl with | [_, _], _ => rfl)
      (at_mk (ps := ["bound", "thing"]) X G a6 l6 c6 k6 fun _ _ _ _ _ _ us hl => match us, hl with | [_, _], _ => rfl)
      (at_mk (ps := ["bound", "thing"]) X G a7 l7 c7 k7 fun _ _ _ _ _ _ us hl => match us, hl with | [_, _], _ => rfl)
      (at_mk (ps := ["rows"]) X G a8 l8 c8 k8 fun _ _ _ _ _ _ us hl => match us, hl with | [_], _ => rfl)
      (at_mk (ps := ["script"]) X G a9 l9 c9 k9 fun _ _ _ _ _ _ us hl => match us, hl with | [_], _ => rfl)
      (at_mk (ps := ["tape", "size"]) X G a10 l10 c10 k10 fun _ _ _ _ _ _ us hl => match us, hl with | [_, _], _ => rfl)
      (at_mk (ps := ["tape", "most"]) X G a11 l11 c11 k11 fun _ _ _ _ _ _ us hl => match us, hl with | [_, _], _ => rfl)
      (at_mk (ps := ["tape", "many"]) X G a12 l12 c12 k12 fun _ _ _ _ _ _ us hl => match us, hl with | [_, _], _ => rfl)
      (at_mk (ps := ["bound", "thing"]) X G a13 l13 c13 k13 fun _ _ _ _ _ _ us hl => match us, hl with | [_, _], _ => rfl)
      (at_mk (ps := ["rows"]) X G a14 l14 c14 k14 fun _ _ _ _ _ _ us hl => match us, hl with | [_], _ => rfl)
      (at_mk (ps := ["table", "people", "things"]) X G a15 l15 c15 k15 fun _ _ _ _ _ _ us hl => match us, hl with | [_, _, _], _ => rfl)
      (at_mk (ps := ["held", "owner", "came", "thing"]) X G a16 l16 c16 k16 fun _ _ _ _ _ _ us hl => match us, hl with | [_, _, _, _], _ => rfl)
      (at_mk (ps := ["rows", "held", "owner", "person"]) X G a17 l17 c17 k17 fun _ _ _ _ _ _ us hl => match us, hl with | [_, _, _, _], _ => rfl)
      (at_mk (ps := ["rows"]) X G a18 l18 c18 k18 fun _ _ _ _ _ _ us hl => match us, hl with | [_], _ => rfl)
      (at_mk (ps := ["held"]) X G a19 l19 c19 k19 fun _ _ _ _ _ _ us hl => match us, hl with | [_], _ => rfl)
      (at_mk (ps := ["rows", "held"]) X G a20 l20 c20 k20 fun _ _ _ _ _ _ us hl => match us, hl with | [_, _], _ => rfl)
      (at_mk (ps := ["rows"]) X G a21 l21 c21 k21 fun _ _ _ _ _ _ us hl => match us, hl with | [_], _ => rfl)
      (at_mk (ps := ["table"]) X G a22 l22 c22 k22 fun _ _ _ _ _ _ us hl => match us, hl with | [_], _ => rfl)
      (at_mk (ps := ["rows"]) X G a23 l23 c23 k23 fun _ _ _ _ _ _ us hl => match us, hl with | [_], _ => rfl)
      (at_mk (ps := ["rows"]) X G a24 l24 c24 k24 fun _ _ _ _ _ _ us hl => match us, hl with | [_], _ => rfl)
      (at_mk (ps := ["rows", "people"]) X G a25 l25 c25 k25 fun _ _ _ _ _ _ us hl => match us, hl with | [_, _], _ => rfl)
      (at_mk (ps := ["table"]) X G a26 l26 c26 k26 fun _ _ _ _ _ _ us hl => match us, hl with | [_], _ => rfl)
      (at_mk (ps := ["lots", "people", "things"]) X G a27 l27 c27 k27 fun _ _ _ _ _ _ us hl => match us, hl with | [_, _, _], _ => rfl)
      (at_mk (ps := ["table"]) X G a28 l28 c28 k28 fun _ _ _ _ _ _ us hl => match us, hl with | [_], _ => rfl)
      (at_mk (ps := ["table"]) X G a29 l29 c29 k29 fun _ _ _ _ _ _ us hl => match us, hl with | [_], _ => rfl)
      (at_mk (ps := ["live", "people"]) X G a30 l30 c30 k30 fun _ _ _ _ _ _ us hl => match us, hl with | [_, _], _ => rfl)
      (at_mk (ps := ["live", "people"]) X G a31 l31 c31 k31 fun _ _ _ _ _ _ us hl => match us, hl with | [_, _], _ => rfl)
      (at_mk (ps := ["table"]) X G a32 l32 c32 k32 fun _ _ _ _ _ _ us hl => match us, hl with | [_], _ => rfl)
      (at_mk (ps := ["live", "person", "thing"]) X G a33 l33 c33 k33 fun _ _ _ _ _ _ us hl => match us, hl with | [_, _, _], _ => rfl)
      (at_mk (ps := ["live", "person", "thing"]) X G a34 l34 c34 k34 fun _ _ _ _ _ _ us hl => match us, hl with | [_, _, _], _ => rfl)
      (at_mk (ps := ["live", "start"]) X G a35 l35 c35 k35 fun _ _ _ _ _ _ us hl => match us, hl with | [_, _], _ => rfl)
      (at_mk (ps := ["table", "number"]) X G a36 l36 c36 k36 fun _ _ _ _ _ _ us hl => match us, hl with | [_, _], _ => rfl)
      (at_mk (ps := ["table"]) X G a37 l37 c37 k37 fun _ _ _ _ _ _ us hl => match us, hl with | [_], _ => rfl)
      (at_mk (ps := ["one", "other"]) X G a38 l38 c38 k38 fun _ _ _ _ _ _ us hl => match us, hl with | [_, _], _ => rfl)
      (fun_mk (st := s_law) l3 c3 k3)⟩
theorem walk {l : PySem.W.OpenLaw} {q : Program} {loose : List Str} {XP : (Str → Option Value) → Heap → Prop} {YP : World → Heap → Prop} {d : DefRec} {K : Params → PySem.W.Frag} (hn : l.most = some 63) (hdf : d.params.defaults = [])
    (hY : ∀ (w : World) (h : Heap), YP w h → (K w.params).In h)
    (F : ∀ (w : World) (mg : Str → Option Value) (fa : Addr) (h : Heap), (K w.params).In h → h.Ns mainGlobals mg → mg d.name = some (.ref fa) →
      ∃ fd : FuncData, (∀ (s : Shared) (u : Value), BindsTo s fd ⟨[u], []⟩ [("script", u)]) ∧ ∀ base : Heap, (K w.params).In base → base.Ns mainGlobals mg → FnOk l.prog w (K w.params) mg base CX0 10 fa fd ["script"] (spLaw (K w.params))) :
    PySem.W.WalkO q loose XP YP l.row.toRowW d [] (fun f vs => PySem.call f vs) :=
  L2.walk_of (n := 63) (k := 10) (x := "script") (CX := fun _ => CX0) (sp := fun w => spLaw (K w.params)) hn (by decide) hdf ⟨rfl, by decide, by decide⟩ hY F (fun _ _ a ns hl _ hS => ⟨a, ns, rfl, hS, hl, fun _ => rfl⟩) fun _ _ _ _ _ z => z
end Fo
open PySem PySem.W PyProof.Rows in
set_option maxRecDepth 100000 in
set_option maxHeartbeats 0 in
theorem PySem.Challenge.cw_fullorring_k21_whole_pieces_beside_and_r_holds : PySem.Challenge.rw_fullorring_k21_whole_pieces_beside_and_r.Holds := by
  w_on; o_law; k_head; (case hw => w_witness2)
  k_fill
  refine Fo.walk (l := PySem.Challenge.rw_fullorring_k21_whole_pieces_beside_and_r) rfl rfl (fun w h Y => PySem.W.kIn_of Y) ?F
  case F =>
    intro w mg fa h KX G hmg
    refine' Fo.all_mk KX G hmg ?aC ?aI ?iI ?l1 ?c1 ?k1 ?aE ?iE ?l2 ?c2 ?k2 ?aL ?l3 ?c3 ?k3 ?a4 ?l4 ?c4 ?k4 ?a5 ?l5 ?c5 ?k5 ?a6 ?l6 ?c6 ?k6 ?a7 ?l7 ?c7 ?k7 ?a8 ?l8 ?c8 ?k8 ?a9 ?l9 ?c9 ?k9 ?a10 ?l10 ?c10 ?k10 ?a11 ?l11 ?c11 ?k11 ?a12 ?l12 ?c12 ?k12 ?a13 ?l13 ?c13 ?k13 ?a14 ?l14 ?c14 ?k14 ?a15 ?l15 ?c15 ?k15 ?a16 ?l16 ?c16 ?k16 ?a17 ?l17 ?c17 ?k17 ?a18 ?l18 ?c18 ?k18 ?a19 ?l19 ?c19 ?k19 ?a20 ?l20 ?c20 ?k20 ?a21 ?l21 ?c21 ?k21 ?a22 ?l22 ?c22 ?k22 ?a23 ?l23 ?c23 ?k23 ?a24 ?l24 ?c24 ?k24 ?a25 ?l25 ?c25 ?k25 ?a26 ?l26 ?c26 ?k26 ?a27 ?l27 ?c27 ?k27 ?a28 ?l28 ?c28 ?k28 ?a29 ?l29 ?c29 ?k29 ?a30 ?l30 ?c30 ?k30 ?a31 ?l31 ?c31 ?k31 ?a32 ?l32 ?c32 ?k32 ?a33 ?l33 ?c33 ?k33 ?a34 ?l34 ?c34 ?k34 ?a35 ?l35 ?c35 ?k35 ?a36 ?l36 ?c36 ?k36 ?a37 ?l37 ?c37 ?k37 ?a38 ?l38 ?c38 ?k38 ?aDE ?aVE ?deC ?dsC ?dtC ?aB0 ?xL0 ?xsa0 ?xga0 ?xgg0 ?xca0 ?xmo0 ?xmv0 ?xis0 ?xiB0 ?xtf0 ?lX0 ?cX0 ?kX0 ?xkC0 ?xeC0 ?xtC0 ?dbC0 ?dss0 ?aB1 ?xL1 ?xsa1 ?xga1 ?xgg1 ?xca1 ?xmo1 ?xmv1 ?xis1 ?xiB1 ?xtf1 ?lX1 ?cX1 ?kX1 ?xkC1 ?xeC1 ?xtC1 ?dbC1 ?dss1 ?pg ?hd ?po ?sa ?mk ?kc ?tha ?thn ?thk ?thm ?tne ?n_rows ?n_size ?kI ?kB ?kT ?kS ?kL ?mr ?c_hMB ?z_len ?z_list ?z_range ?z_tuple ?z_sorted ?z_int ?z_min ?z_isinstance ?z_all ?z_enumerate ?z_zip ?z_set ?z_repr ?z_str ?z_bool ?z_any
    (case aC => k_is)
    (case aI => k_is)
    (case iI => k_is)
    (case l1 => k_is)
    (case c1 => k_is)
    (case k1 => k_is)
    (case aE => k_is)
    (case iE => k_is)
    (case l2 => k_is)
    (case c2 => k_is)
    (case k2 => k_is)
    (case aL => k_is)
    (case l3 => k_is)
    (case c3 => k_is)
    (case k3 => k_is)
    (case a4 => k_is)
    (case l4 => k_is)
    (case c4 => k_is)
    (case k4 => k_is)
    (case a5 => k_is)
    (case l5 => k_is)
    (case c5 => k_is)
    (case k5 => k_is)
    (case a6 => k_is)
    (case l6 => k_is)
    (case c6 => k_is)
    (case k6 => k_is)
    (case a7 => k_is)
    (case l7 => k_is)
    (case c7 => k_is)
    (case k7 => k_is)
    (case a8 => k_is)
    (case l8 => k_is)
    (case c8 => k_is)
    (case k8 => k_is)
    (case a9 => k_is)
    (case l9 => k_is)
    (case c9 => k_is)
    (case k9 => k_is)
    (case a10 => k_is)
    (case l10 => k_is)
    (case c10 => k_is)
    (case k10 => k_is)
    (case a11 => k_is)
    (case l11 => k_is)
    (case c11 => k_is)
    (case k11 => k_is)
    (case a12 => k_is)
    (case l12 => k_is)
    (case c12 => k_is)
    (case k12 => k_is)
    (case a13 => k_is)
    (case l13 => k_is)
    (case c13 => k_is)
    (case k13 => k_is)
    (case a14 => k_is)
    (case l14 => k_is)
    (case c14 => k_is)
    (case k14 => k_is)
    (case a15 => k_is)
    (case l15 => k_is)
    (case c15 => k_is)
    (case k15 => k_is)
    (case a16 => k_is)
    (case l16 => k_is)
    (case c16 => k_is)
    (case k16 => k_is)
    (case a17 => k_is)
    (case l17 => k_is)
    (case c17 => k_is)
    (case k17 => k_is)
    (case a18 => k_is)
    (case l18 => k_is)
    (case c18 => k_is)
    (case k18 => k_is)
    (case a19 => k_is)
    (case l19 => k_is)
    (case c19 => k_is)
    (case k19 => k_is)
    (case a20 => k_is)
    (case l20 => k_is)
    (case c20 => k_is)
    (case k20 => k_is)
    (case a21 => k_is)
    (case l21 => k_is)
    (case c21 => k_is)
    (case k21 => k_is)
    (case a22 => k_is)
    (case l22 => k_is)
    (case c22 => k_is)
    (case k22 => k_is)
    (case a23 => k_is)
    (case l23 => k_is)
    (case c23 => k_is)
    (case k23 => k_is)
    (case a24 => k_is)
    (case l24 => k_is)
    (case c24 => k_is)
    (case k24 => k_is)
    (case a25 => k_is)
    (case l25 => k_is)
    (case c25 => k_is)
    (case k25 => k_is)
    (case a26 => k_is)
    (case l26 => k_is)
    (case c26 => k_is)
    (case k26 => k_is)
    (case a27 => k_is)
    (case l27 => k_is)
    (case c27 => k_is)
    (case k27 => k_is)
    (case a28 => k_is)
    (case l28 => k_is)
    (case c28 => k_is)
    (case k28 => k_is)
    (case a29 => k_is)
    (case l29 => k_is)
    (case c29 => k_is)
    (case k29 => k_is)
    (case a30 => k_is)
    (case l30 => k_is)
    (case c30 => k_is)
    (case k30 => k_is)
    (case a31 => k_is)
    (case l31 => k_is)
    (case c31 => k_is)
    (case k31 => k_is)
    (case a32 => k_is)
    (case l32 => k_is)
    (case c32 => k_is)
    (case k32 => k_is)
    (case a33 => k_is)
    (case l33 => k_is)
    (case c33 => k_is)
    (case k33 => k_is)
    (case a34 => k_is)
    (case l34 => k_is)
    (case c34 => k_is)
    (case k34 => k_is)
    (case a35 => k_is)
    (case l35 => k_is)
    (case c35 => k_is)
    (case k35 => k_is)
    (case a36 => k_is)
    (case l36 => k_is)
    (case c36 => k_is)
    (case k36 => k_is)
    (case a37 => k_is)
    (case l37 => k_is)
    (case c37 => k_is)
    (case k37 => k_is)
    (case a38 => k_is)
    (case l38 => k_is)
    (case c38 => k_is)
    (case k38 => k_is)
    (case aDE => k_is)
    (case aVE => k_is)
    (case deC => k_is)
    (case dsC => k_is)
    (case dtC => k_is)
    (case aB0 => k_is)
    (case xL0 => k_is)
    (case xsa0 => k_is)
    (case xga0 => k_is)
    (case xgg0 => k_is)
    (case xca0 => k_is)
    (case xmo0 => k_is)
    (case xmv0 => k_is)
    (case xis0 => k_is)
    (case xiB0 => k_is)
    (case xtf0 => k_is)
    (case lX0 => k_is)
    (case cX0 => k_is)
    (case kX0 => k_is)
    (case xkC0 => k_is)
    (case xeC0 => k_is)
    (case xtC0 => k_is)
    (case dbC0 => k_is)
    (case dss0 => k_is)
    (case aB1 => k_is)
    (case xL1 => k_is)
    (case xsa1 => k_is)
    (case xga1 => k_is)
    (case xgg1 => k_is)
    (case xca1 => k_is)
    (case xmo1 => k_is)
    (case xmv1 => k_is)
    (case xis1 => k_is)
    (case xiB1 => k_is)
    (case xtf1 => k_is)
    (case lX1 => k_is)
    (case cX1 => k_is)
    (case kX1 => k_is)
    (case xkC1 => k_is)
    (case xeC1 => k_is)
    (case xtC1 => k_is)
    (case dbC1 => k_is)
    (case dss1 => k_is)
    (case pg => k_is)
    (case hd => k_is)
    (case po => k_is)
    (case sa => k_is)
    (case mk => k_is)
    (case kc => k_is)
    (case tha => k_is)
    (case thn => k_is)
    (case thk => k_is)
    (case thm => k_is)
    (case tne => k_is)
    (case n_rows => k_is)
    (case n_size => k_is)
    (case kI => k_is)
    (case kB => k_is)
    (case kT => k_is)
    (case kS => k_is)
    (case kL => k_is)
    (case mr => k_is)
    (case c_hMB => k_is)
    (case z_len => k_is)
    (case z_list => k_is)
    (case z_range => k_is)
    (case z_tuple => k_is)
    (case z_sorted => k_is)
    (case z_int => k_is)
    (case z_min => k_is)
    (case z_isinstance => k_is)
    (case z_all => k_is)
    (case z_enumerate => k_is)
    (case z_zip => k_is)
    (case z_set => k_is)
    (case z_repr => k_is)
    (case z_str => k_is)
    (case z_bool => k_is)
    (case z_any => k_is)
