import PyProof.Rows.All
import Wide.All
import OpenK.AllK
import Wide.FinOn
import HandS.ForMost
import HandS.OwnEq
import HandS.SortInts
import HandS.TupAny
import HandS.IsInst
import HandS.Flow
import HandS.Zip
import HandS.TupSets
import KE.GoesEnum
import PyProof.InstNe
import HandS.Conv
import HandS.Star
import HandS.WideBits
import HandS.NoneIn
import HandS.DictComp
import HandS.Steps
import HandS.Sort
import PyProof.DictUpdate
import KE.SortData
import KE.KDictCopyH
import HandS.Walk
import HandS.DictTup
import HandS.Deep
import KE.DataFind
import KE.KDictKeyed
import KE.KeyNested
import HandS.Text
import HandS.Call
import KE.GoesEnumKw
import HandS.Nested
import KE.DataMinKey
import PyProof.DictDisplay
import KE.KNest
import KE.KNestM
import HandS.EndTab
import HandS.RaiseMore
import HandS.Evl
import HandS.ExcInit
import HandS.ExcIs
import HandS.ExcField
import HandS.ForExc
import KE.KExcIs
import HandS.Words
import HandS.SetFor
import HandS.Strs
import PyProof.Rows.SortShellAny
import KE.KTupSum
import KE.KRevSl
import HandS.TryOnly
import HandS.TryMany
import HandS.ExcOwn
import PyProof.ReprRoads
import PyProof.ReprLen
import HandS.TupMul
import HandS.EndBits
import PySem.Challenge.RW_fullorring_k78_kinds_judged
set_option Elab.async false
set_option maxRecDepth 100000
set_option maxHeartbeats 2000000
namespace PySem
open Sem (wp)
end PySem
namespace L2
open PySem PySem.Spec PyProof.Rows
end L2
set_option maxRecDepth 100000
set_option maxHeartbeats 2000000
namespace Fo
open PySem PySem.Spec PyProof.Rows L2
structure At (K : PySem.W.Frag) (mg : Str → Option Value) (x : Str) (st : Stmt) (ps : List Str) : Prop where
  ex : ∃ f fd, mg x = some (.ref f) ∧ Fun K x x st f fd ∧ Binds K fd ps []
structure Dfn (P : Program) (w : World) (K : PySem.W.Frag) (mg : Str → Option Value) (base : Heap) (x : Str) (ps : List Str) (k : Nat) (sp : Sp) : Prop where
  ex : ∃ f fd, mg x = some (.ref f) ∧ PySem.W.keepIn K (.ref f) = true ∧ FnOk P w K mg base CX0 k f fd ps sp ∧ Binds K fd ps []
structure Tx (mg : Str → Option Value) : Prop where
  len : mg "len" = none
  list : mg "list" = none
  range : mg "range" = none
  tuple : mg "tuple" = none
  sorted : mg "sorted" = none
  int : mg "int" = none
  min : mg "min" = none
  isinstance : mg "isinstance" = none
  all : mg "all" = none
  enumerate : mg "enumerate" = none
  zip : mg "zip" = none
  set : mg "set" = none
  repr : mg "repr" = none
  str : mg "str" = none
  bool : mg "bool" = none
section
variable {P : Program} {w : World} {K : PySem.W.Frag} {mg : Str → Option Value} {base : Heap}
theorem At.ok {x : Str} {st : Stmt} {N ps : List Str} {k : Nat} {sp : Sp} (a : At K mg x st ps) (S : FnScope N ps (defScope st)) (len : ∀ vs H Q E, sp vs H Q E → vs.length = ps.length)
    (hbody : ∀ (f : Addr) (cdv : Value) (A : Around) (outer : List Env) (s : Shared) (H : Hp) (vs : List V) (Q : VK) (E : XK), Room k (A.deeper (envOfC x (defScope st) s.heap.objs.size f cdv)) → sp vs H Q E →
      ∃ t, PSs (cxOf CX0 P w K mg base N x (defScope st) f cdv A outer s H E).nox (defBody st) t ∧ t { nx := fun _ H' => Q .non H', rt := Q } (start N vs) H) : Dfn P w K mg base x ps (k + 1) sp := by
  obtain ⟨f, fd, hm, F, b⟩ := a.ex
  exact ⟨f, fd, hm, F.kp, F.ok S len (hbody f), b⟩
theorem pe_d {X : Cx} {x : Str} {ps : List Str} {k : Nat} {sp : Sp} {e : Expr} {es : List Expr} {t : TA} {p pos : Pos} (G : Dfn X.prog X.w X.K X.mg X.base x ps k sp) (hr : Room k X.A) (ha : PA X (e :: es) t) (hg : Gl X x := by rfl)
    (hdb : (x == ("__debug__" : Str)) = false := by decide) (he : starEach (e :: es) X.env = (false, eval e X.env) :: starEach es X.env := by rfl) (hpl : (backTo pos (starEach es X.env)).any (·.1) = false := by rfl) :
    PE X (.Call (.Name x p) (e :: es) [] pos) (tCall sp [] E0 t) := by
  obtain ⟨f, fd, hm, kp, F, b⟩ := G.ex
  exact pe_call F hr hg hm kp b .nil pass0 ha hdb he hpl
end
/-- all but what stands at t is kept -/
def Gr (t : Addr) (H H' : Hp) : Prop := ∀ a o, a ≠ t → H a = some o → H' a = some o
theorem Gr.refl {t : Addr} (H : Hp) : Gr t H H := fun _ _ _ h => h
theorem Gr.trans {t : Addr} {H H1 H2 : Hp} (a : Gr t H H1) (b : Gr t H1 H2) : Gr t H H2 := fun c o n h => b c o n (a c o n h)
theorem Gr.new {t : Addr} {H : Hp} {p : Addr} {o : HO} (h : H p = none) : Gr t H (upd H p o) := fun a u _ e => by
  rw [upd_ne (ne_of_none e h)]
  exact e
theorem Gr.put {t : Addr} {H : Hp} {o : HO} : Gr t H (upd H t o) := fun a u n e => by
  rw [upd_ne n]
  exact e
theorem Gr.of {t : Addr} {H H' : Hp} (e : Same H H') : Gr t H H' := fun a o _ h => e a o h
theorem Gr.free {t : Addr} {H H' : Hp} (g : Gr t H H') (ht : H' t ≠ none) {p : Addr} (h : H' p = none) : H p = none := by
  cases q : H p with
  | none => rfl
  | some o =>
    have hne : p ≠ t := fun z => ht (z ▸ h)
    rw [g p o hne q] at h
    cases h
theorem same_new {H : Hp} {p : Addr} {o : HO} (h : H p = none) : Same H (upd H p o) := fun a u e => by
  rw [upd_ne (ne_of_none e h)]
  exact e
/-- an object that H does not know may change -/
theorem same_mut {H H' : Hp} {p : Addr} {o : HO} (e : Same H H') (h : H p = none) : Same H (upd H' p o) := fun a u ha => by
  rw [upd_ne (ne_of_none ha h)]
  exact e a u ha
theorem sqT_same {K : PySem.W.Frag} {H H' : Hp} {a : Addr} {xs : List V} (e : Same H H') (h : SqT K H a xs) : SqT K H' a xs := by
  rcases h with (h | ⟨o, h⟩) | h
  · exact .inl (.inl (e _ _ h))
  · exact .inl (.inr ⟨o, e _ _ h⟩)
  · exact .inr h
def Tape (H : Hp) (t l : Addr) : Prop := ∃ (ns : List Int) (b c d e : Int), H t = some (.lst [.ref l, .int b, .int c, .int d, .int e]) ∧ H l = some (.lst (ns.map V.int)) ∧ 0 ≤ b
theorem ints_ne (ns : List Int) (l : Addr) (r : List V) : (HO.lst (ns.map V.int)) ≠ .lst (.ref l :: r) := by
  intro q
  cases ns with
  | nil => injection q with q; cases q
  | cons x r => injection q with q; injection q with q; cases q
theorem Tape.ne {H : Hp} {t l : Addr} (T : Tape H t l) : l ≠ t := by
  obtain ⟨ns, b, c, d, e, ht, hl, hb⟩ := T
  exact ne_of hl ht (ints_ne _ _ _)
theorem Tape.there {H : Hp} {t l : Addr} (T : Tape H t l) : H t ≠ none := by
  obtain ⟨ns, b, c, d, e, h, _⟩ := T
  rw [h]
  exact fun z => nomatch z
theorem Tape.keep {H H' : Hp} {t l : Addr} (T : Tape H t l) (g : Same H H') : Tape H' t l := by
  obtain ⟨ns, b, c, d, e, h, hl, hb⟩ := T
  exact ⟨ns, b, c, d, e, g _ _ h, g _ _ hl, hb⟩
/-- what is new is neither of the tape's two -/
theorem Tape.free {H : Hp} {t l a : Addr} (T : Tape H t l) (h : H a = none) : a ≠ t ∧ a ≠ l := by
  obtain ⟨ns, b, c, d, e, ht, hl, hb⟩ := T
  exact ⟨(ne_of_none ht h).symm, (ne_of_none hl h).symm⟩
theorem Tape.new {H : Hp} {t l a : Addr} {o : HO} (T : Tape H t l) (h : H a = none) : Tape (upd H a o) t l := T.keep (same_new h)
/-- other objects than the tape's own may change -/
theorem Tape.mut {H : Hp} {t l a : Addr} {u : HO} (T : Tape H t l) (n : a ≠ t ∧ a ≠ l) : Tape (upd H a u) t l := by
  obtain ⟨ns, b, c, d, e, ht, hl, hb⟩ := T
  exact ⟨ns, b, c, d, e, by rw [upd_ne n.1.symm]; exact ht, by rw [upd_ne n.2.symm]; exact hl, hb⟩
theorem Gr.fresh {t l : Addr} {H H' : Hp} (g : Gr t H H') (T : Tape H' t l) {p : Addr} (h : H' p = none) : H p = none := g.free T.there h
abbrev dI (ns : List Int) : PyData := .tuple (ns.map .int)
abbrev dR (rows : List (List Int)) : PyData := .tuple (rows.map dI)
mutual
theorem dp_same {K : PySem.W.Frag} {H H' : Hp} (e : Same H H') : ∀ {v : V} {d : PyData}, Dp K H v d → Dp K H' v d
  | _, _, .non => .non
  | _, _, .bl b => .bl b
  | _, _, .int i => .int i
  | _, _, .str x => .str x
  | _, _, .lst h r => .lst (e.seq h) (dpAll_same e r)
  | _, _, .tup h r => .tup (sqT_same e h) (dpAll_same e r)
theorem dpAll_same {K : PySem.W.Frag} {H H' : Hp} (e : Same H H') : ∀ {vs : List V} {ds : List PyData}, DpAll K H vs ds → DpAll K H' vs ds
  | _, _, .nil => .nil
  | _, _, .cons h r => .cons (dp_same e h) (dpAll_same e r)
end
theorem dpAll_ints {K : PySem.W.Frag} {H : Hp} : ∀ (ns : List Int), DpAll K H (ns.map V.int) (ns.map .int)
  | [] => .nil
  | n :: r => .cons (.int n) (dpAll_ints r)
theorem ints_dpAll {K : PySem.W.Frag} {H : Hp} : ∀ {ns : List Int} {vs : List V}, DpAll K H vs (ns.map .int) → vs = ns.map V.int
  | [], _, .nil => rfl
  | n :: r, _, .cons (.int _) h => by rw [ints_dpAll h]; rfl
theorem dp_tup {K : PySem.W.Frag} {H : Hp} {v : V} {ds : List PyData} (h : Dp K H v (.tuple ds)) : ∃ a xs, v = .ref a ∧ SqT K H a xs ∧ DpAll K H xs ds := by
  cases h with
  | tup h r => exact ⟨_, _, rfl, h, r⟩
theorem dp_row {K : PySem.W.Frag} {H : Hp} {v : V} {ns : List Int} (h : Dp K H v (dI ns)) : ∃ a, v = .ref a ∧ SqT K H a (ns.map V.int) := by
  obtain ⟨a, xs, e, h, r⟩ := dp_tup h
  rw [ints_dpAll r] at h
  exact ⟨a, e, h⟩
theorem dp_rowI {K : PySem.W.Frag} {H : Hp} {a : Addr} {ns : List Int} (h : SqT K H a (ns.map V.int)) : Dp K H (.ref a) (dI ns) := .tup h (dpAll_ints ns)
/-- tuples are not changed by what changes at t -/
theorem gr_T {t l : Addr} {K : PySem.W.Frag} {H H' : Hp} (g : Gr t H H') (T : Tape H t l) {a : Addr} {xs : List V} (h : SqT K H a xs) : SqT K H' a xs := by
  obtain ⟨ns, b, c, d, e, ht, hl, hb⟩ := T
  rcases h with (h | ⟨o, h⟩) | h
  · exact .inl (.inl (g _ _ (ne_of h ht (by intro z; cases z)) h))
  · exact .inl (.inr ⟨o, g _ _ (ne_of h ht (by intro z; cases z)) h⟩)
  · exact .inr h
inductive RowsT (K : PySem.W.Frag) (H : Hp) : List V → List (List Int) → Prop where
  | nil : RowsT K H [] []
  | cons {a : Addr} {vs : List V} {r : List Int} {rs : List (List Int)} : SqT K H a (r.map V.int) → RowsT K H vs rs → RowsT K H (.ref a :: vs) (r :: rs)
theorem rowsT_dp {K : PySem.W.Frag} {H : Hp} : ∀ {vs : List V} {rs : List (List Int)}, RowsT K H vs rs → DpAll K H vs (rs.map dI)
  | _, _, .nil => .nil
  | _, _, .cons h r => .cons (dp_rowI h) (rowsT_dp r)
theorem dp_rowsT {K : PySem.W.Frag} {H : Hp} : ∀ {rs : List (List Int)} {vs : List V}, DpAll K H vs (rs.map dI) → RowsT K H vs rs
  | [], _, .nil => .nil
  | r :: rs, _, .cons h t => by
    obtain ⟨a, rfl, q⟩ := dp_row h
    exact .cons q (dp_rowsT t)
theorem RowsT.same {K : PySem.W.Frag} {H H' : Hp} (g : Same H H') : ∀ {vs : List V} {rs : List (List Int)}, RowsT K H vs rs → RowsT K H' vs rs
  | _, _, .nil => .nil
  | _, _, .cons h r => .cons (sqT_same g h) (r.same g)
theorem RowsT.len {K : PySem.W.Frag} {H : Hp} : ∀ {vs : List V} {rs : List (List Int)}, RowsT K H vs rs → vs.length = rs.length
  | _, _, .nil => rfl
  | _, _, .cons _ r => by rw [List.length_cons, List.length_cons, r.len]
theorem RowsT.snoc {K : PySem.W.Frag} {H : Hp} {a : Addr} {r : List Int} (h : SqT K H a (r.map V.int)) : ∀ {vs : List V} {rs : List (List Int)}, RowsT K H vs rs → RowsT K H (vs ++ [.ref a]) (rs ++ [r])
  | _, _, .nil => .cons h .nil
  | _, _, .cons q t => .cons q (t.snoc h)
theorem RowsT.get {K : PySem.W.Frag} {H : Hp} : ∀ {vs : List V} {rs : List (List Int)} {i : Nat} {r : List Int}, RowsT K H vs rs → rs[i]? = some r → ∃ a, vs[i]? = some (.ref a) ∧ SqT K H a (r.map V.int)
  | _, _, _, _, .nil, e => by simp at e
  | _, _, 0, _, .cons h _, e => by simp at e; subst e; exact ⟨_, rfl, h⟩
  | _, _, i + 1, r, .cons _ t, e => by
    obtain ⟨a, h1, h2⟩ := t.get (i := i) (r := r) (by simpa using e)
    exact ⟨a, by simpa using h1, h2⟩
/-- rows that stand as a tuple at a -/
def RowsAt (K : PySem.W.Frag) (H : Hp) (v : V) (rows : List (List Int)) : Prop := ∃ a vs, v = .ref a ∧ SqT K H a vs ∧ RowsT K H vs rows
theorem RowsAt.same {K : PySem.W.Frag} {H H' : Hp} {v : V} {rows : List (List Int)} (h : RowsAt K H v rows) (g : Same H H') : RowsAt K H' v rows := by
  obtain ⟨a, vs, e, h1, h2⟩ := h
  exact ⟨a, vs, e, sqT_same g h1, h2.same g⟩
theorem RowsAt.dp {K : PySem.W.Frag} {H : Hp} {v : V} {rows : List (List Int)} (h : RowsAt K H v rows) : Dp K H v (dR rows) := by
  obtain ⟨a, vs, rfl, h1, h2⟩ := h
  exact .tup h1 (rowsT_dp h2)
theorem RowsAt.of {K : PySem.W.Frag} {H : Hp} {v : V} {rows : List (List Int)} (h : Dp K H v (dR rows)) : RowsAt K H v rows := by
  obtain ⟨a, vs, rfl, h1, h2⟩ := dp_tup h
  exact ⟨a, vs, rfl, h1, dp_rowsT h2⟩
theorem seq_at {n : Nat} {k : Int} (h0 : 0 ≤ k) (h1 : k < n) : seqIndex? k n = some k.toNat := by
  have h : ixN n k = some k.toNat := by
    unfold ixN
    rw [if_pos h0, if_pos h1]
  exact (ixN_seq h).1
def rLenS (K : PySem.W.Frag) : List V → Hp → VK → Prop := fun xs H Q => ∃ p ys, xs = [.ref p] ∧ (SqL K H p ys ∨ SqT K H p ys) ∧ Q (.int ys.length) H
theorem c_len {X : Cx} : CallR X (.builtin "len") (rLenS X.K) := call_len_seq
def rListOf (K : PySem.W.Frag) : List V → Hp → VK → Prop := fun xs H Q => ∃ p ys, xs = [.ref p] ∧ (SqL K H p ys ∨ SqT K H p ys) ∧ ∀ l, H l = none → Q (.ref l) (upd H l (.lst ys))
theorem c_list {X : Cx} : CallR X (.type "list") (rListOf X.K) := call_list_of
def rTupOf (K : PySem.W.Frag) : List V → Hp → VK → Prop := fun xs H Q => ∃ p ys, xs = [.ref p] ∧ ((SqL K H p ys ∧ ∀ l, H l = none → Q (.ref l) (upd H l (.tup ys))) ∨ (SqT K H p ys ∧ Q (.ref p) H))
theorem c_tuple {X : Cx} : CallR X (.type "tuple") (rTupOf X.K) := call_tuple_of
def rIntOf : List V → Hp → VK → Prop := fun xs H Q => (∃ i, xs = [.int i] ∧ Q (.int i) H) ∨ ∃ k, xs = [.bl k] ∧ Q (.int (if k then 1 else 0)) H
theorem c_int {X : Cx} : CallR X (.type "int") rIntOf := call_int1
theorem small_lt {n : Nat} (h : n ≤ 100000) : n < sizeLine := Nat.lt_of_le_of_lt h (by decide)
theorem small_le {n : Nat} (h : n ≤ 100000) : n ≤ sizeLine := Nat.le_trans h (by decide)
/-- a list that changes is no row -/
theorem sqT_put {K : PySem.W.Frag} {H : Hp} {a f : Addr} {xs vs ws : List V} (h : SqT K H a xs) (e : H f = some (.lst vs)) : SqT K (upd H f (.lst ws)) a xs := by
  rcases h with (h | ⟨o, h⟩) | h
  · exact .inl (.inl (by rw [upd_ne (ne_of h e (by intro z; cases z))]; exact h))
  · exact .inl (.inr ⟨o, by rw [upd_ne (ne_of h e (by intro z; cases z))]; exact h⟩)
  · exact .inr h
theorem RowsT.put {K : PySem.W.Frag} {H : Hp} {f : Addr} {us ws : List V} (e : H f = some (.lst us)) : ∀ {vs : List V} {rs : List (List Int)}, RowsT K H vs rs → RowsT K (upd H f (.lst ws)) vs rs
  | _, _, .nil => .nil
  | _, _, .cons h r => .cons (sqT_put h e) (r.put e)
theorem row_len : ∀ {r : List Int} {lo hi : Int}, r.Pairwise (· < ·) → (∀ x ∈ r, lo ≤ x ∧ x < hi) → (r.length : Int) ≤ (hi - lo).toNat
  | [], lo, hi, _, _ => Int.natCast_nonneg _
  | x :: r, lo, hi, h, hb => by
    have h1 := hb x List.mem_cons_self
    have h2 := row_len (r := r) (lo := x + 1) (hi := hi) (List.pairwise_cons.mp h).2 fun y hy => by
      have := (List.pairwise_cons.mp h).1 y hy
      have := (hb y (List.mem_cons_of_mem _ hy)).2
      omega
    rw [List.length_cons]
    omega
end Fo
set_option maxRecDepth 100000
set_option maxHeartbeats 2000000
namespace PySem.W
open PySem PySem.Spec PyProof.Rows Builtin
section
variable {prog : Program} {w : World} {A : Around} {E : Value → Shared → Prop} {s : Shared} {K : Frag} {x C f : Addr} {ox : Obj} {od : Option Obj} {b tb : Value}
/-- != of an instance whose class has its own == alone -/
theorem fo_callNe {Q : Option Value → Shared → Prop} (X : K.In s.heap) (I : InstAt s.heap x ox C od) (hn : findIn K (.ref C) (Str.ofString "__ne__") = some (some (.builtin "object.__ne__")))
    (h : wpAny (model prog w) A (call (.builtin "object.__ne__") [.ref x, b]) (fun v => Q (some v)) E s) : wpAny (model prog w) A (callSpecialIfBound? (.ref x) (Str.ofString "__ne__") [b]) Q E s := by
  simp only [callSpecialIfBound?, bindSpecialIfBound?]
  refine wpAny_holding (wpAny_bind (wpAny_bind (wpAny_bind (I.type.here ((looks_findIn X hn).here ?_)))))
  simp only [PySem.F.cmp_object.ne.bind]
  refine wpAny_bind (wpAny_askSetting (wpAny_ite ?_))
  have fin : wpAny (model prog w) A (call (.builtin "object.__ne__") ([.ref x] ++ [b]) >>= fun v => pure (some v)) Q E s := wpAny_bind (wpAny_mono h (fun v s' h' => wpAny_pure h') fun _ _ h' => h')
  split
  · exact wpAny_bind (wpAny_pure (wpAny_pure fin))
  · exact wpAny_tryCatch (wpAny_bind (wpAny_pure (wpAny_pure fin)))
theorem fo_checkNe {Q : Unit → Shared → Prop} {A : Around} (X : K.In s.heap) (I : InstAt s.heap x ox C od) (hm : mroIn K C (.type "object") = some true) (hq : Q () s) :
    wpAny (model prog w) A (checkBuiltinCall "object.__ne__" ⟨[.ref x, b], []⟩) Q E s := by
  simp only [checkBuiltinCall, PySem.F.cmpKind_ne, PySem.F.cmpSplit_ne]
  refine wpAny_bind ?_
  unfold isInstance
  refine wpAny_bind (I.type.here ((looks_mroIn X hm).here ?_))
  simp only [Bool.not_true, Bool.false_eq_true, if_false]
  exact wpAny_pure hq
theorem fo_bodyNe {Q : Fin → Shared → Prop} {A : Around} (hu : A.units < cLine) (X : K.In s.heap) (I : InstAt s.heap x ox C od) (hs : findIn K (.ref C) (Str.ofString "__eq__") = some (some (.ref f))) (hf : isFn K (.ref f) = true)
    (h : wpAny (model prog w) A (call (.ref f) [.ref x, b]) (fun v s' => ∃ c, v = .bool c ∧ Q (.done (.ret (.bool (!c)))) s') E s) :
    wpAny (model prog w) A (Builtin.«object.__ne__» ⟨[.ref x, b], []⟩) Q E s := by
  unfold Builtin.«object.__ne__»
  repeat' (first
    | with_reducible refine wpAny_cRoomFor hu ?_
    | refine wpAny_bind (m := callSpecialIfBound? (.ref x) (Str.ofString "__eq__") [b]) (ifBound_K X I hs hf (wpAny_mono h ?_ fun _ _ e => e))
    | wp_step)
  intro r s' hr
  obtain ⟨c, rfl, hq⟩ := hr
  refine wpAny_bind (wpAny_truthy_bool ?_)
  exact wpAny_pure hq
theorem fo_ne {h₀ : Heap} {L : Addr} {m : Str → Option Value} {Q : Value → Shared → Prop} (hu : A.units + 1 < cLine) (F : Fr h₀ L s.heap m) (X₀ : K.In h₀) (I : InstAt s.heap x ox C od) (hb : Looks (model prog w) s.heap (typeOf b) tb) (hnf : notFirst K C tb = true)
    (hm : mroIn K C (.type "object") = some true) (hn : findIn K (.ref C) (Str.ofString "__ne__") = some (some (.builtin "object.__ne__"))) (hs : findIn K (.ref C) (Str.ofString "__eq__") = some (some (.ref f))) (hf : isFn K (.ref f) = true)
    (h : wpAny (model prog w) A.in1 (call (.ref f) [.ref x, b]) (fun v s' => ∃ c, v = .bool c ∧ Q (.bool (!c)) s') E s) : wpAny (model prog w) A (richCompare .NotEq (.ref x) b) Q E s := by
  have X := X₀.keeps F.keep
  have one : wpAny (model prog w) A (tryCompare (.ref x) (cmpInfo .NotEq).2.1 b) (fun r s' => ∃ v, r = some v ∧ Q v s') E s := by
    unfold tryCompare
    refine wpAny_bind (fo_callNe X I hn (wpAny_call (codeAny_call_builtin PySem.F.cmp_object.ne.plain PySem.F.cmpEntry_ne (fo_checkNe (A := A.in1) X I hm (fo_bodyNe (A := A.in1) (by simpa using hu) X I hs hf (wpAny_mono h (fun v s' hv => ?_) fun _ _ e => e))))))
    obtain ⟨c, rfl, hq⟩ := hv
    first | exact ⟨c, rfl, wpAny_pure ⟨_, rfl, hq⟩⟩ | exact ⟨c, rfl, _, rfl, hq⟩
  unfold richCompare
  simp only [oneThing_ref]
  refine wpAny_holding (wpAny_bind (wpAny_cRoomFor (Nat.lt_of_succ_lt hu) ?_))
  refine wpAny_bind (I.type.here (wpAny_bind (hb.here ?_)))
  split
  · rename_i q
    have e : subIn K tb (.ref C) = some false := by
      rcases Bool.or_eq_true_iff.mp hnf with e | e
      · rw [beq_iff_eq.mp e] at q; simp at q
      · exact beq_iff_eq.mp e
    refine wpAny_bind ((looks_subIn X e).here ?_)
    simp only [Bool.false_eq_true, if_false]
    refine wpAny_bind (wpAny_mono one (fun r s' z => ?_) fun _ _ e => e)
    obtain ⟨v, rfl, hq⟩ := z
    exact wpAny_pure hq
  · refine wpAny_bind (wpAny_pure ?_)
    simp only [Bool.false_eq_true, if_false]
    refine wpAny_bind (wpAny_mono one (fun r s' z => ?_) fun _ _ e => e)
    obtain ⟨v, rfl, hq⟩ := z
    exact wpAny_pure hq
end
end PySem.W
namespace Fo
open PySem PySem.Spec PyProof.Rows L2
/-- the class of the tables, by what the text's top leaves of it -/
structure TC (K : PySem.W.Frag) (C : Addr) : Prop where
  cl : Cls K C
  ha : PySem.W.findIn K (.ref C) "__class__" = some (some (.builtin "object.__class__"))
  hn : PySem.W.specialIn K (.builtin "object.__class__") "__get__" = some (some (.builtin "getset_descriptor.__get__"))
  htk : PySem.W.takesIn K (.builtin "object.__class__") = some true
  hm : PySem.W.mroIn K C (.type "object") = some true
  ne : PySem.W.findIn K (.ref C) "__ne__" = some (some (.builtin "object.__ne__"))
  nR : NoAttr K C "rows"
  nS : NoAttr K C "size"
  kI : PySem.W.kitOne K (.ref C) (.type "int") = some false
  kB : PySem.W.kitOne K (.ref C) (.type "bool") = some false
  kT : PySem.W.kitOne K (.ref C) (.type "tuple") = some false
  kS : PySem.W.kitOne K (.ref C) (.type "str") = some false
  kL : PySem.W.kitOne K (.ref C) (.type "list") = some false
theorem TC.ty {K : PySem.W.Frag} {C : Addr} (c : TC K C) {H : Hp} {a dx : Addr} {fs : List (Str × V)} (h : H a = some (.ins C dx fs)) : TyX K H (.ref a) (.ref C) := .base (.ins h c.cl c.ha c.hn c.htk c.hm)
def rEqI (K : PySem.W.Frag) (C : Addr) (sp : Sp) : R2 := fun x y H Q => ∃ (a dx : Addr) (fs : List (Str × V)) (t : Value), x = .ref a ∧ H a = some (.ins C dx fs) ∧ TyX K H y t ∧ PySem.W.notFirst K C t = true ∧ sp [x, y] H (fun v H' => ∃ b, v = .bl b ∧ Q (.bl b) H') E0
def rNeI (K : PySem.W.Frag) (C : Addr) (sp : Sp) : R2 := fun x y H Q => ∃ (a dx : Addr) (fs : List (Str × V)) (t : Value), x = .ref a ∧ H a = some (.ins C dx fs) ∧ TyX K H y t ∧ PySem.W.notFirst K C t = true ∧ sp [x, y] H (fun v H' => ∃ b, v = .bl b ∧ Q (.bl (!b)) H') E0
section
variable {X : Cx} {C f : Addr} {fd : FuncData} {ps : List Str} {n : Nat} {sp : Sp}
theorem run_eqI {A : Around} {pins : List (Addr × Obj)} {s : Shared} {σ : L2.St} {H : Hp} {x y : V} {a : Addr} {v : Value} {Q : VK} (F : FnOk X.prog X.w X.K X.mg X.base CX0 n f fd ps sp) (hb : Binds X.K fd ps []) (sb : Sub X n A) (I : Inv X pins σ H s) (rx : RelV x (.ref a)) (ry : RelV y v)
    (h : sp [x, y] H Q E0) : wpAny (model X.prog X.w) A (call (.ref f) [.ref a, v]) (EP X pins σ Q) X.xe s := by
  have e0 : Env0 X.prog X.w X.K X.mg X.base A X.stack s H := by
    have e := I.env0
    exact ⟨by rw [sb.fr]; exact e.frames, e.mod, e.bs, e.bsz, e.funs, e.frf, e.hok, e.bare⟩
  have hl := F.len _ _ _ _ h
  have r2 : Vals [x, y] [Value.ref a, v] := .cons rx (.cons ry .nil)
  refine wpAny_call (codeAny_mono (F.run A X.stack s H ⟨[.ref a, v], []⟩ [.ref a, v] [x, y] _ E0 sb.room e0 (by
    have := hb s [.ref a, v] I.kIn (by simpa using hl)
    simpa using this) r2 h) fun r s' hq => ?_)
  cases r with
  | error e => exact pass0 pins σ H s e s' I hq
  | ok fl =>
    cases fl with
    | ret w => exact I.after hq
    | next => exact False.elim hq
    | brk => exact False.elim hq
    | cont => exact False.elim hq
theorem op_eqI (F : FnOk X.prog X.w X.K X.mg X.base CX0 n f fd ps sp) (hb : Binds X.K fd ps []) (hs : PySem.W.findIn X.K (.ref C) "__eq__" = some (some (.ref f))) (hf : PySem.W.isFn X.K (.ref f) = true) (hr : Room n X.A) :
    OpR X (compareOp .Eq) (rEqI X.K C sp) := by
  intro pins s σ H x y v u Q I rx ry h
  obtain ⟨a, dx, fs, t, rfl, ha, ty, nf, q⟩ := h
  cases rx
  obtain ⟨mA, J, _⟩ := ins_get I.hok ha
  obtain ⟨od, J, _⟩ := J.look
  obtain ⟨P, Z, p, hx⟩ := kit_of I ry ty
  obtain ⟨m, hF⟩ := I.fr
  refine PySem.W.cmp_K (op := .Eq) (tb := t) hr.units0 hF I.ok.mod.kin J (Z.ty _ _ I.kIn p) nf hs hf ?_
  refine wpAny_mono (run_eqI F hb ⟨hr, rfl⟩ I (show L2.RelV (.ref a) (.ref a) from rfl) ry q) (fun w s' e => ?_) fun _ _ z => z
  obtain ⟨z, H', I', rz, b, ez, qz⟩ := e
  subst ez
  cases rz
  exact ⟨.bl b, H', I', rfl, qz⟩
theorem op_neI (F : FnOk X.prog X.w X.K X.mg X.base CX0 n f fd ps sp) (hb : Binds X.K fd ps []) (c : TC X.K C) (hs : PySem.W.findIn X.K (.ref C) "__eq__" = some (some (.ref f))) (hf : PySem.W.isFn X.K (.ref f) = true) (hr : Room (n + 1) X.A) :
    OpR X (compareOp .NotEq) (rNeI X.K C sp) := by
  intro pins s σ H x y v u Q I rx ry h
  obtain ⟨a, dx, fs, t, rfl, ha, ty, nf, q⟩ := h
  cases rx
  obtain ⟨mA, J, _⟩ := ins_get I.hok ha
  obtain ⟨od, J, _⟩ := J.look
  obtain ⟨P, Z, p, hx⟩ := kit_of I ry ty
  obtain ⟨m, hF⟩ := I.fr
  refine PySem.W.fo_ne (tb := t) (Nat.lt_of_le_of_lt (Nat.add_le_add_left (by decide : 1 ≤ 64) _) hr.units) hF I.ok.mod.kin J (Z.ty _ _ I.kIn p) nf c.hm c.ne hs hf ?_
  refine wpAny_mono (run_eqI (A := X.A.in1) F hb ⟨hr.in1, rfl⟩ I (show L2.RelV (.ref a) (.ref a) from rfl) ry q) (fun w s' e => ?_) fun _ _ z => z
  obtain ⟨z, H', I', rz, b, ez, qz⟩ := e
  subst ez
  cases rz
  exact ⟨b, rfl, .bl (!b), H', I', rfl, qz⟩
end
theorem lc_zipT {K : PySem.W.Frag} {a b : Addr} {xs ys : List V} {g : TG} {tt : TT} {te : TE} {vs : List Nat} {σ : L2.St} {H1 : Hp} {D : Addr} {Qd : Hp → Prop} (hle : ys.length ≤ xs.length) (Pv : Nat → Hp → Prop) (h0 : Pv 0 (upd H1 D (.lst []))) (hl : ∀ i H, i ≤ ys.length → Pv i H → SqT K H a xs ∧ SqT K H b ys)
    (hs : ∀ i x y H T, xs[i]? = some x → ys[i]? = some y → Pv i H → H T = none → g (.ref T) (wipe σ vs) (upd H T (.tup [x, y])) fun σ2 H2 => wipe σ2 vs = wipe σ vs ∧ tt σ2 H2 fun c H3 =>
      if c = true then te σ2 H3 fun y H4 => ∃ acc, H4 D = some (.lst acc) ∧ acc.length < sizeLine ∧ Pv (i + 1) (upd H4 D (.lst (acc ++ [y]))) else Pv (i + 1) H3) (hd : ∀ H, Pv ys.length H → Qd H) :
    ∃ W : Nat → Nat → Hp → Prop, (∃ m, W 0 m (upd H1 D (.lst []))) ∧ ∀ i m H, W i m H →
      ((RZ.ItzT K a b).stop i H ∧ Qd H) ∨ ((RZ.ItzT K a b).go i H ∧ ∃ Nx : Hp → Prop, (∀ H', Nx H' → ∃ m', m' < m ∧ W (i + 1) m' H') ∧ ∀ x H', (RZ.ItzT K a b).yld i H x H' → g x (wipe σ vs) H' fun σ2 H2 => wipe σ2 vs = wipe σ vs ∧ tt σ2 H2 fun c H3 =>
        if c = true then te σ2 H3 fun y H4 => ∃ acc, H4 D = some (.lst acc) ∧ acc.length < sizeLine ∧ Nx (upd H4 D (.lst (acc ++ [y]))) else Nx H3) := by
  refine ⟨fun i m H => m = ys.length - i ∧ i ≤ ys.length ∧ Pv i H, ⟨ys.length, by simp, Nat.zero_le _, h0⟩, ?_⟩
  rintro i m H ⟨rfl, hi, p⟩
  obtain ⟨q1, q2⟩ := hl i H hi p
  by_cases hlt : i < ys.length
  · have hlt2 : i < xs.length := Nat.lt_of_lt_of_le hlt hle
    refine .inr ⟨⟨xs, ys, xs[i], ys[i], q1, q2, by simp [hlt2], by simp [hlt]⟩, Pv (i + 1), fun H' p' => ⟨ys.length - (i + 1), by omega, rfl, hlt, p'⟩, fun x H' y => ?_⟩
    obtain ⟨T, x', y', rfl, nT, rfl, z1, z2⟩ := y
    exact hs i x' y' H T (z1 xs q1) (z2 ys q2) p nT
  · have e : i = ys.length := by omega
    subst e
    exact .inl ⟨⟨xs, ys, q1, q2, .inr (Nat.le_refl _)⟩, hd H p⟩
def isIntV : V → Bool
  | .int _ => true
  | _ => false
def numV (b : Int) : V → Bool
  | .int i => decide (0 ≤ i) && decide (i < b)
  | _ => false
/-- a thing whose kind is known: of a built-in type, or of the tables' class -/
def Th (K : PySem.W.Frag) (C : Addr) (H : Hp) (x : V) : Prop := ∃ t, TyX K H x t ∧ (∀ c, t = .ref c → c = C)
theorem tyX_same {K : PySem.W.Frag} {H H' : Hp} (e : Same H H') {x : V} {t : Value} (h : TyX K H x t) : TyX K H' x t := by
  cases h with
  | base b =>
    cases b with
    | non => exact .base .non
    | bl b => exact .base (.bl b)
    | int i => exact .base (.int i)
    | str x => exact .base (.str x)
    | flt x => exact .base (.flt x)
    | lst h => exact .base (.lst (e _ _ h))
    | frz h => exact .base (.frz (e _ _ h))
    | tup h => exact .base (.tup (e _ _ h))
    | dK h => exact .base (.dK (e _ _ h))
    | dT h => exact .base (.dT (e _ _ h))
    | ins h a b c d f => exact .base (.ins (e _ _ h) a b c d f)
  | byt b => exact .byt b
  | set h => exact .set (e _ _ h)
  | kList a b => exact .kList a b
  | kTuple a b => exact .kTuple a b
  | kDict a b => exact .kDict a b
  | fTuple h => exact .fTuple (e _ _ h)
  | fDict h => exact .fDict (e _ _ h)
theorem Th.same {K : PySem.W.Frag} {C : Addr} {H H' : Hp} (e : Same H H') {x : V} (h : Th K C H x) : Th K C H' x := by
  obtain ⟨t, a, b⟩ := h
  exact ⟨t, tyX_same e a, b⟩
theorem th_int {K : PySem.W.Frag} {C : Addr} {H : Hp} {i : Int} : Th K C H (.int i) := ⟨_, .base (.int i), fun _ q => nomatch q⟩
theorem th_kit {K : PySem.W.Frag} {C : Addr} (c : TC K C) {H : Hp} {x : V} (h : Th K C H x) : ∃ t b1 b2, TyX K H x t ∧ PySem.W.kitOne K t (.type "int") = some b1 ∧ PySem.W.kitOne K t (.type "bool") = some b2 ∧ (b1 && !b2) = isIntV x := by
  obtain ⟨t, ty, ht⟩ := h
  have go : ∀ (n : String) (b1 b2 : Bool), t = .type n → kitB n "int" = some b1 → kitB n "bool" = some b2 → (b1 && !b2) = isIntV x → ∃ t b1 b2, TyX K H x t ∧ PySem.W.kitOne K t (.type "int") = some b1 ∧ PySem.W.kitOne K t (.type "bool") = some b2 ∧ (b1 && !b2) = isIntV x :=
    fun n b1 b2 e h1 h2 h3 => ⟨t, b1, b2, ty, by rw [e]; exact kit_ty h1, by rw [e]; exact kit_ty h2, h3⟩
  cases ty with
  | base b =>
    cases b with
    | non => exact go "NoneType" false false rfl (by decide +kernel) (by decide +kernel) rfl
    | bl b => exact go "bool" true true rfl (by decide +kernel) (by decide +kernel) rfl
    | int i => exact go "int" true false rfl (by decide +kernel) (by decide +kernel) rfl
    | str x => exact go "str" false false rfl (by decide +kernel) (by decide +kernel) rfl
    | flt x => exact go "float" false false rfl (by decide +kernel) (by decide +kernel) rfl
    | lst h => exact go "list" false false rfl (by decide +kernel) (by decide +kernel) rfl
    | frz h => exact go "list" false false rfl (by decide +kernel) (by decide +kernel) rfl
    | tup h => exact go "tuple" false false rfl (by decide +kernel) (by decide +kernel) rfl
    | dK h => exact go "dict" false false rfl (by decide +kernel) (by decide +kernel) rfl
    | dT h => exact go "dict" false false rfl (by decide +kernel) (by decide +kernel) rfl
    | @ins a C' dx fs h a1 b1 c1 d1 f1 =>
      have e := ht C' rfl
      subst e
      exact ⟨_, false, false, .base (.ins h a1 b1 c1 d1 f1), c.kI, c.kB, rfl⟩
  | byt b => exact go "bytes" false false rfl (by decide +kernel) (by decide +kernel) rfl
  | set h => exact go "set" false false rfl (by decide +kernel) (by decide +kernel) rfl
  | kList a b => exact go "list" false false rfl (by decide +kernel) (by decide +kernel) rfl
  | kTuple a b => exact go "tuple" false false rfl (by decide +kernel) (by decide +kernel) rfl
  | kDict a b => exact go "dict" false false rfl (by decide +kernel) (by decide +kernel) rfl
  | fTuple h => exact go "tuple" false false rfl (by decide +kernel) (by decide +kernel) rfl
  | fDict h => exact go "dict" false false rfl (by decide +kernel) (by decide +kernel) rfl
theorem tyX_sqT {K : PySem.W.Frag} {H : Hp} {a : Addr} {xs : List V} (h : SqT K H a xs) : TyX K H (.ref a) (.type "tuple") := by
  rcases h with (h | ⟨o, h⟩) | ⟨o, its, n, h, hc, _⟩
  · exact .base (.tup h)
  · exact .fTuple h
  · exact .kTuple h hc
/-- a thing as the judges look at it: a tuple of things, or no tuple -/
inductive Tg (K : PySem.W.Frag) (C : Addr) (H : Hp) : V → Option (List V) → Prop
  | tup {a : Addr} {xs : List V} (h : SqT K H a xs) (hi : ∀ y ∈ xs, Th K C H y) (hz : xs.length ≤ 100000) : Tg K C H (.ref a) (some xs)
  | no {x : V} {t : Value} (ty : TyX K H x t) (hk : PySem.W.kitOne K t (.type "tuple") = some false) : Tg K C H x none
theorem Tg.same {K : PySem.W.Frag} {C : Addr} {H H' : Hp} (e : Same H H') {x : V} {o : Option (List V)} (h : Tg K C H x o) : Tg K C H' x o := by
  cases h with
  | tup h hi hz => exact .tup (sqT_same e h) (fun y hy => (hi y hy).same e) hz
  | no ty hk => exact .no (tyX_same e ty) hk
theorem Tg.ints {K : PySem.W.Frag} {C : Addr} {H : Hp} {a : Addr} {ns : List Int} (h : SqT K H a (ns.map V.int)) (hz : ns.length ≤ 100000) : Tg K C H (.ref a) (some (ns.map V.int)) := .tup h (fun y hy => by
  obtain ⟨n, _, rfl⟩ := List.mem_map.mp hy
  exact th_int) (by rw [List.length_map]; exact hz)
/-- whether it is an ascending tuple of numbers below b -/
def ascV (b : Int) : List V → Bool
  | [] => true
  | [x] => numV b x
  | x :: y :: r => numV b x && (match x, y with | .int i, .int j => decide (i < j) | _, _ => false) && ascV b (y :: r)
def ltV : V → V → Bool
  | .int i, .int j => decide (i < j)
  | _, _ => false
theorem ascV_eq (b : Int) : ∀ xs : List V, ascV b xs = (xs.all (numV b) && ((xs.zip (xs.drop 1)).all fun p => ltV p.1 p.2))
  | [] => rfl
  | [x] => by
    show numV b x = _
    simp [List.all]
  | x :: y :: r => by
    have ih := ascV_eq b (y :: r)
    have e : ascV b (x :: y :: r) = (numV b x && ltV x y && ascV b (y :: r)) := by
      cases x <;> cases y <;> rfl
    rw [e, ih]
    simp only [List.drop_succ_cons, List.drop_zero, List.zip_cons_cons, List.all_cons]
    cases numV b x <;> cases ltV x y <;> cases numV b y <;> cases (List.all r (numV b)) <;> simp
theorem ascV_ints {b : Int} : ∀ {ns : List Int}, ns.Pairwise (· < ·) → (∀ x ∈ ns, 0 ≤ x ∧ x < b) → ascV b (ns.map V.int) = true
  | [], _, _ => rfl
  | [x], _, h => by
    have := h x List.mem_cons_self
    show (decide (0 ≤ x) && decide (x < b)) = true
    simp [this.1, this.2]
  | x :: y :: r, hp, h => by
    have ih := ascV_ints (ns := y :: r) (List.pairwise_cons.mp hp).2 fun z hz => h z (List.mem_cons_of_mem _ hz)
    have h1 := h x List.mem_cons_self
    have h2 := (List.pairwise_cons.mp hp).1 y List.mem_cons_self
    show ((decide (0 ≤ x) && decide (x < b)) && decide (x < y) && ascV b ((y :: r).map V.int)) = true
    rw [ih]
    simp [h1.1, h1.2, h2]
theorem all_num_ints {b : Int} {xs : List V} (h : xs.all (numV b) = true) : ∃ ns : List Int, xs = ns.map V.int ∧ ∀ x ∈ ns, 0 ≤ x ∧ x < b := by
  induction xs with
  | nil => exact ⟨[], rfl, fun _ h => (by cases h)⟩
  | cons x r ih =>
    rw [List.all_cons, Bool.and_eq_true] at h
    obtain ⟨ns, e, hb⟩ := ih h.2
    cases x with
    | int i =>
      have h1 : (decide (0 ≤ i) && decide (i < b)) = true := h.1
      rw [Bool.and_eq_true, decide_eq_true_eq, decide_eq_true_eq] at h1
      refine ⟨i :: ns, by rw [e]; rfl, fun x hx => ?_⟩
      rcases List.mem_cons.mp hx with q | q
      · rw [q]; exact h1
      · exact hb x q
    | _ => exact absurd h.1 (by simp [numV])
def tf (v : V) (n : Nat) : List (Str × V) := putF "size" (.int (n : Int)) (putF "rows" v [])
def TableAt (K : PySem.W.Frag) (C : Addr) (H : Hp) (x : V) (rows : List (List Int)) : Prop := ∃ p dx v, x = .ref p ∧ H p = some (.ins C dx (tf v rows.length)) ∧ RowsAt K H v rows
theorem TableAt.same {K : PySem.W.Frag} {C : Addr} {H H' : Hp} {x : V} {rows : List (List Int)} (h : TableAt K C H x rows) (e : Same H H') : TableAt K C H' x rows := by
  obtain ⟨p, dx, v, ex, hp, hr⟩ := h
  exact ⟨p, dx, v, ex, e _ _ hp, hr.same e⟩
/-- what changes at an instance is no tuple -/
theorem sqT_ins {K : PySem.W.Frag} {H H' : Hp} {a p C dx : Addr} {fs : List (Str × V)} {xs : List V} (h : SqT K H a xs) (e : H p = some (.ins C dx fs)) (k : ∀ b o, b ≠ p → H b = some o → H' b = some o) : SqT K H' a xs := by
  rcases h with (h | ⟨o, h⟩) | h
  · exact .inl (.inl (k _ _ (ne_of h e (by intro z; cases z)) h))
  · exact .inl (.inr ⟨o, k _ _ (ne_of h e (by intro z; cases z)) h⟩)
  · exact .inr h
theorem RowsT.ins {K : PySem.W.Frag} {H H' : Hp} {p C dx : Addr} {fs : List (Str × V)} (e : H p = some (.ins C dx fs)) (k : ∀ b o, b ≠ p → H b = some o → H' b = some o) : ∀ {vs : List V} {rs : List (List Int)}, RowsT K H vs rs → RowsT K H' vs rs
  | _, _, .nil => .nil
  | _, _, .cons h r => .cons (sqT_ins h e k) (r.ins e k)
theorem RowsAt.ins {K : PySem.W.Frag} {H H' : Hp} {p C dx : Addr} {fs : List (Str × V)} {v : V} {rows : List (List Int)} (h : RowsAt K H v rows) (e : H p = some (.ins C dx fs)) (k : ∀ b o, b ≠ p → H b = some o → H' b = some o) : RowsAt K H' v rows := by
  obtain ⟨a, vs, ev, h1, h2⟩ := h
  exact ⟨a, vs, ev, sqT_ins h1 e k, h2.ins e k⟩
theorem PE.imp {X : Cx} {e : Expr} {t t' : TE} (h : PE X e t) (i : ∀ σ H Q, t' σ H Q → t σ H Q) : PE X e t' := ⟨fun pins s σ H Q I q => h.run pins s σ H Q I (i σ H Q q)⟩
def tUp (te : TE) : TE := fun σ H Q => ∃ Q' : VK, te σ H Q' ∧ ∀ v H1, Q' v H1 → Q v H1
theorem pe_up {X : Cx} {e : Expr} {te : TE} (h : PE X e te) : PE X e (tUp te) := ⟨fun pins s σ H Q I ⟨Q', h1, h2⟩ => thn (h.run pins s σ H Q' I h1) fun u s1 ⟨v, H1, I1, r, q⟩ => ⟨v, H1, I1, r, h2 v H1 q⟩⟩
theorem TableAt.tyx {K : PySem.W.Frag} {C : Addr} (c : TC K C) {H : Hp} {x : V} {rows : List (List Int)} (h : TableAt K C H x rows) : TyX K H x (.ref C) := by
  obtain ⟨p, dx, v, rfl, hp, _⟩ := h
  exact c.ty hp
theorem eqv_I (a b : List Int) : PyData.eqv (dI a) (dI b) = decide (a = b) := by
  show PyData.eqv (.tuple _) (.tuple _) = _
  rw [PyData.eqv]
  exact PySem.W.ked_eqvAll a b
theorem eqvAll_R : ∀ (r1 r2 : List (List Int)), PyData.eqvAll (r1.map dI) (r2.map dI) = decide (r1 = r2)
  | [], [] => by simp [PyData.eqvAll]
  | [], _ :: _ => by simp [PyData.eqvAll]
  | _ :: _, [] => by simp [PyData.eqvAll]
  | x :: xs, y :: ys => by
    rw [List.map_cons, List.map_cons, PyData.eqvAll, eqv_I, eqvAll_R xs ys, ← Bool.decide_and]
    exact decide_eq_decide.mpr (by rw [List.cons.injEq])
theorem eqv_R (r1 r2 : List (List Int)) : PyData.eqv (dR r1) (dR r2) = decide (r1 = r2) := by
  show PyData.eqv (.tuple _) (.tuple _) = _
  rw [PyData.eqv]
  exact eqvAll_R r1 r2
theorem lay_ints : ∀ ns : List Int, PyData.canLayAll0 (ns.map PyData.int) = true
  | [] => by rw [List.map_nil, PyData.canLayAll0]
  | n :: r => by rw [List.map_cons, PyData.canLayAll0, lay_ints r, PyData.canLay0]; rfl
theorem dep_ints : ∀ ns : List Int, PyData.depthAll (ns.map PyData.int) = 0
  | [] => by rw [List.map_nil, PyData.depthAll]
  | n :: r => by rw [List.map_cons, PyData.depthAll, dep_ints r, PyData.depth]; rfl
theorem lay_rows : ∀ rs : List (List Int), PyData.canLayAll0 (rs.map dI) = true
  | [] => by rw [List.map_nil, PyData.canLayAll0]
  | n :: r => by
    rw [List.map_cons, PyData.canLayAll0, lay_rows r]
    show (PyData.canLay0 (.tuple _) && true) = true
    rw [PyData.canLay0, lay_ints]
    rfl
theorem dep_rows : ∀ rs : List (List Int), PyData.depthAll (rs.map dI) ≤ 1
  | [] => by rw [List.map_nil, PyData.depthAll]; decide
  | n :: r => by
    rw [List.map_cons, PyData.depthAll]
    refine Nat.max_le.mpr ⟨?_, dep_rows r⟩
    show PyData.depth (.tuple _) ≤ 1
    rw [PyData.depth, dep_ints]
    decide
theorem sh_I (ns : List Int) : SeqAt.shaped (dI ns) = true := by
  show SeqAt.shaped (.tuple _) = true
  unfold SeqAt.shaped
  rw [PyData.canLay0, PyData.depth, lay_ints, dep_ints]
  rfl
theorem sh_R (rs : List (List Int)) : SeqAt.shaped (dR rs) = true := by
  show SeqAt.shaped (.tuple _) = true
  unfold SeqAt.shaped
  rw [PyData.canLay0, PyData.depth, lay_rows, Bool.true_and]
  exact decide_eq_true (by have := dep_rows rs; omega)
end Fo
set_option maxRecDepth 100000
set_option maxHeartbeats 2000000
namespace Fo
open PySem PySem.Spec PyProof.Rows L2
def Sq (b : Bool) (K : PySem.W.Frag) (H : Hp) (a : Addr) (xs : List V) : Prop := match b with
  | true => SqL K H a xs
  | false => SqT K H a xs
theorem Sq.same {b : Bool} {K : PySem.W.Frag} {H H' : Hp} {a : Addr} {xs : List V} (h : Sq b K H a xs) (e : Same H H') : Sq b K H' a xs := by
  cases b with
  | true => exact e.seq h
  | false => exact sqT_same e h
inductive RowsB (b : Bool) (K : PySem.W.Frag) (H : Hp) : List V → List (List Int) → Prop
  | nil : RowsB b K H [] []
  | cons {a : Addr} {vs : List V} {r : List Int} {rs : List (List Int)} : Sq b K H a (r.map V.int) → RowsB b K H vs rs → RowsB b K H (.ref a :: vs) (r :: rs)
theorem RowsB.same {b : Bool} {K : PySem.W.Frag} {H H' : Hp} (g : Same H H') : ∀ {vs : List V} {rs : List (List Int)}, RowsB b K H vs rs → RowsB b K H' vs rs
  | _, _, .nil => .nil
  | _, _, .cons h r => .cons (h.same g) (r.same g)
theorem RowsB.len {b : Bool} {K : PySem.W.Frag} {H : Hp} : ∀ {vs : List V} {rs : List (List Int)}, RowsB b K H vs rs → vs.length = rs.length
  | _, _, .nil => rfl
  | _, _, .cons _ r => by rw [List.length_cons, List.length_cons, r.len]
theorem RowsB.get {b : Bool} {K : PySem.W.Frag} {H : Hp} : ∀ {vs : List V} {rs : List (List Int)} {i : Nat} {v : V}, RowsB b K H vs rs → vs[i]? = some v → ∃ a r, v = .ref a ∧ rs[i]? = some r ∧ Sq b K H a (r.map V.int)
  | _, _, _, _, .nil, e => by simp at e
  | _, _, 0, v, .cons (a := a) (r := r) h _, e => by
    have e' : some (V.ref a) = some v := e
    cases e'
    exact ⟨a, r, rfl, rfl, h⟩
  | _, _, i + 1, v, .cons _ t, e => t.get (i := i) e
theorem RowsB.snoc {b : Bool} {K : PySem.W.Frag} {H : Hp} {a : Addr} {r : List Int} (h : Sq b K H a (r.map V.int)) : ∀ {vs : List V} {rs : List (List Int)}, RowsB b K H vs rs → RowsB b K H (vs ++ [.ref a]) (rs ++ [r])
  | _, _, .nil => .cons h .nil
  | _, _, .cons q t => .cons q (t.snoc h)
def RowsQ (b : Bool) (K : PySem.W.Frag) (H : Hp) (v : V) (rows : List (List Int)) : Prop := ∃ a vs, v = .ref a ∧ Sq b K H a vs ∧ RowsB b K H vs rows
theorem RowsQ.same {b : Bool} {K : PySem.W.Frag} {H H' : Hp} {v : V} {rows : List (List Int)} (h : RowsQ b K H v rows) (g : Same H H') : RowsQ b K H' v rows := by
  obtain ⟨a, vs, e, h1, h2⟩ := h
  exact ⟨a, vs, e, h1.same g, h2.same g⟩
end Fo
set_option maxRecDepth 100000
set_option maxHeartbeats 1000000
namespace Mt
open Classical
abbrev Rows := List (List Int)
def row (rows : Rows) (p : Nat) : List Int := rows[p]?.getD []
theorem row_get {rows : Rows} {p : Nat} {r : List Int} (h : rows[p]? = some r) : row rows p = r := by
  unfold row
  rw [h]
  rfl
def fset {α β : Type} [DecidableEq α] (f : α → β) (a : α) (b : β) : α → β := fun x => if x = a then b else f x
theorem fset_same {α β : Type} [DecidableEq α] {f : α → β} {a : α} {b : β} : fset f a b a = b := if_pos rfl
theorem fset_ne {α β : Type} [DecidableEq α] {f : α → β} {a x : α} {b : β} (h : x ≠ a) : fset f a b x = f x := if_neg h
theorem len_le {α : Type} [DecidableEq α] : ∀ {l1 l2 : List α}, l1.Nodup → (∀ x ∈ l1, x ∈ l2) → l1.length ≤ l2.length
  | [], _, _, _ => Nat.zero_le _
  | x :: l1, l2, hn, hs => by
    have hx := hs x List.mem_cons_self
    have h2 := List.nodup_cons.mp hn
    have ih := len_le (l1 := l1) (l2 := l2.erase x) h2.2 fun y hy => (List.mem_erase_of_ne (fun (e : y = x) => h2.1 (e ▸ hy))).mpr (hs y (List.mem_cons_of_mem _ hy))
    rw [List.length_erase_of_mem hx] at ih
    have : 0 < l2.length := List.length_pos_of_mem hx
    rw [List.length_cons]
    omega
structure Ds (rows : Rows) (D : List Int) : Prop where
  len : D.length = rows.length
  tie : ∀ (p : Nat) (t : Int), D[p]? = some t → t ∈ row rows p
  nd : D.Nodup
theorem Ds.get {rows : Rows} {D : List Int} (d : Ds rows D) {p : Nat} (h : p < rows.length) : ∃ t, D[p]? = some t ∧ t ∈ row rows p := by
  have h' : p < D.length := by rw [d.len]; exact h
  exact ⟨_, List.getElem?_eq_getElem h', d.tie p _ (List.getElem?_eq_getElem h')⟩
theorem nodup_get {α : Type} {l : List α} (h : l.Nodup) {i j : Nat} {x : α} (hi : l[i]? = some x) (hj : l[j]? = some x) : i = j := by
  have hi' := (List.getElem?_eq_some_iff.mp hi)
  have hj' := (List.getElem?_eq_some_iff.mp hj)
  obtain ⟨a, ea⟩ := hi'
  obtain ⟨b, eb⟩ := hj'
  refine Classical.byContradiction fun hc => ?_
  have pw := List.pairwise_iff_getElem.mp h
  rcases Nat.lt_or_gt_of_ne hc with z | z
  · exact pw i j a b z (ea.trans eb.symm)
  · exact pw j i b a z (eb.trans ea.symm)
structure MS where
  h : Nat → Option Int
  o : Int → Option Nat
structure Valid (rows : Rows) (m : MS) : Prop where
  inv : ∀ p t, m.h p = some t ↔ m.o t = some p
  tie : ∀ p t, m.h p = some t → t ∈ row rows p
def Closed (rows : Rows) (m : MS) (R : Nat → Prop) : Prop := ∀ q, R q → ∀ t ∈ row rows q, ∃ q', R q' ∧ m.h q' = some t
theorem Valid.inj {rows : Rows} {m : MS} (v : Valid rows m) {p q : Nat} {t : Int} (h1 : m.h p = some t) (h2 : m.h q = some t) : p = q := by
  have a := (v.inv p t).mp h1
  have b := (v.inv q t).mp h2
  rw [a] at b
  exact Option.some.inj b
abbrev Came := Int → Option Nat
/-- how a thing was come to: k steps from p -/
inductive Chain (c : Came) (h : Nat → Option Int) (p : Nat) : Nat → Int → Prop
  | start {t : Int} : c t = some p → Chain c h p 0 t
  | step {k : Nat} {t s : Int} {q : Nat} : c t = some q → h q = some s → Chain c h p k s → Chain c h p (k + 1) t
theorem Chain.ext {c c' : Came} {h : Nat → Option Int} {p : Nat} (e : ∀ t y, c t = some y → c' t = some y) : ∀ {k : Nat} {t : Int}, Chain c h p k t → Chain c' h p k t
  | _, _, .start a => .start (e _ _ a)
  | _, _, .step a b d => .step (e _ _ a) b (d.ext e)
theorem Chain.one {c : Came} {h : Nat → Option Int} {p : Nat} (hp : h p = none) : ∀ {k j : Nat} {t : Int}, Chain c h p k t → Chain c h p j t → k = j
  | _, _, _, .start _, .start _ => rfl
  | _, _, _, .start a, .step b d _ => by
    rw [a] at b
    cases b
    rw [hp] at d
    cases d
  | _, _, _, .step b d _, .start a => by
    rw [a] at b
    cases b
    rw [hp] at d
    cases d
  | _, _, _, .step a b d, .step a' b' d' => by
    rw [a] at a'
    cases a'
    rw [b] at b'
    cases b'
    rw [d.one hp d']
def Vis (o : Int → Option Nat) (p : Nat) (c : Came) (q : Nat) : Prop := q = p ∨ ∃ t x, c t = some x ∧ o t = some q
structure WInv (rows : Rows) (m : MS) (p : Nat) (c : Came) (w : List Nat) : Prop where
  a : ∀ t x, c t = some x → t ∈ row rows x ∧ ∃ q, m.o t = some q
  b : ∀ t x, c t = some x → ∃ k, Chain c m.h p k t
  v : ∀ q ∈ w, Vis m.o p c q
  d : ∀ q, Vis m.o p c q → q ∉ w → ∀ t ∈ row rows q, c t ≠ none
theorem WInv.init {rows : Rows} {m : MS} {p : Nat} : WInv rows m p (fun _ => none) [p] :=
  ⟨fun _ _ h => (by cases h), fun _ _ h => (by cases h), fun q h => .inl (List.mem_singleton.mp h), fun q h n => by
    rcases h with h | ⟨t, x, h, _⟩
    · exact absurd (List.mem_singleton.mpr h) n
    · cases h⟩
structure Found (rows : Rows) (m : MS) (p : Nat) (c : Came) (t : Int) : Prop where
  free : m.o t = none
  tie : ∀ s x, c s = some x → s ∈ row rows x
  chain : ∃ k, Chain c m.h p k t
def put (m : MS) (q : Nat) (t : Int) : MS := ⟨fset m.h q (some t), fset m.o t (some q)⟩
/-- while things are handed on: m behind m0, t in hand, k steps left -/
structure HInv (rows : Rows) (m0 : MS) (p : Nat) (c : Came) (m : MS) (t : Int) (k : Nat) : Prop where
  ch : Chain c m0.h p k t
  ho : ∀ x s, m.h x = some s → m.o s = some x
  oh : ∀ x s, m.o s = some x → m.h x = some s ∨ s = t
  no : ∀ x, m.h x ≠ some t
  tie : ∀ x s, m.h x = some s → s ∈ row rows x
  dom : ∀ x, m.h x = none ↔ m0.h x = none
  old : ∀ x, m.h x ≠ m0.h x → ∃ s j, m0.h x = some s ∧ Chain c m0.h p j s ∧ k ≤ j
  cl : ∀ R, Closed rows m0 R → (∀ q, c t = some q → ¬ R q) ∧ ∀ x, R x → m.h x = m0.h x
theorem HInv.init {rows : Rows} {m : MS} {p : Nat} {c : Came} {t : Int} (v : Valid rows m) (f : Found rows m p c t) : ∃ k, HInv rows m p c m t k := by
  obtain ⟨k, hk⟩ := f.chain
  refine ⟨k, hk, fun x s h => (v.inv x s).mp h, fun x s h => .inl ((v.inv x s).mpr h), fun x h => ?_, v.tie, fun _ => Iff.rfl, fun x h => absurd rfl h, fun R hR => ⟨fun q hq rq => ?_, fun _ _ => rfl⟩⟩
  · have := (v.inv x t).mp h
    rw [f.free] at this
    cases this
  · obtain ⟨r, _, hr⟩ := hR q rq t (f.tie t q hq)
    have := (v.inv r t).mp hr
    rw [f.free] at this
    cases this
end Mt
set_option maxRecDepth 100000
set_option maxHeartbeats 1000000
namespace Mt
open Classical
def m0 : MS := ⟨fun _ => none, fun _ => none⟩
inductive Reach (rows : Rows) (o : Int → Option Nat) (q : Nat) : Nat → Prop
  | refl : Reach rows o q q
  | step {x y : Nat} {s : Int} : Reach rows o q x → s ∈ row rows x → o s = some y → Reach rows o q y
def narrow (rows : Rows) (p : Nat) (t : Int) : Rows := rows.mapIdx fun x r => if x = p then [t] else r.filter (fun s => decide (s ≠ t))
theorem narrow_len {rows : Rows} {p : Nat} {t : Int} : (narrow rows p t).length = rows.length := List.length_mapIdx
theorem narrow_get {rows : Rows} {p : Nat} {t : Int} (x : Nat) : (narrow rows p t)[x]? = rows[x]?.map fun r => if x = p then [t] else r.filter (fun s => decide (s ≠ t)) := List.getElem?_mapIdx
theorem row_narrow {rows : Rows} {p : Nat} {t : Int} {x : Nat} (h : x < rows.length) : row (narrow rows p t) x = if x = p then [t] else (row rows x).filter (fun s => decide (s ≠ t)) := by
  unfold row
  rw [narrow_get, List.getElem?_eq_getElem h]
  rfl
theorem mem_narrow {rows : Rows} {p : Nat} {t : Int} {x : Nat} {s : Int} (h : x < rows.length) : s ∈ row (narrow rows p t) x ↔ (x = p ∧ s = t) ∨ (x ≠ p ∧ s ∈ row rows x ∧ s ≠ t) := by
  rw [row_narrow h]
  by_cases e : x = p
  · rw [if_pos e, List.mem_singleton]
    exact ⟨fun z => .inl ⟨e, z⟩, fun z => z.elim (fun z => z.2) fun z => absurd e z.1⟩
  · rw [if_neg e, List.mem_filter, decide_eq_true_iff]
    exact ⟨fun z => .inr ⟨e, z⟩, fun z => z.elim (fun z => absurd z.1 e) fun z => z.2⟩
theorem ds_narrow {rows : Rows} {p : Nat} {t : Int} {D : List Int} (hp : p < rows.length) (ht : t ∈ row rows p) : Ds (narrow rows p t) D ↔ Ds rows D ∧ D[p]? = some t := by
  constructor
  · intro d
    have ln : D.length = rows.length := by rw [d.len, narrow_len]
    have hpt : D[p]? = some t := by
      obtain ⟨s, e, hs⟩ := d.get (p := p) (by rw [narrow_len]; exact hp)
      rcases (mem_narrow hp).mp hs with a | a
      · rw [e, a.2]
      · exact absurd rfl a.1
    refine ⟨⟨ln, fun x s e => ?_, d.nd⟩, hpt⟩
    have hx : x < rows.length := by
      have := (List.getElem?_eq_some_iff.mp e).1
      omega
    rcases (mem_narrow hx).mp (d.tie x s e) with a | a
    · rw [a.1, a.2]; exact ht
    · exact a.2.1
  · rintro ⟨d, hpt⟩
    refine ⟨by rw [narrow_len]; exact d.len, fun x s e => ?_, d.nd⟩
    have hx : x < rows.length := by
      have := (List.getElem?_eq_some_iff.mp e).1
      rw [d.len] at this
      exact this
    refine (mem_narrow hx).mpr ?_
    by_cases z : x = p
    · rw [z, hpt] at e
      exact .inl ⟨z, (Option.some.inj e).symm⟩
    · exact .inr ⟨z, d.tie x s e, fun y => z (nodup_get d.nd (by rw [y] at e; exact e) hpt)⟩
def Live (rows : Rows) (p : Nat) (t : Int) : Prop := ∃ D, Ds rows D ∧ D[p]? = some t
/-- the rows without the ties that are in no dealing -/
noncomputable def liveR (rows : Rows) : Rows := rows.mapIdx fun p r => r.filter (fun t => decide (Live rows p t))
theorem liveR_len {rows : Rows} : (liveR rows).length = rows.length := List.length_mapIdx
theorem row_liveR {rows : Rows} {p : Nat} : row (liveR rows) p = (row rows p).filter (fun t => decide (Live rows p t)) := by
  unfold row liveR
  rw [List.getElem?_mapIdx]
  cases rows[p]? with
  | none => rfl
  | some r => rfl
theorem mem_liveR {rows : Rows} {p : Nat} {t : Int} : t ∈ row (liveR rows) p ↔ Live rows p t := by
  rw [row_liveR, List.mem_filter, decide_eq_true_iff]
  exact ⟨fun h => h.2, fun h => ⟨by obtain ⟨D, d, e⟩ := h; exact d.tie p t e, h⟩⟩
theorem ds_liveR {rows : Rows} {D : List Int} : Ds (liveR rows) D ↔ Ds rows D := by
  constructor
  · intro d
    refine ⟨by rw [d.len, liveR_len], fun p t e => ?_, d.nd⟩
    obtain ⟨D', d', e'⟩ := mem_liveR.mp (d.tie p t e)
    exact d'.tie p t e'
  · intro d
    exact ⟨by rw [liveR_len]; exact d.len, fun p t e => mem_liveR.mpr ⟨D, d, e⟩, d.nd⟩
end Mt
set_option maxRecDepth 100000
set_option maxHeartbeats 2000000
namespace Fo
open PySem PySem.Spec PyProof.Rows L2
abbrev nV (q : Nat) : V := .int (q : Int)
def DR (H : Hp) (a : Addr) (f : Int → Option Nat) : Prop := ∃ kvs : List (Key × V), H a = some (.dK kvs) ∧ (∀ t : Int, valV kvs (.inl t) = (f t).map nV) ∧ (kvs.map (·.1)).Nodup ∧ ∀ k ∈ kvs.map (·.1), ∃ t : Int, k = .inl t ∧ f t ≠ none
theorem DR.new {H : Hp} {p : Addr} : DR (upd H p (.dK [])) p (fun _ => none) := ⟨[], upd_same, fun _ => rfl, List.nodup_nil, fun _ h => (by cases h)⟩
theorem keys_put {kvs : List (Key × V)} {k : Key} {v : V} : ∀ j ∈ (putK kvs k v).map (·.1), j = k ∨ j ∈ kvs.map (·.1) := by
  intro j hj
  unfold putK at hj
  by_cases c : (kvs.any fun kv => decide (kv.1 = k)) = true
  · rw [if_pos c, List.map_map] at hj
    right
    obtain ⟨kv, h1, h2⟩ := List.mem_map.mp hj
    refine List.mem_map.mpr ⟨kv, h1, ?_⟩
    rw [← h2]
    show kv.1 = (if kv.1 = k then (kv.1, v) else kv).1
    by_cases z : kv.1 = k
    · rw [if_pos z]
    · rw [if_neg z]
  · rw [if_neg c, List.map_append] at hj
    rcases List.mem_append.mp hj with h | h
    · exact .inr h
    · exact .inl (by simpa using h)
theorem nodup_put {kvs : List (Key × V)} {k : Key} {v : V} (h : (kvs.map (·.1)).Nodup) : ((putK kvs k v).map (·.1)).Nodup := by
  unfold putK
  by_cases c : (kvs.any fun kv => decide (kv.1 = k)) = true
  · rw [if_pos c, List.map_map]
    have e : kvs.map ((·.1) ∘ fun kv => if kv.1 = k then (kv.1, v) else kv) = kvs.map (·.1) := List.map_congr_left fun kv _ => by
      show (if kv.1 = k then (kv.1, v) else kv).1 = kv.1
      by_cases z : kv.1 = k
      · rw [if_pos z]
      · rw [if_neg z]
    rw [e]
    exact h
  · rw [if_neg c, List.map_append]
    refine List.nodup_append.mpr ⟨h, List.nodup_cons.mpr ⟨fun z => (by cases z), List.nodup_nil⟩, fun x hx y hy => ?_⟩
    have ey : y = k := by simpa using hy
    rw [ey]
    intro z
    apply c
    rw [List.any_eq_true]
    obtain ⟨kv, h1, h2⟩ := List.mem_map.mp hx
    exact ⟨kv, h1, decide_eq_true (by rw [h2, z])⟩
theorem DR.len {H : Hp} {a : Addr} {f : Int → Option Nat} {U : List Int} {kvs : List (Key × V)} (hn : (kvs.map (·.1)).Nodup) (hk : ∀ k ∈ kvs.map (·.1), ∃ t : Int, k = .inl t ∧ f t ≠ none) (hU : ∀ t, f t ≠ none → t ∈ U) : kvs.length ≤ U.length := by
  have := Mt.len_le (l2 := U.map (Sum.inl : Int → Key)) hn fun k hk' => by
    obtain ⟨t, e, h⟩ := hk k hk'
    exact List.mem_map.mpr ⟨t, hU t h, e.symm⟩
  rw [List.length_map, List.length_map] at this
  exact this
theorem DR.get {H : Hp} {a : Addr} {f : Int → Option Nat} (d : DR H a f) (t : Int) : DGet H a (.int t) ((f t).map nV) := by
  obtain ⟨kvs, e, h, _⟩ := d
  rw [← h t]
  exact DGet.k (k := .inl t) e
theorem DR.put {H : Hp} {a : Addr} {f : Int → Option Nat} {U : List Int} (d : DR H a f) (t : Int) (q : Nat) (hU : ∀ t, f t ≠ none → t ∈ U) (hl : U.length ≤ 100000) : ∃ H', DPut H a (.int t) (nV q) H' ∧ DR H' a (Mt.fset f t (some q)) ∧ ∀ b, b ≠ a → H' b = H b := by
  obtain ⟨kvs, e, h, hn, hk⟩ := d
  have ln := DR.len (H := H) (a := a) hn hk hU
  refine ⟨_, DPut.k (k := .inl t) e (small_lt (by omega)), ⟨_, upd_same, fun s => ?_, nodup_put hn, fun k hk' => ?_⟩, fun b hb => upd_ne hb⟩
  · rw [valV_put]
    by_cases z : s = t
    · rw [if_pos (by rw [z]), z, Mt.fset_same]
      rfl
    · rw [if_neg (fun y => z (by injection y)), Mt.fset_ne z]
      exact h s
  · rcases keys_put k hk' with z | z
    · exact ⟨t, z, by rw [Mt.fset_same]; exact fun y => nomatch y⟩
    · obtain ⟨s, e1, e2⟩ := hk k z
      refine ⟨s, e1, ?_⟩
      by_cases y : s = t
      · rw [y, Mt.fset_same]; exact fun y => nomatch y
      · rw [Mt.fset_ne y]; exact e2
/-- all but two places are kept -/
def Keep2 (a b : Addr) (H H' : Hp) : Prop := ∀ c o, c ≠ a → c ≠ b → H c = some o → H' c = some o
theorem Keep2.refl {a b : Addr} {H : Hp} : Keep2 a b H H := fun _ _ _ _ h => h
theorem Keep2.trans {a b : Addr} {H H1 H2 : Hp} (x : Keep2 a b H H1) (y : Keep2 a b H1 H2) : Keep2 a b H H2 := fun c o h1 h2 e => y c o h1 h2 (x c o h1 h2 e)
theorem Keep2.same {a b : Addr} {H H' : Hp} (s : Same H H') : Keep2 a b H H' := fun c o _ _ e => s c o e
/-- who holds what, as a list -/
abbrev oI : Option Int → V
  | none => .non
  | some t => .int t
end Fo
set_option maxRecDepth 100000
set_option maxHeartbeats 4000000
set_option maxRecDepth 100000
set_option maxHeartbeats 1000000
namespace Mt
open Classical
theorem Reach.trans {rows : Rows} {o : Int → Option Nat} {a b c : Nat} (x : Reach rows o a b) (y : Reach rows o b c) : Reach rows o a c := by
  induction y with
  | refl => exact x
  | step _ h1 h2 ih => exact .step ih h1 h2
end Mt
set_option maxRecDepth 100000
set_option maxHeartbeats 1000000
namespace Mt
open Classical
structure Least (rows : Rows) (E : List Int) : Prop where
  ds : Ds rows E
  le : ∀ (D : List Int), Ds rows D → ∀ q : Nat, (∀ j : Nat, j < q → D[j]? = E[j]?) → ∀ x y : Int, E[q]? = some x → D[q]? = some y → x ≤ y
theorem Least.one {rows : Rows} {A B : List Int} (a : Least rows A) (b : Least rows B) : A = B := by
  have h : ∀ q : Nat, ∀ j : Nat, j < q → A[j]? = B[j]? := by
    intro q
    induction q with
    | zero => exact fun j hj => absurd hj (Nat.not_lt_zero _)
    | succ q ih =>
      intro j hj
      by_cases e : j = q
      · subst e
        by_cases hn : j < rows.length
        · obtain ⟨x, hx, _⟩ := a.ds.get hn
          obtain ⟨y, hy, _⟩ := b.ds.get hn
          have h1 := a.le B b.ds j (fun i hi => (ih i hi).symm) x y hx hy
          have h2 := b.le A a.ds j ih y x hy hx
          rw [hx, hy]
          congr 1
          omega
        · rw [List.getElem?_eq_none (by rw [a.ds.len]; omega), List.getElem?_eq_none (by rw [b.ds.len]; omega)]
      · exact ih j (by omega)
  exact List.ext_getElem? fun j => h (j + 1) j (Nat.lt_succ_self j)
/-- behind the choices of the first i people -/
structure Gree (rows : Rows) (i : Nat) (L : Rows) : Prop where
  len : L.length = rows.length
  ex : ∃ D, Ds L D
  live : ∀ p, ∀ t ∈ row L p, Live L p t
  sub : ∀ D, Ds L D → Ds rows D
  asc : ∀ p, (row L p).Pairwise (· < ·)
  one : ∀ q, q < i → q < rows.length → ∃ e, row L q = [e]
  cmp : ∀ D, Ds rows D → (∀ q, q < i → ∀ e, row L q = [e] → D[q]? = some e) → Ds L D
  min : ∀ q, q < i → ∀ e, row L q = [e] → ∀ D, Ds rows D → (∀ j, j < q → ∀ f, row L j = [f] → D[j]? = some f) → ∀ y, D[q]? = some y → e ≤ y
theorem pair_filter {r : List Int} {f : Int → Bool} (h : r.Pairwise (· < ·)) : (r.filter f).Pairwise (· < ·) := List.Pairwise.filter _ h
theorem Gree.init {rows : Rows} (asc : ∀ p, (row rows p).Pairwise (· < ·)) (ex : ∃ D, Ds rows D) : Gree rows 0 (liveR rows) where
  len := liveR_len
  ex := by obtain ⟨D, d⟩ := ex; exact ⟨D, ds_liveR.mpr d⟩
  live := fun p t h => by
    obtain ⟨D, d, e⟩ := mem_liveR.mp h
    exact ⟨D, ds_liveR.mpr d, e⟩
  sub := fun D d => ds_liveR.mp d
  asc := fun p => by rw [row_liveR]; exact pair_filter (asc p)
  one := fun q h => absurd h (Nat.not_lt_zero _)
  cmp := fun D d _ => ds_liveR.mpr d
  min := fun q h => absurd h (Nat.not_lt_zero _)
theorem single_live {L : Rows} {q : Nat} {e : Int} {D : List Int} (h : row L q = [e]) (d : Ds L D) (hq : q < L.length) : D[q]? = some e := by
  obtain ⟨t, ht, hm⟩ := d.get hq
  rw [h] at hm
  rw [ht, List.mem_singleton.mp hm]
theorem first_le {r : List Int} {t y : Int} {l : List Int} (h : r.Pairwise (· < ·)) (e : r = t :: l) (hy : y ∈ r) : t ≤ y := by
  rw [e] at h hy
  rcases List.mem_cons.mp hy with z | z
  · omega
  · have := (List.pairwise_cons.mp h).1 y z
    omega
/-- the person has one thing alone: nothing to choose -/
theorem Gree.stay {rows L : Rows} {i : Nat} {t : Int} (g : Gree rows i L) (hi : i < rows.length) (h : row L i = [t]) : Gree rows (i + 1) L where
  len := g.len
  ex := g.ex
  live := g.live
  sub := g.sub
  asc := g.asc
  one := fun q hq hn => by
    by_cases e : q = i
    · rw [e]; exact ⟨t, h⟩
    · exact g.one q (by omega) hn
  cmp := fun D d hD => g.cmp D d fun q hq e he => hD q (by omega) e he
  min := fun q hq e he D d hD y hy => by
    by_cases z : q = i
    · subst z
      have dl := g.cmp D d fun j hj f hf => hD j hj f hf
      have := single_live he dl (by rw [g.len]; exact hi)
      rw [this] at hy
      cases hy
      exact Int.le_refl _
    · exact g.min q (by omega) e he D d hD y hy
/-- the person takes the first thing -/
theorem Gree.take {rows L : Rows} {i : Nat} {t : Int} {l : List Int} (g : Gree rows i L) (hi : i < rows.length) (h : row L i = t :: l) : Gree rows (i + 1) (liveR (narrow L i t)) := by
  have hiL : i < L.length := by rw [g.len]; exact hi
  have ht : t ∈ row L i := by rw [h]; exact List.mem_cons_self
  have ex2 : ∃ D, Ds (narrow L i t) D := by
    obtain ⟨D, d, e⟩ := g.live i t ht
    exact ⟨D, (ds_narrow hiL ht).mpr ⟨d, e⟩⟩
  have len2 : (liveR (narrow L i t)).length = rows.length := by rw [liveR_len, narrow_len, g.len]
  have dsn : ∀ D, Ds (liveR (narrow L i t)) D ↔ Ds L D ∧ D[i]? = some t := fun D => ds_liveR.trans (ds_narrow hiL ht)
  have rown : ∀ p, p < rows.length → ∀ s, s ∈ row (liveR (narrow L i t)) p ↔ ∃ D, Ds L D ∧ D[i]? = some t ∧ D[p]? = some s := fun p hp s => by
    rw [mem_liveR]
    constructor
    · rintro ⟨D, d, e⟩
      obtain ⟨a, b⟩ := (ds_narrow hiL ht).mp d
      exact ⟨D, a, b, e⟩
    · rintro ⟨D, a, b, e⟩
      exact ⟨D, (ds_narrow hiL ht).mpr ⟨a, b⟩, e⟩
  have asc2 : ∀ p, (row (liveR (narrow L i t)) p).Pairwise (· < ·) := fun p => by
    rw [row_liveR]
    refine pair_filter ?_
    by_cases hp : p < L.length
    · rw [row_narrow hp]
      by_cases e : p = i
      · rw [if_pos e]; exact List.pairwise_singleton _ _
      · rw [if_neg e]; exact pair_filter (g.asc p)
    · have : row (narrow L i t) p = [] := by
        unfold row
        rw [narrow_get, List.getElem?_eq_none (by omega)]
        rfl
      rw [this]
      exact .nil
  have one_of : ∀ p, p < rows.length → ∀ e, (∀ D, Ds L D → D[i]? = some t → D[p]? = some e) → row (liveR (narrow L i t)) p = [e] := fun p hp e he => by
    have all : ∀ s ∈ row (liveR (narrow L i t)) p, s = e := fun s hs => by
      obtain ⟨D, a, b, c⟩ := (rown p hp s).mp hs
      have := he D a b
      rw [c] at this
      exact Option.some.inj this
    have mem : e ∈ row (liveR (narrow L i t)) p := by
      obtain ⟨D, d, b⟩ := g.live i t ht
      exact (rown p hp e).mpr ⟨D, d, b, he D d b⟩
    have as := asc2 p
    cases hr : row (liveR (narrow L i t)) p with
    | nil => rw [hr] at mem; cases mem
    | cons a r =>
      rw [hr] at all as
      have ea := all a List.mem_cons_self
      cases r with
      | nil => rw [ea]
      | cons b r =>
        have eb := all b (List.mem_cons_of_mem _ List.mem_cons_self)
        have := (List.pairwise_cons.mp as).1 b List.mem_cons_self
        omega
  have old : ∀ q, q < i → q < rows.length → ∀ e, row L q = [e] → row (liveR (narrow L i t)) q = [e] := fun q hq hn e he =>
    one_of q hn e fun D d _ => single_live he d (by rw [g.len]; exact hn)
  have new : row (liveR (narrow L i t)) i = [t] := one_of i hi t fun D _ b => b
  refine ⟨len2, ?_, fun p s hs => ?_, fun D d => g.sub D ((dsn D).mp d).1, asc2, fun q hq hn => ?_, fun D d hD => ?_, fun q hq e he D d hD y hy => ?_⟩
  · obtain ⟨D, d⟩ := ex2
    exact ⟨D, ds_liveR.mpr d⟩
  · obtain ⟨D, d, e⟩ := mem_liveR.mp hs
    exact ⟨D, ds_liveR.mpr d, e⟩
  · by_cases z : q = i
    · rw [z]; exact ⟨t, new⟩
    · obtain ⟨e, he⟩ := g.one q (by omega) hn
      exact ⟨e, old q (by omega) hn e he⟩
  · refine (dsn D).mpr ⟨g.cmp D d fun q hq e he => hD q (by omega) e ?_, hD i (Nat.lt_succ_self i) t new⟩
    have hn : q < rows.length := by omega
    exact old q hq hn e he
  · have hn : q < rows.length := by omega
    have back : ∀ j, j < i → j < rows.length → ∀ f, row L j = [f] → row (liveR (narrow L i t)) j = [f] := old
    by_cases z : q = i
    · subst z
      rw [new] at he
      cases he
      have dl := g.cmp D d fun j hj f hf => hD j hj f (old j hj (by omega) f hf)
      obtain ⟨y', e1, m1⟩ := dl.get hiL
      rw [hy] at e1
      cases e1
      exact first_le (g.asc q) h m1
    · have hq2 : q < i := by omega
      obtain ⟨f, hf⟩ := g.one q hq2 hn
      have := old q hq2 hn f hf
      rw [this] at he
      cases he
      exact g.min q hq2 e hf D d (fun j hj f hf => hD j hj f (old j (by omega) (by omega) f hf)) y hy
theorem Gree.done {rows L : Rows} (g : Gree rows rows.length L) : Least rows (L.map fun r => r.headD 0) := by
  obtain ⟨D, d⟩ := g.ex
  have get : ∀ q, q < rows.length → ∃ e, row L q = [e] ∧ D[q]? = some e ∧ (L.map fun r => r.headD 0)[q]? = some e := fun q hq => by
    obtain ⟨e, he⟩ := g.one q hq hq
    refine ⟨e, he, single_live he d (by rw [g.len]; exact hq), ?_⟩
    have hqL : q < L.length := by rw [g.len]; exact hq
    rw [List.getElem?_map, List.getElem?_eq_getElem hqL]
    have : row L q = L[q] := row_get (List.getElem?_eq_getElem hqL)
    rw [this] at he
    show some (L[q].headD 0) = some e
    rw [he]
    rfl
  have e : (L.map fun r => r.headD 0) = D := by
    refine List.ext_getElem? fun q => ?_
    by_cases hq : q < rows.length
    · obtain ⟨e, _, h1, h2⟩ := get q hq
      rw [h1, h2]
    · rw [List.getElem?_eq_none (by rw [List.length_map, g.len]; omega), List.getElem?_eq_none (by rw [d.len, g.len]; omega)]
  rw [e]
  refine ⟨g.sub D d, fun D2 d2 q hj x y hx hy => ?_⟩
  have hq : q < rows.length := by
    have := (List.getElem?_eq_some_iff.mp hx).1
    rw [d.len, g.len] at this
    exact this
  obtain ⟨e, he, h1, _⟩ := get q hq
  rw [hx] at h1
  cases h1
  refine g.min q hq x he D2 d2 (fun j hjq f hf => ?_) y hy
  rw [hj j hjq]
  obtain ⟨f', hf', h3, _⟩ := get j (by omega)
  rw [hf] at hf'
  cases hf'
  exact h3
def ext (found : List (List Int)) (r : List Int) : List (List Int) := found.flatMap fun d => (r.filter fun t => decide (t ∉ d)).map fun t => d ++ [t]
end Mt
namespace Mt
structure Hap where
  ppl : List Nat
  place : Nat
  most : Nat
deriving DecidableEq
/-- how many of a heap are used in a state -/
def dg (s : Nat) (h : Hap) : Nat := s / h.place % (h.most + 1)
theorem up_mod {q m : Nat} (h : q % (m + 1) < m) : (q + 1) % (m + 1) = q % (m + 1) + 1 ∧ (q + 1) / (m + 1) = q / (m + 1) := by
  have e := Nat.div_add_mod q (m + 1)
  have hl : q % (m + 1) + 1 < m + 1 := by omega
  have e2 : q + 1 = (m + 1) * (q / (m + 1)) + (q % (m + 1) + 1) := by omega
  constructor
  · rw [e2, Nat.mul_add_mod, Nat.mod_eq_of_lt hl]
  · rw [e2, Nat.mul_add_div (Nat.succ_pos _), Nat.div_eq_of_lt hl, Nat.add_zero]
theorem dg_up {s : Nat} {a : Hap} (hp : 0 < a.place) (h : dg s a < a.most) : dg (s + a.place) a = dg s a + 1 := by
  unfold dg at h ⊢
  rw [Nat.add_div_right _ hp]
  exact (up_mod h).1
theorem dg_low {s : Nat} {a b : Hap} (hp : 0 < a.place) (h : a.place * (a.most + 1) ∣ b.place) : dg (s + b.place) a = dg s a := by
  obtain ⟨c, e⟩ := h
  unfold dg
  rw [e, Nat.mul_assoc, Nat.add_mul_div_left _ _ hp, Nat.add_mul_mod_self_left]
theorem dg_high {s : Nat} {a b : Hap} (hp : 0 < a.place) (h : a.place * (a.most + 1) ∣ b.place) (hl : dg s a < a.most) : dg (s + a.place) b = dg s b := by
  obtain ⟨c, e⟩ := h
  unfold dg at hl ⊢
  rw [e, ← Nat.div_div_eq_div_mul, ← Nat.div_div_eq_div_mul, ← Nat.div_div_eq_div_mul, ← Nat.div_div_eq_div_mul, Nat.add_div_right _ hp, (up_mod hl).2]
def pplOf (R : Rows) (t : Int) : List Nat := (List.range R.length).filter fun p => decide (t ∈ row R p)
/-- things in heaps -/
structure Heaped (R : Rows) (T : List Int) (hs : List Hap) : Prop where
  rnd : ∀ p, (row R p).Nodup
  nd : T.Nodup
  sub : ∀ p, ∀ t ∈ row R p, t ∈ T
  len : T.length = R.length
  knd : (hs.map Hap.ppl).Nodup
  key : ∀ t ∈ T, ∃ h ∈ hs, h.ppl = pplOf R t
  most : ∀ h ∈ hs, h.most = (T.filter fun t => decide (pplOf R t = h.ppl)).length
  pos : ∀ h ∈ hs, 0 < h.place
  pair : hs.Pairwise fun a b => a.place * (a.most + 1) ∣ b.place
def usedN (R : Rows) (T : List Int) (k : List Nat) (S : List Int) : Nat := (T.filter fun t => decide (pplOf R t = k ∧ t ∈ S)).length
def Enc (R : Rows) (T : List Int) (hs : List Hap) (s : Nat) (S : List Int) : Prop := ∀ h ∈ hs, dg s h = usedN R T h.ppl S
theorem filt_split {α : Type} (p q : α → Bool) : ∀ l : List α, (l.filter p).length = (l.filter fun x => p x && q x).length + (l.filter fun x => p x && !q x).length
  | [] => rfl
  | x :: l => by
    have ih := filt_split p q l
    cases hp : p x <;> cases hq : q x <;> simp [List.filter_cons, hp, hq] <;> omega
theorem used_left {R : Rows} {T : List Int} {k : List Nat} {S : List Int} : (T.filter fun t => decide (pplOf R t = k)).length = usedN R T k S + (T.filter fun t => decide (pplOf R t = k ∧ t ∉ S)).length := by
  rw [filt_split _ (fun t => decide (t ∈ S))]
  unfold usedN
  congr 1
  · congr 1
    refine List.filter_congr fun t _ => ?_
    rw [Bool.eq_iff_iff]
    simp
  · congr 1
    refine List.filter_congr fun t _ => ?_
    rw [Bool.eq_iff_iff]
    simp
theorem used_same {R : Rows} {T : List Int} {k : List Nat} {S : List Int} {t : Int} (h : pplOf R t ≠ k) : usedN R T k (t :: S) = usedN R T k S := by
  unfold usedN
  congr 1
  refine List.filter_congr fun u _ => decide_eq_decide.mpr ⟨fun ⟨a, b⟩ => ⟨a, (List.mem_cons.mp b).elim (fun e => absurd (e ▸ a) h) id⟩, fun ⟨a, b⟩ => ⟨a, List.mem_cons_of_mem _ b⟩⟩
theorem left_one {R : Rows} {S : List Int} {t : Int} (hS : t ∉ S) : ∀ {T : List Int}, T.Nodup → t ∈ T → (T.filter fun u => decide (pplOf R u = pplOf R t ∧ u ∈ t :: S)).length = (T.filter fun u => decide (pplOf R u = pplOf R t ∧ u ∈ S)).length + 1
  | [], _, h => by cases h
  | x :: T, nd, h => by
    have hx := List.nodup_cons.mp nd
    by_cases e : x = t
    · subst e
      have same : (T.filter fun u => decide (pplOf R u = pplOf R x ∧ u ∈ x :: S)) = T.filter fun u => decide (pplOf R u = pplOf R x ∧ u ∈ S) := List.filter_congr fun u hu => decide_eq_decide.mpr ⟨fun ⟨a, b⟩ => ⟨a, (List.mem_cons.mp b).elim (fun e => absurd (e ▸ hu) hx.1) id⟩, fun ⟨a, b⟩ => ⟨a, List.mem_cons_of_mem _ b⟩⟩
      rw [List.filter_cons_of_pos (by simp), List.filter_cons_of_neg (by simp [hS]), same, List.length_cons]
    · have ht : t ∈ T := (List.mem_cons.mp h).elim (fun y => absurd y.symm e) id
      have ih := left_one (R := R) hS hx.2 ht
      by_cases c : pplOf R x = pplOf R t ∧ x ∈ S
      · rw [List.filter_cons_of_pos (by simp [c.1, c.2]), List.filter_cons_of_pos (by simp [c.1, c.2]), List.length_cons, List.length_cons, ih]
      · rw [List.filter_cons_of_neg (by simpa [e] using c), List.filter_cons_of_neg (by simpa using c), ih]
theorem Enc.step {R : Rows} {T : List Int} {hs : List Hap} (W : Heaped R T hs) {s : Nat} {S : List Int} (e : Enc R T hs s S) {t : Int} (ht : t ∈ T) (hS : t ∉ S) {h : Hap} (hh : h ∈ hs) (hk : h.ppl = pplOf R t) : dg s h < h.most ∧ Enc R T hs (s + h.place) (t :: S) := by
  have lt : dg s h < h.most := by
    rw [e h hh, W.most h hh, used_left (S := S)]
    have : 0 < (T.filter fun u => decide (pplOf R u = h.ppl ∧ u ∉ S)).length := List.length_pos_of_mem (List.mem_filter.mpr ⟨ht, decide_eq_true ⟨hk.symm, hS⟩⟩)
    omega
  refine ⟨lt, fun b hb => ?_⟩
  by_cases eb : b = h
  · subst eb
    rw [dg_up (W.pos b hb) lt, e b hb]
    unfold usedN
    rw [hk, left_one hS W.nd ht]
  · have nk : pplOf R t ≠ b.ppl := fun z => eb (by
      have hn := W.knd
      obtain ⟨i, hi⟩ := List.getElem?_of_mem hb
      obtain ⟨j, hj⟩ := List.getElem?_of_mem hh
      have := nodup_get hn (i := i) (j := j) (x := b.ppl) (by rw [List.getElem?_map, hi]; rfl) (by rw [List.getElem?_map, hj]; show some h.ppl = _; rw [hk, z])
      subst this
      rw [hi] at hj
      exact Option.some.inj hj)
    rw [used_same nk, ← e b hb]
    obtain ⟨i, hi⟩ := List.getElem?_of_mem hb
    obtain ⟨j, hj⟩ := List.getElem?_of_mem hh
    obtain ⟨li, ei⟩ := List.getElem?_eq_some_iff.mp hi
    obtain ⟨lj, ej⟩ := List.getElem?_eq_some_iff.mp hj
    have pw := List.pairwise_iff_getElem.mp W.pair
    rcases Nat.lt_trichotomy i j with z | z | z
    · have := pw i j li lj z
      rw [ei, ej] at this
      exact dg_low (W.pos b hb) this
    · subst z
      exact absurd (ei.symm.trans ej) eb
    · have := pw j i lj li z
      rw [ei, ej] at this
      exact dg_high (W.pos h hh) this lt
end Mt
namespace Mt
def Tied (rows : Rows) (p q : Nat) : Prop := ∃ t, t ∈ row rows p ∧ t ∈ row rows q
theorem Tied.symm {rows : Rows} {p q : Nat} (h : Tied rows p q) : Tied rows q p := let ⟨t, a, b⟩ := h; ⟨t, b, a⟩
inductive Conn (rows : Rows) (p : Nat) : Nat → Prop
  | refl : Conn rows p p
  | step {q r : Nat} : Conn rows p q → Tied rows q r → Conn rows p r
theorem Conn.trans {rows : Rows} {p q r : Nat} (a : Conn rows p q) (b : Conn rows q r) : Conn rows p r := by
  induction b with
  | refl => exact a
  | step _ h ih => exact .step ih h
theorem Conn.one {rows : Rows} {p q : Nat} (h : Tied rows p q) : Conn rows p q := .step .refl h
theorem Conn.symm {rows : Rows} {p q : Nat} (a : Conn rows p q) : Conn rows q p := by
  induction a with
  | refl => exact .refl
  | step _ h ih => exact (Conn.one h.symm).trans ih
theorem pair_all {α : Type} {R : α → α → Prop} (sym : ∀ a b, R a b → R b a) : ∀ {l : List α}, l.Pairwise R → ∀ a ∈ l, ∀ b ∈ l, a ≠ b → R a b
  | [], _, a, h, _, _, _ => by cases h
  | x :: l, hp, a, ha, b, hb, ne => by
    have hp' := List.pairwise_cons.mp hp
    rcases List.mem_cons.mp ha with e1 | h1
    · rcases List.mem_cons.mp hb with e2 | h2
      · exact absurd (e1.trans e2.symm) ne
      · rw [e1]
        exact hp'.1 b h2
    · rcases List.mem_cons.mp hb with e2 | h2
      · rw [e2]
        exact sym _ _ (hp'.1 a h1)
      · exact pair_all sym hp'.2 a h1 b h2 ne
theorem flat_split {α : Type} (p : List α → Bool) : ∀ F : List (List α), ((F.filter fun g => !p g).flatten ++ (F.filter p).flatten).Perm F.flatten
  | [] => .refl _
  | g :: F => by
    have ih := flat_split p F
    cases h : p g
    · rw [List.filter_cons_of_pos (by simp [h]), List.filter_cons_of_neg (by simp [h]), List.flatten_cons, List.flatten_cons, List.append_assoc]
      exact ih.append_left g
    · rw [List.filter_cons_of_neg (by simp [h]), List.filter_cons_of_pos (by simp [h]), List.flatten_cons, List.flatten_cons]
      refine (List.perm_append_comm.trans ?_)
      rw [List.append_assoc]
      exact (List.perm_append_comm.trans ih).append_left g
structure Parts (rows : Rows) (i : Nat) (F : List (List Nat)) : Prop where
  perm : F.flatten.Perm (List.range i)
  ne : ∀ g ∈ F, g ≠ []
  apart : F.Pairwise fun a b => ∀ p ∈ a, ∀ q ∈ b, ¬ Tied rows p q
  conn : ∀ g ∈ F, ∀ p ∈ g, ∀ q ∈ g, Conn rows p q
theorem Parts.init {rows : Rows} : Parts rows 0 [] := ⟨.refl _, fun _ h => (by cases h), .nil, fun _ h => (by cases h)⟩
theorem Parts.step {rows : Rows} {i : Nat} {F : List (List Nat)} (h : Parts rows i F) {hit : List Nat → Bool} (hh : ∀ g ∈ F, hit g = true ↔ ∃ p ∈ g, Tied rows i p) : Parts rows (i + 1) ((F.filter fun g => !hit g) ++ [i :: (F.filter hit).flatten]) where
  perm := by
    rw [List.flatten_append, List.flatten_singleton, List.range_succ]
    have e : ((F.filter fun g => !hit g).flatten ++ i :: (F.filter hit).flatten).Perm (((F.filter fun g => !hit g).flatten ++ (F.filter hit).flatten) ++ [i]) := by
      rw [List.append_assoc]
      refine List.Perm.append_left _ ?_
      exact List.perm_append_comm (l₁ := [i]) (l₂ := (F.filter hit).flatten)
    exact e.trans (((flat_split hit F).trans h.perm).append_right [i])
  ne := fun g hg => by
    rcases List.mem_append.mp hg with hg | hg
    · exact h.ne g (List.mem_filter.mp hg).1
    · rw [List.mem_singleton.mp hg]
      exact fun z => by cases z
  apart := by
    refine List.pairwise_append.mpr ⟨h.apart.sublist List.filter_sublist, List.pairwise_singleton _ _, fun a ha b hb p hp q hq => ?_⟩
    rw [List.mem_singleton.mp hb] at hq
    obtain ⟨ha, na⟩ := List.mem_filter.mp ha
    have na' : ¬ hit a = true := by simpa using na
    rcases List.mem_cons.mp hq with rfl | hq
    · exact fun z => na' ((hh a ha).mpr ⟨p, hp, z.symm⟩)
    · obtain ⟨c, hc, hqc⟩ := List.mem_flatten.mp hq
      obtain ⟨hc, hitc⟩ := List.mem_filter.mp hc
      exact pair_all (R := fun a b => ∀ p ∈ a, ∀ q ∈ b, ¬ Tied rows p q) (fun a b h p hp q hq z => h q hq p hp z.symm) h.apart a ha c hc (fun z => na' (z ▸ hitc)) p hp q hqc
  conn := fun g hg => by
    rcases List.mem_append.mp hg with hg | hg
    · exact h.conn g (List.mem_filter.mp hg).1
    · rw [List.mem_singleton.mp hg]
      have from_i : ∀ p ∈ i :: (F.filter hit).flatten, Conn rows i p := fun p hp => by
        rcases List.mem_cons.mp hp with rfl | hp
        · exact .refl
        · obtain ⟨c, hc, hpc⟩ := List.mem_flatten.mp hp
          obtain ⟨hc, hitc⟩ := List.mem_filter.mp hc
          obtain ⟨p0, h0, ht⟩ := (hh c hc).mp hitc
          exact (Conn.one ht).trans (h.conn c hc p0 h0 p hpc)
      exact fun p hp q hq => (from_i p hp).symm.trans (from_i q hq)
/-- ascending lists of the people whom things hang together -/
structure Groups (rows : Rows) (G : List (List Nat)) : Prop where
  asc : ∀ g ∈ G, g.Pairwise (· < ·)
  perm : G.flatten.Perm (List.range rows.length)
  ne : ∀ g ∈ G, g ≠ []
  apart : G.Pairwise fun a b => ∀ p ∈ a, ∀ q ∈ b, ¬ Tied rows p q
  conn : ∀ g ∈ G, ∀ p ∈ g, ∀ q ∈ g, Conn rows p q
theorem Groups.lt {rows : Rows} {G : List (List Nat)} (h : Groups rows G) {g : List Nat} (hg : g ∈ G) {p : Nat} (hp : p ∈ g) : p < rows.length :=
  List.mem_range.mp (h.perm.mem_iff.mp (List.mem_flatten.mpr ⟨g, hg, hp⟩))
theorem Groups.nd {rows : Rows} {G : List (List Nat)} (h : Groups rows G) {g : List Nat} (hg : g ∈ G) : g.Nodup := (h.asc g hg).imp fun {a b} z => Nat.ne_of_lt z
end Mt
namespace Mt
structure Sts (M : Nat) (st : List (Nat × Nat)) : Prop where
  nd : (st.map (·.1)).Nodup
  lt : ∀ s ∈ st.map (·.1), s < M
theorem Sts.len {M : Nat} {st : List (Nat × Nat)} (h : Sts M st) : st.length ≤ M := by
  have := len_le h.nd (l2 := List.range M) fun x hx => List.mem_range.mpr (h.lt x hx)
  rwa [List.length_map, List.length_range] at this
theorem Sts.nil {M : Nat} : Sts M [] := ⟨List.nodup_nil, fun _ h => by cases h⟩
end Mt
set_option maxRecDepth 100000
set_option maxHeartbeats 4000000
set_option maxRecDepth 100000
set_option maxHeartbeats 4000000
set_option maxRecDepth 100000
set_option maxHeartbeats 4000000
namespace Fo
open PySem PySem.Spec PyProof.Rows L2
def rowN (r : List Int) : NestedKey := .tup (r.map .num)
def keyN (R : List (List Int)) : NestedKey := .tup (R.map rowN)
/-- a tuple of tuples of ints, made by the program -/
inductive RowsE (H : Hp) : List V → List (List Int) → Prop
  | nil : RowsE H [] []
  | cons {a : Addr} {vs : List V} {r : List Int} {R : List (List Int)} : H a = some (.tup (r.map V.int)) → RowsE H vs R → RowsE H (.ref a :: vs) (r :: R)
def TupR (H : Hp) (a : Addr) (R : List (List Int)) : Prop := ∃ vs, H a = some (.tup vs) ∧ RowsE H vs R
/-- tuples stay -/
def KeepT (H H' : Hp) : Prop := ∀ a xs, H a = some (.tup xs) → H' a = some (.tup xs)
theorem RowsE.keep {H H' : Hp} (e : KeepT H H') : ∀ {vs : List V} {R : List (List Int)}, RowsE H vs R → RowsE H' vs R
  | _, _, .nil => .nil
  | _, _, .cons h r => .cons (e _ _ h) (r.keep e)
theorem TupR.keep {H H' : Hp} (e : KeepT H H') {a : Addr} {R : List (List Int)} (h : TupR H a R) : TupR H' a R := let ⟨vs, h1, h2⟩ := h; ⟨vs, e _ _ h1, h2.keep e⟩
theorem KeepT.of {H H' : Hp} (e : Same H H') : KeepT H H' := fun a xs h => e _ _ h
section
variable {P : Program} {w : World}
/-- a dict of such keys, by its entries -/
def KnO (P : Program) (w : World) (d : Addr) (xs : List (NestedKey × Addr × Value)) : HO := .ext fun h => ∃ o es ep, h.get? d = some o ∧ o.ExactDict ∧ o.data = .dict es ep ∧ es.toList = xs.map (entryOfKey (nestedKind P w))
/-- counts by tuples of tuples -/
def NK (P : Program) (w : World) (H : Hp) (d : Addr) (kv : List (List (List Int) × Nat)) : Prop := ∃ xs : List (NestedKey × Addr × Value), H d = some (KnO P w d xs) ∧ (d == sysModules) = false ∧ kv.length ≤ sizeLine ∧ (kv.map (·.1)).Nodup ∧
  Paired (fun (p : List (List Int) × Nat) (x : NestedKey × Addr × Value) => x.1 = keyN p.1 ∧ TupR H x.2.1 p.1 ∧ RelV (V.int ((p.2 : Nat) : Int)) x.2.2) kv xs
theorem NK.keep {H H' : Hp} {d : Addr} {kv : List (List (List Int) × Nat)} (h : NK P w H d kv) (e : H' d = H d) (k : KeepT H H') : NK P w H' d kv := by
  obtain ⟨xs, h1, h2, h3, h4, h5⟩ := h
  exact ⟨xs, by rw [e]; exact h1, h2, h3, h4, Paired.mapP h5 fun p x z => ⟨z.1, z.2.1.keep k, z.2.2⟩⟩
theorem NK.same {H H' : Hp} {d : Addr} {kv : List (List (List Int) × Nat)} (h : NK P w H d kv) (e : Same H H') : NK P w H' d kv := by
  obtain ⟨xs, h1, h2, h3, h4, h5⟩ := h
  exact ⟨xs, e _ _ h1, h2, h3, h4, Paired.mapP h5 fun p x z => ⟨z.1, z.2.1.keep (.of e), z.2.2⟩⟩
end
end Fo
set_option maxRecDepth 100000
set_option maxHeartbeats 2000000
namespace L2
open PySem PySem.Spec PyProof.Rows
end L2
set_option maxRecDepth 100000
set_option maxHeartbeats 4000000
namespace Fo
open PySem PySem.Spec PyProof.Rows L2 LamX NdefX
theorem rd_ext {H H' : Hp} {a : Addr} {xs : List V} (e : ExtN H H') (h : Rd H a (.lst xs)) : Rd H' a (.lst xs) := by
  rcases h with h | ⟨o, h⟩
  · exact .inl (e _ _ h fun ps z => by cases z)
  · exact .inr ⟨o, e _ _ h fun ps z => by cases z⟩
theorem sqL_ext {K : PySem.W.Frag} {H H' : Hp} {a : Addr} {xs : List V} (e : ExtN H H') (h : SqL K H a xs) : SqL K H' a xs := by
  rcases h with h | h
  · exact .inl (rd_ext e h)
  · exact .inr h
theorem argBest_lt (bt : Nat → Nat → Bool) : ∀ n, argBest bt n ≤ n
  | 0 => Nat.le_refl _
  | n + 1 => by
    have := argBest_lt bt n
    unfold argBest
    split
    · exact Nat.le_refl _
    · omega
end Fo
set_option maxRecDepth 100000
set_option maxHeartbeats 4000000
set_option maxRecDepth 100000
set_option maxHeartbeats 4000000
namespace Fo
open PySem PySem.Spec PyProof.Rows L2 LamX
structure FunC (K : PySem.W.Frag) (x qual : Str) (st : Stmt) (f : Addr) (fd : FuncData) (c : Addr) : Prop where
  ex : ∃ (oc : Value) (od : Option Addr) (kV doc pm : Value) (an : Option Addr) (ct : Value) (osl : Array (Option Value)),
    fd = PySem.W.fnOf x qual (defArgs st) (defBody st) (defScope st) .none kV doc pm an (.ref c) ct ∧ K.lookup f = some ⟨oc, od, .func fd, osl⟩ ∧ PySem.W.codeIn K (.ref c) qual = true
  kp : PySem.W.keepIn K (.ref f) = true
structure AtC (K : PySem.W.Frag) (mg : Str → Option Value) (x : Str) (st : Stmt) (ps : List Str) (c : Addr) : Prop where
  ex : ∃ f fd, mg x = some (.ref f) ∧ FunC K x x st f fd c ∧ Binds K fd ps []
theorem AtC.of {K : PySem.W.Frag} {mg : Str → Option Value} {x : Str} {st : Stmt} {ps : List Str} {h : Heap} {c P : Addr} (A : At K mg x st ps) (X : K.In h) (G : h.Ns mainGlobals mg) (ht : PySem.W.tabIn K x = some (c, P)) : AtC K mg x st ps c := by
  obtain ⟨f, fd, hm, F, b⟩ := A.ex
  obtain ⟨oc, od, kV, doc, pm, an, cdv, ct, osl, rfl, lk, hcd⟩ := id F.ex
  have e := PySem.W.law_code X G ht hm (X _ _ lk) rfl
  have e' : cdv = .ref c := e
  subst e'
  exact ⟨f, _, hm, ⟨⟨oc, od, kV, doc, pm, an, ct, osl, rfl, lk, hcd⟩, F.kp⟩, b⟩
section
variable {P : Program} {w : World} {K : PySem.W.Frag} {mg : Str → Option Value} {base : Heap}
theorem AtC.ok {x : Str} {st : Stmt} {N ps : List Str} {k : Nat} {sp : Sp} {c : Addr} (a : AtC K mg x st ps c) (S : FnScope N ps (defScope st)) (len : ∀ vs H Q E, sp vs H Q E → vs.length = ps.length)
    (hbody : ∀ (f : Addr) (A : Around) (outer : List Env) (s : Shared) (H : Hp) (vs : List V) (Q : VK) (E : XK), Room k (A.deeper (envOfC x (defScope st) s.heap.objs.size f (.ref c))) → sp vs H Q E →
      ∃ t, PSs (cxOf CX0 P w K mg base N x (defScope st) f (.ref c) A outer s H E).nox (defBody st) t ∧ t { nx := fun _ H' => Q .non H', rt := Q } (start N vs) H) : Dfn P w K mg base x ps (k + 1) sp := by
  obtain ⟨f, fd, hm, F, b⟩ := a.ex
  obtain ⟨oc, od, kV, doc, pm, an, ct, osl, rfl, lk, hcd⟩ := F.ex
  exact ⟨f, _, hm, F.kp, fn_of lk hcd S len fun A outer s H vs Q E hr hsp => (by
    obtain ⟨t, h, q⟩ := hbody f A outer s H vs Q E hr hsp
    exact ⟨t, h.nox, q⟩), b⟩
end
/-- nothing but a table stands at p -/
def Fz (H : Hp) (p : Addr) : Prop := ∀ o, H p = some o → ∃ ps, o = .tbl ps
theorem Fz.of {H : Hp} {p : Addr} (h : H p = none) : Fz H p := fun o e => by rw [h] at e; cases e
theorem _root_.LamX.ExtN.fz {H H' : Hp} (e : ExtN H H') {p : Addr} (h : Fz H' p) : Fz H p := fun o ho => by
  by_cases q : ∃ ps, o = .tbl ps
  · exact q
  · exact h o (e p o ho fun ps z => q ⟨ps, z⟩)
theorem _root_.LamX.ExtN.free {H H' : Hp} (e : ExtN H H') {p : Addr} (h : H' p = none) : Fz H p := e.fz (Fz.of h)
theorem _root_.LamX.ExtN.same {H H' : Hp} (e : Same H H') : ExtN H H' := fun b o h _ => e b o h
theorem _root_.LamX.ExtN.mut {H H' : Hp} {p : Addr} {o : HO} (e : ExtN H H') (h : Fz H p) : ExtN H (upd H' p o) := fun b u hb n => by
  have ne : b ≠ p := fun z => by
    obtain ⟨ps, q⟩ := h u (z ▸ hb)
    exact n ps q
  rw [upd_ne ne]
  exact e b u hb n
theorem Fz.ne {H : Hp} {p b : Addr} {o : HO} (h : Fz H p) (e : H b = some o) (n : ∀ ps, o ≠ .tbl ps) : b ≠ p := fun z => by
  obtain ⟨ps, q⟩ := h o (z ▸ e)
  exact n ps q
theorem sqT_ext {K : PySem.W.Frag} {H H' : Hp} {a : Addr} {xs : List V} (e : ExtN H H') (h : SqT K H a xs) : SqT K H' a xs := by
  rcases h with (h | ⟨o, h⟩) | h
  · exact .inl (.inl (e _ _ h fun ps z => by cases z))
  · exact .inl (.inr ⟨o, e _ _ h fun ps z => by cases z⟩)
  · exact .inr h
theorem Sq.ext {b : Bool} {K : PySem.W.Frag} {H H' : Hp} {a : Addr} {xs : List V} (h : Sq b K H a xs) (e : ExtN H H') : Sq b K H' a xs := by
  cases b with
  | true => exact sqL_ext e h
  | false => exact sqT_ext e h
theorem RowsT.ext {K : PySem.W.Frag} {H H' : Hp} (g : ExtN H H') : ∀ {vs : List V} {rs : List (List Int)}, RowsT K H vs rs → RowsT K H' vs rs
  | _, _, .nil => .nil
  | _, _, .cons h r => .cons (sqT_ext g h) (r.ext g)
theorem RowsB.ext {b : Bool} {K : PySem.W.Frag} {H H' : Hp} (g : ExtN H H') : ∀ {vs : List V} {rs : List (List Int)}, RowsB b K H vs rs → RowsB b K H' vs rs
  | _, _, .nil => .nil
  | _, _, .cons h r => .cons (h.ext g) (r.ext g)
theorem RowsQ.ext {b : Bool} {K : PySem.W.Frag} {H H' : Hp} {v : V} {rows : List (List Int)} (h : RowsQ b K H v rows) (g : ExtN H H') : RowsQ b K H' v rows := by
  obtain ⟨a, vs, e, h1, h2⟩ := h
  exact ⟨a, vs, e, h1.ext g, h2.ext g⟩
theorem RowsAt.ext {K : PySem.W.Frag} {H H' : Hp} {v : V} {rows : List (List Int)} (h : RowsAt K H v rows) (g : ExtN H H') : RowsAt K H' v rows := by
  obtain ⟨a, vs, e, h1, h2⟩ := h
  exact ⟨a, vs, e, sqT_ext g h1, h2.ext g⟩
theorem TableAt.ext {K : PySem.W.Frag} {C : Addr} {H H' : Hp} {x : V} {rows : List (List Int)} (h : TableAt K C H x rows) (g : ExtN H H') : TableAt K C H' x rows := by
  obtain ⟨p, dx, v, e, h1, h2⟩ := h
  exact ⟨p, dx, v, e, g _ _ h1 (fun ps z => by cases z), h2.ext g⟩
theorem Tape.ext {H H' : Hp} {t l : Addr} (T : Tape H t l) (g : ExtN H H') : Tape H' t l := by
  obtain ⟨ns, b, c, d, e, h, hl, hb⟩ := T
  exact ⟨ns, b, c, d, e, g _ _ h (fun ps z => by cases z), g _ _ hl (fun ps z => by cases z), hb⟩
theorem KeepT.ext {H H' : Hp} (e : ExtN H H') : KeepT H H' := fun a xs h => e _ _ h fun ps z => by cases z
theorem NK.ext {P : Program} {w : World} {H H' : Hp} {d : Addr} {kv : List (List (List Int) × Nat)} (h : NK P w H d kv) (e : ExtN H H') : NK P w H' d kv := by
  obtain ⟨xs, h1, r⟩ := id h
  exact h.keep ((e _ _ h1 fun ps z => by unfold KnO at z; cases z).trans h1.symm) (KeepT.ext e)
theorem _root_.LamX.TabS.same {H H' : Hp} {P : Addr} {q : Str} (t : TabS H P q) (e : Same H H') : TabS H' P q := t.ext e
theorem _root_.LamX.TabS.put {H : Hp} {P p : Addr} {q : Str} {o u : HO} (t : TabS H P q) (h : H p = some u) (n1 : ∀ ps, u ≠ .tbl ps) (n2 : ∀ c q, u ≠ CodeO c q) : TabS (upd H p o) P q := by
  obtain ⟨ps, h1, h2, h3⟩ := t
  have ne : P ≠ p := fun z => by rw [z, h] at h1; exact n1 ps (Option.some.inj h1)
  refine ⟨ps, by rw [upd_ne ne]; exact h1, h2, fun pos cv hc => ?_⟩
  obtain ⟨c, e1, e2⟩ := h3 pos cv hc
  refine ⟨c, e1, ?_⟩
  have ne2 : c ≠ p := fun z => by rw [z, h] at e2; exact n2 p q (Option.some.inj e2)
  rw [upd_ne ne2]
  exact e2
theorem code_ne {c : Addr} {q : Str} {u : HO} (h : ∀ f, u ≠ .ext f) : u ≠ CodeO c q := fun z => by
  unfold CodeO at z
  exact h _ z
theorem _root_.LamX.TabS.lst {H : Hp} {P p : Addr} {q : Str} {o : HO} {xs : List V} (t : TabS H P q) (h : H p = some (.lst xs)) : TabS (upd H p o) P q := t.put h (fun ps z => by cases z) fun c q => code_ne fun f z => by cases z
def Vol (b : Addr) (o : HO) : Prop := (∃ ps, o = .tbl ps) ∨ ∃ P w xs, o = KnO P w b xs
theorem vol_tup {b : Addr} {xs : List V} : ¬ Vol b (.tup xs) := fun h => h.elim (fun ⟨_, z⟩ => by cases z) fun ⟨_, _, _, z⟩ => by unfold KnO at z; cases z
theorem vol_lst {b : Addr} {xs : List V} : ¬ Vol b (.lst xs) := fun h => h.elim (fun ⟨_, z⟩ => by cases z) fun ⟨_, _, _, z⟩ => by unfold KnO at z; cases z
theorem vol_ins {b C dx : Addr} {fs : List (Str × V)} : ¬ Vol b (.ins C dx fs) := fun h => h.elim (fun ⟨_, z⟩ => by cases z) fun ⟨_, _, _, z⟩ => by unfold KnO at z; cases z
theorem vol_frz {b : Addr} {o : Obj} {u : HO} : ¬ Vol b (.frz o u) := fun h => h.elim (fun ⟨_, z⟩ => by cases z) fun ⟨_, _, _, z⟩ => by unfold KnO at z; cases z
/-- all but tables and such dicts stay -/
def ExtK (H H' : Hp) : Prop := ∀ b o, H b = some o → ¬ Vol b o → H' b = some o
theorem ExtK.refl (H : Hp) : ExtK H H := fun _ _ h _ => h
theorem ExtK.trans {H H1 H2 : Hp} (a : ExtK H H1) (b : ExtK H1 H2) : ExtK H H2 := fun c o h n => b c o (a c o h n) n
theorem ExtK.same {H H' : Hp} (e : Same H H') : ExtK H H' := fun b o h _ => e b o h
theorem ExtK.of {H H' : Hp} (e : ExtN H H') : ExtK H H' := fun b o h n => e b o h fun ps z => n (.inl ⟨ps, z⟩)
def Fk (H : Hp) (p : Addr) : Prop := ∀ o, H p = some o → Vol p o
theorem Fk.of {H : Hp} {p : Addr} (h : H p = none) : Fk H p := fun o e => by rw [h] at e; cases e
theorem ExtK.fk {H H' : Hp} (e : ExtK H H') {p : Addr} (h : Fk H' p) : Fk H p := fun o ho => Classical.byContradiction fun n => n (h o (e p o ho n))
theorem ExtK.free {H H' : Hp} (e : ExtK H H') {p : Addr} (h : H' p = none) : Fk H p := e.fk (Fk.of h)
theorem ExtK.mut {H H' : Hp} {p : Addr} {o : HO} (e : ExtK H H') (h : Fk H p) : ExtK H (upd H' p o) := fun b u hb n => by
  have ne : b ≠ p := fun z => n (by rw [z] at hb ⊢; exact h u hb)
  rw [upd_ne ne]
  exact e b u hb n
theorem Fk.ne {H : Hp} {p b : Addr} {o : HO} (h : Fk H p) (e : H b = some o) (n : ¬ Vol b o) : b ≠ p := fun z => n (by rw [z] at e ⊢; exact h o e)
theorem sqT_k {K : PySem.W.Frag} {H H' : Hp} {a : Addr} {xs : List V} (e : ExtK H H') (h : SqT K H a xs) : SqT K H' a xs := by
  rcases h with (h | ⟨o, h⟩) | h
  · exact .inl (.inl (e _ _ h vol_tup))
  · exact .inl (.inr ⟨o, e _ _ h vol_frz⟩)
  · exact .inr h
theorem sqL_k {K : PySem.W.Frag} {H H' : Hp} {a : Addr} {xs : List V} (e : ExtK H H') (h : SqL K H a xs) : SqL K H' a xs := by
  rcases h with (h | ⟨o, h⟩) | h
  · exact .inl (.inl (e _ _ h vol_lst))
  · exact .inl (.inr ⟨o, e _ _ h vol_frz⟩)
  · exact .inr h
theorem Sq.k {b : Bool} {K : PySem.W.Frag} {H H' : Hp} {a : Addr} {xs : List V} (h : Sq b K H a xs) (e : ExtK H H') : Sq b K H' a xs := by
  cases b with
  | true => exact sqL_k e h
  | false => exact sqT_k e h
theorem RowsT.k {K : PySem.W.Frag} {H H' : Hp} (g : ExtK H H') : ∀ {vs : List V} {rs : List (List Int)}, RowsT K H vs rs → RowsT K H' vs rs
  | _, _, .nil => .nil
  | _, _, .cons h r => .cons (sqT_k g h) (r.k g)
theorem RowsB.k {b : Bool} {K : PySem.W.Frag} {H H' : Hp} (g : ExtK H H') : ∀ {vs : List V} {rs : List (List Int)}, RowsB b K H vs rs → RowsB b K H' vs rs
  | _, _, .nil => .nil
  | _, _, .cons h r => .cons (h.k g) (r.k g)
theorem RowsQ.k {b : Bool} {K : PySem.W.Frag} {H H' : Hp} {v : V} {rows : List (List Int)} (h : RowsQ b K H v rows) (g : ExtK H H') : RowsQ b K H' v rows := by
  obtain ⟨a, vs, e, h1, h2⟩ := h
  exact ⟨a, vs, e, h1.k g, h2.k g⟩
theorem RowsAt.k {K : PySem.W.Frag} {H H' : Hp} {v : V} {rows : List (List Int)} (h : RowsAt K H v rows) (g : ExtK H H') : RowsAt K H' v rows := by
  obtain ⟨a, vs, e, h1, h2⟩ := h
  exact ⟨a, vs, e, sqT_k g h1, h2.k g⟩
theorem TableAt.k {K : PySem.W.Frag} {C : Addr} {H H' : Hp} {x : V} {rows : List (List Int)} (h : TableAt K C H x rows) (g : ExtK H H') : TableAt K C H' x rows := by
  obtain ⟨p, dx, v, e, h1, h2⟩ := h
  exact ⟨p, dx, v, e, g _ _ h1 vol_ins, h2.k g⟩
theorem Tape.k {H H' : Hp} {t l : Addr} (T : Tape H t l) (g : ExtK H H') : Tape H' t l := by
  obtain ⟨ns, b, c, d, e, h, hl, hb⟩ := T
  exact ⟨ns, b, c, d, e, g _ _ h vol_lst, g _ _ hl vol_lst, hb⟩
theorem NK.ne {P : Program} {w : World} {H : Hp} {d b : Addr} {kv : List (List (List Int) × Nat)} {o : HO} (h : NK P w H d kv) (e : H b = some o) (n : ¬ Vol b o) : b ≠ d := fun z => by
  obtain ⟨xs, h1, _⟩ := h
  rw [z, h1] at e
  cases e
  exact n (.inr ⟨P, w, xs, by rw [z]⟩)
def ExtT (t : Addr) (H H' : Hp) : Prop := ∀ b o, b ≠ t → H b = some o → ¬ Vol b o → H' b = some o
theorem ExtT.refl {t : Addr} (H : Hp) : ExtT t H H := fun _ _ _ h _ => h
theorem ExtT.trans {t : Addr} {H H1 H2 : Hp} (a : ExtT t H H1) (b : ExtT t H1 H2) : ExtT t H H2 := fun c o n h v => b c o n (a c o n h v) v
theorem ExtT.k {t : Addr} {H H' : Hp} (e : ExtK H H') : ExtT t H H' := fun b o _ h v => e b o h v
theorem ExtT.same {t : Addr} {H H' : Hp} (e : Same H H') : ExtT t H H' := fun b o _ h _ => e b o h
theorem ExtT.mut {t : Addr} {H H' : Hp} {p : Addr} {o : HO} (e : ExtT t H H') (h : Fk H p) : ExtT t H (upd H' p o) := fun b u n hb v => by
  have ne : b ≠ p := fun z => v (by rw [z] at hb ⊢; exact h u hb)
  rw [upd_ne ne]
  exact e b u n hb v
theorem ExtT.fk {t l : Addr} {H H' : Hp} (e : ExtT t H H') (T : Tape H' t l) {p : Addr} (h : H' p = none) : Fk H p := fun o ho => Classical.byContradiction fun v => by
  have n : p ≠ t := fun z => T.there (by rw [← z]; exact h)
  rw [e p o n ho v] at h
  cases h
theorem sqT_t {K : PySem.W.Frag} {t l : Addr} {H H' : Hp} {a : Addr} {xs : List V} (e : ExtT t H H') (T : Tape H t l) (h : SqT K H a xs) : SqT K H' a xs := by
  obtain ⟨ns, b, c, d, f, ht, hl, hb⟩ := T
  rcases h with (h | ⟨o, h⟩) | h
  · exact .inl (.inl (e _ _ (ne_of h ht (by intro z; cases z)) h vol_tup))
  · exact .inl (.inr ⟨o, e _ _ (ne_of h ht (by intro z; cases z)) h vol_frz⟩)
  · exact .inr h
theorem RowsT.t {K : PySem.W.Frag} {t l : Addr} {H H' : Hp} (g : ExtT t H H') (T : Tape H t l) : ∀ {vs : List V} {rs : List (List Int)}, RowsT K H vs rs → RowsT K H' vs rs
  | _, _, .nil => .nil
  | _, _, .cons h r => .cons (sqT_t g T h) (r.t g T)
theorem RowsAt.t {K : PySem.W.Frag} {t l : Addr} {H H' : Hp} {v : V} {rows : List (List Int)} (h : RowsAt K H v rows) (g : ExtT t H H') (T : Tape H t l) : RowsAt K H' v rows := by
  obtain ⟨a, vs, e, h1, h2⟩ := h
  exact ⟨a, vs, e, sqT_t g T h1, h2.t g T⟩
theorem TableAt.t {K : PySem.W.Frag} {C t l : Addr} {H H' : Hp} {x : V} {rows : List (List Int)} (h : TableAt K C H x rows) (g : ExtT t H H') (T : Tape H t l) : TableAt K C H' x rows := by
  obtain ⟨p, dx, v, e, h1, h2⟩ := h
  obtain ⟨ns, b, c, d, f, ht, hl, hb⟩ := id T
  exact ⟨p, dx, v, e, g _ _ (ne_of h1 ht (by intro z; cases z)) h1 vol_ins, h2.t g T⟩
end Fo
set_option maxRecDepth 100000
set_option maxHeartbeats 2000000
namespace Fo
open PySem PySem.Spec PyProof.Rows L2
structure FnG (P : Program) (w : World) (K : PySem.W.Frag) (mg : Str → Option Value) (base : Heap) (k : Nat) (f : Addr) (fd : FuncData) (ps : List Str) (sp : Sp) : Prop where
  len : ∀ (vs : List V) (H : Hp) (Q : VK) (E : XK), sp vs H Q E → vs.length = ps.length
  run : ∀ (A : Around) (outer : List Env) (s : Shared) (H : Hp) (args : Args) (us : List Value) (vs : List V) (Q : VK) (E : XK), Room k A → A.guards = some [] → Env0 P w K mg base A outer s H →
    BindsTo s fd args (ps.zip us) → Vals vs us → sp vs H Q E → codeAny (model P w) A (Code.call (.ref f) args) (CR CX0 outer P w H s Q E) s
section
variable {P : Program} {w : World} {K : PySem.W.Frag} {mg : Str → Option Value} {base : Heap}
theorem fun_okG {x qual : Str} {st : Stmt} {f : Addr} {fd : FuncData} {N ps : List Str} {k : Nat} {sp : Sp} (F : Fun K x qual st f fd) (S : FnScope N ps (defScope st)) (len : ∀ vs H Q E, sp vs H Q E → vs.length = ps.length)
    (hbody : ∀ (cdv : Value) (A : Around) (outer : List Env) (s : Shared) (H : Hp) (vs : List V) (Q : VK) (E : XK), Room k (A.deeper (envOfC qual (defScope st) s.heap.objs.size f cdv)) → A.guards = some [] → sp vs H Q E →
      ∃ t, PSs (cxOf CX0 P w K mg base N qual (defScope st) f cdv A outer s H E).nox (defBody st) t ∧ t { nx := fun _ H' => Q .non H', rt := Q } (start N vs) H) : FnG P w K mg base (k + 1) f fd ps sp := by
  obtain ⟨oc, od, kV, doc, pm, an, cdv, ct, osl, rfl, lk, hcd⟩ := F.ex
  refine ⟨len, fun A outer s H args us vs Q E hr hg e0 hb r hsp => ?_⟩
  have hl := len vs H Q E hsp
  have KX : K.In s.heap := e0.mod.kin.keeps fun b o e => (e0.bs b o e).1
  have lim : s.heap.NoLimit := e0.mod.nolimit.keeps fun b o e => (e0.bs b o e).1
  refine codeAny_call_function hr.depth (KX f _ lk) rfl S.co S.gen rfl (PySem.W.codeRec_of KX hcd) ?_
  refine hb (model P w) A.in1 _ _ ?_
  refine wpAny_newFunctionEnv_cells S.kind (fun z hz => ?_) fun env he s1 hx => ?_
  · obtain ⟨n, v⟩ := z
    rcases S.par n (List.of_mem_zip hz).1 with q | q
    · exact .inl q
    · exact .inr ⟨q, PySem.W.cellsFrom_some _ _ _ (.inl q)⟩
  · subst he
    refine ⟨lim.keeps hx.toInCall.keep, codeAny_func ?_⟩
    obtain ⟨t, ht, hq⟩ := hbody cdv A outer s H vs Q E (hr.deeper _) hg hsp
    have I := inv_start (CX := CX0) (P := P) (w := w) (K := K) (mg := mg) (base := base) (E := E) S hr.hd e0 hl r hx
    refine wpAny_mono ((PSs.nox ht).run [] s1 (start N vs) H { nx := fun _ H' => Q .non H', rt := Q } I hq) (fun fl s' hs => ?_) fun e s' hs => hs
    cases fl with
    | next =>
      obtain ⟨σ', H', J, q⟩ := hs
      exact ⟨.non, H', J.os, J.bare, J.base, J.hok, rfl, q⟩
    | brk =>
      obtain ⟨σ', H', J, q⟩ := hs
      exact False.elim q
    | cont =>
      obtain ⟨σ', H', J, q⟩ := hs
      exact False.elim q
    | ret u =>
      obtain ⟨v, σ', H', J, rv, q⟩ := hs
      exact ⟨v, H', J.os, J.bare, J.base, J.hok, rv, q⟩
end
theorem law_callG {P : Program} {w : World} {K : PySem.W.Frag} {mg mb : Str → Option Value} {k : Nat} {fa a : Addr} {fd : FuncData} {x : Str} {sp : Sp} {s₁ : Shared} {vs : List Value} {ns : List Int} (KX : K.In s₁.heap) (hns : s₁.heap.Ns mainGlobals mg) (hb : s₁.heap.Ns builtinsNs mb)
    (hbb : ∀ x : Str, x ≠ Str.ofString "__name__" → mb x = bootBuiltins x) (hlim : s₁.heap.NoLimit) (hg : s₁.gens = #[]) (ha : s₁.heap.get? a = some { cls := .type "list", data := .seq vs.toArray }) (hi : IntsAre vs ns) (hl : ns.length ≤ sizeLine) (hr : Room k callerA)
    (F : ∀ base : Heap, K.In base → base.Ns mainGlobals mg → FnG P w K mg base k fa fd [x] sp) (hbind : ∀ (s : Shared) (u : Value), BindsTo s fd ⟨[u], []⟩ [(x, u)])
    (hsp : ∀ H : Hp, Only H → SqL K H a (ns.map V.int) → sp [.ref a] H (fun v _ => v = .bl true) fun _ _ _ => False) :
    codeAny (model P w) callerA (Code.call (.ref fa) ⟨[.ref a], []⟩) (fun r s' => r = .ok (.ret (.bool true)) ∧ OldK s₁.heap s'.heap ∧ s'.os = s₁.os ∧ AllBare s'.gens) s₁ := by
  have rv := vals_ints hi
  have core : ∀ H : Hp, Only H → SqL K H a (ns.map V.int) → HOk P w H s₁.heap → (∀ b, H b ≠ none → b = a) → (H a ≠ none → List.lookup a K = none) →
      codeAny (model P w) callerA (Code.call (.ref fa) ⟨[.ref a], []⟩) (fun r s' => r = .ok (.ret (.bool true)) ∧ OldK s₁.heap s'.heap ∧ s'.os = s₁.os ∧ AllBare s'.gens) s₁ := by
    intro H hO hS hok hA hK
    have noA : ∀ {b : Addr} {o : Obj} {es : Array DictEntry} {ep : Nat}, s₁.heap.get? b = some o → o.data = .dict es ep → H b = none := fun {b o es ep} e d => by
      cases q : H b with
      | none => rfl
      | some u =>
        have e' := hA b (by rw [q]; simp)
        subst e'
        rw [ha] at e
        cases e
        cases d
    have nsK : ∀ {b : Addr} {m : Str → Option Value}, s₁.heap.Ns b m → (hidT s₁.heap H).Ns b m := fun {b m} z => by
      obtain ⟨o, es, ep, e, d, r⟩ := z
      exact ⟨o, es, ep, hidT_get e (noA e d), d, r⟩
    have hKb : K.In (hidT s₁.heap H) := fun b o e => hidT_get (KX b o e) (by
      cases q : H b with
      | none => rfl
      | some u =>
        have e' := hA b (by rw [q]; simp)
        subst e'
        rw [hK (by rw [q]; simp)] at e
        cases e)
    have hM : L2.Mod K mg (hidT s₁.heap H) := { kin := hKb, glob := nsK hns, blt := ⟨mb, nsK hb, hbb⟩, nolimit := by obtain ⟨mc, h1, h2⟩ := hlim; exact ⟨mc, nsK h1, h2⟩ }
    have e0 : Env0 P w K mg (hidT s₁.heap H) callerA [] s₁ H := { frames := rfl, mod := hM, bs := fun b o e => of_hidT e, bsz := Nat.le_of_eq (hidT_size s₁.heap H), funs := trivial, frf := fun b hb => absurd hb (by intro z; cases z), hok := hok, bare := AllBare.of_eq hg }
    refine codeAny_mono ((F (hidT s₁.heap H) hKb (nsK hns)).run callerA [] s₁ H ⟨[.ref a], []⟩ [.ref a] [.ref a] (fun v _ => v = .bl true) (fun _ _ _ => False) hr rfl e0 (hbind s₁ (.ref a)) (.cons rfl .nil) (hsp H hO hS)) fun r s' h => ?_
    cases r with
    | error e => exact False.elim h
    | ok fl =>
      cases fl with
      | next => exact False.elim h
      | brk => exact False.elim h
      | cont => exact False.elim h
      | ret u =>
        obtain ⟨v, H', os, bare, un, hok', r', q⟩ := h
        subst q
        cases r'
        refine ⟨rfl, OldK.of_keep fun b o e => ?_, os, bare⟩
        cases q : H b with
        | none => exact un.keep b o e q (by intro z; cases z) (by intro z; cases z)
        | some u =>
          rcases hO b with z | ⟨ob, xs, z⟩
          · rw [z] at q; cases q
          · have z2 := un.frzs b ob _ z
            have e1 := (hok b _ z).1
            have e2 := (hok' b _ z2).1
            rw [e] at e1
            cases e1
            exact e2
  cases hk : List.lookup a K with
  | none =>
    refine core (fun b => if b = a then some (.frz { cls := .type "list", data := .seq vs.toArray } (.lst (ns.map V.int))) else none) (fun b => ?_) (.inl (.inr ⟨_, if_pos rfl⟩)) (fun b u z => ?_) (fun b z => ?_) fun _ => hk
    · by_cases e : b = a
      · exact .inr ⟨_, _, if_pos e⟩
      · exact .inl (if_neg e)
    · by_cases e : b = a
      · have z' := (if_pos e).symm.trans z
        cases z'
        subst e
        exact ⟨ha, by rw [List.length_map]; exact hl, vs, 0, rv, ha⟩
      · have z' := (if_neg e).symm.trans z
        cases z'
    · by_cases e : b = a
      · exact e
      · exact absurd (if_neg e) z
  | some o =>
    have e := KX a o hk
    rw [ha] at e
    cases e
    refine core (fun _ => none) (fun _ => .inl rfl) (.inr ⟨_, vs.toArray, 0, hk, rfl, rfl, rfl, ?_, rv⟩) (fun b u z => (by cases z)) (fun b z => absurd rfl z) fun z => absurd rfl z
    have := IntsAre.length hi
    rw [List.size_toArray, this]
    exact hl
theorem walk_ofG {l : PySem.W.OpenLaw} {n k : Nat} {q : Program} {loose : List Str} {XP : (Str → Option Value) → Heap → Prop} {YP : World → Heap → Prop} {d : DefRec} {K : Params → PySem.W.Frag} {sp : World → Sp} {x : Str} (hn : l.most = some n) (hn2 : n ≤ sizeLine) (hdf : d.params.defaults = []) (hr : Room k callerA)
    (hY : ∀ (w : World) (h : Heap), YP w h → (K w.params).In h)
    (F : ∀ (w : World) (mg : Str → Option Value) (fa : Addr) (h : Heap), (K w.params).In h → h.Ns mainGlobals mg → mg d.name = some (.ref fa) →
      ∃ fd : FuncData, (∀ (s : Shared) (u : Value), BindsTo s fd ⟨[u], []⟩ [(x, u)]) ∧ ∀ base : Heap, (K w.params).In base → base.Ns mainGlobals mg → FnG l.prog w (K w.params) mg base k fa fd [x] (sp w))
    (hsp : ∀ (w : World) (H : Hp) (a : Addr) (ns : List Int), ns.length ≤ n → Only H → SqL (K w.params) H a (ns.map V.int) → sp w [.ref a] H (fun v _ => v = .bl true) fun _ _ _ => False) :
    PySem.W.WalkO q loose XP YP l.row.toRowW d [] (fun f vs => PySem.call f vs) :=
  Att.attach_call hn hdf fun w s₀ s₁ mg mb fa o pm cd doc a vs ns G Y ho hd hcd hmg hobj hints hlen hg => by
    have KX := hY w s₁.heap Y
    obtain ⟨fd, hb, hF⟩ := F w mg fa s₁.heap KX G.T.g hmg
    exact law_callG KX G.T.g G.T.b G.T.builtins G.T.nolimit hg hobj hints (Nat.le_trans hlen hn2) hr hF hb fun H hO hS => hsp w H a ns hlen hO hS
end Fo
set_option maxRecDepth 100000
set_option maxHeartbeats 2000000
namespace Fo
open PySem PySem.Spec PyProof.Rows L2
theorem ns_one {h : Heap} {a : Addr} {m m' : Str → Option Value} (x : h.Ns a m) (y : h.Ns a m') : m = m' := by
  obtain ⟨o, es, ep, e, d, _, r⟩ := x
  obtain ⟨o', es', ep', e', d', _, r'⟩ := y
  rw [e] at e'
  cases e'
  rw [d] at d'
  cases d'
  funext n
  rw [← r n, ← r' n]
theorem get_lt {h : Heap} {b : Addr} {o : Obj} (e : h.get? b = some o) : b < h.objs.size := by
  by_cases c : b < h.objs.size
  · exact c
  · unfold Heap.get? at e
    rw [Array.getElem?_eq_none (Nat.le_of_not_lt c)] at e
    cases e
/-- all that stands in h, but what stands at L or was there at first -/
def allNews (base : Heap) (L : Addr) (h : Heap) : List (Addr × Obj) :=
  (List.range h.objs.size).filterMap fun b => if b ≠ L ∧ base.get? b = none then (h.get? b).map fun o => (b, o) else none
theorem mem_allNews {base : Heap} {L : Addr} {h : Heap} {b : Addr} {o : Obj} (e : h.get? b = some o) (n : b ≠ L) (z : base.get? b = none) : (b, o) ∈ allNews base L h :=
  List.mem_filterMap.mpr ⟨b, List.mem_range.mpr (get_lt e), by rw [if_pos ⟨n, z⟩, e]; rfl⟩
theorem news_all (base : Heap) (L : Addr) (h : Heap) : News base L h (allNews base L h) := by
  rintro ⟨b, o⟩ hp
  obtain ⟨c, _, q⟩ := List.mem_filterMap.mp hp
  by_cases e : c ≠ L ∧ base.get? c = none
  · rw [if_pos e] at q
    cases g : h.get? c with
    | none => rw [g] at q; cases q
    | some u =>
      rw [g] at q
      cases q
      exact ⟨g, e.1, e.2⟩
  · rw [if_neg e] at q
    cases q
/-- what stands is kept by all that keeps the frame and the news -/
theorem Inv.framed {X : Cx} {pins : List (Addr × Obj)} {σ : L2.St} {H : Hp} {s : Shared} {m : Str → Option Value} {h' : Heap} {tk : Nat} (I : L2.Inv X pins σ H s) (F : Fr X.base X.env.locals s.heap m) (F' : Fr X.base X.env.locals h' m) (N : News X.base X.env.locals h' (allNews X.base X.env.locals s.heap)) :
    L2.Inv X pins σ H { heap := h', gens := s.gens, drawn := s.drawn, toks := tk, os := s.os } := by
  have keep : ∀ b o, b ≠ X.env.locals → s.heap.get? b = some o → h'.get? b = some o := fun b o n e => by
    cases z : X.base.get? b with
    | none => exact (N _ (mem_allNews e n z)).1
    | some u =>
      have e1 := F.keep b u z
      rw [e] at e1
      cases e1
      exact F'.keep b o z
  refine I.step (ch := []) (fun b z => by cases z) (fun b o n _ _ e _ => keep b o n e) (fun b o n _ _ e _ => ⟨o.slots, keep b o n e⟩) (fun b o _ _ e => e) (fun b o _ e => ?_) (fun _ _ e => e) (fun _ _ _ e => e) (fun b ps e => ⟨#[], by rw [e]; simp⟩) (fun m' q => ?_) ?_ I.bare
  · by_cases n : b = X.env.locals
    · subst n
      obtain ⟨o', _, _, q, _⟩ := F'.ns
      exact ⟨o', q⟩
    · exact ⟨o, keep b o n e⟩
  · rw [ns_one q F.ns]
    exact F'.ns
  · intro a o ha
    have na : a ≠ X.env.locals := fun e => by rw [e, I.free] at ha; cases ha
    refine ObjOk.stay (I.hok a o ha) (fun b u q e => keep b u ?_ e) (fun _ e => e) (fun _ _ e => e)
    rcases q with q | q
    · rw [q]; exact na
    · intro e
      rw [e, I.free] at q
      cases q
/-- repr of a list or a tuple -/
def rRepr (K : PySem.W.Frag) (B : Nat) : List V → Hp → VK → Prop := fun xs H Q => ∃ (a : Addr) (d : PyData), xs = [.ref a] ∧ Dp K H (.ref a) d ∧ d.hasDict = false ∧ d.showable = true ∧ d.depth ≤ B ∧ d.shown.length ≤ sizeLine ∧ Q (.str d.shown) H
theorem cr_repr {X : Cx} {B : Nat} (hg : X.A.guards = some []) (hu : X.A.units + (B + 1) < cLine) : CallR X (.builtin "repr") (rRepr X.K B) := by
  intro pins s σ H xs us Q I r h
  obtain ⟨a, d, rfl, hd, h1, h2, h3, h4, q⟩ := h
  cases r with
  | cons r0 r1 =>
    cases r1
    cases r0
    obtain ⟨as, R⟩ := Dp.reads I d _ _ hd rfl
    obtain ⟨m, hF⟩ := I.fr
    refine repr_HN hF (news_all _ _ _) R h1 h2 hg (Nat.lt_of_le_of_lt (Nat.add_le_add_left (Nat.add_le_add_right h3 1) _) hu) (fun h' u tk F' N => ?_) h4
    exact ⟨.str d.shown, H, Inv.framed I hF F' N, ⟨u, rfl⟩, q⟩
end Fo
set_option maxRecDepth 100000
set_option maxHeartbeats 2000000
namespace PySem.W
open PySem PySem.Spec PyProof.Rows Builtin
end PySem.W
namespace Fo
open PySem PySem.Spec PyProof.Rows L2
theorem FnOk.imp {P : Program} {w : World} {K : PySem.W.Frag} {mg : Str → Option Value} {base : Heap} {CX : CXT} {k : Nat} {f : Addr} {fd : FuncData} {ps : List Str} {sp sp' : Sp} (F : FnOk P w K mg base CX k f fd ps sp) (h : ∀ vs H Q E, sp' vs H Q E → sp vs H Q E) : FnOk P w K mg base CX k f fd ps sp' :=
  ⟨fun vs H Q E q => F.len vs H Q E (h _ _ _ _ q), fun A outer s H args us vs Q E hr e0 hb r q => F.run A outer s H args us vs Q E hr e0 hb r (h _ _ _ _ q)⟩
theorem sub_built {K : PySem.W.Frag} {C : Addr} {n : String} (h : fastBuiltinMro n = some [.type n, .type "object"]) : PySem.W.subIn K (.type n) (.ref C) = some false := by
  show (fastBuiltinMro n).map (fun l => l.contains (.ref C)) = some false
  rw [h]
  rfl
/-- no built-in thing is an instance of the class C -/
structure Oth (K : PySem.W.Frag) (C : Addr) (t : Value) : Prop where
  nf : PySem.W.notFirst K C t = true
  kit : PySem.W.kitOne K t (.ref C) = some false
theorem Oth.built {K : PySem.W.Frag} {C : Addr} (ht : PySem.W.typeIn K (.ref C) = some (.type "type")) (hm : PySem.W.mroIn K C (.type "object") = some true) {n : String} (h : fastBuiltinMro n = some [.type n, .type "object"]) : Oth K C (.type n) := by
  have hs := sub_built (K := K) (C := C) h
  refine ⟨?_, ?_⟩
  · unfold PySem.W.notFirst
    rw [hs, Bool.or_eq_true]
    exact .inr rfl
  · have hc : (PySem.W.clsIn K C).isSome = true := by
      unfold PySem.W.mroIn at hm
      cases e : PySem.W.clsIn K C with
      | none => rw [e] at hm; cases hm
      | some c => rfl
    have e : (Value.type n == Value.ref C) = false := by
      rw [beq_eq_false_iff_ne]
      intro q
      cases q
    unfold PySem.W.kitOne
    rw [e, if_neg (by decide)]
    show (if ((PySem.W.clsIn K C).isSome && PySem.W.typeIn K (.ref C) == some (.type "type")) = true then PySem.W.subIn K (.type n) (.ref C) else none) = some false
    rw [hc, ht, if_pos (by rfl), hs]
end Fo
set_option maxRecDepth 100000
set_option maxHeartbeats 4000000
namespace PySem.W
open PySem PySem.Spec PyProof.Rows Builtin PyProof
end PySem.W
namespace Fo
open PySem PySem.Spec PyProof.Rows L2
inductive Nx (K : PySem.W.Frag) (C : Addr) (H : Hp) : V → Prop
  | non : Nx K C H .non
  | bl (b : Bool) : Nx K C H (.bl b)
  | int (i : Int) : Nx K C H (.int i)
  | str (x : Str) : Nx K C H (.str x)
  | lst {a : Addr} {xs : List V} (h : SqL K H a xs) : Nx K C H (.ref a)
  | tup {a : Addr} {xs : List V} (h : SqT K H a xs) : Nx K C H (.ref a)
  | dK {a : Addr} {es : List (Key × V)} (h : H a = some (.dK es)) : Nx K C H (.ref a)
  | tab {x : V} {rows : List (List Int)} (h : TableAt K C H x rows) : Nx K C H x
end Fo
set_option maxRecDepth 100000
set_option maxHeartbeats 4000000
namespace Fo
open PySem PySem.Spec PyProof.Rows L2 LamX
def Po (H : Hp) (t l : Addr) : Prop := ∃ (sd c : Int) (cs : List Int), H t = some (.lst [.int sd, .int c, .ref l]) ∧ H l = some (.lst (cs.map V.int))
/-- all but the pool's two stay -/
def Gs (t l : Addr) (H H' : Hp) : Prop := ∀ b o, b ≠ t → b ≠ l → H b = some o → H' b = some o
theorem Gs.refl {t l : Addr} (H : Hp) : Gs t l H H := fun _ _ _ _ h => h
theorem Gs.trans {t l : Addr} {H H1 H2 : Hp} (a : Gs t l H H1) (b : Gs t l H1 H2) : Gs t l H H2 := fun c o n m h => b c o n m (a c o n m h)
theorem Gs.of {t l : Addr} {H H' : Hp} (e : Same H H') : Gs t l H H' := fun b o _ _ h => e b o h
theorem Gs.new {t l p : Addr} {H : Hp} {o : HO} (h : H p = none) : Gs t l H (upd H p o) := .of (same_new h)
theorem Gs.mut {t l p : Addr} {H H' : Hp} {o : HO} (e : Gs t l H H') (h : H p = none) : Gs t l H (upd H' p o) := fun a u n m ha => by
  rw [upd_ne (ne_of_none ha h)]
  exact e a u n m ha
theorem ints_nep (ns : List Int) (l : Addr) (x y : Int) : (HO.lst (ns.map V.int)) ≠ .lst [.int x, .int y, .ref l] := by
  intro q
  injection q with q
  match ns, q with
  | [], q => cases q
  | [_], q => cases q
  | [_, _], q => cases q
  | [_, _, _], q => cases q
  | _ :: _ :: _ :: _ :: _, q => cases q
theorem Po.ne {H : Hp} {t l : Addr} (T : Po H t l) : l ≠ t := by
  obtain ⟨sd, c, cs, ht, hl⟩ := T
  exact ne_of hl ht (ints_nep _ _ _ _)
theorem Po.there {H : Hp} {t l : Addr} (T : Po H t l) : H t ≠ none ∧ H l ≠ none := by
  obtain ⟨sd, c, cs, ht, hl⟩ := T
  exact ⟨by rw [ht]; exact (fun z => nomatch z), by rw [hl]; exact (fun z => nomatch z)⟩
theorem Po.keep {H H' : Hp} {t l : Addr} (T : Po H t l) (g : Same H H') : Po H' t l := by
  obtain ⟨sd, c, cs, ht, hl⟩ := T
  exact ⟨sd, c, cs, g _ _ ht, g _ _ hl⟩
theorem Po.k {H H' : Hp} {t l : Addr} (T : Po H t l) (g : ExtK H H') : Po H' t l := by
  obtain ⟨sd, c, cs, ht, hl⟩ := T
  exact ⟨sd, c, cs, g _ _ ht vol_lst, g _ _ hl vol_lst⟩
theorem Po.free {H : Hp} {t l a : Addr} (T : Po H t l) (h : H a = none) : a ≠ t ∧ a ≠ l := by
  obtain ⟨sd, c, cs, ht, hl⟩ := T
  exact ⟨(ne_of_none ht h).symm, (ne_of_none hl h).symm⟩
theorem Po.fk {H : Hp} {t l a : Addr} (T : Po H t l) (h : Fk H a) : a ≠ t ∧ a ≠ l := by
  obtain ⟨sd, c, cs, ht, hl⟩ := T
  exact ⟨(h.ne ht vol_lst).symm, (h.ne hl vol_lst).symm⟩
theorem Po.new {H : Hp} {t l a : Addr} {o : HO} (T : Po H t l) (h : H a = none) : Po (upd H a o) t l := T.keep (same_new h)
theorem Po.mut {H : Hp} {t l a : Addr} {u : HO} (T : Po H t l) (n : a ≠ t ∧ a ≠ l) : Po (upd H a u) t l := by
  obtain ⟨sd, c, cs, ht, hl⟩ := T
  exact ⟨sd, c, cs, by rw [upd_ne n.1.symm]; exact ht, by rw [upd_ne n.2.symm]; exact hl⟩
theorem Gs.fresh {t l : Addr} {H H' : Hp} (g : Gs t l H H') (T : Po H' t l) {p : Addr} (h : H' p = none) : H p = none := by
  cases q : H p with
  | none => rfl
  | some o =>
    obtain ⟨n, m⟩ := T.free h
    rw [g p o n m q] at h
    cases h
/-- what is no list is not changed -/
theorem Gs.at {t l : Addr} {H H' : Hp} (g : Gs t l H H') (T : Po H t l) {b : Addr} {o : HO} (h : H b = some o) (n : ∀ xs, o ≠ .lst xs) : H' b = some o := by
  obtain ⟨sd, c, cs, ht, hl⟩ := T
  exact g _ _ (ne_of h ht (n _)) (ne_of h hl (n _)) h
theorem gs_T {t l : Addr} {K : PySem.W.Frag} {H H' : Hp} (g : Gs t l H H') (T : Po H t l) {a : Addr} {xs : List V} (h : SqT K H a xs) : SqT K H' a xs := by
  rcases h with (h | ⟨o, h⟩) | h
  · exact .inl (.inl (g.at T h fun _ z => by cases z))
  · exact .inl (.inr ⟨o, g.at T h fun _ z => by cases z⟩)
  · exact .inr h
theorem RowsT.gs {t l : Addr} {K : PySem.W.Frag} {H H' : Hp} (g : Gs t l H H') (T : Po H t l) : ∀ {vs : List V} {rs : List (List Int)}, RowsT K H vs rs → RowsT K H' vs rs
  | _, _, .nil => .nil
  | _, _, .cons h r => .cons (gs_T g T h) (r.gs g T)
theorem RowsAt.gs {t l : Addr} {K : PySem.W.Frag} {H H' : Hp} {v : V} {rows : List (List Int)} (h : RowsAt K H v rows) (g : Gs t l H H') (T : Po H t l) : RowsAt K H' v rows := by
  obtain ⟨a, vs, e, h1, h2⟩ := h
  exact ⟨a, vs, e, gs_T g T h1, h2.gs g T⟩
theorem TableAt.gs {t l : Addr} {K : PySem.W.Frag} {C : Addr} {H H' : Hp} {x : V} {rows : List (List Int)} (h : TableAt K C H x rows) (g : Gs t l H H') (T : Po H t l) : TableAt K C H' x rows := by
  obtain ⟨p, dx, v, e, h1, h2⟩ := h
  exact ⟨p, dx, v, e, g.at T h1 (fun _ z => by cases z), h2.gs g T⟩
def Gp (t l : Addr) (H H' : Hp) : Prop := ∀ b o, b ≠ t → b ≠ l → H b = some o → ¬ Vol b o → H' b = some o
theorem Gp.refl {t l : Addr} (H : Hp) : Gp t l H H := fun _ _ _ _ h _ => h
theorem Gp.trans {t l : Addr} {H H1 H2 : Hp} (a : Gp t l H H1) (b : Gp t l H1 H2) : Gp t l H H2 := fun c o n m h v => b c o n m (a c o n m h v) v
theorem Gp.k {t l : Addr} {H H' : Hp} (e : ExtK H H') : Gp t l H H' := fun b o _ _ h v => e b o h v
theorem Gp.same {t l : Addr} {H H' : Hp} (e : Same H H') : Gp t l H H' := fun b o _ _ h _ => e b o h
theorem Gp.of {t l : Addr} {H H' : Hp} (g : Gs t l H H') : Gp t l H H' := fun b o n m h _ => g b o n m h
theorem Gp.mut {t l : Addr} {H H' : Hp} {p : Addr} {o : HO} (e : Gp t l H H') (h : Fk H p) : Gp t l H (upd H' p o) := fun b u n m hb v => by
  have ne : b ≠ p := fun z => v (by rw [z] at hb ⊢; exact h u hb)
  rw [upd_ne ne]
  exact e b u n m hb v
theorem Gp.fk {t l : Addr} {H H' : Hp} (e : Gp t l H H') (T : Po H' t l) {p : Addr} (h : H' p = none) : Fk H p := fun o ho => Classical.byContradiction fun v => by
  obtain ⟨n, m⟩ := T.free h
  rw [e p o n m ho v] at h
  cases h
theorem Gp.at {t l : Addr} {H H' : Hp} (g : Gp t l H H') (T : Po H t l) {b : Addr} {o : HO} (h : H b = some o) (v : ¬ Vol b o) (n : ∀ xs, o ≠ .lst xs) : H' b = some o := by
  obtain ⟨sd, c, cs, ht, hl⟩ := T
  exact g _ _ (ne_of h ht (n _)) (ne_of h hl (n _)) h v
theorem sqT_p {K : PySem.W.Frag} {t l : Addr} {H H' : Hp} {a : Addr} {xs : List V} (g : Gp t l H H') (T : Po H t l) (h : SqT K H a xs) : SqT K H' a xs := by
  rcases h with (h | ⟨o, h⟩) | h
  · exact .inl (.inl (g.at T h vol_tup fun _ z => by cases z))
  · exact .inl (.inr ⟨o, g.at T h vol_frz fun _ z => by cases z⟩)
  · exact .inr h
theorem RowsT.p {K : PySem.W.Frag} {t l : Addr} {H H' : Hp} (g : Gp t l H H') (T : Po H t l) : ∀ {vs : List V} {rs : List (List Int)}, RowsT K H vs rs → RowsT K H' vs rs
  | _, _, .nil => .nil
  | _, _, .cons h r => .cons (sqT_p g T h) (r.p g T)
theorem RowsAt.p {K : PySem.W.Frag} {t l : Addr} {H H' : Hp} {v : V} {rows : List (List Int)} (h : RowsAt K H v rows) (g : Gp t l H H') (T : Po H t l) : RowsAt K H' v rows := by
  obtain ⟨a, vs, e, h1, h2⟩ := h
  exact ⟨a, vs, e, sqT_p g T h1, h2.p g T⟩
theorem TableAt.p {K : PySem.W.Frag} {C t l : Addr} {H H' : Hp} {x : V} {rows : List (List Int)} (h : TableAt K C H x rows) (g : Gp t l H H') (T : Po H t l) : TableAt K C H' x rows := by
  obtain ⟨p, dx, v, e, h1, h2⟩ := h
  exact ⟨p, dx, v, e, g.at T h1 vol_ins (fun _ z => by cases z), h2.p g T⟩
end Fo
namespace Fo
open PySem PySem.Spec PyProof.Rows L2
def rAbs : List V → Hp → VK → Prop := fun xs H Q => ∃ i, xs = [.int i] ∧ Q (.int (if i < 0 then -i else i)) H
theorem cr_abs {X : Cx} : CallR X (.builtin "abs") rAbs := call_abs
end Fo
set_option maxRecDepth 100000
set_option maxHeartbeats 4000000
namespace Fo
open PySem PySem.Spec PyProof.Rows L2
def top (i : Nat) : Stmt := PySem.Challenge.pw_fullorring_k78_kinds_judged.main.body.getD i (.Pass ⟨0, 0, 0, 0⟩)
abbrev s_law_pool : Stmt := top 15
abbrev n_law_pool : List Str := ["script", "seed", "cell"]
theorem sc_law_pool : FnScope n_law_pool ["script"] (defScope s_law_pool) := ⟨rfl, rfl, rfl, by decide +kernel, rfl, by decide +kernel, by decide +kernel⟩
abbrev s_law_draw : Stmt := top 16
abbrev n_law_draw : List Str := ["pool", "many", "cells", "digit", "mixed"]
theorem sc_law_draw : FnScope n_law_draw ["pool", "many"] (defScope s_law_draw) := ⟨rfl, rfl, rfl, by decide +kernel, rfl, by decide +kernel, by decide +kernel⟩
theorem cut_ints (ns : List Int) (lo hi : Option Int) : cutV (ns.map V.int) lo hi = ((ns.drop (HT.sIx ns.length 0 lo)).take (HT.sIx ns.length ns.length hi - HT.sIx ns.length 0 lo)).map V.int := by
  unfold cutV
  rw [List.length_map, List.map_take, List.map_drop]
theorem ix0 {n : Nat} (h : 0 < n) : ixN n 0 = some 0 := by
  unfold ixN
  rw [if_pos (by decide), if_pos (by omega)]
  rfl
section
variable {P : Program} {w : World} {K : PySem.W.Frag} {mg : Str → Option Value} {base : Heap}
def spPool (K : PySem.W.Frag) : Sp := fun vs H Q _ => ∃ (a : Addr) (ns : List Int), vs = [.ref a] ∧ SqL K H a (ns.map V.int) ∧ ns.length ≤ 63 ∧ ∀ t l H', Same H H' → H t = none → H l = none → Po H' t l → Q (.ref t) H'
theorem ok_pool (A : At K mg "_law_pool" s_law_pool ["script"]) (T : Tx mg) (Tsum : mg "sum" = none) (Tabs : mg "abs" = none) : Dfn P w K mg base "_law_pool" ["script"] 1 (spPool K) := by
  refine A.ok sc_law_pool (fun vs H Q E h => ?_) (fun f cdv A outer s H vs Q E hr h => ?_)
  · obtain ⟨a, ns, rfl, _⟩ := h
    rfl
  · obtain ⟨a, ns, rfl, hS, hl, k⟩ := h
    refine ⟨_, (pss_cons (ps_set (i := 1) sc_law_pool.nd rfl (Or.inl rfl) (pe_op op_add (pe_op op_add (pe_op op_mod (pe_callTy c_int (by rfl) T.int (by decide +kernel) (pa_cons (pe_callB (cr_sum rfl) (by rfl) Tsum (by decide +kernel) (pa_cons (pe_slice sl_list (pv 0) po_none (po_some pe_int)) pa_nil)) pa_nil)) pe_int) (pe_callB c_len (by rfl) T.len (by decide +kernel) (pa_cons (pv 0) pa_nil))) pe_int))
      (pss_cons (ps_for PassesOwn.never rfl (pi_list (pe_slice sl_list (pv 0) po_none (po_some pe_int))) (pg_name (i := 2) sc_law_pool.nd rfl (Or.inl rfl))
      (pss_one (ps_set (i := 1) sc_law_pool.nd rfl (Or.inl rfl) (pe_op op_mod (pe_callTy c_int (by rfl) T.int (by decide +kernel) (pa_cons (pe_op op_add (pe_op op_add (pe_op op_mul (pv 1) pe_int) (pe_op op_mod (pe_callTy c_int (by rfl) T.int (by decide +kernel) (pa_cons (pv 2) pa_nil)) pe_int)) pe_int) pa_nil)) pe_int))))
      (pss_one (ps_ret (pe_lst (pa_cons (pv 1) (pa_cons pe_int (pa_cons (pe_lc (own := [("cell", 2)]) (g := (gName 2)) (tt := (tTest (tOp (rI0 fun i j => V.bl (decide (j ≤ i))) (tCB rAbs (tCons (tVar 2) tNil)) (tOp (rI CPow fun i j => V.int (i ^ j.toNat)) (tC (V.int 10)) (tC (V.int 18)))))) (te := (tCB rAbs (tCons (tVar 2) tNil))) (by rfl) sc_law_pool.nd (pi_list (pe_slice sl_list (pv 0) po_none (po_some pe_int))) (blkOk_by (own := [("cell", 2)]) (N := n_law_pool) (sc := (defScope s_law_pool)) (by decide +kernel)) (fun _ _ _ _ _ => (pg_name (i := 2) sc_law_pool.nd rfl (Or.inl rfl))) (fun _ _ _ _ _ => (pts_one (pt_cmpR op_ge (pe_callB cr_abs (by rfl) Tabs (by decide +kernel) (pa_cons (pv 2) pa_nil)) (pe_op op_pow pe_int pe_int) (nomark _)))) (fun _ _ _ _ _ => (pe_callB cr_abs (by rfl) Tabs (by decide +kernel) (pa_cons (pv 2) pa_nil)))) pa_nil)))))))), ?_⟩
    refine ⟨_, rfl, _, rfl, a, _, rfl, hS, fun p hp => ?_⟩
    have s1 := same_new (o := .lst (cutV (ns.map V.int) none (some 1))) hp
    refine ⟨p, _, rfl, SqL.of (by rw [upd_same, cut_ints]), .inl ⟨_, rfl, ?_⟩⟩
    refine ⟨_, _, rfl, rfl, by show (0 : Int) < 1000003; decide, ?_⟩
    refine ⟨_, rfl, a, _, rfl, .inl (s1.seq hS), ?_⟩
    refine ⟨_, _, rfl, rfl, _, _, rfl, rfl, ?_⟩
    obtain ⟨H1, e1⟩ : ∃ H1, H1 = upd H p (.lst (cutV (ns.map V.int) none (some 1))) := ⟨_, rfl⟩
    rw [← e1] at s1 ⊢
    refine ⟨_, rfl, _, rfl, a, _, rfl, s1.seq hS, fun p2 hp2 => ?_⟩
    have s2 := s1.trans (same_new (o := .lst (cutV (ns.map V.int) none (some 63))) hp2)
    obtain ⟨ms, ems⟩ : ∃ ms : List Int, cutV (ns.map V.int) none (some 63) = ms.map V.int := ⟨_, cut_ints _ _ _⟩
    have ml : ms.length ≤ 63 := by
      have := cutV_length (ns.map V.int) none (some 63)
      rw [ems, List.length_map, List.length_map] at this
      omega
    rw [ems] at s2 ⊢
    obtain ⟨H2, e2⟩ : ∃ H2, H2 = upd H1 p2 (.lst (ms.map V.int)) := ⟨_, rfl⟩
    rw [← e2] at s2 ⊢
    have hp2' : H2 p2 = some (.lst (ms.map V.int)) := by rw [e2]; exact upd_same
    refine ⟨p2, rfl, ⟨_, SqL.of hp2'⟩, for_list (xs := ms.map V.int) (fun i σ' H' => (∃ sd x2, σ' = [some (.ref a), some (.int sd), x2]) ∧ H' = H2) ⟨⟨_, _, rfl⟩, rfl⟩ (fun i σ' H' _ hp => by rw [hp.2]; exact SqL.of hp2') ?_ ?_⟩
    · rintro i z σ' H' hz ⟨⟨sd, x2, rfl⟩, rfl⟩
      obtain ⟨c, rfl⟩ : ∃ c : Int, z = .int c := by
        rw [List.getElem?_map] at hz
        cases q : ms[i]? with
        | none => rw [q] at hz; cases hz
        | some c => rw [q] at hz; exact ⟨c, (Option.some.inj hz).symm⟩
      refine ⟨_, rfl, _, _, rfl, rfl, .inr (by decide), ?_⟩
      refine ⟨_, rfl, .inl ⟨_, rfl, _, _, rfl, rfl, by show (0 : Int) < 2147483629; decide, ?_⟩⟩
      refine ⟨_, _, rfl, rfl, _, _, rfl, rfl, .inl ⟨_, rfl, _, _, rfl, rfl, by show (0 : Int) < 2147483647; decide, ?_⟩⟩
      exact ⟨⟨_, _, rfl⟩, rfl⟩
    · rintro σ' H' ⟨⟨sd, x2, rfl⟩, rfl⟩
      refine ⟨_, rfl, _, rfl, _, rfl, a, _, rfl, s2.seq hS, fun p3 hp3 => ?_⟩
      rw [ems]
      have s3 := s2.trans (same_new (o := .lst (ms.map V.int)) hp3)
      refine ⟨p3, rfl, ⟨_, SqL.of upd_same⟩, fun l hl => ?_⟩
      have npl : p3 ≠ l := ne_of_none upd_same hl
      have hl0 : H l = none := s3.free hl
      refine lc_list (xs := ms.map V.int) (fun i H' => ∃ acc : List Int, H' l = some (.lst (acc.map V.int)) ∧ acc.length ≤ i ∧ Same H H' ∧ H' p3 = some (.lst (ms.map V.int))) ⟨[], upd_same, Nat.le_refl _, same_mut s3 hl0, by rw [upd_ne npl, upd_same]⟩ (fun i H' _ hp => SqL.of hp.choose_spec.2.2.2) ?_ ?_
      · rintro i z H' hz ⟨acc, h1, h2, h3, h4⟩
        have il := (List.getElem?_eq_some_iff.mp hz).1
        rw [List.length_map] at il
        obtain ⟨c, rfl⟩ : ∃ c : Int, z = .int c := by
          rw [List.getElem?_map] at hz
          cases q : ms[i]? with
          | none => rw [q] at hz; cases hz
          | some c => rw [q] at hz; exact ⟨c, (Option.some.inj hz).symm⟩
        refine ⟨rfl, _, rfl, _, rfl, _, _, rfl, rfl, by unfold CPow; decide, _, _, rfl, rfl, _, rfl, ?_⟩
        refine ite2 (fun _ => ?_) (fun _ => ?_)
        · refine ⟨_, rfl, _, rfl, _, h1, small_lt (by rw [List.length_map]; omega), acc ++ [_], by rw [upd_same, List.map_append]; rfl, by rw [List.length_append]; exact Nat.succ_le_succ h2, same_mut h3 hl0, by rw [upd_ne npl]; exact h4⟩
        · exact ⟨acc, h1, by omega, h3, h4⟩
      · rintro H' ⟨acc, h1, h2, h3, h4⟩
        refine ⟨by show 3 ≤ sizeLine; decide, fun t ht => ?_⟩
        have nlt : l ≠ t := ne_of_none h1 ht
        exact k t l _ (same_mut h3 (h3.free ht)) (h3.free ht) hl0 ⟨sd, 0, acc, upd_same, by rw [upd_ne nlt]; exact h1⟩
def spDraw : Sp := fun vs H Q _ => ∃ (t l : Addr) (n : Int), vs = [.ref t, .int n] ∧ Po H t l ∧ 0 < n ∧ n < 1073741824 ∧ ∀ (k : Int) (H' : Hp), 0 ≤ k → k < n → Gs t l H H' → Po H' t l → Q (.int k) H'
theorem ok_draw (A : At K mg "_law_draw" s_law_draw ["pool", "many"]) (T : Tx mg) : Dfn P w K mg base "_law_draw" ["pool", "many"] 1 spDraw := by
  refine A.ok sc_law_draw (fun vs H Q E h => ?_) (fun f cdv A outer s H vs Q E hr h => ?_)
  · obtain ⟨t, l, n, rfl, _⟩ := h
    rfl
  · obtain ⟨t, l, n, rfl, ⟨sd, c, cs, hT, hL⟩, hn, hn2, k⟩ := h
    have hlt : l ≠ t := ne_of hL hT (ints_nep _ _ _ _)
    refine ⟨_, (pss_cons (ps_asg (pe_op op_add (pe_ix ix_list (pv 0) pe_int (fun _ _ => rfl)) pe_int) (pg_sub (pv 0) pe_int set_list))
      (pss_cons (ps_set (i := 2) sc_law_draw.nd rfl (Or.inl rfl) (pe_ix ix_list (pv 0) pe_int (fun _ _ => rfl)))
      (pss_cons (ps_if (pt_cmpR op_gt (pe_callB c_len (by rfl) T.len (by decide +kernel) (pa_cons (pv 2) pa_nil)) pe_int (nomark _)) (pss_cons (ps_set (i := 3) sc_law_draw.nd rfl (Or.inl rfl) (pe_op op_mod (pe_callTy c_int (by rfl) T.int (by decide +kernel) (pa_cons (pe_ix ix_list (pv 2) pe_int (fun _ _ => rfl)) pa_nil)) (pv 1)))
      (pss_cons (ps_asg (pe_op op_fdiv (pe_callTy c_int (by rfl) T.int (by decide +kernel) (pa_cons (pe_ix ix_list (pv 2) pe_int (fun _ _ => rfl)) pa_nil)) (pv 1)) (pg_sub (pv 2) pe_int set_list))
      (pss_cons (ps_if (pt_cmpR op_eq (pe_ix ix_list (pv 2) pe_int (fun _ _ => rfl)) pe_int (nomark _)) (pss_one (ps_expr (pe_bm PySem.F.plainAttrs_list PySem.F.slot_list_pop PySem.F.type_list_pop mt_popAt (pv 2) (pa_cons pe_int pa_nil)))) pss_nil)
      (pss_one (ps_ret (pv 3)))))) pss_nil)
      (pss_cons (ps_set (i := 4) sc_law_draw.nd rfl (Or.inl rfl) (pe_op op_mod (pe_callTy c_int (by rfl) T.int (by decide +kernel) (pa_cons (pe_op op_mul (pe_op op_add (pe_ix ix_list (pv 0) pe_int (fun _ _ => rfl)) (pe_op op_mul pe_int (pe_ix ix_list (pv 0) pe_int (fun _ _ => rfl)))) pe_int) pa_nil)) pe_int))
      (pss_cons (ps_set (i := 4) sc_law_draw.nd rfl (Or.inl rfl) (pe_op op_mod (pe_callTy c_int (by rfl) T.int (by decide +kernel) (pa_cons (pe_op op_mul (pv 4) (pe_op op_add (pe_op op_fdiv (pv 4) pe_int) pe_int)) pa_nil)) pe_int))
      (pss_cons (ps_set (i := 4) sc_law_draw.nd rfl (Or.inl rfl) (pe_op op_mod (pe_callTy c_int (by rfl) T.int (by decide +kernel) (pa_cons (pe_op op_mul (pv 4) (pe_op op_add (pe_op op_fdiv (pv 4) pe_int) pe_int)) pa_nil)) pe_int))
      (pss_one (ps_ret (pe_op op_mod (pe_callTy c_int (by rfl) T.int (by decide +kernel) (pa_cons (pe_op op_fdiv (pv 4) pe_int) pa_nil)) (pv 1)))))))))), ?_⟩
    refine ⟨_, rfl, t, _, _, _, rfl, rfl, SqL.of hT, rfl, _, _, rfl, rfl, _, rfl, t, _, _, 1, rfl, rfl, hT, rfl, ?_⟩
    have hT1 : (upd H t (.lst [.int sd, .int (c + 1), .ref l])) t = some (.lst [.int sd, .int (c + 1), .ref l]) := upd_same
    have hL1 : (upd H t (.lst [.int sd, .int (c + 1), .ref l])) l = some (.lst (cs.map V.int)) := by rw [upd_ne hlt]; exact hL
    refine ⟨_, rfl, t, _, _, _, rfl, rfl, SqL.of hT1, rfl, ?_⟩
    refine ⟨_, rfl, l, _, rfl, .inl (SqL.of hL1), _, _, rfl, rfl, _, rfl, ?_⟩
    refine ite2 (fun hc => ?_) (fun _ => ?_)
    · have cpos : 0 < cs.length := by
        have := of_decide_eq_true hc
        rw [List.length_map] at this
        omega
      obtain ⟨c0, cr, rfl⟩ : ∃ c0 cr, cs = c0 :: cr := by
        cases cs with
        | nil => cases cpos
        | cons c0 cr => exact ⟨c0, cr, rfl⟩
      have ha0 : atI ((c0 :: cr).map V.int) 0 = some (V.int c0) := atI_nat (j := 0) (by rfl)
      refine ⟨_, rfl, l, _, _, _, rfl, rfl, SqL.of hL1, ha0, .inl ⟨_, rfl, _, rfl, _, _, rfl, rfl, hn, ?_⟩⟩
      refine ⟨_, rfl, l, _, _, _, rfl, rfl, SqL.of hL1, ha0, .inl ⟨_, rfl, _, rfl, _, _, rfl, rfl, ⟨hn, hn2⟩, ?_⟩⟩
      refine ⟨_, rfl, l, _, _, 0, rfl, rfl, hL1, ix0 (by rw [List.length_map]; exact Nat.succ_pos _), ?_⟩
      have hL2 : (upd (upd H t (.lst [.int sd, .int (c + 1), .ref l])) l (.lst (((c0 :: cr).map V.int).set 0 (V.int (c0 / n))))) l = some (.lst (((c0 / n) :: cr).map V.int)) := upd_same
      have ha1 : atI (((c0 / n) :: cr).map V.int) 0 = some (V.int (c0 / n)) := atI_nat (j := 0) (by rfl)
      have fin0 : ∀ (cs2 : List Int), Q (.int (c0 % n)) (upd (upd H t (.lst [.int sd, .int (c + 1), .ref l])) l (.lst (cs2.map V.int))) := fun cs2 => 
        k _ _ (Int.emod_nonneg _ (by omega)) (Int.emod_lt_of_pos _ hn) (fun b o n m h => by rw [upd_ne m, upd_ne n]; exact h) ⟨sd, c + 1, cs2, by rw [upd_ne hlt.symm]; exact upd_same, upd_same⟩
      have fin : ∀ (cs2 : List Int) (u1 : HO), Q (.int (c0 % n)) (upd (upd (upd H t (.lst [.int sd, .int (c + 1), .ref l])) l u1) l (.lst (cs2.map V.int))) := fun cs2 u1 => by
        rw [upd_upd]
        exact fin0 cs2
      refine ⟨_, rfl, l, _, _, _, rfl, rfl, SqL.of hL2, ha1, rfl, _, rfl, ?_⟩
      refine ite2 (fun _ => ?_) (fun _ => ?_)
      · refine ⟨_, rfl, .inl ⟨rfl, _, SqL.of hL2⟩, l, _, 0, 0, _, rfl, rfl, hL2, by decide, by decide, seq_at (by decide) (by rw [List.length_map, List.length_cons]; omega), by rfl, ?_⟩
        exact ⟨_, rfl, fin cr _⟩
      · exact ⟨_, rfl, fin0 ((c0 / n) :: cr)⟩
    · have m3 : ∀ (x d : Int), 0 < d → 0 ≤ x % d ∧ x % d < d := fun x d h => ⟨Int.emod_nonneg _ (by omega), Int.emod_lt_of_pos _ h⟩
      refine ⟨_, rfl, t, _, _, _, rfl, rfl, SqL.of hT1, rfl, _, rfl, t, _, _, _, rfl, rfl, SqL.of hT1, rfl, _, _, rfl, rfl, .inl ⟨by decide, by decide⟩, _, _, rfl, rfl, ?_⟩
      refine ⟨_, _, rfl, rfl, .inr (by decide), .inl ⟨_, rfl, _, _, rfl, rfl, by show (0 : Int) < 2147483647; decide, ?_⟩⟩
      have q1 := m3 ((sd + 7919 * (c + 1)) * 48271) 2147483647 (by decide)
      generalize ((sd + 7919 * (c + 1)) * 48271) % 2147483647 = u at q1 ⊢
      refine ⟨_, rfl, _, rfl, _, _, rfl, rfl, ⟨by decide, by decide⟩, _, _, rfl, rfl, _, _, rfl, rfl, .inl ⟨by omega, by omega⟩, .inl ⟨_, rfl, _, _, rfl, rfl, by show (0 : Int) < 2147483647; decide, ?_⟩⟩
      have q2 := m3 (u * (u / 1009 + 69621)) 2147483647 (by decide)
      generalize (u * (u / 1009 + 69621)) % 2147483647 = v at q2 ⊢
      refine ⟨_, rfl, _, rfl, _, _, rfl, rfl, ⟨by decide, by decide⟩, _, _, rfl, rfl, _, _, rfl, rfl, .inl ⟨by omega, by omega⟩, .inl ⟨_, rfl, _, _, rfl, rfl, by show (0 : Int) < 2147483399; decide, ?_⟩⟩
      refine ⟨_, rfl, _, _, rfl, rfl, ⟨by decide, by decide⟩, .inl ⟨_, rfl, _, rfl, _, _, rfl, rfl, hn, ?_⟩⟩
      exact k _ _ (m3 _ _ hn).1 (m3 _ _ hn).2 (fun b o n m h => by rw [upd_ne n]; exact h) ⟨sd, c + 1, cs, hT1, hL1⟩
end
end Fo
set_option maxRecDepth 100000
set_option maxHeartbeats 4000000
namespace Fo
open PySem PySem.Spec PyProof.Rows L2
abbrev s_is_integer : Stmt := top 4
abbrev n_is_integer : List Str := ["thing"]
theorem sc_is_integer : FnScope n_is_integer ["thing"] (defScope s_is_integer) := ⟨rfl, rfl, rfl, by decide +kernel, rfl, by decide +kernel, by decide +kernel⟩
abbrev s_is_number : Stmt := top 5
abbrev n_is_number : List Str := ["bound", "thing"]
theorem sc_is_number : FnScope n_is_number ["bound", "thing"] (defScope s_is_number) := ⟨rfl, rfl, rfl, by decide +kernel, rfl, by decide +kernel, by decide +kernel⟩
abbrev s_is_numbers : Stmt := top 6
abbrev n_is_numbers : List Str := ["bound", "thing", "one"]
theorem sc_is_numbers : FnScope n_is_numbers ["bound", "thing"] (defScope s_is_numbers) := ⟨rfl, rfl, rfl, by decide +kernel, rfl, by decide +kernel, by decide +kernel⟩
abbrev s_is_ascending : Stmt := top 7
abbrev n_is_ascending : List Str := ["bound", "thing", "low", "high"]
theorem sc_is_ascending : FnScope n_is_ascending ["bound", "thing"] (defScope s_is_ascending) := ⟨rfl, rfl, rfl, by decide +kernel, rfl, by decide +kernel, by decide +kernel⟩
section
variable {P : Program} {w : World} {K : PySem.W.Frag} {mg : Str → Option Value} {base : Heap} {C : Addr}
def spInteger (K : PySem.W.Frag) (C : Addr) : Sp := fun vs H Q _ => ∃ x, vs = [x] ∧ Th K C H x ∧ Q (.bl (isIntV x)) H
theorem ok_is_integer (A : At K mg "is_integer" s_is_integer ["thing"]) (T : Tx mg) (tc : TC K C) : Dfn P w K mg base "is_integer" ["thing"] 1 (spInteger K C) := by
  refine A.ok sc_is_integer (fun vs H Q E h => ?_) (fun f cdv A outer s H vs Q E hr h => ?_)
  · obtain ⟨x, rfl, _⟩ := h
    rfl
  · obtain ⟨x, rfl, hx, k⟩ := h
    obtain ⟨t, b1, b2, ty, h1, h2, h3⟩ := th_kit tc hx
    refine ⟨_, (pss_one (ps_ret (pe_and (pe_callB call_isi (by rfl) T.isinstance (by decide +kernel) (pa_cons (pv 0) (pa_cons (pe_bltn (v := V.ty "int") (by rfl) T.int (by decide +kernel) rfl) pa_nil))) (pe_one (pe_not (pe_callB call_isi (by rfl) T.isinstance (by decide +kernel) (pa_cons (pv 0) (pa_cons (pe_bltn (v := V.ty "bool") (by rfl) T.bool (by decide +kernel) rfl) pa_nil)))))))), ?_⟩
    refine ⟨_, rfl, x, .ty "int", t, .type "int", b1, rfl, .ty "int", ty, h1, b1, rfl, ?_⟩
    cases b1 with
    | true =>
      refine ⟨_, rfl, x, .ty "bool", t, .type "bool", b2, rfl, .ty "bool", ty, h2, b2, rfl, ?_⟩
      rw [Bool.true_and] at h3
      rw [h3]
      exact k
    | false =>
      rw [Bool.false_and] at h3
      rw [← h3] at k
      exact k
def spNumber (K : PySem.W.Frag) (C : Addr) : Sp := fun vs H Q _ => ∃ (b : Int) (x : V), vs = [.int b, x] ∧ Th K C H x ∧ Q (.bl (numV b x)) H
theorem ok_is_number (A : At K mg "is_number" s_is_number ["bound", "thing"]) (T : Tx mg) (G_is_integer : Dfn P w K mg base "is_integer" ["thing"] 1 (spInteger K C)) : Dfn P w K mg base "is_number" ["bound", "thing"] 2 (spNumber K C) := by
  refine A.ok sc_is_number (fun vs H Q E h => ?_) (fun f cdv A outer s H vs Q E hr h => ?_)
  · obtain ⟨b, x, rfl, _⟩ := h
    rfl
  · obtain ⟨b, x, rfl, hx, k⟩ := h
    refine ⟨_, (pss_one (ps_ret (pe_and (pe_d G_is_integer (hr.mono (by decide)) (pa_cons (pv 1) pa_nil)) (pe_one (pe_chain op_le op_lt pe_int (pv 1) (pv 0)))))), ?_⟩
    refine ⟨_, rfl, x, rfl, hx, _, rfl, ?_⟩
    cases x with
    | int i =>
      have k : Q (.bl (decide (0 ≤ i) && decide (i < b))) H := k
      refine ⟨_, rfl, 0, i, rfl, rfl, _, rfl, ?_⟩
      refine ite2 (fun h1 => ?_) (fun h1 => ?_)
      · rw [h1, Bool.true_and] at k
        exact ⟨_, rfl, i, b, rfl, rfl, k⟩
      · rw [show decide (0 ≤ i) = false from Bool.eq_false_iff.mpr h1, Bool.false_and] at k
        exact k
    | _ => exact k
def numbersOf (b : Int) : Option (List V) → Bool
  | some xs => xs.all (numV b)
  | none => false
def spNumbers (K : PySem.W.Frag) (C : Addr) : Sp := fun vs H Q _ => ∃ (b : Int) (x : V) (o : Option (List V)), vs = [.int b, x] ∧ Tg K C H x o ∧ ∀ H', Same H H' → Q (.bl (numbersOf b o)) H'
theorem ok_is_numbers (A : At K mg "is_numbers" s_is_numbers ["bound", "thing"]) (T : Tx mg) (G_is_number : Dfn P w K mg base "is_number" ["bound", "thing"] 2 (spNumber K C)) : Dfn P w K mg base "is_numbers" ["bound", "thing"] 3 (spNumbers K C) := by
  refine A.ok sc_is_numbers (fun vs H Q E h => ?_) (fun f cdv A outer s H vs Q E hr h => ?_)
  · obtain ⟨b, x, o, rfl, _⟩ := h
    rfl
  · obtain ⟨b, x, o, rfl, hx, k⟩ := h
    refine ⟨_, (pss_one (ps_ret (pe_and (pe_callB call_isi (by rfl) T.isinstance (by decide +kernel) (pa_cons (pv 1) (pa_cons (pe_bltn (v := V.ty "tuple") (by rfl) T.tuple (by decide +kernel) rfl) pa_nil))) (pe_one (pe_callB (cr_all rfl) (by rfl) T.all (by decide +kernel) (pa_cons (pe_lc (own := [("one", 2)]) (g := (gName 2)) (tt := tYes) (te := (tCall (spNumber K C) [] E0 (tCons (tVar 0) (tCons (tVar 2) tNil)))) (by rfl) sc_is_numbers.nd (pi_tup (pv 1)) (blkOk_by (own := [("one", 2)]) (N := n_is_numbers) (sc := (defScope s_is_numbers)) (by decide +kernel)) (fun _ _ _ _ _ => (pg_name (i := 2) sc_is_numbers.nd rfl (Or.inl rfl))) (fun _ _ _ _ _ => pts_nil) (fun _ _ _ _ _ => (pe_d G_is_number (hr.mono (by decide)) (pa_cons (pv 0) (pa_cons (pv 2) pa_nil))))) pa_nil)))))), ?_⟩
    cases hx with
    | no ty hk => exact ⟨_, rfl, x, .ty "tuple", _, .type "tuple", false, rfl, .ty "tuple", ty, hk, false, rfl, k H (Same.refl H)⟩
    | @tup a xs hq hi hz =>
      refine ⟨_, rfl, .ref a, .ty "tuple", _, .type "tuple", true, rfl, .ty "tuple", tyX_sqT hq, kit_ty (by decide +kernel), true, rfl, ?_⟩
      refine ⟨_, rfl, a, rfl, ⟨xs, hq⟩, fun D hD => lc_tup (xs := xs) (fun i H' => H' D = some (.lst ((xs.take i).map fun x => V.bl (numV b x))) ∧ Same H H') ⟨by rw [upd_same]; rfl, same_new hD⟩ (fun i H' _ p => sqT_same p.2 hq) (fun i y H' hy p => ?_) (fun H' p => ?_)⟩
      · refine ⟨rfl, _, rfl, _, rfl, b, y, rfl, (hi y (List.mem_of_getElem? hy)).same p.2, _, p.1, by rw [List.length_map]; exact small_lt (Nat.le_trans (List.length_take_le _ _) (by have := (List.getElem?_eq_some_iff.mp hy).1; omega)), ?_, same_mut p.2 hD⟩
        rw [upd_same, List.take_add_one, hy, List.map_append]
        rfl
      · obtain ⟨p1, p2⟩ := p
        rw [List.take_length] at p1
        refine ⟨D, xs.map (numV b), rfl, SqL.of (by rw [p1, List.map_map]; rfl), ?_⟩
        have e : (xs.map (numV b)).all id = numbersOf b (some xs) := by
          show _ = xs.all (numV b)
          rw [List.all_map]
          rfl
        rw [e]
        exact k H' p2
def ascOf (b : Int) : Option (List V) → Bool
  | some xs => ascV b xs
  | none => false
def spAsc (K : PySem.W.Frag) (C : Addr) : Sp := fun vs H Q _ => ∃ (b : Int) (x : V) (o : Option (List V)), vs = [.int b, x] ∧ Tg K C H x o ∧ ∀ H', Same H H' → Q (.bl (ascOf b o)) H'
theorem asc_lc {a p D : Addr} {ns : List Int} {H2 : Hp} {b : Int} {Qd : Hp → Prop} (hD : H2 D = none) (hx : SqT K H2 a (ns.map V.int)) (hy : SqT K H2 p ((ns.map V.int).drop 1)) (hz : ns.length ≤ 100000)
    (hd : ∀ H', Same H2 H' → H' D = some (.lst (((ns.map V.int).zip ((ns.map V.int).drop 1)).map fun q => V.bl (ltV q.1 q.2))) → Qd H') :
    ∃ W : Nat → Nat → Hp → Prop, (∃ m, W 0 m (upd H2 D (.lst []))) ∧ ∀ i m H, W i m H →
      ((RZ.ItzT K a p).stop i H ∧ Qd H) ∨ ((RZ.ItzT K a p).go i H ∧ ∃ Nx : Hp → Prop, (∀ H', Nx H' → ∃ m', m' < m ∧ W (i + 1) m' H') ∧ ∀ x H', (RZ.ItzT K a p).yld i H x H' → (gTup K 2 (gCons (gName 2) (gCons (gName 3) gNil))) x (wipe [some (.int b), some (.ref a), none, none] [2, 3]) H' fun σ2 H2 => wipe σ2 [2, 3] = wipe [some (.int b), some (.ref a), none, none] [2, 3] ∧ tYes σ2 H2 fun c H3 =>
        if c = true then (tOp (rI0 fun i j => V.bl (decide (i < j))) (tVar 2) (tVar 3)) σ2 H3 fun y H4 => ∃ acc, H4 D = some (.lst acc) ∧ acc.length < sizeLine ∧ Nx (upd H4 D (.lst (acc ++ [y]))) else Nx H3) := by
  refine lc_zipT (xs := ns.map V.int) (ys := (ns.map V.int).drop 1) (by rw [List.length_drop]; omega) (fun i H' => H' D = some (.lst ((((ns.map V.int).zip ((ns.map V.int).drop 1)).take i).map fun q => V.bl (ltV q.1 q.2))) ∧ Same H2 H') ⟨by rw [upd_same]; rfl, same_new hD⟩ (fun i H' _ q => ⟨sqT_same q.2 hx, sqT_same q.2 hy⟩) ?_ ?_
  · rintro i x y H3 T hxi hyi ⟨q1, q2⟩ hT
    have hDT : D ≠ T := ne_of_none q1 hT
    obtain ⟨u, rfl⟩ : ∃ u, x = V.int u := by
      rw [List.getElem?_map] at hxi
      cases e : ns[i]? with
      | none => rw [e] at hxi; cases hxi
      | some u => rw [e] at hxi; exact ⟨u, (Option.some.inj hxi).symm⟩
    obtain ⟨v, rfl⟩ : ∃ v, y = V.int v := by
      rw [List.getElem?_drop, List.getElem?_map] at hyi
      cases e : ns[1 + i]? with
      | none => rw [e] at hyi; cases hyi
      | some v => rw [e] at hyi; exact ⟨v, (Option.some.inj hyi).symm⟩
    have hzip : ((ns.map V.int).zip ((ns.map V.int).drop 1))[i]? = some (V.int u, V.int v) := List.getElem?_zip_eq_some.mpr ⟨hxi, hyi⟩
    refine ⟨T, [.int u, .int v], rfl, SqT.of upd_same, rfl, .int u, [.int v], rfl, .int v, [], rfl, rfl, rfl, _, rfl, _, rfl, u, v, rfl, rfl, _, by rw [upd_ne hDT]; exact q1, by rw [List.length_map]; exact small_lt (Nat.le_trans (List.length_take_le _ _) (by have := (List.getElem?_eq_some_iff.mp hxi).1; rw [List.length_map] at this; omega)), ?_, same_mut (q2.trans (same_new hT)) hD⟩
    rw [upd_same, List.take_add_one, hzip, List.map_append]
    rfl
  · rintro H3 ⟨q1, q2⟩
    refine hd H3 q2 ?_
    rw [q1, List.take_of_length_le]
    rw [List.length_zip]
    exact Nat.min_le_right _ _
theorem ok_is_ascending (A : At K mg "is_ascending" s_is_ascending ["bound", "thing"]) (T : Tx mg) (G_is_numbers : Dfn P w K mg base "is_numbers" ["bound", "thing"] 3 (spNumbers K C)) : Dfn P w K mg base "is_ascending" ["bound", "thing"] 4 (spAsc K C) := by
  refine A.ok sc_is_ascending (fun vs H Q E h => ?_) (fun f cdv A outer s H vs Q E hr h => ?_)
  · obtain ⟨b, x, o, rfl, _⟩ := h
    rfl
  · obtain ⟨b, x, o, rfl, hx, k⟩ := h
    refine ⟨_, (pss_one (ps_ret (pe_and (pe_d G_is_numbers (hr.mono (by decide)) (pa_cons (pv 0) (pa_cons (pv 1) pa_nil))) (pe_one (pe_callB (cr_all rfl) (by rfl) T.all (by decide +kernel) (pa_cons (pe_lc (own := [("low", 2), ("high", 3)]) (g := (gTup K 2 (gCons (gName 2) (gCons (gName 3) gNil)))) (tt := tYes) (te := (tOp (rI0 fun i j => V.bl (decide (i < j))) (tVar 2) (tVar 3))) (by rfl) sc_is_ascending.nd (RZ.pi_zipA (by rfl) T.zip (pa_cons (pv 1) (pa_cons (pe_slice sl_tupA (pv 1) (po_some pe_int) po_none) pa_nil))) (blkOk_by (own := [("low", 2), ("high", 3)]) (N := n_is_ascending) (sc := (defScope s_is_ascending)) (by decide +kernel)) (fun _ _ _ _ _ => (pg_tup rfl (pgs_cons (pg_name (i := 2) sc_is_ascending.nd rfl (Or.inl rfl)) (pgs_cons (pg_name (i := 3) sc_is_ascending.nd rfl (Or.inl rfl)) pgs_nil)))) (fun _ _ _ _ _ => pts_nil) (fun _ _ _ _ _ => (pe_cmpR op_lt (pv 2) (pv 3) (nomark _)))) pa_nil)))))), ?_⟩
    refine ⟨_, rfl, _, rfl, b, x, o, rfl, hx, fun H1 s1 => ⟨_, rfl, ?_⟩⟩
    cases hx with
    | no ty hk => exact k H1 s1
    | @tup a xs hq hi hz =>
      have kk : ∀ H', Same H H' → Q (.bl (ascV b xs)) H' := k
      show if xs.all (numV b) = true then _ else _
      cases hn : xs.all (numV b) with
      | false =>
        have e : ascV b xs = false := by rw [ascV_eq, hn]; rfl
        rw [e] at kk
        exact kk H1 s1
      | true =>
        obtain ⟨ns, rfl, hb⟩ := all_num_ints hn
        have hq1 := sqT_same s1 hq
        have cut : cutV (ns.map V.int) (some 1) none = (ns.map V.int).drop 1 := by
          unfold cutV
          rw [show HT.sIx (ns.map V.int).length 0 (some 1) = min 1 (ns.map V.int).length from HT.sIx_nat _ 0 1, HT.sIx_none]
          cases ns with
          | nil => rfl
          | cons x r =>
            rw [show min 1 ((x :: r).map V.int).length = 1 by rw [List.map_cons, List.length_cons]; omega]
            show List.take (((x :: r).map V.int).length - 1) (r.map V.int) = r.map V.int
            rw [List.map_cons, List.length_cons, Nat.add_sub_cancel]
            exact List.take_length
        have kk2 : ∀ (D : Addr) (H' : Hp), Same H H' → H' D = some (.lst (((ns.map V.int).zip ((ns.map V.int).drop 1)).map fun q => V.bl (ltV q.1 q.2))) → ∃ (a : Addr) (bs : List Bool), [V.ref D] = [V.ref a] ∧ SqL K H' a (bs.map V.bl) ∧ Q (.bl (bs.all id)) H' := fun D H' s2 hD => by
          refine ⟨D, ((ns.map V.int).zip ((ns.map V.int).drop 1)).map fun q => ltV q.1 q.2, rfl, SqL.of (by rw [hD, List.map_map]; rfl), ?_⟩
          have e : ((((ns.map V.int).zip ((ns.map V.int).drop 1)).map fun q => ltV q.1 q.2).all id) = ascV b (ns.map V.int) := by
            rw [ascV_eq, hn, Bool.true_and, List.all_map]
            rfl
          rw [e]
          exact kk H' s2
        have nz : ns.length ≤ 100000 := by rw [List.length_map] at hz; exact hz
        refine ⟨_, rfl, _, rfl, 1, rfl, a, ns.map V.int, rfl, hq1, fun hw => ?_, fun hw p hp => ?_⟩
        · have e0 : ns = [] := by
            cases ns with
            | nil => rfl
            | cons x r =>
              have h1 := hw.1
              rw [show HT.sIx ((x :: r).map V.int).length 0 (some 1) = min 1 ((x :: r).map V.int).length from HT.sIx_nat _ 0 1, List.map_cons, List.length_cons] at h1
              omega
          have hy : SqT K H1 a ((ns.map V.int).drop 1) := by rw [e0] at hq1 ⊢; exact hq1
          exact ⟨a, a, _, _, rfl, .inr ⟨hq1, hy, fun D hD => asc_lc hD hq1 hy nz fun H' s2 q => kk2 D H' (s1.trans s2) q⟩⟩
        · rw [cut]
          have hx2 := sqT_same (same_new (o := .tup ((ns.map V.int).drop 1)) hp) hq1
          exact ⟨a, p, _, _, rfl, .inr ⟨hx2, SqT.of upd_same, fun D hD => asc_lc hD hx2 (SqT.of upd_same) nz fun H' s2 q => kk2 D H' ((s1.trans (same_new hp)).trans s2) q⟩⟩
end
end Fo
set_option maxRecDepth 100000
set_option maxHeartbeats 2000000
set_option maxRecDepth 100000
set_option maxHeartbeats 2000000
namespace Fo
open PySem PySem.Spec PyProof.Rows L2
structure XcC (K : PySem.W.Frag) (D : Addr) : Prop where
  hc : (PySem.W.clsIn K D).isSome = true
  hg : PySem.W.findIn K (.ref D) "__getattribute__" = some (some (.builtin "BaseException.__getattribute__"))
  hk : PySem.W.findIn K (.ref D) "__getattr__" = some none
  hs : PySem.W.subIn K (.ref D) (.type "BaseException") = some true
  ha : PySem.W.findIn K (.ref D) "__class__" = some (some (.builtin "object.__class__"))
  hn : PySem.W.specialIn K (.builtin "object.__class__") "__get__" = some (some (.builtin "getset_descriptor.__get__"))
  ht : PySem.W.takesIn K (.builtin "object.__class__") = some true
  hm : PySem.W.mroIn K D (.type "object") = some true
end Fo
set_option maxRecDepth 100000
set_option maxHeartbeats 4000000
namespace Fo
open PySem PySem.Spec PyProof.Rows L2
structure DfnX (P : Program) (w : World) (K : PySem.W.Frag) (mg : Str → Option Value) (base : Heap) (x : Str) (ps : List Str) (k : Nat) (sp : Sp) : Prop where
  ex : ∃ f fd, mg x = some (.ref f) ∧ PySem.W.keepIn K (.ref f) = true ∧ FnOk P w K mg base (CX P w) k f fd ps sp ∧ Binds K fd ps []
theorem pe_dX {X : Cx} {x : Str} {ps : List Str} {k : Nat} {sp : Sp} {E : XK} {e : Expr} {es : List Expr} {t : TA} {p pos : Pos} (G : DfnX X.prog X.w X.K X.mg X.base x ps k sp) (hr : Room k X.A) (hx : Passes (CX X.prog X.w) X E) (ha : PA X (e :: es) t) (hg : Gl X x := by rfl)
    (hdb : (x == ("__debug__" : Str)) = false := by decide) (he : starEach (e :: es) X.env = (false, eval e X.env) :: starEach es X.env := by rfl) (hpl : (backTo pos (starEach es X.env)).any (·.1) = false := by rfl) :
    PE X (.Call (.Name x p) (e :: es) [] pos) (tCall sp [] E t) := by
  obtain ⟨f, fd, hm, kp, F, b⟩ := G.ex
  exact pe_call F hr hg hm kp b .nil hx ha hdb he hpl
theorem At.okX {P : Program} {w : World} {K : PySem.W.Frag} {mg : Str → Option Value} {base : Heap} {x : Str} {st : Stmt} {N ps : List Str} {k : Nat} {sp : Sp} (a : At K mg x st ps) (S : FnScope N ps (defScope st)) (len : ∀ vs H Q E, sp vs H Q E → vs.length = ps.length)
    (hbody : ∀ (f : Addr) (cdv : Value) (A : Around) (outer : List Env) (s : Shared) (H : Hp) (vs : List V) (Q : VK) (E : XK), Room k (A.deeper (envOfC x (defScope st) s.heap.objs.size f cdv)) → sp vs H Q E →
      ∃ t, PSs (cxOf (L2.CX P w) P w K mg base N x (defScope st) f cdv A outer s H E) (defBody st) t ∧ t { nx := fun _ H' => Q .non H', rt := Q } (start N vs) H) : DfnX P w K mg base x ps (k + 1) sp := by
  obtain ⟨f, fd, hm, F, b⟩ := a.ex
  exact ⟨f, fd, hm, F.kp, F.okX S len (hbody f), b⟩
end Fo
set_option maxRecDepth 100000
set_option maxHeartbeats 4000000
namespace Fo
open PySem PySem.Spec PyProof.Rows L2
def spFld1 (D : Addr) (x : Str) : Sp := fun vs H Q _ => ∃ (a : Addr) (u : V), vs = [.ref a, u] ∧ H a = some (exo a D none) ∧ ∀ (d : Addr) (H' : Hp), (∀ b o, b ≠ a → H b = some o → H' b = some o) → H d = none → d ≠ a → H' a = some (exo a D (some d)) → H' d = some (exd d [(x, u)]) → Q .non H'
structure Er1 (P : Program) (w : World) (K : PySem.W.Frag) (mg : Str → Option Value) (base : Heap) (x fld : Str) (D : Addr) : Prop where
  oex : OexC K D
  gC : mg x = some (.ref D)
  ini : ∃ fI fd, PySem.W.findIn K (.ref D) "__init__" = some (some (.ref fI)) ∧ PySem.W.typeIn K (.ref fI) = some (.type "function") ∧ FnOk P w K mg base CX0 1 fI fd ["self", fld] (spFld1 D fld) ∧ Binds K fd ["self", fld] []
def MonoA (ta : TA) : Prop := ∀ σ H (A B : List V → Hp → Prop), (∀ vs H1, A vs H1 → B vs H1) → ta σ H A → ta σ H B
theorem pmk_er1 {X : Cx} {x fld : Str} {D : Addr} {e : Expr} {ta : TA} {p pos : Pos} (T : Er1 X.prog X.w X.K X.mg X.base x fld D) (hr : Room 2 X.A) (hg : Gl X x) (ha : PA X [e] ta) (hmo : MonoA ta) (hdb : (x == ("__debug__" : Str)) = false := by decide) (he : starEach [e] X.env = (false, eval e X.env) :: starEach [] X.env := by rfl) (hpl : (backTo pos (starEach [] X.env)).any (·.1) = false := by rfl) :
    PMk X (.Call (.Name x p) [e] [] pos) (fun σ H Q => ta σ H fun vs H1 => ∃ u, vs = [u] ∧ ∀ d H', Same H1 H' → H1 d = none → H' d = some (.xd [(fld, u)]) → Q (.ref D) (some d) H') := by
  obtain ⟨fI, fd, iC, tI, F1, hb⟩ := T.ini
  intro pins s σ H Q I h
  refine pmk_oex T.oex iC tI F1 hr hb .nil pass0 hg T.gC ha hdb he hpl pins s σ H Q I ?_
  refine hmo σ H _ _ (fun vs H1 h2 => ?_) h
  obtain ⟨u, rfl, k2⟩ := h2
  refine ⟨by show 1 ≤ 1000; decide, fun a ha => ⟨a, _, rfl, upd_same, fun d H' hk hdn hne h1 h2 => ⟨rfl, d, _, h1, h2, ?_, ?_⟩⟩⟩
  · rw [upd_ne hne] at hdn
    exact hdn
  · have hdn' : H1 d = none := by rw [upd_ne hne] at hdn; exact hdn
    refine k2 d _ (fun b o e1 => ?_) hdn' upd_same
    have hba : b ≠ a := ne_of_none e1 ha
    have hbd : b ≠ d := ne_of_none e1 hdn'
    rw [upd_ne hbd, del_ne hba]
    exact hk b o hba (by rw [upd_ne hba]; exact e1)
end Fo
set_option maxRecDepth 100000
set_option maxHeartbeats 2000000
namespace Fo
open PySem PySem.Spec PyProof.Rows L2
/-- a set of the ints of a tuple; how many there are is left open but for the bound -/
def rSetI (K : PySem.W.Frag) (w : World) : List V → Hp → VK → Prop := fun xs H Q => ∃ (p : Addr) (ns : List Int), xs = [.ref p] ∧ SqT K H p (ns.map V.int) ∧ ns.length ≤ 1000 ∧ ∀ (a : Addr) (n : Nat), H a = none → n ≤ ns.length → Q (.ref a) (upd H a (SetO w a (fun j => decide (j ∈ ns)) n))
theorem ints_of : ∀ {ns : List Int} {us : List Value}, Vals (ns.map V.int) us → IntsAre us ns
  | [], [], _ => .nil
  | n :: ns, u :: us, .cons r t => by
    obtain ⟨k, rfl⟩ := r
    exact .cons n k (ints_of t)
theorem cr_setI {X : Cx} (hc : X.calm = true) : CallR X (.type "set") (rSetI X.K X.w) := by
  intro pins s σ H xs us Q I r h
  obtain ⟨p, ns, rfl, hS, hl, q⟩ := h
  cases r with
  | cons r0 r1 =>
    cases r1
    cases r0
    obtain ⟨its, rv, hT, hz⟩ := I.tuple hS
    refine call_set_tupI ns (I.ok.hd hc) hT (by simpa using ints_of rv) (by have : (1002 : Nat) < scanBound := by decide
                                                                            omega) fun h' tk c hR hcn hk => ?_
    refine ⟨.ref s.heap.objs.size, _, I.laid (a := s.heap.objs.size) (o := SetO X.w s.heap.objs.size (fun j => decide (j ∈ ns)) c) hk (Nat.le_refl _) ?_, rfl, q _ c (I.hok.fresh (Nat.le_refl _)) hcn⟩
    refine ⟨hR, ?_, fun h1 h2 a b => ?_⟩
    · obtain ⟨o, _, _, _, g, _⟩ := hR
      exact ⟨o, g⟩
    · obtain ⟨o, es, ep, t, g, r⟩ := a
      exact ⟨o, es, ep, t, b o g, r⟩
end Fo
set_option maxRecDepth 100000
set_option maxHeartbeats 2000000
namespace Fo
open PySem PySem.Spec PyProof.Rows L2
section
variable {P : Program} {w : World} {A : Around} {E : Value → Shared → Prop} {s : Shared} {a : Addr}
theorem sorted_setA {M : Int → Bool} {many : Nat} {Want : Value → Shared → Prop} (set : SetR w s.heap a M many) (calm : A.handled = none) (small : many ≤ 100000)
    (go : ∀ (s2 : Shared) (L : Addr) (vals : Array Value) (u : Nat) (ks : List Int), (∀ b o, s.heap.get? b = some o → s2.heap.get? b = some o) → s2.gens = s.gens → s2.os = s.os → s.heap.objs.size ≤ L →
      s2.heap.get? L = some (seqObj "list" vals u) → IntsAre vals.toList ks → ks.Pairwise (· < ·) → (∀ k, k ∈ ks ↔ M k = true) → ks.length = many → Want (.ref L) s2) :
    wpAny (model P w) A (call (.builtin "sorted") [.ref a]) Want E s := by
  obtain ⟨ob, ents, ep, tt, at1, ex1, dat1, raws, one1, mem1, bnd1, fil1, cnt1, rr1, ll1⟩ := set
  refine Calls.call_function_entry kind_sorted plain_sorted entry_sorted (args_sorted1 _) ?_
  unfold Builtin.«sorted»
  refine wpAny_bind (m := checkCount "sorted" 1 1 _) (wpAny_pure ?_)
  refine wpAny_bind (collect_set (A := A.in1) calm ⟨ob, at1, ex1.1, dat1⟩ fil1 bnd1 rr1 ll1 fun s3 items kept sz gens3 os3 perm => ?_)
  have count : items.length = many := Eq.trans perm.length_eq (by rw [List.length_map, Array.length_toList]; exact cnt1)
  have lim : items.length ≤ sizeLine := by rw [count]; exact small_le small
  have allInts := L2.ints_of items fun v hv => by
    obtain ⟨en, hen, q⟩ := List.mem_map.mp (perm.mem_iff.mp hv)
    obtain ⟨k, tk, h1, _⟩ := raws en hen
    exact ⟨k, tk, q.symm.trans h1⟩
  have keys : (items.map Builtin.Re.reRawOf).Perm (ents.toList.map keyOf) := by
    have q := perm.map Builtin.Re.reRawOf
    rw [List.map_map] at q
    exact q
  refine wpAny_bind (wpAny_newList ?_ lim)
  have new := Heap.get?_push_size s3.heap (o := seqObj "list" items.toArray 0) rfl
  refine wpAny_bind (wpAny_holding (wpAny_call_entry slot_list_sort ⟨_, new, rfl⟩ entry_list_sort (list_sort_treeAny new allInts lim fun vals ks are pm up => ⟨_, rfl, ?_⟩) (args_list_sort _)))
  obtain ⟨u, hu⟩ := sortedHeap_at (vs := items) (out := vals) new
  have all : ks.Perm (ents.toList.map keyOf) := pm.trans keys
  have less := L2.lt_of_le_nodup ks up (all.nodup_iff.mpr one1)
  refine wpAny_pure ⟨_, rfl, go _ s3.heap.objs.size vals u ks ?_ gens3 os3 sz hu are less (fun k => by rw [mem1 k, all.mem_iff]) ?_⟩
  · intro b o e
    have old := kept b o e
    have lt := Heap.lt_size old
    have ne : b ≠ s3.heap.objs.size := Nat.ne_of_lt lt
    exact (sortedHeap_old ne (by rw [size_push']; exact Nat.lt_succ_of_lt lt)).trans (Heap.get?_push_of_some _ old)
  · exact all.length_eq.trans (by rw [List.length_map, Array.length_toList]; exact cnt1)
end
def rSortSetA (w : World) : List V → Hp → VK → Prop := fun xs H Q => ∃ (a : Addr) (M : Int → Bool) (many : Nat), xs = [.ref a] ∧ H a = some (SetO w a M many) ∧ many ≤ 100000 ∧
  ∀ (ks : List Int) (L : Addr), ks.Pairwise (· < ·) → (∀ k : Int, k ∈ ks ↔ M k = true) → ks.length = many → H L = none → Q (.ref L) (upd H L (.lst (ks.map V.int)))
theorem cr_sortSetA {X : Cx} (calm : X.calm = true) : CallR X (.builtin "sorted") (rSortSetA X.w) := by
  intro pins s σ H xs us Q I r h
  obtain ⟨a, M, many, rfl, at1, small, q⟩ := h
  have R := setO_get I at1
  rw [Vals.ref1 r]
  refine sorted_setA R (I.ok.hd calm) small fun s2 L vals u ks kept gens2 os2 sz at2 are up mem len => ?_
  have fit : (ks.map V.int).length ≤ sizeLine := by rw [List.length_map, len]; exact small_le small
  have free : H L = none := I.hok.fresh sz
  have J : Inv X pins σ (upd H L (.lst (ks.map V.int))) { s with heap := s2.heap, gens := s2.gens, drawn := s2.drawn, toks := s2.toks } :=
    I.call (ch := []) (Un.laid kept sz free) (I.hok.laid kept sz ⟨fit, vals.toList, u, vals_of_ints are, at2⟩) (by rw [gens2]; exact I.bare) (fun _ z => nomatch z)
  have same : s2 = { s with heap := s2.heap, gens := s2.gens, drawn := s2.drawn, toks := s2.toks } := by
    cases s2
    cases s
    cases os2
    rfl
  rw [same]
  exact ⟨.ref L, _, J, rfl, q ks L up mem len free⟩
end Fo
set_option maxRecDepth 100000
set_option maxHeartbeats 2000000
namespace Fo
open PySem PySem.Spec PyProof.Rows L2
def rSumT (K : PySem.W.Frag) : List V → Hp → VK → Prop := fun vs H Q => ∃ (a : Addr) (ns : List Int), vs = [V.ref a] ∧ SqT K H a (ns.map V.int) ∧ Q (.int ns.sum) H
theorem cr_sumT {X : Cx} (hc : X.calm = true) : CallR X (.builtin "sum") (rSumT X.K) := by
  intro pins s σ H vs us Q I r h
  obtain ⟨a, ns, rfl, hs, q⟩ := h
  obtain ⟨its, rv, ht, _⟩ := I.tuple hs
  rw [Vals.ref1 r]
  have hi := rv.ints
  obtain ⟨xs, e⟩ := hi.allInts.items
  have hn : numsOf (intItems xs).toList = ns := by rw [← e]; exact hi.numsOf
  rw [nums_intItems] at hn
  rw [e] at ht
  refine PySem.W.ktm_sumG (I.ok.hd hc) ht fun h' tk t' hk => ?_
  rw [preSum_eq, List.take_of_length_le (by simp), hn]
  exact ⟨.int _, H, I.kept hk, ⟨_, rfl⟩, q⟩
end Fo
set_option maxRecDepth 100000
set_option maxHeartbeats 4000000
namespace Fo
open PySem PySem.Spec PyProof.Rows L2
abbrev s_are_sizes : Stmt := top 13
abbrev n_are_sizes : List Str := ["least", "thing", "one"]
theorem sc_are_sizes : FnScope n_are_sizes ["least", "thing"] (defScope s_are_sizes) := ⟨rfl, rfl, rfl, by decide +kernel, rfl, by decide +kernel, by decide +kernel⟩
abbrev s_check_kinds : Stmt := top 12
abbrev n_check_kinds : List Str := ["people", "things", "allowed", "row"]
theorem sc_check_kinds : FnScope n_check_kinds ["people", "things", "allowed"] (defScope s_check_kinds) := ⟨rfl, rfl, rfl, by decide +kernel, rfl, by decide +kernel, by decide +kernel⟩
def mostK : Int := 1000000000000000000000000000000
/-- a count of one kind, from b on -/
def cntV (b : Int) : V → Bool
  | .int i => decide (b ≤ i) && decide (i ≤ mostK)
  | _ => false
def sizesO (b : Int) : Option (List V) → Bool
  | some xs => decide (1 ≤ xs.length) && decide (xs.length ≤ 8) && xs.all (cntV b)
  | none => false
def valV : V → Int
  | .int i => i
  | _ => 0
def sumV (xs : List V) : Int := (xs.map valV).sum
def dueA (xs ys : List V) : Option (List (Option (List V))) → Option Str
  | none => some "allowed"
  | some os => if os.length = xs.length then if os.all (ascOf (ys.length : Int)) = true then if sumV xs = sumV ys then none else some "sums" else some "allowed" else some "allowed"
/-- the word of what is wrong with kinds first -/
def dueK (ox oy : Option (List V)) (oo : Option (List (Option (List V)))) : Option Str :=
  if sizesO 0 ox = true then if sizesO 0 oy = true then dueA (ox.getD []) (oy.getD []) oo else some "things" else some "people"
theorem dueK_some {xs ys : List V} {oo : Option (List (Option (List V)))} (c : sizesO 0 (some xs) = true) (c2 : sizesO 0 (some ys) = true) : dueK (some xs) (some ys) oo = dueA xs ys oo := by
  unfold dueK
  rw [if_pos c, if_pos c2]
  rfl
theorem dueA_len {xs ys : List V} {os : List (Option (List V))} (h : os.length ≠ xs.length) : dueA xs ys (some os) = some ("allowed" : Str) := by
  rw [dueA, if_neg h]
theorem dueA_row {xs ys : List V} {os : List (Option (List V))} (h : os.all (ascOf (ys.length : Int)) = false) : dueA xs ys (some os) = some ("allowed" : Str) := by
  rw [dueA, h]
  by_cases e : os.length = xs.length
  · rw [if_pos e, if_neg (by decide)]
  · rw [if_neg e]
theorem dueA_sum {xs ys : List V} {os : List (Option (List V))} (h : os.length = xs.length) (h2 : os.all (ascOf (ys.length : Int)) = true) : dueA xs ys (some os) = if sumV xs = sumV ys then none else some ("sums" : Str) := by
  rw [dueA, if_pos h, if_pos h2]
theorem cnt_ints {b : Int} : ∀ {xs : List V}, xs.all (cntV b) = true → ∃ ns : List Int, xs = ns.map V.int ∧ ∀ n ∈ ns, b ≤ n ∧ n ≤ mostK
  | [], _ => ⟨[], rfl, fun n hn => by cases hn⟩
  | x :: xs, h => by
    rw [List.all_cons, Bool.and_eq_true] at h
    obtain ⟨ns, rfl, hn⟩ := cnt_ints h.2
    match x, h.1 with
    | .int i, h1 =>
      have h1 : (decide (b ≤ i) && decide (i ≤ mostK)) = true := h1
      rw [Bool.and_eq_true, decide_eq_true_iff, decide_eq_true_iff] at h1
      exact ⟨i :: ns, rfl, fun n hn' => (List.mem_cons.mp hn').elim (fun e => by rw [e]; exact h1) (hn n)⟩
theorem sumV_ints (ns : List Int) : sumV (ns.map V.int) = ns.sum := by
  unfold sumV
  rw [List.map_map]
  exact congrArg List.sum (List.map_id ns)
theorem sizes_ints {b : Int} {o : Option (List V)} (h : sizesO b o = true) : ∃ ns : List Int, o = some (ns.map V.int) ∧ 1 ≤ ns.length ∧ ns.length ≤ 8 ∧ ∀ n ∈ ns, b ≤ n ∧ n ≤ mostK := by
  match o, h with
  | some xs, h =>
    have h : (decide (1 ≤ xs.length) && decide (xs.length ≤ 8) && xs.all (cntV b)) = true := h
    rw [Bool.and_eq_true, Bool.and_eq_true, decide_eq_true_iff, decide_eq_true_iff] at h
    obtain ⟨ns, rfl, hn⟩ := cnt_ints h.2
    rw [List.length_map] at h
    exact ⟨ns, rfl, h.1.1, h.1.2, hn⟩
section
variable {K : PySem.W.Frag} {C : Addr}
inductive TgAll (K : PySem.W.Frag) (C : Addr) (H : Hp) : List V → List (Option (List V)) → Prop
  | nil : TgAll K C H [] []
  | cons {x : V} {o : Option (List V)} {xs : List V} {os : List (Option (List V))} (h : Tg K C H x o) (t : TgAll K C H xs os) : TgAll K C H (x :: xs) (o :: os)
theorem TgAll.same {H H' : Hp} (e : Same H H') : ∀ {xs : List V} {os : List (Option (List V))}, TgAll K C H xs os → TgAll K C H' xs os
  | _, _, .nil => .nil
  | _, _, .cons h t => .cons (h.same e) (t.same e)
theorem TgAll.len {H : Hp} : ∀ {xs : List V} {os : List (Option (List V))}, TgAll K C H xs os → xs.length = os.length
  | _, _, .nil => rfl
  | _, _, .cons _ t => congrArg (· + 1) t.len
theorem TgAll.get {H : Hp} : ∀ {xs : List V} {os : List (Option (List V))} {i : Nat} {x : V}, TgAll K C H xs os → xs[i]? = some x → ∃ o, os[i]? = some o ∧ Tg K C H x o
  | _, _, _, _, .nil, h => by simp at h
  | _, _, 0, _, .cons h _, e => ⟨_, rfl, by cases Option.some.inj e; exact h⟩
  | _, _, i + 1, _, .cons _ t, e => t.get (i := i) e
/-- a thing that is handed in as rows -/
inductive Tgg (K : PySem.W.Frag) (C : Addr) (H : Hp) : V → Option (List (Option (List V))) → Prop
  | tup {a : Addr} {xs : List V} {os : List (Option (List V))} (h : SqT K H a xs) (g : TgAll K C H xs os) (hz : xs.length ≤ 100000) : Tgg K C H (.ref a) (some os)
  | no {x : V} {t : Value} (ty : TyX K H x t) (hk : PySem.W.kitOne K t (.type "tuple") = some false) : Tgg K C H x none
end
section
variable {P : Program} {w : World} {K : PySem.W.Frag} {mg : Str → Option Value} {base : Heap} {C : Addr}
def spSizes (K : PySem.W.Frag) (C : Addr) : Sp := fun vs H Q _ => ∃ (b : Int) (x : V) (o : Option (List V)), vs = [.int b, x] ∧ Tg K C H x o ∧ ∀ H', Same H H' → Q (.bl (sizesO b o)) H'
theorem ok_are_sizes {tk tk2 : Tok} (A : At K mg "_are_sizes" s_are_sizes ["least", "thing"]) (T : Tx mg) (hMK : mg "MOST_KINDS" = some (.int 8 tk)) (hMA : mg "MOST_OF_A_KIND" = some (.int 1000000000000000000000000000000 tk2)) (G_is_integer : Dfn P w K mg base "is_integer" ["thing"] 1 (spInteger K C)) : Dfn P w K mg base "_are_sizes" ["least", "thing"] 2 (spSizes K C) := by
  refine A.ok sc_are_sizes (fun vs H Q E h => ?_) (fun f cdv A outer s H vs Q E hr h => ?_)
  · obtain ⟨b, x, o, rfl, _⟩ := h
    rfl
  · obtain ⟨b, x, o, rfl, hx, k⟩ := h
    refine ⟨_, (pss_cons (ps_if (PW.pt (pw_or (pt_not (pt_val (pe_callB call_isi (by rfl) T.isinstance (by decide +kernel) (pa_cons (pv 1) (pa_cons (pe_bltn (v := V.ty "tuple") (by rfl) T.tuple (by decide +kernel) rfl) pa_nil))))) (pw_or1 (pt_not (pt_chain op_le op_le pe_int (pe_callB c_len (by rfl) T.len (by decide +kernel) (pa_cons (pv 1) pa_nil)) (pe_glob (v := V.int 8) (by rfl) hMK ⟨_, rfl⟩)))))) (pss_one (ps_ret pe_bl)) pss_nil)
      (pss_one (ps_ret (pe_callB (cr_all rfl) (by rfl) T.all (by decide +kernel) (pa_cons (pe_lc (own := [("one", 2)]) (g := (gName 2)) (tt := tYes) (te := (tAndV (tCall _ [] E0 (tCons (tVar 2) tNil)) (tChain (rI0 fun i j => V.bl (decide (i ≤ j))) (rI0 fun i j => V.bl (decide (i ≤ j))) (tVar 0) (tVar 2) (tC (V.int 1000000000000000000000000000000))))) (by rfl) sc_are_sizes.nd (pi_tup (pv 1)) (blkOk_by (own := [("one", 2)]) (N := n_are_sizes) (sc := (defScope s_are_sizes)) (by decide +kernel)) (fun _ _ _ _ _ => (pg_name (i := 2) sc_are_sizes.nd rfl (Or.inl rfl))) (fun _ _ _ _ _ => pts_nil) (fun _ _ _ _ _ => (pe_and (pe_d G_is_integer (hr.mono (by decide)) (pa_cons (pv 2) pa_nil)) (pe_one (pe_chain op_le op_le (pv 0) (pv 2) (pe_glob (v := V.int 1000000000000000000000000000000) (by rfl) hMA ⟨_, rfl⟩)))))) pa_nil))))), ?_⟩
    cases hx with
    | no ty hk => exact ⟨_, rfl, x, .ty "tuple", _, .type "tuple", false, rfl, .ty "tuple", ty, hk, false, rfl, k H (Same.refl H)⟩
    | @tup a xs hq hi hz =>
      refine ⟨_, rfl, .ref a, .ty "tuple", _, .type "tuple", true, rfl, .ty "tuple", tyX_sqT hq, kit_ty (by decide +kernel), true, rfl, _, rfl, ?_⟩
      refine ⟨a, _, rfl, .inr hq, 1, ((xs.length : Nat) : Int), rfl, rfl, _, rfl, ?_⟩
      have bad : (decide (1 ≤ xs.length) && decide (xs.length ≤ 8)) = false → Q (.bl false) H := fun z => by
        have e : sizesO b (some xs) = false := by
          show (decide (1 ≤ xs.length) && decide (xs.length ≤ 8) && xs.all (cntV b)) = false
          rw [z, Bool.false_and]
        have := k H (Same.refl H)
        rw [e] at this
        exact this
      refine ite2 (fun h1 => ?_) (fun h1 => ?_)
      · have h1 : (1 : Int) ≤ ((xs.length : Nat) : Int) := of_decide_eq_true h1
        refine ⟨((xs.length : Nat) : Int), 8, rfl, rfl, _, rfl, ?_⟩
        by_cases h8 : xs.length ≤ 8
        · rw [show decide (((xs.length : Nat) : Int) ≤ 8) = true from decide_eq_true (by omega)]
          refine ite2 (fun n => by cases n) (fun _ => ?_)
          refine ⟨_, rfl, a, rfl, ⟨xs, hq⟩, fun D hD => lc_tup (xs := xs) (fun i H' => H' D = some (.lst ((xs.take i).map fun x => V.bl (cntV b x))) ∧ Same H H') ⟨by rw [upd_same]; rfl, same_new hD⟩ (fun i H' _ p => sqT_same p.2 hq) (fun i y H' hy p => ?_) (fun H' p => ?_)⟩
          · refine ⟨rfl, _, rfl, y, rfl, (hi y (List.mem_of_getElem? hy)).same p.2, _, rfl, ?_⟩
            have put : ∀ c : Bool, c = cntV b y → ∃ acc, H' D = some (.lst acc) ∧ acc.length < sizeLine ∧ upd H' D (.lst (acc ++ [V.bl c])) D = some (.lst ((xs.take (i + 1)).map fun x => V.bl (cntV b x))) ∧ Same H (upd H' D (.lst (acc ++ [V.bl c]))) := fun c e => by
              refine ⟨_, p.1, by rw [List.length_map]; exact small_lt (Nat.le_trans (List.length_take_le _ _) (by have := (List.getElem?_eq_some_iff.mp hy).1; omega)), ?_, same_mut p.2 hD⟩
              rw [upd_same, List.take_add_one, hy, List.map_append, e]
              rfl
            cases y with
            | int i =>
              refine ⟨_, rfl, _, rfl, b, i, rfl, rfl, _, rfl, ?_⟩
              refine ite2 (fun h1 => ?_) (fun h1 => ?_)
              · exact ⟨i, mostK, rfl, rfl, put _ (by show decide (i ≤ mostK) = (decide (b ≤ i) && decide (i ≤ mostK)); rw [h1, Bool.true_and])⟩
              · exact put _ (by show _ = (decide (b ≤ i) && decide (i ≤ mostK)); rw [show decide (b ≤ i) = false from Bool.eq_false_iff.mpr h1, Bool.false_and])
            | _ => exact put false rfl
          · obtain ⟨p1, p2⟩ := p
            rw [List.take_length] at p1
            refine ⟨D, xs.map (cntV b), rfl, SqL.of (by rw [p1, List.map_map]; rfl), ?_⟩
            have e : (xs.map (cntV b)).all id = sizesO b (some xs) := by
              show _ = (decide (1 ≤ xs.length) && decide (xs.length ≤ 8) && xs.all (cntV b))
              rw [decide_eq_true (by omega : 1 ≤ xs.length), decide_eq_true h8, List.all_map]
              rfl
            rw [e]
            exact k H' p2
        · rw [show decide (((xs.length : Nat) : Int) ≤ 8) = false from decide_eq_false (by omega)]
          refine ite2 (fun _ => ?_) (fun n => absurd rfl n)
          exact bad (by rw [decide_eq_false h8, Bool.and_false])
      · have h1 : ¬ (1 : Int) ≤ ((xs.length : Nat) : Int) := fun z => h1 (decide_eq_true z)
        refine ⟨_, rfl, ?_⟩
        refine ite2 (fun _ => ?_) (fun n => absurd rfl n)
        exact bad (by rw [decide_eq_false (by omega : ¬ 1 ≤ xs.length), Bool.false_and])
theorem Tgg.same {K : PySem.W.Frag} {C : Addr} {H H' : Hp} (e : Same H H') {v : V} {oo : Option (List (Option (List V)))} (h : Tgg K C H v oo) : Tgg K C H' v oo := by
  cases h with
  | tup h g hz => exact .tup (sqT_same e h) (g.same e) hz
  | no ty hk => exact .no (tyX_same e ty) hk
def spCheckK (K : PySem.W.Frag) (C D : Addr) : Sp := fun vs H Q E => ∃ (x y v : V) (ox oy : Option (List V)) (oo : Option (List (Option (List V)))), vs = [x, y, v] ∧ Tg K C H x ox ∧ Tg K C H y oy ∧ Tgg K C H v oo ∧ (dueK ox oy oo = none → ∀ H', Same H H' → Q .non H') ∧ ∀ u, dueK ox oy oo = some u → ∀ d H', Same H H' → H d = none → H' d = some (.xd [("part", .str u)]) → E (.ref D) (some d) H'
theorem ok_check_kinds {D_BadKinds : Addr} (A : At K mg "_check_kinds" s_check_kinds ["people", "things", "allowed"]) (T : Tx mg) (Tsum : mg "sum" = none) (er_BadKinds : Er1 P w K mg base "BadKinds" "part" D_BadKinds) (G_are_sizes : Dfn P w K mg base "_are_sizes" ["least", "thing"] 2 (spSizes K C)) (G_is_ascending : Dfn P w K mg base "is_ascending" ["bound", "thing"] 4 (spAsc K C)) : DfnX P w K mg base "_check_kinds" ["people", "things", "allowed"] 5 (spCheckK K C D_BadKinds) := by
  refine A.okX sc_check_kinds (fun vs H Q E h => ?_) (fun f cdv A outer s H vs Q E hr h => ?_)
  · obtain ⟨_, _, _, _, _, _, rfl, _⟩ := h
    rfl
  · obtain ⟨x, y, v, ox, oy, oo, rfl, hx, hy, hv, k1, k2⟩ := h
    refine ⟨_, (pss_cons (ps_if (pt_not (pt_val (pe_d G_are_sizes (hr.mono (by decide)) (pa_cons pe_int (pa_cons (pv 0) pa_nil))))) (pss_one (ps_raise rfl (takes_of rfl rfl rfl rfl) (pmk_er1 er_BadKinds (hr.mono (by decide)) rfl (pa_cons pe_str pa_nil) (fun _ _ _ _ f h => f _ _ h)))) pss_nil)
      (pss_cons (ps_if (pt_not (pt_val (pe_d G_are_sizes (hr.mono (by decide)) (pa_cons pe_int (pa_cons (pv 1) pa_nil))))) (pss_one (ps_raise rfl (takes_of rfl rfl rfl rfl) (pmk_er1 er_BadKinds (hr.mono (by decide)) rfl (pa_cons pe_str pa_nil) (fun _ _ _ _ f h => f _ _ h)))) pss_nil)
      (pss_cons (ps_if (PW.pt (pw_or (pt_not (pt_val (pe_callB call_isi (by rfl) T.isinstance (by decide +kernel) (pa_cons (pv 2) (pa_cons (pe_bltn (v := V.ty "tuple") (by rfl) T.tuple (by decide +kernel) rfl) pa_nil))))) (pw_or1 (pt_cmpR op_ne (pe_callB c_len (by rfl) T.len (by decide +kernel) (pa_cons (pv 2) pa_nil)) (pe_callB c_len (by rfl) T.len (by decide +kernel) (pa_cons (pv 0) pa_nil)) (nomark _))))) (pss_one (ps_raise rfl (takes_of rfl rfl rfl rfl) (pmk_er1 er_BadKinds (hr.mono (by decide)) rfl (pa_cons pe_str pa_nil) (fun _ _ _ _ f h => f _ _ h)))) pss_nil)
      (pss_cons (ps_if (pt_not (pt_val (pe_callB (cr_all rfl) (by rfl) T.all (by decide +kernel) (pa_cons (pe_lc (own := [("row", 3)]) (g := (gName 3)) (tt := tYes) (te := (tCall _ [] E0 (tCons (tCB (rLenS K) (tCons (tVar 1) tNil)) (tCons (tVar 3) tNil)))) (by rfl) sc_check_kinds.nd (pi_tup (pv 2)) (blkOk_by (own := [("row", 3)]) (N := n_check_kinds) (sc := (defScope s_check_kinds)) (by decide +kernel)) (fun _ _ _ _ _ => (pg_name (i := 3) sc_check_kinds.nd rfl (Or.inl rfl))) (fun _ _ _ _ _ => pts_nil) (fun _ _ _ _ _ => (pe_d G_is_ascending (hr.mono (by decide)) (pa_cons (pe_callB c_len (by rfl) T.len (by decide +kernel) (pa_cons (pv 1) pa_nil)) (pa_cons (pv 3) pa_nil))))) pa_nil)))) (pss_one (ps_raise rfl (takes_of rfl rfl rfl rfl) (pmk_er1 er_BadKinds (hr.mono (by decide)) rfl (pa_cons pe_str pa_nil) (fun _ _ _ _ f h => f _ _ h)))) pss_nil)
      (pss_one (ps_if (pt_cmpR op_ne (pe_callB (cr_sumT rfl) (by rfl) Tsum (by decide +kernel) (pa_cons (pv 0) pa_nil)) (pe_callB (cr_sumT rfl) (by rfl) Tsum (by decide +kernel) (pa_cons (pv 1) pa_nil)) (nomark _)) (pss_one (ps_raise rfl (takes_of rfl rfl rfl rfl) (pmk_er1 er_BadKinds (hr.mono (by decide)) rfl (pa_cons pe_str pa_nil) (fun _ _ _ _ f h => f _ _ h)))) pss_nil)))))), ?_⟩
    have bad : ∀ (u : Str) (H1 : Hp), dueK ox oy oo = some u → Same H H1 → ∃ u', [V.str u] = [u'] ∧ ∀ (d : Addr) (H' : Hp), Same H1 H' → H1 d = none → H' d = some (.xd [(("part" : Str), u')]) → E (.ref D_BadKinds) (some d) H' := fun u H1 e s1 => ⟨_, rfl, fun d H' s2 hd h => k2 u e d H' (s1.trans s2) (s1.free hd) h⟩
    refine ⟨_, rfl, 0, x, ox, rfl, hx, fun H1 s1 => ⟨_, rfl, ?_⟩⟩
    refine ite2 (fun c => ?_) (fun c => ?_)
    · have c : (!sizesO 0 ox) = true := c
      rw [Bool.not_eq_true'] at c
      exact bad "people" H1 (by unfold dueK; rw [c]; rfl) s1
    have c : ¬ (!sizesO 0 ox) = true := c
    rw [Bool.not_eq_true', Bool.not_eq_false] at c
    refine ⟨_, rfl, 0, y, oy, rfl, hy.same s1, fun H2 s2' => ⟨_, rfl, ?_⟩⟩
    have s2 := s1.trans s2'
    refine ite2 (fun c2 => ?_) (fun c2 => ?_)
    · have c2 : (!sizesO 0 oy) = true := c2
      rw [Bool.not_eq_true'] at c2
      exact bad "things" H2 (by unfold dueK; rw [c, c2]; rfl) s2
    have c2 : ¬ (!sizesO 0 oy) = true := c2
    rw [Bool.not_eq_true', Bool.not_eq_false] at c2
    obtain ⟨ns, en, n1, n8, nr⟩ := sizes_ints c
    obtain ⟨ms, em, m1, m8, mr⟩ := sizes_ints c2
    subst en
    subst em
    obtain ⟨ax, hxq⟩ : ∃ ax, x = .ref ax ∧ SqT K H ax (ns.map V.int) := by
      cases hx with
      | tup h hi hz => exact ⟨_, rfl, h⟩
    obtain ⟨rfl, hxq⟩ := hxq
    obtain ⟨ay, hyq⟩ : ∃ ay, y = .ref ay ∧ SqT K H ay (ms.map V.int) := by
      cases hy with
      | tup h hi hz => exact ⟨_, rfl, h⟩
    obtain ⟨rfl, hyq⟩ := hyq
    cases hv with
    | no ty hk =>
      refine ⟨_, rfl, v, .ty "tuple", _, .type "tuple", false, rfl, .ty "tuple", tyX_same s2 ty, hk, false, rfl, ?_⟩
      exact bad "allowed" H2 (dueK_some c c2) s2
    | tup h g hz =>
      rename_i a xs os
      have gl := g.len
      have due := dueK_some (oo := some os) c c2
      refine ⟨_, rfl, .ref a, .ty "tuple", _, .type "tuple", true, rfl, .ty "tuple", tyX_sqT (sqT_same s2 h), kit_ty (by decide +kernel), true, rfl, ?_⟩
      refine ite2 (fun n => by cases n) (fun _ => ?_)
      refine ⟨_, rfl, a, _, rfl, .inr (sqT_same s2 h), _, rfl, ax, _, rfl, .inr (sqT_same s2 hxq), rfl, _, rfl, ?_⟩
      rw [List.length_map, gl]
      refine ite2 (fun c3 => ?_) (fun c3 => ?_)
      · have c3 : (!decide (V.int ((os.length : Nat) : Int) = V.int ((ns.length : Nat) : Int))) = true := c3
        rw [Bool.not_eq_true'] at c3
        have c3 := of_decide_eq_false c3
        exact bad "allowed" H2 (by rw [due]; exact dueA_len fun z => c3 (by rw [z, List.length_map])) s2
      have c3 : ¬ (!decide (V.int ((os.length : Nat) : Int) = V.int ((ns.length : Nat) : Int))) = true := c3
      rw [Bool.not_eq_true', Bool.not_eq_false, decide_eq_true_iff] at c3
      have c3 : os.length = ns.length := by injection c3 with c3; omega
      have c3' : os.length = (ns.map V.int).length := by rw [List.length_map]; exact c3
      have due2 := fun (h2 : os.all (ascOf (((ms.map V.int).length : Nat) : Int)) = true) => due.trans (dueA_sum (xs := ns.map V.int) (ys := ms.map V.int) c3' h2)
      have s2h := sqT_same s2 h
      refine ⟨_, rfl, a, rfl, ⟨xs, s2h⟩, fun D hD => lc_tup (xs := xs) (fun i H' => H' D = some (.lst ((os.take i).map fun o => V.bl (ascOf (((ms.map V.int).length : Nat) : Int) o))) ∧ Same H2 H') ⟨by rw [upd_same]; rfl, same_new hD⟩ (fun i H' _ p => sqT_same p.2 s2h) (fun i y H' hy p => ?_) (fun H' p => ?_)⟩
      · obtain ⟨o, ho, hto⟩ := g.get hy
        refine ⟨rfl, _, rfl, ay, _, rfl, .inr (sqT_same (s2.trans p.2) hyq), _, rfl, (((ms.map V.int).length : Nat) : Int), y, o, rfl, hto.same (s2.trans p.2), fun H3 s3 => ?_⟩
        refine ⟨_, s3 _ _ p.1, by rw [List.length_map]; exact small_lt (Nat.le_trans (List.length_take_le _ _) (by have := (List.getElem?_eq_some_iff.mp hy).1; omega)), ?_, same_mut (p.2.trans s3) hD⟩
        rw [upd_same, List.take_add_one, ho, List.map_append]
        rfl
      · obtain ⟨p1, p2⟩ := p
        rw [gl, List.take_length] at p1
        have s3 := s2.trans p2
        refine ⟨D, os.map (ascOf (((ms.map V.int).length : Nat) : Int)), rfl, SqL.of (by rw [p1, List.map_map]; rfl), ?_⟩
        have e : (os.map (ascOf (((ms.map V.int).length : Nat) : Int))).all id = os.all (ascOf (((ms.map V.int).length : Nat) : Int)) := by
          rw [List.all_map]
          rfl
        rw [e]
        refine ⟨_, rfl, ?_⟩
        refine ite2 (fun c4 => ?_) (fun c4 => ?_)
        · have c4 : (!os.all (ascOf (((ms.map V.int).length : Nat) : Int))) = true := c4
          rw [Bool.not_eq_true'] at c4
          exact bad "allowed" H' (by rw [due]; exact dueA_row c4) s3
        have c4 : ¬ (!os.all (ascOf (((ms.map V.int).length : Nat) : Int))) = true := c4
        rw [Bool.not_eq_true', Bool.not_eq_false] at c4
        have due3 := due2 c4
        rw [sumV_ints, sumV_ints] at due3
        refine ⟨_, rfl, ax, ns, rfl, sqT_same s3 hxq, _, rfl, ay, ms, rfl, sqT_same s3 hyq, rfl, _, rfl, ?_⟩
        refine ite2 (fun c5 => ?_) (fun c5 => ?_)
        · have c5 : (!decide (V.int ns.sum = V.int ms.sum)) = true := c5
          rw [Bool.not_eq_true'] at c5
          have c5 := of_decide_eq_false c5
          exact bad "sums" H' (by rw [due3, if_neg fun z => c5 (by rw [z])]) s3
        · have c5 : ¬ (!decide (V.int ns.sum = V.int ms.sum)) = true := c5
          rw [Bool.not_eq_true', Bool.not_eq_false, decide_eq_true_iff] at c5
          have c5 : ns.sum = ms.sum := by injection c5
          exact k1 (by rw [due3, if_pos c5]) H' s3
end
end Fo
set_option maxRecDepth 100000
set_option maxHeartbeats 4000000
set_option maxRecDepth 100000
set_option maxHeartbeats 2000000
set_option maxRecDepth 100000
set_option maxHeartbeats 4000000
namespace Fo
open PySem PySem.Spec PyProof.Rows L2
/-- an environment of a scope alone -/
def envA (sc : Scope) : Env := { scope := sc, locals := 0, globals := 0, cells := [], qual := "", func := none, code := .none, frame := none, builtins := 0 }
/-- the scopes of the list comprehensions of an expression, the outer ones -/
def exLcs : Nat → Expr → List Scope
  | 0, _ => []
  | n + 1, e => match e with
    | .ListComp _ _ sc _ => [sc]
    | .DictComp _ _ _ sc _ => [sc]
    | .Call _ as _ _ => as.flatMap (exLcs n)
    | .Compare l _ rs _ => exLcs n l ++ rs.flatMap (exLcs n)
    | .BoolOp _ vs _ => vs.flatMap (exLcs n)
    | .BinOp l _ r _ => exLcs n l ++ exLcs n r
    | .UnaryOp _ x _ => exLcs n x
    | .IfExp t a b _ => exLcs n t ++ exLcs n a ++ exLcs n b
    | .Subscript o x _ => exLcs n o ++ exLcs n x
    | .List es _ => es.flatMap (exLcs n)
    | .Tuple es _ _ => es.flatMap (exLcs n)
    | _ => []
def stLcs (s : Stmt) : List Scope := match s with
  | .Assign _ e .. => exLcs 12 e
  | .Return (some e) _ => exLcs 12 e
  | .If t _ _ _ => exLcs 12 t
  | .Expr e _ => exLcs 12 e
  | .AugAssign _ _ e _ => exLcs 12 e
  | .For _ e _ _ _ => exLcs 12 e
  | _ => []
/-- the statement at a path; of an if: 2 k in the body, 2 k + 1 in the else -/
def stAt : Stmt → List Nat → Stmt
  | s, [] => s
  | s, k :: r => match s with
    | .For _ _ b _ _ => stAt (b[k]?.getD s) r
    | .While _ b _ _ => stAt (b[k]?.getD s) r
    | .If _ b e _ => stAt (((if k % 2 = 0 then b else e)[k / 2]?).getD s) r
    | .FunctionDef _ _ b .. => stAt (b[k]?.getD s) r
    | _ => s
/-- the scope of the j-th comprehension of the statement at a path -/
def lcIn (s : Stmt) (p : List Nat) (j : Nat) : Scope := ((stLcs (stAt s p))[j]?).getD (defScope s)
end Fo
set_option maxRecDepth 100000
set_option maxHeartbeats 4000000
namespace Fo
open PySem PySem.Spec PyProof.Rows L2
abbrev s_law_some_parts : Stmt := top 19
abbrev n_law_some_parts : List Str := ["pool", "sizes", "counts", "gap", "allowed", "kind", "side", "many", "k", "thing"]
theorem sc_law_some_parts : FnScope n_law_some_parts ["pool"] (defScope s_law_some_parts) := ⟨rfl, rfl, rfl, by decide +kernel, rfl, by decide +kernel, by decide +kernel⟩
/-- parts of kinds that may be made -/
structure PartsAt (K : PySem.W.Frag) (H : Hp) (l x y v : Addr) (ns ms : List Int) (rows : List (List Int)) : Prop where
  hl : H l = some (.lst [.ref x, .ref y, .ref v])
  hx : SqT K H x (ns.map V.int)
  hy : SqT K H y (ms.map V.int)
  hv : RowsAt K H (.ref v) rows
  n1 : 1 ≤ ns.length
  n8 : ns.length ≤ 8
  m1 : 1 ≤ ms.length
  m8 : ms.length ≤ 8
  sums : ns.sum = ms.sum
  nr : ∀ n ∈ ns, 0 ≤ n ∧ n ≤ 10 ^ 13
  mr : ∀ n ∈ ms, 0 ≤ n ∧ n ≤ 10 ^ 13
  rl : rows.length = ns.length
  asc : ∀ r ∈ rows, r.Pairwise (· < ·)
  rng : ∀ r ∈ rows, ∀ z ∈ r, 0 ≤ z ∧ z < (ms.length : Int)
theorem sum_bd {B : Int} : ∀ l : List Int, (∀ x ∈ l, 0 ≤ x ∧ x ≤ B) → 0 ≤ l.sum ∧ l.sum ≤ (l.length : Int) * B
  | [], _ => by simp
  | x :: l, h => by
    have ih := sum_bd l fun y hy => h y (List.mem_cons_of_mem _ hy)
    have hx := h x List.mem_cons_self
    rw [List.sum_cons, List.length_cons]
    have e : ((l.length + 1 : Nat) : Int) * B = (l.length : Int) * B + B := by rw [Int.natCast_add, Int.add_mul]; simp
    rw [e]
    omega
section
variable {P : Program} {w : World} {K : PySem.W.Frag} {mg : Str → Option Value} {base : Heap} {C : Addr}
def spPartsK (K : PySem.W.Frag) : Sp := fun vs H Q _ => ∃ t q, vs = [.ref t] ∧ Po H t q ∧ ∀ l x y v ns ms rows H', PartsAt K H' l x y v ns ms rows → Gs t q H H' → Po H' t q → H l = none → Q (.ref l) H'
theorem ok_partsK (A : At K mg "_law_some_parts" s_law_some_parts ["pool"]) (T : Tx mg) (Tsum : mg "sum" = none) (Tabs : mg "abs" = none) (G_law_draw : Dfn P w K mg base "_law_draw" ["pool", "many"] 1 spDraw) : Dfn P w K mg base "_law_some_parts" ["pool"] 2 (spPartsK K) := by
  refine A.ok sc_law_some_parts (fun vs H Q E h => ?_) (fun f cdv A outer s H vs Q E hr h => ?_)
  · obtain ⟨_, _, rfl, _⟩ := h
    rfl
  · obtain ⟨t, q, rfl, T0, k⟩ := h
    refine ⟨_, (pss_cons (ps_setLc (i := 1) (own := [("side", 6)]) (g := (gName 6)) (tt := tYes) (te := (tOp (rI0 fun i j => V.int (i + j)) (tC (V.int 1)) (tCall spDraw [] E0 (tCons (tVar 0) (tCons (tOp (rIxL K) (tLst (tCons (tC (V.int 3)) (tCons (tC (V.int 8)) tNil))) (tCB rIntOf (tCons (tOp rEq (tCall spDraw [] E0 (tCons (tVar 0) (tCons (tC (V.int 4)) tNil))) (tC (V.int 0))) tNil))) tNil))))) (by rfl) sc_law_some_parts.nd rfl rfl (sw_true rfl rfl rfl (by decide +kernel)) (pi_range1 rfl T.range (pa_cons pe_int pa_nil)) (blkOk_by (own := [("side", 6)]) (N := n_law_some_parts) (sc := (defScope s_law_some_parts)) (by decide +kernel)) (fun _ _ _ _ _ => (pg_name (i := 6) sc_law_some_parts.nd rfl (Or.inl rfl))) (fun _ _ _ _ _ => pts_nil) (fun _ _ _ _ _ => (pe_op op_add pe_int (pe_d G_law_draw (hr.mono (by decide)) (pa_cons (pv 0) (pa_cons (pe_ix ix_list (pe_lst (pa_cons pe_int (pa_cons pe_int pa_nil))) (pe_callTy c_int (by rfl) T.int (by decide +kernel) (pa_cons (pe_cmpR op_eq (pe_d G_law_draw (hr.mono (by decide)) (pa_cons (pv 0) (pa_cons pe_int pa_nil))) pe_int (nomark _)) pa_nil)) (fun _ _ => rfl)) pa_nil))))))
      (pss_cons (ps_setLc (i := 2) (own := [("many", 7)]) (g := (gName 7)) (tt := tYes) (te := (tLc (iRng1 (tCons (tVar 7) tNil)) (gName 8) tYes (tOp (rIxL K) (tLst (tCons (tC (V.int 0)) (tCons (tC (V.int 1)) (tCons (tC (V.int 2)) (tCons (tC (V.int 5)) (tCons (tOp (rI CPow fun i j => V.int (i ^ j.toNat)) (tC (V.int 10)) (tC (V.int 12))) tNil)))))) (tCall spDraw [] E0 (tCons (tVar 0) (tCons (tC (V.int 5)) tNil)))) [8])) (by rfl) sc_law_some_parts.nd rfl rfl (sw_true rfl rfl rfl (by decide +kernel)) (pi_list (pv 1)) (blkOk_by (own := [("many", 7)]) (N := n_law_some_parts) (sc := (defScope s_law_some_parts)) (by decide +kernel)) (fun _ _ _ _ _ => (pg_name (i := 7) sc_law_some_parts.nd rfl (Or.inl rfl))) (fun _ _ _ _ _ => pts_nil) (fun _ _ _ _ _ => (pe_lc (own := [("k", 8)]) (g := (gName 8)) (tt := tYes) (te := (tOp (rIxL K) (tLst (tCons (tC (V.int 0)) (tCons (tC (V.int 1)) (tCons (tC (V.int 2)) (tCons (tC (V.int 5)) (tCons (tOp (rI CPow fun i j => V.int (i ^ j.toNat)) (tC (V.int 10)) (tC (V.int 12))) tNil)))))) (tCall spDraw [] E0 (tCons (tVar 0) (tCons (tC (V.int 5)) tNil))))) (by rfl) sc_law_some_parts.nd (pi_range1 rfl T.range (pa_cons (pv 7) pa_nil)) (blkOk_by (own := [("k", 8)]) (N := n_law_some_parts) (sc := (relabel (lcIn s_law_some_parts [1] 0) (envA (defScope s_law_some_parts)))) (by decide +kernel)) (fun _ _ _ _ _ => (pg_name (i := 8) sc_law_some_parts.nd rfl (Or.inl rfl))) (fun _ _ _ _ _ => pts_nil) (fun _ _ _ _ _ => (pe_ix ix_list (pe_lst (pa_cons pe_int (pa_cons pe_int (pa_cons pe_int (pa_cons pe_int (pa_cons (pe_op op_pow pe_int pe_int) pa_nil)))))) (pe_d G_law_draw (hr.mono (by decide)) (pa_cons (pv 0) (pa_cons pe_int pa_nil))) (fun _ _ => rfl))))))
      (pss_cons (ps_asg pe_int (pg_sub (pe_ix ix_list (pv 2) pe_int (fun _ _ => rfl)) pe_int set_list))
      (pss_cons (ps_asg pe_int (pg_sub (pe_ix ix_list (pv 2) pe_int (fun _ _ => rfl)) pe_int set_list))
      (pss_cons (ps_set (i := 3) sc_law_some_parts.nd rfl (Or.inl rfl) (pe_op op_sub (pe_callB (cr_sum rfl) (by rfl) Tsum (by decide +kernel) (pa_cons (pe_ix ix_list (pv 2) pe_int (fun _ _ => rfl)) pa_nil)) (pe_callB (cr_sum rfl) (by rfl) Tsum (by decide +kernel) (pa_cons (pe_ix ix_list (pv 2) pe_int (fun _ _ => rfl)) pa_nil))))
      (pss_cons (ps_asg (pe_callB cr_abs (by rfl) Tabs (by decide +kernel) (pa_cons (pv 3) pa_nil)) (pg_sub (pe_ix ix_list (pv 2) (pe_callTy c_int (by rfl) T.int (by decide +kernel) (pa_cons (pe_cmpR op_lt (pv 3) pe_int (nomark _)) pa_nil)) (fun _ _ => rfl)) pe_int set_list))
      (pss_cons (ps_set (i := 4) sc_law_some_parts.nd rfl (Or.inl rfl) (pe_lst pa_nil))
      (pss_cons (ps_for PassesOwn.never rfl (pi_range1 rfl T.range (pa_cons (pe_ix ix_list (pv 1) pe_int (fun _ _ => rfl)) pa_nil)) (pg_name (i := 5) sc_law_some_parts.nd rfl (Or.inl rfl))
      (pss_one (ps_expr (pe_bm PySem.F.plainAttrs_list PySem.F.slot_list_append PySem.F.type_list_append mt_append (pv 4) (pa_cons (pe_callTy c_tuple (by rfl) T.tuple (by decide +kernel) (pa_cons (pe_lc (own := [("thing", 9)]) (g := (gName 9)) (tt := (tTest (tOp rEq (tCall spDraw [] E0 (tCons (tVar 0) (tCons (tC (V.int 2)) tNil))) (tC (V.int 0))))) (te := (tVar 9)) (by rfl) sc_law_some_parts.nd (pi_range1 rfl T.range (pa_cons (pe_ix ix_list (pv 1) pe_int (fun _ _ => rfl)) pa_nil)) (blkOk_by (own := [("thing", 9)]) (N := n_law_some_parts) (sc := (defScope s_law_some_parts)) (by decide +kernel)) (fun _ _ _ _ _ => (pg_name (i := 9) sc_law_some_parts.nd rfl (Or.inl rfl))) (fun _ _ _ _ _ => (pts_one (pt_cmpR op_eq (pe_d G_law_draw (hr.mono (by decide)) (pa_cons (pv 0) (pa_cons pe_int pa_nil))) pe_int (nomark _)))) (fun _ _ _ _ _ => (pv 9))) pa_nil)) pa_nil)))))
      (pss_one (ps_ret (pe_lst (pa_cons (pe_callTy c_tuple (by rfl) T.tuple (by decide +kernel) (pa_cons (pe_ix ix_list (pv 2) pe_int (fun _ _ => rfl)) pa_nil)) (pa_cons (pe_callTy c_tuple (by rfl) T.tuple (by decide +kernel) (pa_cons (pe_ix ix_list (pv 2) pe_int (fun _ _ => rfl)) pa_nil)) (pa_cons (pe_callTy c_tuple (by rfl) T.tuple (by decide +kernel) (pa_cons (pv 4) pa_nil)) pa_nil)))))))))))))), ?_⟩
    refine ⟨_, rfl, by decide, by decide, fun S hS => ?_⟩
    refine lc_range (lo := 0) (n := 2) (fun i H' => ∃ ss : List Nat, H' S = some (.lst (ss.map nV)) ∧ ss.length = i ∧ (∀ m ∈ ss, 1 ≤ m ∧ m ≤ 8) ∧ Gs t q H H' ∧ Po H' t q) ⟨[], upd_same, rfl, (fun m hm => nomatch hm), Gs.new hS, T0.new hS⟩ ?_ ?_
    · rintro i H1 hi ⟨ss, h1, sl, sr, g1, T1⟩
      refine ⟨rfl, _, rfl, by show 2 ≤ sizeLine; decide, fun L hL => ?_⟩
      refine ⟨_, rfl, t, q, 4, rfl, T1.new hL, by decide, by decide, fun m1 H2 a0 a1 g2 T2 => ⟨rfl, .inr ⟨_, rfl, ?_⟩⟩⟩
      have nL := T1.free hL
      have hL2 : H2 L = some (.lst [.int 3, .int 8]) := g2 _ _ nL.1 nL.2 upd_same
      obtain ⟨z, ez, zb⟩ : ∃ z : Int, atI [V.int 3, V.int 8] (if decide (V.int m1 = V.int 0) = true then 1 else 0) = some (V.int z) ∧ 3 ≤ z ∧ z ≤ 8 := by
        by_cases c : decide (V.int m1 = V.int 0) = true
        · exact ⟨8, by rw [if_pos c]; rfl, by decide, by decide⟩
        · exact ⟨3, by rw [if_neg c]; rfl, by decide, by decide⟩
      refine ⟨L, _, _, V.int z, rfl, rfl, SqL.of hL2, ez, ?_⟩
      refine ⟨t, q, z, rfl, T2, by omega, by omega, fun m2 H3 b0 b1 g3 T3 => ⟨_, _, rfl, rfl, ?_⟩⟩
      obtain ⟨m, rfl⟩ : ∃ m : Nat, m2 = (m : Int) := ⟨m2.toNat, by omega⟩
      have nS := T0.free hS
      have gall := ((Gs.new (t := t) (l := q) (o := .lst [V.int 3, V.int 8]) hL).trans g2).trans g3
      have hS3 : H3 S = some (.lst (ss.map nV)) := gall _ _ nS.1 nS.2 h1
      refine ⟨_, hS3, small_lt (by rw [List.length_map]; omega), ss ++ [1 + m], ?_, by rw [List.length_append, sl]; rfl, fun x hx => ?_, (g1.trans gall).mut hS, T3.mut nS⟩
      · rw [upd_same, List.map_append]
        have : (1 : Int) + (m : Int) = ((1 + m : Nat) : Int) := by omega
        show some (HO.lst (ss.map nV ++ [V.int (1 + (m : Int))])) = _
        rw [this]
        rfl
      · rcases List.mem_append.mp hx with hx | hx
        · exact sr x hx
        · rw [List.mem_singleton.mp hx]
          omega
    · rintro H1 ⟨ss, h1, sl, sr, g1, T1⟩
      obtain ⟨m0, m1, rfl⟩ : ∃ m0 m1, ss = [m0, m1] := by
        match ss, sl with
        | [a, b], _ => exact ⟨a, b, rfl⟩
      have r0 := sr m0 List.mem_cons_self
      have r1 := sr m1 (List.mem_cons_of_mem _ List.mem_cons_self)
      have nS := T0.free hS
      have ten : (10 : Int) ^ (12 : Int).toNat = 1000000000000 := by decide
      refine ⟨_, rfl, S, rfl, ⟨_, SqL.of h1⟩, fun D hD => ?_⟩
      have nD := T1.free hD
      have nDS : D ≠ S := fun e => by rw [e] at hD; rw [hD] at h1; cases h1
      refine lc_list (xs := [nV m0, nV m1]) (fun i H' => ∃ cs : List (Addr × List Int), H' D = some (.lst (cs.map fun c => V.ref c.1)) ∧ (cs.map fun c => c.2.length) = [m0, m1].take i ∧ (∀ c ∈ cs, H' c.1 = some (.lst (c.2.map V.int)) ∧ (∀ n ∈ c.2, 0 ≤ n ∧ n ≤ 1000000000000) ∧ H1 c.1 = none ∧ c.1 ≠ D) ∧ (cs.map fun c => c.1).Nodup ∧ Gs t q H1 H' ∧ Po H' t q) ⟨[], upd_same, rfl, (fun c hc => nomatch hc), List.nodup_nil, Gs.new hD, T1.new hD⟩ (fun i H' _ hp => by obtain ⟨_, _, _, _, _, g, _⟩ := hp; exact SqL.of (g _ _ nS.1 nS.2 h1)) ?_ ?_
      · rintro i y H2 hy ⟨cs, h2, cl, cr, cn, g2, T2⟩
        obtain ⟨m, hm, ey⟩ : ∃ m, [m0, m1][i]? = some m ∧ y = nV m := by
          match i, hy with
          | 0, hy => exact ⟨m0, rfl, (Option.some.inj hy).symm⟩
          | 1, hy => exact ⟨m1, rfl, (Option.some.inj hy).symm⟩
        subst ey
        have mb : m ≤ 8 := by
          rcases List.mem_cons.mp (List.mem_of_getElem? hm) with e | e
          · omega
          · rw [List.mem_singleton.mp e]; omega
        refine ⟨rfl, _, rfl, _, rfl, by omega, by omega, fun B hB => ?_⟩
        have nB := T2.free hB
        refine lc_range (lo := 0) (n := ((m : Nat) : Int).toNat) (fun j H' => ∃ ns : List Int, H' B = some (.lst (ns.map V.int)) ∧ ns.length = j ∧ (∀ n ∈ ns, 0 ≤ n ∧ n ≤ 1000000000000) ∧ Gs t q H2 H' ∧ Po H' t q) ⟨[], upd_same, rfl, (fun c hc => nomatch hc), Gs.new hB, T2.new hB⟩ ?_ ?_
        · rintro j H3 hj ⟨ns, h3, nl, nr, g3, T3⟩
          refine ⟨rfl, 10, 12, rfl, rfl, ⟨by decide, by decide, by decide⟩, by show 5 ≤ sizeLine; decide, fun L hL => ?_⟩
          refine ⟨_, rfl, t, q, 5, rfl, T3.new hL, by decide, by decide, fun d H4 a0 a1 g4 T4 => ?_⟩
          have nL := T3.free hL
          have hL2 := g4 _ _ nL.1 nL.2 (upd_same (H := H3) (a := L) (o := .lst [.int 0, .int 1, .int 2, .int 5, .int (10 ^ (12 : Int).toNat)]))
          obtain ⟨z, ez, zb⟩ : ∃ z : Int, atI [V.int 0, V.int 1, V.int 2, V.int 5, V.int (10 ^ (12 : Int).toNat)] d = some (V.int z) ∧ 0 ≤ z ∧ z ≤ 1000000000000 := by
            have : d = 0 ∨ d = 1 ∨ d = 2 ∨ d = 3 ∨ d = 4 := by omega
            rcases this with rfl | rfl | rfl | rfl | rfl
            · exact ⟨0, rfl, by decide, by decide⟩
            · exact ⟨1, rfl, by decide, by decide⟩
            · exact ⟨2, rfl, by decide, by decide⟩
            · exact ⟨5, rfl, by decide, by decide⟩
            · exact ⟨10 ^ (12 : Int).toNat, rfl, by rw [ten]; decide, by rw [ten]; decide⟩
          refine ⟨L, _, _, V.int z, rfl, rfl, SqL.of hL2, ez, ?_⟩
          have gall := (Gs.new (t := t) (l := q) (o := .lst [.int 0, .int 1, .int 2, .int 5, .int (10 ^ (12 : Int).toNat)]) hL).trans g4
          have hB4 := gall _ _ nB.1 nB.2 h3
          refine ⟨_, hB4, small_lt (by rw [List.length_map]; omega), ns ++ [z], ?_, by rw [List.length_append, nl]; rfl, fun x hx => ?_, (g3.trans gall).mut hB, T4.mut nB⟩
          · rw [upd_same, List.map_append]
            rfl
          · rcases List.mem_append.mp hx with hx | hx
            · exact nr x hx
            · rw [List.mem_singleton.mp hx]
              exact zb
        · rintro H3 ⟨ns, h3, nl, nr, g3, T3⟩
          rw [Int.toNat_natCast] at nl
          have hD3 := g3 _ _ nD.1 nD.2 h2
          have nBD : B ≠ D := fun e => by rw [e, h2] at hB; cases hB
          have csl : cs.length ≤ 2 := by
            have := congrArg List.length cl
            rw [List.length_map] at this
            rw [this]
            exact List.length_take_le' i [m0, m1]
          have nBc : ∀ c ∈ cs, c.1 ≠ B := fun c hc e => by
            have := (cr c hc).1
            rw [e, hB] at this
            cases this
          refine ⟨_, hD3, small_lt (by rw [List.length_map]; omega), cs ++ [(B, ns)], ?_, ?_, fun c hc => ?_, ?_, (g2.trans g3).mut hD, T3.mut nD⟩
          · rw [upd_same, List.map_append]
            rfl
          · rw [List.map_append, cl, List.take_add_one, hm, List.map_singleton, nl]
            rfl
          · rcases List.mem_append.mp hc with hc | hc
            · obtain ⟨c1, c2, c3, c4⟩ := cr c hc
              have nc := T1.free c3
              exact ⟨by rw [upd_ne c4]; exact g3 _ _ nc.1 nc.2 c1, c2, c3, c4⟩
            · rw [List.mem_singleton.mp hc]
              exact ⟨by rw [upd_ne nBD]; exact h3, nr, g2.fresh T2 hB, nBD⟩
          · rw [List.map_append]
            refine List.nodup_append.mpr ⟨cn, by simp, fun a ha b hb e => ?_⟩
            obtain ⟨c, hc, rfl⟩ := List.mem_map.mp ha
            have hb : b = B := by simpa using hb
            exact nBc c hc (e.trans hb)
      · rintro H2 ⟨cs, h2, cl, cr, cn, g2, T2⟩
        obtain ⟨A0, ns, A1, ms, rfl, l0, l1⟩ : ∃ A0 ns A1 ms, cs = [(A0, ns), (A1, ms)] ∧ ns.length = m0 ∧ ms.length = m1 := by
          match cs, cl with
          | [(a, ns), (b, ms)], cl =>
            have cl : [ns.length, ms.length] = [m0, m1] := cl
            injection cl with e1 e2
            injection e2 with e2 _
            exact ⟨a, ns, b, ms, rfl, e1, e2⟩
        obtain ⟨c1, nr, c3, c4⟩ := cr (A0, ns) List.mem_cons_self
        obtain ⟨d1, mr, d3, d4⟩ := cr (A1, ms) (List.mem_cons_of_mem _ List.mem_cons_self)
        have nA : A0 ≠ A1 := by
          have := List.nodup_cons.mp cn
          exact fun e => this.1 (by rw [e]; exact List.mem_cons_self)
        have c1 : H2 A0 = some (.lst (ns.map V.int)) := c1
        have d1 : H2 A1 = some (.lst (ms.map V.int)) := d1
        have h2 : H2 D = some (.lst [.ref A0, .ref A1]) := h2
        obtain ⟨na, ns, rfl⟩ : ∃ a r, ns = a :: r := by
          match ns, l0 with
          | [], l0 => have : 0 = m0 := l0; omega
          | a :: r, _ => exact ⟨a, r, rfl⟩
        obtain ⟨ma, ms, rfl⟩ : ∃ a r, ms = a :: r := by
          match ms, l1 with
          | [], l1 => have : 0 = m1 := l1; omega
          | a :: r, _ => exact ⟨a, r, rfl⟩
        have c4 : A0 ≠ D := c4
        have d4 : A1 ≠ D := d4
        have ix0 : ∀ (a : Int) (r : List Int), ixN ((a :: r).map V.int).length 0 = some 0 := fun a r => by
          exact Evl.ixN_nat (j := 0) (by simp)
        have x3 : upd H2 A0 (.lst (((na :: ns).map V.int).set 0 (V.int 0))) A0 = some (.lst ((0 :: ns).map V.int)) := upd_same
        refine ⟨_, rfl, D, _, 0, .ref A0, rfl, rfl, SqL.of h2, atI_nat (j := 0) rfl, A0, _, 0, 0, rfl, rfl, c1, ix0 na ns, ?_⟩
        obtain ⟨H3, e3⟩ : ∃ H3, H3 = upd H2 A0 (.lst (((na :: ns).map V.int).set 0 (V.int 0))) := ⟨_, rfl⟩
        rw [← e3] at x3 ⊢
        have h3D : H3 D = some (.lst [.ref A0, .ref A1]) := by rw [e3, upd_ne c4.symm]; exact h2
        have d3' : H3 A1 = some (.lst ((ma :: ms).map V.int)) := by rw [e3, upd_ne nA.symm]; exact d1
        have x4 : upd H3 A1 (.lst (((ma :: ms).map V.int).set 0 (V.int 0))) A1 = some (.lst ((0 :: ms).map V.int)) := upd_same
        refine ⟨_, rfl, D, _, 1, .ref A1, rfl, rfl, SqL.of h3D, atI_nat (j := 1) rfl, A1, _, 0, 0, rfl, rfl, d3', ix0 ma ms, ?_⟩
        obtain ⟨H4, e4⟩ : ∃ H4, H4 = upd H3 A1 (.lst (((ma :: ms).map V.int).set 0 (V.int 0))) := ⟨_, rfl⟩
        rw [← e4] at x4 ⊢
        have h4D : H4 D = some (.lst [.ref A0, .ref A1]) := by rw [e4, upd_ne d4.symm]; exact h3D
        have x3' : H4 A0 = some (.lst ((0 :: ns).map V.int)) := by rw [e4, upd_ne nA]; exact x3
        refine ⟨_, rfl, D, _, 1, .ref A1, rfl, rfl, SqL.of h4D, atI_nat (j := 1) rfl, A1, 0 :: ms, rfl, SqL.of x4, ?_⟩
        refine ⟨_, rfl, D, _, 0, .ref A0, rfl, rfl, SqL.of h4D, atI_nat (j := 0) rfl, A0, 0 :: ns, rfl, SqL.of x3', ?_⟩
        obtain ⟨gap, eg⟩ : ∃ gap, gap = (0 :: ms).sum - (0 :: ns).sum := ⟨_, rfl⟩
        have sn := sum_bd ns fun x hx => nr x (List.mem_cons_of_mem _ hx)
        have sm := sum_bd ms fun x hx => mr x (List.mem_cons_of_mem _ hx)
        have ln : ns.length ≤ 7 := by have : ns.length + 1 = m0 := l0; omega
        have lm : ms.length ≤ 7 := by have : ms.length + 1 = m1 := l1; omega
        have eg2 : gap = ms.sum - ns.sum := by rw [eg, List.sum_cons, List.sum_cons]; omega
        have bn : ns.sum ≤ 7000000000000 := by omega
        have bm : ms.sum ≤ 7000000000000 := by omega
        refine ⟨_, _, rfl, rfl, ?_⟩
        refine ⟨_, rfl, (0 :: ms).sum - (0 :: ns).sum, rfl, ?_⟩
        rw [← eg]
        obtain ⟨idx, X, r, ei, eX, hX, eab⟩ : ∃ (idx : Int) (X : Addr) (r : List Int), (if decide (gap < 0) = true then 1 else 0) = idx ∧ atI [V.ref A0, V.ref A1] idx = some (V.ref X) ∧ H4 X = some (.lst ((0 :: r).map V.int)) ∧ ((gap < 0 ∧ X = A1 ∧ r = ms) ∨ (0 ≤ gap ∧ X = A0 ∧ r = ns)) := by
          by_cases c : gap < 0
          · exact ⟨1, A1, ms, if_pos (decide_eq_true c), rfl, x4, .inl ⟨c, rfl, rfl⟩⟩
          · exact ⟨0, A0, ns, if_neg (by rw [decide_eq_true_iff]; exact c), rfl, x3', .inr ⟨by omega, rfl, rfl⟩⟩
        refine ⟨_, rfl, _, rfl, gap, 0, by rw [eg], rfl, .inr ⟨_, rfl, D, _, idx, .ref X, rfl, congrArg V.int ei, SqL.of h4D, eX, X, _, 0, 0, rfl, rfl, hX, ix0 0 r, ?_⟩⟩
        obtain ⟨H5, e5⟩ : ∃ H5, H5 = upd H4 X (.lst (((0 :: r).map V.int).set 0 (V.int (if gap < 0 then -gap else gap)))) := ⟨_, rfl⟩
        obtain ⟨u, v, h5A, h5B, uv, ub, vb⟩ : ∃ u v : Int, H5 A0 = some (.lst ((u :: ns).map V.int)) ∧ H5 A1 = some (.lst ((v :: ms).map V.int)) ∧ u + ns.sum = v + ms.sum ∧ (0 ≤ u ∧ u ≤ 10000000000000) ∧ 0 ≤ v ∧ v ≤ 10000000000000 := by
          rcases eab with ⟨c, rfl, rfl⟩ | ⟨c, rfl, rfl⟩
          · refine ⟨0, -gap, by rw [e5, upd_ne nA]; exact x3', ?_, by omega, by omega, by omega⟩
            rw [e5, upd_same, if_pos c]
            rfl
          · refine ⟨gap, 0, ?_, by rw [e5, upd_ne nA.symm]; exact x4, by omega, by omega, by omega⟩
            rw [e5, upd_same, if_neg (by omega)]
            rfl
        have h5D : H5 D = some (.lst [.ref A0, .ref A1]) := by
          rcases eab with ⟨_, rfl, _⟩ | ⟨_, rfl, _⟩
          · rw [e5, upd_ne d4.symm]; exact h4D
          · rw [e5, upd_ne c4.symm]; exact h4D
        have n0 := T1.free c3
        have n1 := T1.free d3
        have fX : H1 X = none := by rcases eab with ⟨_, rfl, _⟩ | ⟨_, rfl, _⟩ <;> assumption
        have g5 : Gs t q H1 H5 := by rw [e5, e4, e3]; exact ((g2.mut c3).mut d3).mut fX
        have T5 : Po H5 t q := by rw [e5, e4, e3]; exact ((T2.mut n0).mut n1).mut (T1.free fX)
        have h5S := g5 _ _ nS.1 nS.2 h1
        rw [← e5]
        clear e5
        refine ⟨by show 0 ≤ sizeLine; decide, fun W hW => ?_⟩
        have g6 : Gs t q H5 (upd H5 W (.lst [])) := Gs.new hW
        have T6 := T5.new (o := .lst []) hW
        have nW := T5.free hW
        refine ⟨_, rfl, S, _, 0, nV m0, rfl, rfl, SqL.of (g6 _ _ nS.1 nS.2 h5S), atI_nat (j := 0) rfl, _, rfl, by omega, by omega, for_range (lo := 0) (n := ((m0 : Nat) : Int).toNat) (fun i σ' H' => (∃ x3 x5 x6 x7 x8 x9, σ' = [some (.ref t), some (.ref S), some (.ref D), x3, some (.ref W), x5, x6, x7, x8, x9]) ∧ ∃ us rows, H' W = some (.lst us) ∧ RowsT K H' us rows ∧ rows.length = i ∧ (∀ r ∈ rows, r.Pairwise (· < ·) ∧ ∀ z ∈ r, 0 ≤ z ∧ z < (m1 : Int)) ∧ Gs t q H5 H' ∧ Po H' t q) ⟨⟨_, _, _, _, _, _, rfl⟩, [], [], upd_same, .nil, rfl, (fun r hr => nomatch hr), g6, T6⟩ ?_ ?_⟩
        · rintro i σ' H7 hi ⟨⟨y3, y5, y6, y7, y8, y9, rfl⟩, us, rows, h7, hr7, rl7, rr7, g7, T7⟩
          rw [Int.toNat_natCast] at hi
          have h7S := g7 _ _ nS.1 nS.2 h5S
          have usl := hr7.len
          refine ⟨_, rfl, .inl ⟨rfl, _, SqL.of h7⟩, ?_⟩
          refine ⟨_, rfl, S, _, 1, nV m1, rfl, rfl, SqL.of h7S, atI_nat (j := 1) rfl, _, rfl, by omega, by omega, fun B hB => ?_⟩
          have nB := T7.free hB
          refine lc_range (lo := 0) (n := ((m1 : Nat) : Int).toNat) (fun j H' => ∃ zs : List Int, H' B = some (.lst (zs.map V.int)) ∧ zs.Pairwise (· < ·) ∧ (∀ z ∈ zs, 0 ≤ z ∧ z < (j : Int)) ∧ zs.length ≤ j ∧ Gs t q H7 H' ∧ Po H' t q) ⟨[], upd_same, .nil, (fun z hz => nomatch hz), Nat.le_refl _, Gs.new hB, T7.new hB⟩ ?_ ?_
          · rintro j H8 hj ⟨zs, h8, za, zr, zl, g8, T8⟩
            rw [Int.toNat_natCast] at hj
            refine ⟨rfl, _, rfl, t, q, 2, rfl, T8, by decide, by decide, fun d H9 a0 a1 g9 T9 => ⟨rfl, _, rfl, ?_⟩⟩
            have h9 := g9 _ _ nB.1 nB.2 h8
            refine ite2 (fun _ => ?_) (fun _ => ?_)
            · refine ⟨_, rfl, _, h9, small_lt (by rw [List.length_map]; omega), zs ++ [(j : Int)], ?_, ?_, fun z hz => ?_, by rw [List.length_append, List.length_singleton]; omega, (g8.trans g9).mut hB, T9.mut nB⟩
              · rw [upd_same, List.map_append, Int.zero_add]
                rfl
              · refine List.pairwise_append.mpr ⟨za, List.pairwise_singleton _ _, fun a ha b hb => ?_⟩
                rw [List.mem_singleton.mp hb]
                exact (zr a ha).2
              · rcases List.mem_append.mp hz with hz | hz
                · have := zr z hz
                  omega
                · rw [List.mem_singleton.mp hz]
                  omega
            · exact ⟨zs, h9, za, (fun z hz => by have := zr z hz; omega), by omega, g8.trans g9, T9⟩
          · rintro H8 ⟨zs, h8, za, zr, zl, g8, T8⟩
            rw [Int.toNat_natCast] at zr zl
            refine ⟨B, _, rfl, .inl ⟨SqL.of h8, fun tt htt => ?_⟩⟩
            have h8W := g8 _ _ nW.1 nW.2 h7
            have nWt : W ≠ tt := ne_of_none h8W htt
            have st := same_new (o := .tup (zs.map V.int)) htt
            refine ⟨W, us, .ref tt, rfl, rfl, by rw [upd_ne nWt]; exact h8W, small_lt (by omega), ?_⟩
            refine ⟨⟨_, _, _, _, _, _, rfl⟩, us ++ [.ref tt], rows ++ [zs], upd_same, RowsT.put (st _ _ h8W) (RowsT.snoc (SqT.of upd_same) ((hr7.gs g8 T7).same st)), by rw [List.length_append, rl7]; rfl, fun x hx => ?_, (g7.trans (g8.trans (.of st))).mut hW, (T8.new htt).mut nW⟩
            rcases List.mem_append.mp hx with hx | hx
            · exact rr7 x hx
            · rw [List.mem_singleton.mp hx]
              exact ⟨za, zr⟩
        · rintro σ' H7 ⟨⟨y3, y5, y6, y7, y8, y9, rfl⟩, us, rows, h7, hr7, rl7, rr7, g7, T7⟩
          rw [Int.toNat_natCast] at rl7
          have h7D := g7 _ _ nD.1 nD.2 h5D
          have h7A := g7 _ _ n0.1 n0.2 h5A
          have h7B := g7 _ _ n1.1 n1.2 h5B
          refine ⟨_, rfl, D, _, 0, .ref A0, rfl, rfl, SqL.of h7D, atI_nat (j := 0) rfl, A0, _, rfl, .inl ⟨SqL.of h7A, fun x hx => ?_⟩⟩
          have sx := same_new (o := .tup ((u :: ns).map V.int)) hx
          refine ⟨_, rfl, D, _, 1, .ref A1, rfl, rfl, SqL.of (sx _ _ h7D), atI_nat (j := 1) rfl, A1, _, rfl, .inl ⟨SqL.of (sx _ _ h7B), fun y hy => ?_⟩⟩
          have sy := same_new (o := .tup ((v :: ms).map V.int)) hy
          refine ⟨_, rfl, W, us, rfl, .inl ⟨SqL.of (sy _ _ (sx _ _ h7)), fun z hz => ?_⟩⟩
          have sz := same_new (o := .tup us) hz
          refine ⟨by show 3 ≤ sizeLine; decide, fun l hl => ?_⟩
          have sl' := same_new (o := .lst [V.ref x, V.ref y, V.ref z]) hl
          have sall := ((sx.trans sy).trans sz).trans sl'
          have s1 := (sy.trans sz).trans sl'
          have s2 := sz.trans sl'
          have gall := ((g1.trans g5).trans g7).trans (.of sall)
          refine k l x y z (u :: ns) (v :: ms) rows _ ⟨upd_same, sqT_same s1 (SqT.of upd_same), sqT_same s2 (SqT.of upd_same), ⟨z, us, rfl, sqT_same sl' (SqT.of upd_same), hr7.same sall⟩, by simp, by show ns.length + 1 ≤ 8; omega, by simp, by show ms.length + 1 ≤ 8; omega, by rw [List.sum_cons, List.sum_cons]; exact uv, fun n hn => ?_, fun n hn => ?_, by rw [rl7]; exact l0.symm, fun r hr => (rr7 r hr).1, fun r hr w hw => by have := (rr7 r hr).2 w hw; rw [show (v :: ms).length = m1 from l1]; exact this⟩ gall (T7.keep sall) ?_
          · rcases List.mem_cons.mp hn with e | hn
            · rw [e]; exact ub
            · have := nr n (List.mem_cons_of_mem _ hn); exact ⟨this.1, by omega⟩
          · rcases List.mem_cons.mp hn with e | hn
            · rw [e]; exact vb
            · have := mr n (List.mem_cons_of_mem _ hn); exact ⟨this.1, by omega⟩
          · have T8 := T7.keep ((sx.trans sy).trans sz)
            exact ((g1.trans g5).trans g7).trans (.of ((sx.trans sy).trans sz)) |>.fresh T8 hl
end
end Fo
set_option maxRecDepth 100000
set_option maxHeartbeats 4000000
namespace Fo
open PySem PySem.Spec PyProof.Rows L2
section
variable {P : Program} {w : World} {K : PySem.W.Frag} {mg : Str → Option Value} {base : Heap} {C : Addr}
theorem catA {a b : Addr} {xs ys : List V} {H : Hp} {Q : VK} (ha : SqT K H a xs) (hb : SqT K H b ys) (hz : xs.length + ys.length ≤ 100000) (k : ∀ p H', Same H H' → SqT K H' p (xs ++ ys) → Q (.ref p) H') : rCatA K (.ref a) (.ref b) H Q := by
  refine ⟨a, b, xs, ys, rfl, rfl, ha, hb, small_le hz, fun h => ?_, fun _ h => ?_, fun _ _ p hp => k p _ (same_new hp) (SqT.of upd_same)⟩
  · subst h
    exact k b H (Same.refl H) hb
  · subst h
    exact k a H (Same.refl H) (by rw [List.append_nil]; exact ha)
theorem slA {a : Addr} {xs : List V} {lo hi : Option Int} {H : Hp} {Q : VK} (ha : SqT K H a xs) (k : ∀ p H', Same H H' → SqT K H' p (cutV xs lo hi) → Q (.ref p) H') : rSlA K (.ref a) lo hi H Q := by
  refine ⟨a, xs, rfl, ha, fun hw => k a H (Same.refl H) ?_, fun _ p hp => k p _ (same_new hp) (SqT.of upd_same)⟩
  have e : cutV xs lo hi = xs := by
    unfold cutV
    rw [hw.1, hw.2]
    simp
  rw [e]
  exact ha
theorem cut_to {xs : List V} {n : Nat} (h : n ≤ xs.length) : cutV xs none (some (n : Int)) = xs.take n := by
  unfold cutV
  rw [HT.sIx_none, HT.sIx_nat, show min n xs.length = n by omega]
  rfl
theorem cut_from {xs : List V} {n : Nat} (h : n ≤ xs.length) : cutV xs (some (n : Int)) none = xs.drop n := by
  unfold cutV
  rw [HT.sIx_none, HT.sIx_nat, show min n xs.length = n by omega]
  rw [List.take_of_length_le]
  rw [List.length_drop]
  omega
end
theorem ext_by {α : Type} (f : α → Int) : ∀ {l1 l2 : List α}, l1.Pairwise (fun a b => f a < f b) → l2.Pairwise (fun a b => f a < f b) → (∀ x, x ∈ l1 ↔ x ∈ l2) → l1 = l2
  | [], [], _, _, _ => rfl
  | [], y :: r, _, _, h => absurd ((h y).mpr List.mem_cons_self) (by simp)
  | x :: r, [], _, _, h => absurd ((h x).mp List.mem_cons_self) (by simp)
  | x :: r, y :: q, h1, h2, h => by
    have p1 := List.pairwise_cons.mp h1
    have p2 := List.pairwise_cons.mp h2
    have e : x = y := by
      rcases List.mem_cons.mp ((h x).mp List.mem_cons_self) with e | m
      · exact e
      · rcases List.mem_cons.mp ((h y).mpr List.mem_cons_self) with e | m2
        · exact e.symm
        · have a := p2.1 x m
          have b := p1.1 y m2
          omega
    subst e
    have t : r = q := ext_by f p1.2 p2.2 fun z => by
      constructor
      · intro hz
        rcases List.mem_cons.mp ((h z).mp (List.mem_cons_of_mem _ hz)) with e | m
        · have := p1.1 z hz
          rw [e] at this
          omega
        · exact m
      · intro hz
        rcases List.mem_cons.mp ((h z).mpr (List.mem_cons_of_mem _ hz)) with e | m
        · have := p2.1 z hz
          rw [e] at this
          omega
        · exact m
    rw [t]
theorem asc_ext {l1 l2 : List Int} (h1 : l1.Pairwise (· < ·)) (h2 : l2.Pairwise (· < ·)) (h : ∀ x, x ∈ l1 ↔ x ∈ l2) : l1 = l2 := ext_by id h1 h2 h
end Fo
set_option maxRecDepth 100000
set_option maxHeartbeats 4000000
set_option maxRecDepth 100000
set_option maxHeartbeats 4000000
namespace Fo
open PySem PySem.Spec PyProof.Rows L2
section
variable {K : PySem.W.Frag} {C : Addr} {t l : Addr} {m : Nat}
def Ng (K : PySem.W.Frag) (C t : Addr) (m : Nat) : Nat → Hp → V → Prop
  | 0, H, x => ∀ H', Gr t H H' → Th K C H' x
  | n + 1, H, x => (∀ H', Gr t H H' → ∃ ty, TyX K H' x ty ∧ (∀ c, ty = .ref c → c = C) ∧ PySem.W.kitOne K ty (.type "tuple") = some false) ∨ ∃ a xs, x = .ref a ∧ SqT K H a xs ∧ xs.length ≤ m ∧ ∀ y ∈ xs, Ng K C t m n H y
theorem Ng.le {m' : Nat} (hm : m ≤ m') : ∀ {n : Nat} {H : Hp} {x : V}, Ng K C t m n H x → Ng K C t m' n H x
  | 0, _, _, h => h
  | n + 1, _, _, h => by
    rcases h with h | ⟨a, xs, e, hs, hl, hy⟩
    · exact .inl h
    · exact .inr ⟨a, xs, e, hs, Nat.le_trans hl hm, fun y hy' => (hy y hy').le hm⟩
theorem th_sqT {H : Hp} {a : Addr} {xs : List V} (h : SqT K H a xs) : Th K C H (.ref a) := ⟨_, tyX_sqT h, fun c e => by cases e⟩
theorem Ng.tup {n : Nat} {H : Hp} {a : Addr} {xs : List V} (T : Tape H t l) (hs : SqT K H a xs) (hl : xs.length ≤ m) (h : ∀ y ∈ xs, Ng K C t m n H y) : Ng K C t m (n + 1) H (.ref a) := .inr ⟨a, xs, rfl, hs, hl, h⟩
theorem Ng.no {H : Hp} {x : V} {s : String} (ty : ∀ H', Gr t H H' → TyX K H' x (.type s)) (hk : kitB s "tuple" = some false) : ∀ n, Ng K C t m n H x
  | 0 => fun H' g => ⟨_, ty H' g, fun c e => by cases e⟩
  | n + 1 => .inl fun H' g => ⟨_, ty H' g, fun c e => (by cases e), kit_ty hk⟩
theorem Ng.int {n : Nat} {H : Hp} {i : Int} : Ng K C t m n H (.int i) := Ng.no (fun _ _ => .base (.int i)) (by decide +kernel) n
theorem Ng.bl {n : Nat} {H : Hp} {i : Bool} : Ng K C t m n H (.bl i) := Ng.no (fun _ _ => .base (.bl i)) (by decide +kernel) n
theorem Ng.str {n : Nat} {H : Hp} {i : Str} : Ng K C t m n H (.str i) := Ng.no (fun _ _ => .base (.str i)) (by decide +kernel) n
theorem Ng.non {n : Nat} {H : Hp} : Ng K C t m n H .non := Ng.no (fun _ _ => .base .non) (by decide +kernel) n
theorem Ng.lst {n : Nat} {H : Hp} {a : Addr} {xs : List V} (h : H a = some (.lst xs)) (ne : a ≠ t) : Ng K C t m n H (.ref a) := Ng.no (fun H' g => .base (.lst (g _ _ ne h))) (by decide +kernel) n
theorem Ng.dK {n : Nat} {H : Hp} {a : Addr} (h : H a = some (.dK [])) (ne : a ≠ t) : Ng K C t m n H (.ref a) := Ng.no (fun H' g => .base (.dK (g _ _ ne h))) (by decide +kernel) n
theorem Ng.row {n : Nat} {H : Hp} {a : Addr} {ns : List Int} (T : Tape H t l) (h : SqT K H a (ns.map V.int)) (hl : ns.length ≤ m) : Ng K C t m n H (.ref a) := by
  cases n with
  | zero => exact fun H' g => th_sqT (gr_T g T h)
  | succ n => exact .inr ⟨a, _, rfl, h, by rw [List.length_map]; exact hl, fun y hy => by
      obtain ⟨i, _, rfl⟩ := List.mem_map.mp hy
      exact .int⟩
/-- tuples within tuples, one or none in each -/
def Tn (K : PySem.W.Frag) : Nat → Hp → V → Prop
  | 0, H, x => ∃ a xs, x = .ref a ∧ SqT K H a xs
  | n + 1, H, x => ∃ a xs, x = .ref a ∧ SqT K H a xs ∧ xs.length ≤ 1 ∧ ∀ y ∈ xs, Tn K n H y
theorem Tn.same : ∀ {n : Nat} {H H' : Hp} {x : V}, Same H H' → Tn K n H x → Tn K n H' x
  | 0, _, _, _, s, ⟨a, xs, e, h⟩ => ⟨a, xs, e, sqT_same s h⟩
  | n + 1, _, _, _, s, ⟨a, xs, e, h, hl, hy⟩ => ⟨a, xs, e, sqT_same s h, hl, fun y q => (hy y q).same s⟩
theorem cut_from' {xs : List V} {n : Nat} : cutV xs (some (n : Int)) none = xs.drop n := by
  by_cases h : n ≤ xs.length
  · exact cut_from h
  · unfold cutV
    rw [HT.sIx_none, HT.sIx_nat, show min n xs.length = xs.length by omega, List.drop_of_length_le (Nat.le_refl _), List.drop_of_length_le (by omega), List.take_nil]
theorem mem_cat3 {α : Type} {xs : List α} {y z : α} {i j : Nat} (h : z ∈ xs.take i ++ [y] ++ xs.drop j) : z ∈ xs ∨ z = y := by
  rcases List.mem_append.mp h with h | h
  · rcases List.mem_append.mp h with h | h
    · exact .inl (List.mem_of_mem_take h)
    · exact .inr (List.mem_singleton.mp h)
  · exact .inl (List.mem_of_mem_drop h)
end
end Fo
set_option maxRecDepth 100000
set_option maxHeartbeats 2000000
namespace PySem.W
open PySem PySem.Spec PySem.Calls PyProof.Rows PyProof.V
section
variable {prog : Program} {w : World} {A : Around} {E : Value → Shared → Prop} {s : Shared} {t : Addr}
theorem ktm_max {xs : Array (Int × Tok)} {Q : Value → Shared → Prop} (hh : A.handled = none) (ht : s.heap.IsTuple t (intItems xs)) (hne : 0 < xs.size)
    (h : ∀ v h' tk, (intItems xs)[argBest (fun i j => decide (numAt xs i > numAt xs j)) (xs.size - 1)]? = some v → (∀ b o, s.heap.get? b = some o → h'.get? b = some o) → Q v { s with heap := h', toks := tk }) :
    wpAny (model prog w) A (call (.builtin "max") [.ref t]) Q E s := by
  obtain ⟨o, ho, hc, n, hd⟩ := id ht
  have hne' : t ≠ s.heap.objs.size := Nat.ne_of_lt (Heap.lt_size ho)
  refine call_max_walk (wpAny_pyIter_tuple ht ?_)
  refine ⟨s.heap.objs.size, _, _, _, _, _, _, rfl, Walks.tuple (prog := prog) (w := w) (A := A.in1) hh s.heap.objs.size t hne' (intItems xs), ⟨⟨_, Heap.get?_push_size _ rfl, rfl, rfl⟩, ht.at fun o e => Heap.get?_push_of_some _ e⟩, fun b hb => ?_, by simpa [intItems] using hne, CmpOf.ints_gt (numAt xs) (fun _ _ => intItems_at), fun v h' tk hP hk => ?_⟩
  · rcases List.mem_cons.mp hb with rfl | hb
    · exact Heap.lt_size (Heap.get?_push_size _ rfl)
    · obtain rfl := List.mem_singleton.mp hb
      exact Heap.lt_size (Heap.get?_push_of_some _ ho)
  · exact h v h' tk (by simpa [intItems] using hP) (fun b o e => hk b o (fun hb => absurd (Heap.lt_size e) ((List.mem_singleton.mp hb) ▸ Nat.lt_irrefl _)) (Heap.get?_push_of_some _ e))
theorem ktm_min {xs : Array (Int × Tok)} {Q : Value → Shared → Prop} (hh : A.handled = none) (ht : s.heap.IsTuple t (intItems xs)) (hne : 0 < xs.size)
    (h : ∀ v h' tk, (intItems xs)[argBest (fun i j => decide (numAt xs i < numAt xs j)) (xs.size - 1)]? = some v → (∀ b o, s.heap.get? b = some o → h'.get? b = some o) → Q v { s with heap := h', toks := tk }) :
    wpAny (model prog w) A (call (.builtin "min") [.ref t]) Q E s := by
  obtain ⟨o, ho, hc, n, hd⟩ := id ht
  have hne' : t ≠ s.heap.objs.size := Nat.ne_of_lt (Heap.lt_size ho)
  refine call_min_walk (wpAny_pyIter_tuple ht ?_)
  refine ⟨s.heap.objs.size, _, _, _, _, _, _, rfl, Walks.tuple (prog := prog) (w := w) (A := A.in1) hh s.heap.objs.size t hne' (intItems xs), ⟨⟨_, Heap.get?_push_size _ rfl, rfl, rfl⟩, ht.at fun o e => Heap.get?_push_of_some _ e⟩, fun b hb => ?_, by simpa [intItems] using hne, CmpOf.ints_lt (numAt xs) (fun _ _ => intItems_at), fun v h' tk hP hk => ?_⟩
  · rcases List.mem_cons.mp hb with rfl | hb
    · exact Heap.lt_size (Heap.get?_push_size _ rfl)
    · obtain rfl := List.mem_singleton.mp hb
      exact Heap.lt_size (Heap.get?_push_of_some _ ho)
  · exact h v h' tk (by simpa [intItems] using hP) (fun b o e => hk b o (fun hb => absurd (Heap.lt_size e) ((List.mem_singleton.mp hb) ▸ Nat.lt_irrefl _)) (Heap.get?_push_of_some _ e))
end
end PySem.W
namespace Fo
open PySem PySem.Spec PyProof.Rows L2
def rMaxT (K : PySem.W.Frag) : List V → Hp → VK → Prop := fun vs H Q => ∃ (a : Addr) (ns : List Int), vs = [V.ref a] ∧ SqT K H a (ns.map V.int) ∧ 0 < ns.length ∧ ∀ m, m ∈ ns → (∀ y, y ∈ ns → y ≤ m) → Q (.int m) H
def rMinT (K : PySem.W.Frag) : List V → Hp → VK → Prop := fun vs H Q => ∃ (a : Addr) (ns : List Int), vs = [V.ref a] ∧ SqT K H a (ns.map V.int) ∧ 0 < ns.length ∧ ∀ m, m ∈ ns → (∀ y, y ∈ ns → m ≤ y) → Q (.int m) H
theorem cr_maxT {X : Cx} (hc : X.calm = true) : CallR X (.builtin "max") (rMaxT X.K) := by
  intro pins s σ H vs us Q I r h
  obtain ⟨a, ns, rfl, hs, hne, q⟩ := h
  obtain ⟨its, rv, ht, _⟩ := I.tuple hs
  rw [Vals.ref1 r]
  have hi := rv.ints
  obtain ⟨xs, e⟩ := hi.allInts.items
  have hn : numsOf (intItems xs).toList = ns := by rw [← e]; exact hi.numsOf
  rw [nums_intItems] at hn
  subst hn
  rw [e] at ht
  have hsz : 0 < xs.size := by simpa using hne
  refine PySem.W.ktm_max (I.ok.hd hc) ht hsz fun v h' tk hv hk => ?_
  obtain ⟨t, rfl⟩ := intItems_at hv
  obtain ⟨h1, h2⟩ := argBest_gt (numAt xs) (xs.size - 1)
  refine ⟨.int _, H, I.kept hk, ⟨_, rfl⟩, q _ ?_ fun a ha => ?_⟩
  · rw [numAt_eq]; exact PySem.getD_mem (by rw [List.length_map, Array.length_toList]; omega)
  · obtain ⟨j, hj, rfl⟩ := mem_getD ha
    rw [List.length_map, Array.length_toList] at hj
    rw [← numAt_eq]; exact h2 j (by omega)
theorem cr_minT {X : Cx} (hc : X.calm = true) : CallR X (.builtin "min") (rMinT X.K) := by
  intro pins s σ H vs us Q I r h
  obtain ⟨a, ns, rfl, hs, hne, q⟩ := h
  obtain ⟨its, rv, ht, _⟩ := I.tuple hs
  rw [Vals.ref1 r]
  have hi := rv.ints
  obtain ⟨xs, e⟩ := hi.allInts.items
  have hn : numsOf (intItems xs).toList = ns := by rw [← e]; exact hi.numsOf
  rw [nums_intItems] at hn
  subst hn
  rw [e] at ht
  have hsz : 0 < xs.size := by simpa using hne
  refine PySem.W.ktm_min (I.ok.hd hc) ht hsz fun v h' tk hv hk => ?_
  obtain ⟨t, rfl⟩ := intItems_at hv
  obtain ⟨h1, h2⟩ := PySem.argBest_lt (numAt xs) (xs.size - 1)
  refine ⟨.int _, H, I.kept hk, ⟨_, rfl⟩, q _ ?_ fun a ha => ?_⟩
  · rw [numAt_eq]; exact PySem.getD_mem (by rw [List.length_map, Array.length_toList]; omega)
  · obtain ⟨j, hj, rfl⟩ := mem_getD ha
    rw [List.length_map, Array.length_toList] at hj
    rw [← numAt_eq]; exact h2 j (by omega)
end Fo
set_option maxRecDepth 100000
set_option maxHeartbeats 4000000
namespace Fo
open PySem PySem.Spec PyProof.Rows L2
abbrev s_law_is_int : Stmt := top 17
abbrev n_law_is_int : List Str := ["thing"]
theorem sc_law_is_int : FnScope n_law_is_int ["thing"] (defScope s_law_is_int) := ⟨rfl, rfl, rfl, by decide +kernel, rfl, by decide +kernel, by decide +kernel⟩
abbrev s_law_numbers : Stmt := top 18
abbrev n_law_numbers : List Str := ["thing", "many", "one"]
theorem sc_law_numbers : FnScope n_law_numbers ["thing", "many"] (defScope s_law_numbers) := ⟨rfl, rfl, rfl, by decide +kernel, rfl, by decide +kernel, by decide +kernel⟩
abbrev s_law_are_counts : Stmt := top 21
abbrev n_law_are_counts : List Str := ["thing", "one"]
theorem sc_law_are_counts : FnScope n_law_are_counts ["thing"] (defScope s_law_are_counts) := ⟨rfl, rfl, rfl, by decide +kernel, rfl, by decide +kernel, by decide +kernel⟩
abbrev s_law_due : Stmt := top 22
abbrev n_law_due : List Str := ["parts", "people", "things", "allowed", "row"]
theorem sc_law_due : FnScope n_law_due ["parts"] (defScope s_law_due) := ⟨rfl, rfl, rfl, by decide +kernel, rfl, by decide +kernel, by decide +kernel⟩
theorem eqv_LI (a b : List Int) : PyData.eqv (.list (a.map PyData.int)) (.list (b.map PyData.int)) = decide (a = b) := by
  rw [PyData.eqv]
  exact PySem.W.ked_eqvAll a b
theorem sh_LI (ns : List Int) : SeqAt.shaped (.list (ns.map PyData.int)) = true := sh_I ns
theorem nums_ints {b : Int} : ∀ {xs : List V}, xs.all (numV b) = true → ∃ ns : List Int, xs = ns.map V.int ∧ ∀ x ∈ ns, 0 ≤ x ∧ x < b
  | [], _ => ⟨[], rfl, fun _ h => (by cases h)⟩
  | x :: xs, h => by
    rw [List.all_cons, Bool.and_eq_true] at h
    obtain ⟨ns, e, hn⟩ := nums_ints h.2
    cases x with
    | int i =>
      have h1 : (decide (0 ≤ i) && decide (i < b)) = true := h.1
      rw [Bool.and_eq_true] at h1
      refine ⟨i :: ns, by rw [e]; rfl, fun z hz => ?_⟩
      rcases List.mem_cons.mp hz with q | q
      · rw [q]; exact ⟨of_decide_eq_true h1.1, of_decide_eq_true h1.2⟩
      · exact hn z q
    | _ => exact absurd h.1 (by simp [numV])
theorem asc_of_V {b : Int} : ∀ {ns : List Int}, ascV b (ns.map V.int) = true → ns.Pairwise (· < ·)
  | [], _ => .nil
  | [x], _ => List.pairwise_singleton _ _
  | x :: y :: r, h => by
    have h' : (numV b (.int x) && decide (x < y) && ascV b ((y :: r).map V.int)) = true := h
    rw [Bool.and_eq_true, Bool.and_eq_true] at h'
    have p := asc_of_V h'.2
    have xy := of_decide_eq_true h'.1.2
    refine List.pairwise_cons.mpr ⟨fun z hz => ?_, p⟩
    rcases List.mem_cons.mp hz with q | q
    · rw [q]; exact xy
    · have := (List.pairwise_cons.mp p).1 z q
      omega
section
variable {P : Program} {w : World} {K : PySem.W.Frag} {mg : Str → Option Value} {base : Heap} {C : Addr}
theorem ok_lint (A : At K mg "_law_is_int" s_law_is_int ["thing"]) (T : Tx mg) (tc : TC K C) : Dfn P w K mg base "_law_is_int" ["thing"] 1 (spInteger K C) := by
  refine A.ok sc_law_is_int (fun vs H Q E h => ?_) (fun f cdv A outer s H vs Q E hr h => ?_)
  · obtain ⟨x, rfl, _⟩ := h
    rfl
  · obtain ⟨x, rfl, hx, k⟩ := h
    obtain ⟨t, b1, b2, ty, h1, h2, h3⟩ := th_kit tc hx
    refine ⟨_, (pss_one (ps_ret (pe_and (pe_callB call_isi (by rfl) T.isinstance (by decide +kernel) (pa_cons (pv 0) (pa_cons (pe_bltn (v := V.ty "int") (by rfl) T.int (by decide +kernel) rfl) pa_nil))) (pe_one (pe_not (pe_callB call_isi (by rfl) T.isinstance (by decide +kernel) (pa_cons (pv 0) (pa_cons (pe_bltn (v := V.ty "bool") (by rfl) T.bool (by decide +kernel) rfl) pa_nil)))))))), ?_⟩
    refine ⟨_, rfl, x, .ty "int", t, .type "int", b1, rfl, .ty "int", ty, h1, b1, rfl, ?_⟩
    cases b1 with
    | true =>
      refine ⟨_, rfl, x, .ty "bool", t, .type "bool", b2, rfl, .ty "bool", ty, h2, b2, rfl, ?_⟩
      rw [Bool.true_and] at h3
      rw [h3]
      exact k
    | false =>
      rw [Bool.false_and] at h3
      rw [← h3] at k
      exact k
def spLNum (K : PySem.W.Frag) (C : Addr) : Sp := fun vs H Q _ => ∃ (b : Int) (x : V) (o : Option (List V)), vs = [x, .int b] ∧ Tg K C H x o ∧ (∀ xs, o = some xs → xs.length ≤ 900) ∧ ∀ H', Same H H' → Q (.bl (ascOf b o)) H'
theorem ok_lnums (A : At K mg "_law_numbers" s_law_numbers ["thing", "many"]) (T : Tx mg) (G_law_is_int : Dfn P w K mg base "_law_is_int" ["thing"] 1 (spInteger K C)) : Dfn P w K mg base "_law_numbers" ["thing", "many"] 2 (spLNum K C) := by
  refine A.ok sc_law_numbers (fun vs H Q E h => ?_) (fun f cdv A outer s H vs Q E hr h => ?_)
  · obtain ⟨b, x, o, rfl, _⟩ := h
    rfl
  · obtain ⟨b, x, o, rfl, hx, hl, k⟩ := h
    refine ⟨_, (pss_cons (ps_if (PW.pt (pw_or (pt_not (pt_val (pe_callB call_isi (by rfl) T.isinstance (by decide +kernel) (pa_cons (pv 0) (pa_cons (pe_bltn (v := V.ty "tuple") (by rfl) T.tuple (by decide +kernel) rfl) pa_nil))))) (pw_or1 (pt_cmpR op_gt (pe_callB c_len (by rfl) T.len (by decide +kernel) (pa_cons (pe_lc (own := [("one", 2)]) (g := (gName 2)) (tt := (tOr (tNot (tTru K (tCall _ [] E0 (tCons (tVar 2) tNil)))) (tNot (tTest (tChain (rI0 fun i j => V.bl (decide (i ≤ j))) (rI0 fun i j => V.bl (decide (i < j))) (tC (V.int 0)) (tVar 2) (tVar 1)))))) (te := (tVar 2)) (by rfl) sc_law_numbers.nd (pi_tup (pv 0)) (blkOk_by (own := [("one", 2)]) (N := n_law_numbers) (sc := (defScope s_law_numbers)) (by decide +kernel)) (fun _ _ _ _ _ => (pg_name (i := 2) sc_law_numbers.nd rfl (Or.inl rfl))) (fun _ _ _ _ _ => (pts_one (PW.pt (pw_or (pt_not (pt_truth (pe_d G_law_is_int (hr.mono (by decide)) (pa_cons (pv 2) pa_nil)) (by intro _; rfl))) (pw_or1 (pt_not (pt_chain op_le op_lt pe_int (pv 2) (pv 1)))))))) (fun _ _ _ _ _ => (pv 2))) pa_nil)) pe_int (nomark _))))) (pss_one (ps_ret pe_bl)) pss_nil)
      (pss_one (ps_ret (pe_cmpR (op_eqD hr.units) (pe_callTy c_list (by rfl) T.list (by decide +kernel) (pa_cons (pv 0) pa_nil)) (pe_callB (cr_sortSetA rfl) (by rfl) T.sorted (by decide +kernel) (pa_cons (pe_callTy (cr_setI rfl) (by rfl) T.set (by decide +kernel) (pa_cons (pv 0) pa_nil)) pa_nil)) (nomark _))))), ?_⟩
    cases hx with
    | no ty hk =>
      refine ⟨_, rfl, x, .ty "tuple", _, .type "tuple", false, rfl, .ty "tuple", ty, hk, false, rfl, ?_⟩
      exact k H (Same.refl H)
    | tup hq hi hz =>
      rename_i a xs
      have hl' := hl xs rfl
      refine ⟨_, rfl, .ref a, .ty "tuple", _, .type "tuple", true, rfl, .ty "tuple", tyX_sqT hq, kit_ty (by decide +kernel), true, rfl, ?_⟩
      refine ⟨_, rfl, a, rfl, ⟨xs, hq⟩, fun D hD => ?_⟩
      have none_iff : ∀ us : List V, us.length = (xs.filter fun x => !numV b x).length → (us.length = 0 ↔ xs.all (numV b) = true) := fun us e => by
        rw [e, List.length_eq_zero_iff, List.filter_eq_nil_iff, List.all_eq_true]
        exact ⟨fun h x hx => by have := h x hx; cases q : numV b x <;> simp_all, fun h x hx => by rw [h x hx]; decide⟩
      refine lc_tup (xs := xs) (fun i H' => H' D = some (.lst ((xs.take i).filter fun x => !numV b x)) ∧ Same H H') ⟨upd_same, same_new hD⟩ (fun i H' _ p => sqT_same p.2 hq) ?_ ?_
      · rintro i y H1 hy ⟨h1, s1⟩
        have il := (List.getElem?_eq_some_iff.mp hy).1
        have putT : numV b y = false → ∃ acc, H1 D = some (.lst acc) ∧ acc.length < sizeLine ∧ upd H1 D (.lst (acc ++ [y])) D = some (.lst ((xs.take (i + 1)).filter fun x => !numV b x)) ∧ Same H (upd H1 D (.lst (acc ++ [y]))) := fun e => by
          rw [List.take_add_one, hy, List.filter_append]
          refine ⟨_, h1, small_lt (Nat.le_trans (List.length_filter_le _ _) (by rw [List.length_take]; omega)), ?_, same_mut s1 hD⟩
          rw [upd_same, show (some y).toList.filter (fun x => !numV b x) = [y] from by rw [Option.toList_some, List.filter_cons_of_pos (by rw [e]; rfl)]; rfl]
        have putF : numV b y = true → H1 D = some (.lst ((xs.take (i + 1)).filter fun x => !numV b x)) ∧ Same H H1 := fun e => by
          rw [List.take_add_one, hy, List.filter_append, show (some y).toList.filter (fun x => !numV b x) = [] from by rw [Option.toList_some, List.filter_cons_of_neg (by rw [e]; decide)]; rfl, List.append_nil]
          exact ⟨h1, s1⟩
        refine ⟨rfl, _, rfl, y, rfl, (hi y (List.mem_of_getElem? hy)).same s1, _, rfl, ?_⟩
        cases y with
        | int z =>
          refine ite2 (fun n => by cases n) (fun _ => ?_)
          refine ⟨_, rfl, 0, z, rfl, rfl, _, rfl, ?_⟩
          by_cases c : 0 ≤ z
          · rw [decide_eq_true c]
            refine ⟨_, rfl, z, b, rfl, rfl, _, rfl, ?_⟩
            have e : numV b (.int z) = decide (z < b) := by
              show (decide (0 ≤ z) && decide (z < b)) = _
              rw [decide_eq_true c, Bool.true_and]
            by_cases c2 : z < b
            · rw [decide_eq_true c2] at e ⊢
              exact putF e
            · rw [decide_eq_false c2] at e ⊢
              exact ⟨_, rfl, putT e⟩
          · rw [decide_eq_false c]
            exact ⟨_, rfl, _, rfl, putT (by show (decide (0 ≤ z) && decide (z < b)) = _; rw [decide_eq_false c, Bool.false_and])⟩
        | _ => exact ⟨_, rfl, putT rfl⟩
      · rintro H1 ⟨h1, s1⟩
        rw [List.take_length] at h1
        refine ⟨D, _, rfl, .inl (SqL.of h1), ?_⟩
        refine ⟨_, 0, rfl, rfl, _, rfl, ?_⟩
        have nn := none_iff _ rfl
        cases ha : xs.all (numV b) with
        | false =>
          have e2 : ascOf b (some xs) = false := by
            show ascV b xs = false
            rw [ascV_eq, ha, Bool.false_and]
          rw [e2] at k
          rw [ha] at nn
          have : (xs.filter fun x => !numV b x).length ≠ 0 := fun z => by cases nn.mp z
          refine ite2 (fun _ => k H1 s1) (fun n => absurd (decide_eq_true (by omega)) n)
        | true =>
          have z := nn.mpr ha
          refine ite2 (fun n => absurd (of_decide_eq_true n) (by omega)) (fun _ => ?_)
          obtain ⟨ns, rfl, hn⟩ := nums_ints ha
          rw [List.length_map] at hl'
          refine ⟨_, rfl, a, _, rfl, .inr (sqT_same s1 hq), fun q hq0 => ?_⟩
          have s2 := s1.trans (same_new (o := .lst (ns.map V.int)) hq0)
          refine ⟨_, rfl, a, ns, rfl, sqT_same s2 hq, by omega, fun c n hc hn' => ?_⟩
          refine ⟨c, _, n, rfl, upd_same, by omega, fun ns' p pw mem len hp => ?_⟩
          have hqc : q ≠ c := ne_of_none (upd_same (H := H1) (a := q) (o := .lst (ns.map V.int))) hc
          have s3 := s2.trans (same_new (o := SetO w c (fun j => decide (j ∈ ns)) n) hc)
          have hqp : q ≠ p := ne_of_none (by rw [upd_ne hqc]; exact upd_same) hp
          refine ⟨.list (ns.map PyData.int), .list (ns'.map PyData.int), .lst (SqL.of (by rw [upd_ne hqp, upd_ne hqc]; exact upd_same)) (dpAll_ints ns), .lst (SqL.of upd_same) (dpAll_ints ns'), sh_LI _, sh_LI _, ?_⟩
          rw [eqv_LI]
          have e3 : decide (ns = ns') = ascOf b (some (ns.map V.int)) := by
            show _ = ascV b (ns.map V.int)
            by_cases c1 : ns = ns'
            · rw [decide_eq_true c1, ascV_ints (by rw [c1]; exact pw) hn]
            · rw [decide_eq_false c1]
              cases e4 : ascV b (ns.map V.int) with
              | false => rfl
              | true =>
                exfalso
                refine c1 (asc_ext (asc_of_V e4) pw fun z => ?_)
                rw [mem z]
                exact decide_eq_true_iff.symm
          rw [e3]
          exact k _ (s3.trans (same_new hp))
theorem ints_of_all : ∀ {xs : List V}, xs.all isIntV = true → ∃ ns : List Int, xs = ns.map V.int
  | [], _ => ⟨[], rfl⟩
  | x :: xs, h => by
    rw [List.all_cons, Bool.and_eq_true] at h
    obtain ⟨ns, rfl⟩ := ints_of_all h.2
    match x, h.1 with
    | .int i, _ => exact ⟨i :: ns, rfl⟩
theorem cnt_is {b : Int} : ∀ {xs : List V}, xs.all isIntV = false → xs.all (cntV b) = false
  | [], h => by cases h
  | x :: xs, h => by
    rw [List.all_cons] at h ⊢
    by_cases e : isIntV x = true
    · rw [e, Bool.true_and] at h
      rw [cnt_is h, Bool.and_false]
    · have : cntV b x = false := by
        cases x <;> first | rfl | exact absurd rfl e
      rw [this, Bool.false_and]
def spLCnt (K : PySem.W.Frag) (C : Addr) : Sp := fun vs H Q _ => ∃ (x : V) (o : Option (List V)), vs = [x] ∧ Tg K C H x o ∧ ∀ H', Same H H' → Q (.bl (sizesO 0 o)) H'
theorem ok_lcnt (A : At K mg "_law_are_counts" s_law_are_counts ["thing"]) (T : Tx mg) (Tmax : mg "max" = none) (G_law_is_int : Dfn P w K mg base "_law_is_int" ["thing"] 1 (spInteger K C)) : Dfn P w K mg base "_law_are_counts" ["thing"] 2 (spLCnt K C) := by
  refine A.ok sc_law_are_counts (fun vs H Q E h => ?_) (fun f cdv A outer s H vs Q E hr h => ?_)
  · obtain ⟨x, o, rfl, _⟩ := h
    rfl
  · obtain ⟨x, o, rfl, hx, k⟩ := h
    refine ⟨_, (pss_cons (ps_if (PW.pt (pw_or (pt_not (pt_val (pe_callB call_isi (by rfl) T.isinstance (by decide +kernel) (pa_cons (pv 0) (pa_cons (pe_bltn (v := V.ty "tuple") (by rfl) T.tuple (by decide +kernel) rfl) pa_nil))))) (pw_or (pt_not (pt_chain op_le op_le pe_int (pe_callB c_len (by rfl) T.len (by decide +kernel) (pa_cons (pv 0) pa_nil)) pe_int)) (pw_or1 (pt_not (pt_val (pe_callB (cr_all rfl) (by rfl) T.all (by decide +kernel) (pa_cons (pe_lc (own := [("one", 1)]) (g := (gName 1)) (tt := tYes) (te := (tCall _ [] E0 (tCons (tVar 1) tNil))) (by rfl) sc_law_are_counts.nd (pi_tup (pv 0)) (blkOk_by (own := [("one", 1)]) (N := n_law_are_counts) (sc := (defScope s_law_are_counts)) (by decide +kernel)) (fun _ _ _ _ _ => (pg_name (i := 1) sc_law_are_counts.nd rfl (Or.inl rfl))) (fun _ _ _ _ _ => pts_nil) (fun _ _ _ _ _ => (pe_d G_law_is_int (hr.mono (by decide)) (pa_cons (pv 1) pa_nil)))) pa_nil)))))))) (pss_one (ps_ret pe_bl)) pss_nil)
      (pss_one (ps_ret (pe_and (pe_cmpR op_ge (pe_callB (cr_minT rfl) (by rfl) T.min (by decide +kernel) (pa_cons (pv 0) pa_nil)) pe_int (nomark _)) (pe_one (pe_cmpR op_le (pe_callB (cr_maxT rfl) (by rfl) Tmax (by decide +kernel) (pa_cons (pv 0) pa_nil)) (pe_op op_pow pe_int pe_int) (nomark _))))))), ?_⟩
    cases hx with
    | no ty hk => exact ⟨_, rfl, x, .ty "tuple", _, .type "tuple", false, rfl, .ty "tuple", ty, hk, false, rfl, k H (Same.refl H)⟩
    | @tup a xs hq hi hz =>
      refine ⟨_, rfl, .ref a, .ty "tuple", _, .type "tuple", true, rfl, .ty "tuple", tyX_sqT hq, kit_ty (by decide +kernel), true, rfl, _, rfl, ?_⟩
      refine ⟨a, _, rfl, .inr hq, 1, ((xs.length : Nat) : Int), rfl, rfl, _, rfl, ?_⟩
      have bad : ∀ H', Same H H' → (decide (1 ≤ xs.length) && decide (xs.length ≤ 8) && xs.all (cntV 0)) = false → Q (.bl false) H' := fun H' s z => by
        have e : sizesO 0 (some xs) = false := z
        have := k H' s
        rw [e] at this
        exact this
      refine ite2 (fun h1 => ?_) (fun h1 => ?_)
      · have h1 : (1 : Int) ≤ ((xs.length : Nat) : Int) := of_decide_eq_true h1
        refine ⟨((xs.length : Nat) : Int), 8, rfl, rfl, _, rfl, ?_⟩
        by_cases h8 : xs.length ≤ 8
        · rw [show decide (((xs.length : Nat) : Int) ≤ 8) = true from decide_eq_true (by omega)]
          refine ite2 (fun n => by cases n) (fun _ => ?_)
          refine ⟨_, rfl, a, rfl, ⟨xs, hq⟩, fun D hD => lc_tup (xs := xs) (fun i H' => H' D = some (.lst ((xs.take i).map fun x => V.bl (isIntV x))) ∧ Same H H') ⟨by rw [upd_same]; rfl, same_new hD⟩ (fun i H' _ p => sqT_same p.2 hq) (fun i y H' hy p => ?_) (fun H' p => ?_)⟩
          · refine ⟨rfl, _, rfl, y, rfl, (hi y (List.mem_of_getElem? hy)).same p.2, _, p.1, by rw [List.length_map]; exact small_lt (Nat.le_trans (List.length_take_le _ _) (by have := (List.getElem?_eq_some_iff.mp hy).1; omega)), ?_, same_mut p.2 hD⟩
            rw [upd_same, List.take_add_one, hy, List.map_append]
            rfl
          · obtain ⟨p1, p2⟩ := p
            rw [List.take_length] at p1
            refine ⟨D, xs.map isIntV, rfl, SqL.of (by rw [p1, List.map_map]; rfl), ?_⟩
            have e : (xs.map isIntV).all id = xs.all isIntV := by rw [List.all_map]; rfl
            rw [e]
            refine ⟨_, rfl, ?_⟩
            cases ha : xs.all isIntV with
            | false =>
              refine ite2 (fun _ => ?_) (fun n => absurd rfl n)
              exact bad H' p2 (by rw [cnt_is ha, Bool.and_false])
            | true =>
              refine ite2 (fun n => by cases n) (fun _ => ?_)
              obtain ⟨ns, rfl⟩ := ints_of_all ha
              rw [List.length_map] at h1 h8
              have pos : 0 < ns.length := by omega
              have hq' := sqT_same p2 hq
              have fin : ∀ (lo hi : Int), lo ∈ ns → (∀ y ∈ ns, lo ≤ y) → hi ∈ ns → (∀ y ∈ ns, y ≤ hi) → Q (.bl (decide (0 ≤ lo) && decide (hi ≤ mostK))) H' := fun lo hi m1 l1 m2 l2 => by
                have e : (decide (0 ≤ lo) && decide (hi ≤ mostK)) = sizesO 0 (some (ns.map V.int)) := by
                  show _ = (decide (1 ≤ (ns.map V.int).length) && decide ((ns.map V.int).length ≤ 8) && (ns.map V.int).all (cntV 0))
                  rw [List.length_map, decide_eq_true (by omega : 1 ≤ ns.length), decide_eq_true h8, Bool.true_and, Bool.true_and, Bool.eq_iff_iff, Bool.and_eq_true, decide_eq_true_iff, decide_eq_true_iff, List.all_eq_true]
                  constructor
                  · rintro ⟨z1, z2⟩ x hx
                    obtain ⟨i, hi', rfl⟩ := List.mem_map.mp hx
                    show (decide (0 ≤ i) && decide (i ≤ mostK)) = true
                    rw [decide_eq_true (Int.le_trans z1 (l1 i hi')), decide_eq_true (Int.le_trans (l2 i hi') z2)]
                    rfl
                  · intro z
                    have a1 : (decide (0 ≤ lo) && decide (lo ≤ mostK)) = true := z _ (List.mem_map.mpr ⟨lo, m1, rfl⟩)
                    have a2 : (decide (0 ≤ hi) && decide (hi ≤ mostK)) = true := z _ (List.mem_map.mpr ⟨hi, m2, rfl⟩)
                    rw [Bool.and_eq_true, decide_eq_true_iff, decide_eq_true_iff] at a1 a2
                    exact ⟨a1.1, a2.2⟩
                rw [e]
                exact k H' p2
              refine ⟨_, rfl, a, ns, rfl, hq', pos, fun lo m1 l1 => ?_⟩
              refine ⟨lo, 0, rfl, rfl, _, rfl, ?_⟩
              refine ite2 (fun c => ?_) (fun c => ?_)
              · refine ⟨_, rfl, a, ns, rfl, hq', pos, fun hi m2 l2 => ?_⟩
                refine ⟨10, 30, rfl, rfl, ⟨by decide, by decide, by decide⟩, hi, _, rfl, rfl, ?_⟩
                have := fin lo hi m1 l1 m2 l2
                rw [c, Bool.true_and] at this
                exact this
              · have c : decide (0 ≤ lo) = false := Bool.eq_false_iff.mpr c
                refine bad H' p2 ?_
                have : (ns.map V.int).all (cntV 0) = false := by
                  rw [Bool.eq_false_iff]
                  intro z
                  rw [List.all_eq_true] at z
                  have : (decide (0 ≤ lo) && decide (lo ≤ mostK)) = true := z _ (List.mem_map.mpr ⟨lo, m1, rfl⟩)
                  rw [c] at this
                  cases this
                rw [this, Bool.and_false]
        · rw [show decide (((xs.length : Nat) : Int) ≤ 8) = false from decide_eq_false (by omega)]
          refine ite2 (fun _ => ?_) (fun n => absurd rfl n)
          exact bad H (Same.refl H) (by rw [decide_eq_false h8, Bool.and_false, Bool.false_and])
      · have h1 : ¬ (1 : Int) ≤ ((xs.length : Nat) : Int) := fun z => h1 (decide_eq_true z)
        refine ⟨_, rfl, ?_⟩
        refine ite2 (fun _ => ?_) (fun n => absurd rfl n)
        exact bad H (Same.refl H) (by rw [decide_eq_false (by omega : ¬ 1 ≤ xs.length), Bool.false_and, Bool.false_and])
def spLDueK (K : PySem.W.Frag) (C : Addr) : Sp := fun vs H Q _ => ∃ (l : Addr) (x y v : V) (ox oy : Option (List V)) (oo : Option (List (Option (List V)))), vs = [.ref l] ∧ SqL K H l [x, y, v] ∧ Tg K C H x ox ∧ Tg K C H y oy ∧ Tgg K C H v oo ∧ (∀ os, oo = some os → ∀ o ∈ os, ∀ xs, o = some xs → xs.length ≤ 900) ∧
  (dueK ox oy oo = none → ∀ H', Same H H' → Q .non H') ∧ ∀ u, dueK ox oy oo = some u → ∀ H', Same H H' → Q (.str u) H'
theorem ok_ldueK (A : At K mg "_law_due" s_law_due ["parts"]) (T : Tx mg) (Tsum : mg "sum" = none) (G_law_are_counts : Dfn P w K mg base "_law_are_counts" ["thing"] 2 (spLCnt K C)) (G_law_numbers : Dfn P w K mg base "_law_numbers" ["thing", "many"] 2 (spLNum K C)) : Dfn P w K mg base "_law_due" ["parts"] 3 (spLDueK K C) := by
  refine A.ok sc_law_due (fun vs H Q E h => ?_) (fun f cdv A outer s H vs Q E hr h => ?_)
  · obtain ⟨_, _, _, _, _, _, _, rfl, _⟩ := h
    rfl
  · obtain ⟨l, x, y, v, ox, oy, oo, rfl, hl, hx, hy, hv, h9, k1, k2⟩ := h
    refine ⟨_, (pss_cons (ps_asg (pv 0) (pg_lst rfl (pgs_cons (pg_name (i := 1) sc_law_due.nd rfl (Or.inl rfl)) (pgs_cons (pg_name (i := 2) sc_law_due.nd rfl (Or.inr rfl)) (pgs_cons (pg_name (i := 3) sc_law_due.nd rfl (Or.inl rfl)) pgs_nil)))))
      (pss_cons (ps_if (pt_not (pt_val (pe_d G_law_are_counts (hr.mono (by decide)) (pa_cons (pv 1) pa_nil)))) (pss_one (ps_ret pe_str)) pss_nil)
      (pss_cons (ps_if (pt_not (pt_val (pe_d G_law_are_counts (hr.mono (by decide)) (pa_cons (pv 2) pa_nil)))) (pss_one (ps_ret pe_str)) pss_nil)
      (pss_cons (ps_if (PW.pt (pw_or (pt_not (pt_val (pe_callB call_isi (by rfl) T.isinstance (by decide +kernel) (pa_cons (pv 3) (pa_cons (pe_bltn (v := V.ty "tuple") (by rfl) T.tuple (by decide +kernel) rfl) pa_nil))))) (pw_or1 (pt_cmpR op_ne (pe_callB c_len (by rfl) T.len (by decide +kernel) (pa_cons (pv 3) pa_nil)) (pe_callB c_len (by rfl) T.len (by decide +kernel) (pa_cons (pv 1) pa_nil)) (nomark _))))) (pss_one (ps_ret pe_str)) pss_nil)
      (pss_cons (ps_if (pt_cmpR op_gt (pe_callB c_len (by rfl) T.len (by decide +kernel) (pa_cons (pe_lc (own := [("row", 4)]) (g := (gName 4)) (tt := (tNot (tB (tCall _ [] E0 (tCons (tVar 4) (tCons (tCB (rLenS K) (tCons (tVar 2) tNil)) tNil)))))) (te := (tVar 4)) (by rfl) sc_law_due.nd (pi_tup (pv 3)) (blkOk_by (own := [("row", 4)]) (N := n_law_due) (sc := (defScope s_law_due)) (by decide +kernel)) (fun _ _ _ _ _ => (pg_name (i := 4) sc_law_due.nd rfl (Or.inl rfl))) (fun _ _ _ _ _ => (pts_one (pt_not (pt_val (pe_d G_law_numbers (hr.mono (by decide)) (pa_cons (pv 4) (pa_cons (pe_callB c_len (by rfl) T.len (by decide +kernel) (pa_cons (pv 2) pa_nil)) pa_nil))))))) (fun _ _ _ _ _ => (pv 4))) pa_nil)) pe_int (nomark _)) (pss_one (ps_ret pe_str)) pss_nil)
      (pss_one (ps_ret (pe_ifExp (pt_cmpR op_eq (pe_callB (cr_sumT rfl) (by rfl) Tsum (by decide +kernel) (pa_cons (pv 1) pa_nil)) (pe_callB (cr_sumT rfl) (by rfl) Tsum (by decide +kernel) (pa_cons (pv 2) pa_nil)) (nomark _)) pe_non pe_str)))))))), ?_⟩
    refine ⟨_, rfl, l, _, rfl, hl, rfl, _, _, rfl, _, _, rfl, _, _, rfl, rfl, ?_⟩
    refine ⟨_, rfl, x, ox, rfl, hx, fun H1 s1 => ⟨_, rfl, ?_⟩⟩
    refine ite2 (fun c => ?_) (fun c => ?_)
    · have c : (!sizesO 0 ox) = true := c
      rw [Bool.not_eq_true'] at c
      exact k2 "people" (by unfold dueK; rw [c]; rfl) H1 s1
    have c : ¬ (!sizesO 0 ox) = true := c
    rw [Bool.not_eq_true', Bool.not_eq_false] at c
    refine ⟨_, rfl, y, oy, rfl, hy.same s1, fun H2 s2' => ⟨_, rfl, ?_⟩⟩
    have s2 := s1.trans s2'
    refine ite2 (fun c2 => ?_) (fun c2 => ?_)
    · have c2 : (!sizesO 0 oy) = true := c2
      rw [Bool.not_eq_true'] at c2
      exact k2 "things" (by unfold dueK; rw [c, c2]; rfl) H2 s2
    have c2 : ¬ (!sizesO 0 oy) = true := c2
    rw [Bool.not_eq_true', Bool.not_eq_false] at c2
    obtain ⟨ns, en, n1, n8, nr⟩ := sizes_ints c
    obtain ⟨ms, em, m1, m8, mr⟩ := sizes_ints c2
    subst en
    subst em
    obtain ⟨ax, hxq⟩ : ∃ ax, x = .ref ax ∧ SqT K H ax (ns.map V.int) := by
      cases hx with
      | tup h hi hz => exact ⟨_, rfl, h⟩
    obtain ⟨rfl, hxq⟩ := hxq
    obtain ⟨ay, hyq⟩ : ∃ ay, y = .ref ay ∧ SqT K H ay (ms.map V.int) := by
      cases hy with
      | tup h hi hz => exact ⟨_, rfl, h⟩
    obtain ⟨rfl, hyq⟩ := hyq
    cases hv with
    | no ty hk =>
      refine ⟨_, rfl, v, .ty "tuple", _, .type "tuple", false, rfl, .ty "tuple", tyX_same s2 ty, hk, false, rfl, ?_⟩
      exact k2 "allowed" (dueK_some c c2) H2 s2
    | tup h g hz =>
      rename_i a xs os
      have gl := g.len
      have due := dueK_some (oo := some os) c c2
      refine ⟨_, rfl, .ref a, .ty "tuple", _, .type "tuple", true, rfl, .ty "tuple", tyX_sqT (sqT_same s2 h), kit_ty (by decide +kernel), true, rfl, ?_⟩
      refine ite2 (fun n => by cases n) (fun _ => ?_)
      refine ⟨_, rfl, a, _, rfl, .inr (sqT_same s2 h), _, rfl, ax, _, rfl, .inr (sqT_same s2 hxq), rfl, _, rfl, ?_⟩
      rw [List.length_map, gl]
      refine ite2 (fun c3 => ?_) (fun c3 => ?_)
      · have c3 : (!decide (V.int ((os.length : Nat) : Int) = V.int ((ns.length : Nat) : Int))) = true := c3
        rw [Bool.not_eq_true'] at c3
        have c3 := of_decide_eq_false c3
        exact k2 "allowed" (by rw [due]; exact dueA_len fun z => c3 (by rw [z, List.length_map])) H2 s2
      have c3 : ¬ (!decide (V.int ((os.length : Nat) : Int) = V.int ((ns.length : Nat) : Int))) = true := c3
      rw [Bool.not_eq_true', Bool.not_eq_false, decide_eq_true_iff] at c3
      have c3 : os.length = ns.length := by injection c3 with c3; omega
      have c3' : os.length = (ns.map V.int).length := by rw [List.length_map]; exact c3
      have due2 := fun (h2 : os.all (ascOf (((ms.map V.int).length : Nat) : Int)) = true) => due.trans (dueA_sum (xs := ns.map V.int) (ys := ms.map V.int) c3' h2)
      have s2h := sqT_same s2 h
      refine ⟨_, rfl, a, rfl, ⟨xs, s2h⟩, fun D hD => lc_tup (xs := xs) (fun i H' => ∃ us, H' D = some (.lst us) ∧ us.length = ((os.take i).filter fun o => !ascOf (((ms.map V.int).length : Nat) : Int) o).length ∧ Same H2 H') ⟨[], upd_same, rfl, same_new hD⟩ (fun i H' _ p => by obtain ⟨_, _, _, s⟩ := p; exact sqT_same s s2h) (fun i y H' hy p => ?_) (fun H' p => ?_)⟩
      · obtain ⟨us, p1, pl, p2⟩ := p
        obtain ⟨o, ho, hto⟩ := g.get hy
        have il := (List.getElem?_eq_some_iff.mp hy).1
        refine ⟨rfl, _, rfl, _, rfl, ay, _, rfl, .inr (sqT_same (s2.trans p2) hyq), (((ms.map V.int).length : Nat) : Int), y, o, rfl, hto.same (s2.trans p2), h9 os rfl o (List.mem_of_getElem? ho), fun H3 s3 => ?_⟩
        have ul : us.length ≤ i := by
          rw [pl]
          exact Nat.le_trans (List.length_filter_le _ _) (by rw [List.length_take]; omega)
        have et : ((os.take (i + 1)).filter fun o => !ascOf (((ms.map V.int).length : Nat) : Int) o).length = us.length + (if (!ascOf (((ms.map V.int).length : Nat) : Int) o) = true then 1 else 0) := by
          rw [List.take_add_one, ho, List.filter_append, List.length_append, pl]
          congr 1
          by_cases q : (!ascOf (((ms.map V.int).length : Nat) : Int) o) = true
          · rw [if_pos q, Option.toList_some, List.filter_cons, if_pos q]
            rfl
          · rw [if_neg q, Option.toList_some, List.filter_cons, if_neg q]
            rfl
        refine ⟨_, rfl, ?_⟩
        refine ite2 (fun q => ?_) (fun q => ?_)
        · have q : (!ascOf (((ms.map V.int).length : Nat) : Int) o) = true := q
          refine ⟨_, rfl, us, s3 _ _ p1, small_lt (by omega), us ++ [y], upd_same, ?_, same_mut (p2.trans s3) hD⟩
          rw [et, if_pos q, List.length_append, List.length_singleton]
        · have q : ¬ (!ascOf (((ms.map V.int).length : Nat) : Int) o) = true := q
          exact ⟨us, s3 _ _ p1, by rw [et, if_neg q]; rfl, p2.trans s3⟩
      · obtain ⟨us, p1, pl, p2⟩ := p
        rw [gl, List.take_length] at pl
        have s3 := s2.trans p2
        refine ⟨D, us, rfl, .inl (SqL.of p1), ((us.length : Nat) : Int), 0, rfl, rfl, _, rfl, ?_⟩
        refine ite2 (fun c4 => ?_) (fun c4 => ?_)
        · have c4 : 0 < us.length := by have := of_decide_eq_true c4; omega
          refine k2 "allowed" ?_ H' s3
          rw [due]
          refine dueA_row ?_
          rw [Bool.eq_false_iff]
          intro z
          rw [List.all_eq_true] at z
          rw [pl, List.length_pos_iff_exists_mem] at c4
          obtain ⟨o, ho⟩ := c4
          obtain ⟨h1, h2⟩ := List.mem_filter.mp ho
          rw [z o h1] at h2
          cases h2
        have c4 : us.length = 0 := by
          refine Nat.eq_zero_of_not_pos fun z => c4 (decide_eq_true ?_)
          omega
        have call : os.all (ascOf (((ms.map V.int).length : Nat) : Int)) = true := by
          rw [List.all_eq_true]
          intro o ho
          rw [pl, List.length_eq_zero_iff, List.filter_eq_nil_iff] at c4
          have := c4 o ho
          cases q : ascOf (((ms.map V.int).length : Nat) : Int) o with
          | true => rfl
          | false => rw [q] at this; exact absurd rfl this
        have due3 := due2 call
        rw [sumV_ints, sumV_ints] at due3
        refine ⟨_, rfl, ax, ns, rfl, sqT_same s3 hxq, _, rfl, ay, ms, rfl, sqT_same s3 hyq, rfl, _, rfl, ?_⟩
        refine ite2 (fun c5 => ?_) (fun c5 => ?_)
        · have c5 : ns.sum = ms.sum := by have := of_decide_eq_true c5; injection this
          exact k1 (by rw [due3, if_pos c5]) H' s3
        · exact k2 "sums" (by rw [due3, if_neg fun z => c5 (decide_eq_true (by rw [z]))]) H' s3
end
end Fo
set_option maxRecDepth 100000
set_option maxHeartbeats 4000000
namespace Fo
open PySem PySem.Spec PyProof.Rows L2
abbrev s_Kinds___init : Stmt := inClass (top 11) 0
abbrev n_Kinds___init : List Str := ["self", "people", "things", "allowed"]
theorem sc_Kinds___init : FnScope n_Kinds___init ["self", "people", "things", "allowed"] (defScope s_Kinds___init) := ⟨rfl, rfl, rfl, by decide +kernel, rfl, by decide +kernel, by decide +kernel⟩
abbrev s_Kinds___eq : Stmt := inClass (top 11) 1
abbrev n_Kinds___eq : List Str := ["self", "other"]
theorem sc_Kinds___eq : FnScope n_Kinds___eq ["self", "other"] (defScope s_Kinds___eq) := ⟨rfl, rfl, rfl, by decide +kernel, rfl, by decide +kernel, by decide +kernel⟩
abbrev s_BadKinds___init : Stmt := inClass (top 2) 0
abbrev n_BadKinds___init : List Str := ["self", "part"]
theorem sc_BadKinds___init : FnScope n_BadKinds___init ["self", "part"] (defScope s_BadKinds___init) := ⟨rfl, rfl, rfl, by decide +kernel, rfl, by decide +kernel, by decide +kernel⟩
/-- the class of kinds -/
structure KC (K : PySem.W.Frag) (C : Addr) : Prop where
  tc : TC K C
  nP : NoAttr K C "people"
  nT : NoAttr K C "things"
  nA : NoAttr K C "allowed"
def kf (a b c : V) : List (Str × V) := putF "allowed" c (putF "things" b (putF "people" a []))
theorem kf_people (a b c : V) : (kf a b c).lookup ("people" : Str) = some a := by
  unfold kf
  rw [lookup_putF, if_neg (by decide +kernel), lookup_putF, if_neg (by decide +kernel), lookup_putF, if_pos rfl]
theorem kf_things (a b c : V) : (kf a b c).lookup ("things" : Str) = some b := by
  unfold kf
  rw [lookup_putF, if_neg (by decide +kernel), lookup_putF, if_pos rfl]
theorem kf_allowed (a b c : V) : (kf a b c).lookup ("allowed" : Str) = some c := by
  unfold kf
  rw [lookup_putF, if_pos rfl]
/-- an object of Kinds with these fields -/
def KindAt (C : Addr) (H : Hp) (x a b c : V) : Prop := ∃ p dx, x = .ref p ∧ H p = some (.ins C dx (kf a b c))
theorem KindAt.same {C : Addr} {H H' : Hp} {x a b c : V} (e : Same H H') (h : KindAt C H x a b c) : KindAt C H' x a b c := by
  obtain ⟨p, dx, rfl, h⟩ := h
  exact ⟨p, dx, rfl, e _ _ h⟩
theorem KindAt.tyx {K : PySem.W.Frag} {C : Addr} (c : TC K C) {H : Hp} {x u v y : V} (h : KindAt C H x u v y) : TyX K H x (.ref C) := by
  obtain ⟨p, dx, rfl, hp⟩ := h
  exact c.ty hp
/-- where nothing is raised, a promise of both ways is one of the plain way -/
theorem fn_calm0 {P : Program} {w : World} {K : PySem.W.Frag} {mg : Str → Option Value} {base : Heap} {k : Nat} {f : Addr} {fd : FuncData} {ps : List Str} {sp : Sp} (F : FnOk P w K mg base (CX P w) k f fd ps sp) : FnOk P w K mg base CX0 k f fd ps (fun vs H Q _ => sp vs H Q E0) :=
  ⟨fun vs H Q E h => F.len _ _ _ _ h, fun A outer s H args us vs Q E hr he hb hv hs => codeAny_mono (F.run A outer s H args us vs Q E0 hr he hb hv hs) fun r s' h => by
    cases r with
    | ok c =>
      cases c with
      | ret u => exact h
      | next => exact h
      | brk => exact h
      | cont => exact h
    | error e =>
      obtain ⟨a, B, H', cls, d, h1, h2, h3, h4, h5, h6, h7, h8⟩ := h
      exact h8.elim⟩
section
variable {P : Program} {w : World} {K : PySem.W.Frag} {mg : Str → Option Value} {base : Heap}
theorem fld_BadKinds {f D : Addr} {fd : FuncData} (F : Fun K "__init__" "BadKinds.__init__" s_BadKinds___init f fd) (X : OexC K D) (nM : PySem.W.findIn K (.ref D) "part" = some none) : FnOk P w K mg base CX0 1 f fd ["self", "part"] (spFld1 D "part") := by
  refine F.ok sc_BadKinds___init (fun vs H Q E h => ?_) (fun cdv A outer s H vs Q E hr h => ?_)
  · obtain ⟨a, u, rfl, _⟩ := h
    rfl
  · obtain ⟨a, u, rfl, ha, k⟩ := h
    refine ⟨_, pss_one (ps_ost (pv 0) (pv 1)), ?_⟩
    refine ⟨_, rfl, _, rfl, a, D, rfl, X, nM, .inl ⟨ha, fun d hd hne => ?_⟩⟩
    refine k d _ (fun b o n e => ?_) hd hne upd_same (Eq.trans (upd_ne hne) upd_same)
    have nbd : b ≠ d := ne_of_none e hd
    rw [upd_ne n, upd_ne nbd]
    exact e
end
section
variable {P : Program} {w : World} {K : PySem.W.Frag} {mg : Str → Option Value} {base : Heap} {C D_BadKinds : Addr}
def spInitK (K : PySem.W.Frag) (C D : Addr) : Sp := fun vs H Q E => ∃ (p dx : Addr) (x y v : V) (ox oy : Option (List V)) (oo : Option (List (Option (List V)))), vs = [.ref p, x, y, v] ∧ H p = some (.ins C dx []) ∧ Tg K C H x ox ∧ Tg K C H y oy ∧ Tgg K C H v oo ∧
  (dueK ox oy oo = none → ∀ H' : Hp, (∀ b o, b ≠ p → H b = some o → H' b = some o) → H' p = some (.ins C dx (kf x y v)) → Q .non H') ∧ ∀ u, dueK ox oy oo = some u → ∀ d H', Same H H' → H d = none → H' d = some (.xd [("part", .str u)]) → E (.ref D) (some d) H'
theorem ok_initK {f : Addr} {fd : FuncData} (F : Fun K "__init__" "Kinds.__init__" s_Kinds___init f fd) (T : Tx mg) (kc : KC K C) (G_check_kinds : DfnX P w K mg base "_check_kinds" ["people", "things", "allowed"] 5 (spCheckK K C D_BadKinds)) : FnOk P w K mg base (CX P w) 6 f fd ["self", "people", "things", "allowed"] (spInitK K C D_BadKinds) := by
  refine F.okX sc_Kinds___init (fun vs H Q E h => ?_) (fun cdv A outer s H vs Q E hr h => ?_)
  · obtain ⟨_, _, _, _, _, _, _, _, rfl, _⟩ := h
    rfl
  · obtain ⟨p, dx, x, y, v, ox, oy, oo, rfl, hp, hx, hy, hv, k1, k2⟩ := h
    refine ⟨_, (pss_cons (ps_expr (pe_dX G_check_kinds (hr.mono (by decide)) (fun pins σ H s e s' I h => passAt (takes_of rfl rfl rfl rfl) σ pins H s e s' I h) (pa_cons (pv 1) (pa_cons (pv 2) (pa_cons (pv 3) pa_nil)))))
      (pss_cons (ps_fld (pv 0) (pv 1) rfl)
      (pss_cons (ps_fld (pv 0) (pv 2) rfl)
      (pss_one (ps_fld (pv 0) (pv 3) rfl))))), ?_⟩
    refine ⟨_, rfl, _, rfl, _, rfl, x, y, v, ox, oy, oo, rfl, hx, hy, hv, fun h0 H1 s1 => ?_, fun u hu d H' s1 hd h1 => k2 u hu d H' s1 hd h1⟩
    have hp1 := s1 _ _ hp
    refine ⟨_, rfl, _, rfl, p, C, dx, [], rfl, hp1, kc.tc.cl, kc.nP, by decide, ?_⟩
    refine ⟨_, rfl, _, rfl, p, C, dx, _, rfl, upd_same, kc.tc.cl, kc.nT, by show 1 < 1000; decide, ?_⟩
    refine ⟨_, rfl, _, rfl, p, C, dx, _, rfl, upd_same, kc.tc.cl, kc.nA, by show 2 < 1000; decide, ?_⟩
    refine k1 h0 _ (fun b o n e => ?_) ?_
    · rw [upd_ne n, upd_ne n, upd_ne n]
      exact s1 _ _ e
    · rw [upd_same]
      rfl
/-- what is compared with kinds: other kinds with these data, or a thing of another class -/
def OthK (K : PySem.W.Frag) (C : Addr) (H : Hp) (y : V) : Option (PyData × PyData × PyData) → Prop
  | some (a, b, c) => ∃ u v z, KindAt C H y u v z ∧ Dp K H u a ∧ Dp K H v b ∧ Dp K H z c ∧ SeqAt.shaped a = true ∧ SeqAt.shaped b = true ∧ SeqAt.shaped c = true
  | none => ∃ t, TyX K H y t ∧ PySem.W.kitOne K t (.ref C) = some false
def eqK (a b c : PyData) : Option (PyData × PyData × PyData) → Bool
  | some (a', b', c') => PyData.eqv a a' && (PyData.eqv b b' && PyData.eqv c c')
  | none => false
def spEqK (K : PySem.W.Frag) (C : Addr) : Sp := fun vs H Q _ => ∃ (x y : V) (a b c : PyData) (o : Option (PyData × PyData × PyData)), vs = [x, y] ∧ OthK K C H x (some (a, b, c)) ∧ OthK K C H y o ∧ ∀ H', Same H H' → Q (.bl (eqK a b c o)) H'
theorem ok_eqK {f : Addr} {fd : FuncData} (F : Fun K "__eq__" "Kinds.__eq__" s_Kinds___eq f fd) (T : Tx mg) (kc : KC K C) (hKi : mg "Kinds" = some (.ref C)) : FnOk P w K mg base CX0 1 f fd ["self", "other"] (spEqK K C) := by
  refine F.ok sc_Kinds___eq (fun vs H Q E h => ?_) (fun cdv A outer s H vs Q E hr h => ?_)
  · obtain ⟨_, _, _, _, _, _, rfl, _⟩ := h
    rfl
  · obtain ⟨x, y, a, b, c, o, rfl, hx, hy, k⟩ := h
    refine ⟨_, (pss_cons (ps_if (pt_not (pt_val (pe_callB call_isi (by rfl) T.isinstance (by decide +kernel) (pa_cons (pv 1) (pa_cons (pe_glob (v := V.ref C) (by rfl) hKi rfl) pa_nil))))) (pss_one (ps_ret pe_bl)) pss_nil)
      (pss_one (ps_ret (pe_and (pe_cmpR (op_eqD hr.units) (pe_fld (pv 0) rfl) (pe_fld (pv 1) rfl) (nomark _)) (pe_and (pe_cmpR (op_eqD hr.units) (pe_fld (pv 0) rfl) (pe_fld (pv 1) rfl) (nomark _)) (pe_one (pe_cmpR (op_eqD hr.units) (pe_fld (pv 0) rfl) (pe_fld (pv 1) rfl) (nomark _)))))))), ?_⟩
    have k := k H (Same.refl H)
    obtain ⟨u, v, z, hk, da, db, dc, sa, sb, sc⟩ := hx
    obtain ⟨p, dx, rfl, hp⟩ := hk
    cases o with
    | none =>
      obtain ⟨t, ty, hk⟩ := hy
      exact ⟨_, rfl, y, .ref C, t, .ref C, false, rfl, .own C, ty, hk, false, rfl, k⟩
    | some q =>
      obtain ⟨a', b', c'⟩ := q
      obtain ⟨u', v', z', hk', da', db', dc', sa', sb', sc'⟩ := hy
      have ty := hk'.tyx kc.tc
      obtain ⟨p', dx', rfl, hp'⟩ := hk'
      have k : Q (.bl (PyData.eqv a a' && (PyData.eqv b b' && PyData.eqv c c'))) H := k
      refine ⟨_, rfl, _, .ref C, .ref C, .ref C, true, rfl, .own C, ty, by simp [PySem.W.kitOne], true, rfl, ?_⟩
      refine ⟨_, rfl, p, C, dx, _, u, rfl, hp, kc.tc.cl, kc.nP, kf_people _ _ _, _, rfl, p', C, dx', _, u', rfl, hp', kc.tc.cl, kc.nP, kf_people _ _ _, a, a', da, da', sa, sa', ?_⟩
      refine ⟨_, rfl, ?_⟩
      refine ite2 (fun h1 => ?_) (fun h1 => ?_)
      · rw [h1, Bool.true_and] at k
        refine ⟨_, rfl, p, C, dx, _, v, rfl, hp, kc.tc.cl, kc.nT, kf_things _ _ _, _, rfl, p', C, dx', _, v', rfl, hp', kc.tc.cl, kc.nT, kf_things _ _ _, b, b', db, db', sb, sb', ?_⟩
        refine ⟨_, rfl, ?_⟩
        refine ite2 (fun h2 => ?_) (fun h2 => ?_)
        · rw [h2, Bool.true_and] at k
          exact ⟨_, rfl, p, C, dx, _, z, rfl, hp, kc.tc.cl, kc.nA, kf_allowed _ _ _, _, rfl, p', C, dx', _, z', rfl, hp', kc.tc.cl, kc.nA, kf_allowed _ _ _, c, c', dc, dc', sc, sc', k⟩
        · rw [Bool.eq_false_iff.mpr h2, Bool.false_and] at k
          exact k
      · rw [Bool.eq_false_iff.mpr h1, Bool.false_and] at k
        exact k
/-- the class of kinds, ready to be called and compared -/
structure MkK (P : Program) (w : World) (K : PySem.W.Frag) (mg : Str → Option Value) (base : Heap) (C D : Addr) : Prop where
  mgC : mg "Kinds" = some (.ref C)
  kc : KC K C
  ini : ∃ f fd, Mk K C f ∧ FnOk P w K mg base (CX P w) 6 f fd ["self", "people", "things", "allowed"] (spInitK K C D) ∧ Binds K fd ["self", "people", "things", "allowed"] []
  eqm : ∃ f fd, FnOk P w K mg base CX0 1 f fd ["self", "other"] (spEqK K C) ∧ Binds K fd ["self", "other"] [] ∧ PySem.W.findIn K (.ref C) "__eq__" = some (some (.ref f)) ∧ PySem.W.isFn K (.ref f) = true
def rEqK (K : PySem.W.Frag) (C : Addr) : R2 := fun x y H Q => ∃ (a b c : PyData) (o : Option (PyData × PyData × PyData)) (t : Value), OthK K C H x (some (a, b, c)) ∧ OthK K C H y o ∧ TyX K H y t ∧ PySem.W.notFirst K C t = true ∧ ∀ H', Same H H' → Q (.bl (eqK a b c o)) H'
def rNeK (K : PySem.W.Frag) (C : Addr) : R2 := fun x y H Q => ∃ (a b c : PyData) (o : Option (PyData × PyData × PyData)) (t : Value), OthK K C H x (some (a, b, c)) ∧ OthK K C H y o ∧ TyX K H y t ∧ PySem.W.notFirst K C t = true ∧ ∀ H', Same H H' → Q (.bl (!eqK a b c o)) H'
theorem op_eqK {X : Cx} {D : Addr} (G : MkK X.prog X.w X.K X.mg X.base C D) (hr : Room 1 X.A) : OpR X (compareOp .Eq) (rEqK X.K C) := by
  obtain ⟨f, fd, F, b, hs, hf⟩ := G.eqm
  intro pins s σ H x y v u Q I rx ry h
  obtain ⟨da, db, dc, o, t, h1, h2, ty, nf, q⟩ := h
  obtain ⟨_, _, _, ⟨p, dx, ex, hp⟩, _⟩ := id h1
  exact op_eqI F b hs hf hr pins s σ H x y v u Q I rx ry ⟨p, dx, _, t, ex, hp, ty, nf, x, y, da, db, dc, o, rfl, h1, h2, fun H' e => ⟨_, rfl, q H' e⟩⟩
theorem op_neK {X : Cx} {D : Addr} (G : MkK X.prog X.w X.K X.mg X.base C D) (hr : Room 2 X.A) : OpR X (compareOp .NotEq) (rNeK X.K C) := by
  obtain ⟨f, fd, F, b, hs, hf⟩ := G.eqm
  intro pins s σ H x y v u Q I rx ry h
  obtain ⟨da, db, dc, o, t, h1, h2, ty, nf, q⟩ := h
  obtain ⟨_, _, _, ⟨p, dx, ex, hp⟩, _⟩ := id h1
  exact op_neI F b G.kc.tc hs hf hr pins s σ H x y v u Q I rx ry ⟨p, dx, _, t, ex, hp, ty, nf, x, y, da, db, dc, o, rfl, h1, h2, fun H' e => ⟨_, rfl, q H' e⟩⟩
/-- kinds that are made of three things -/
def tKinds (K : PySem.W.Frag) (C : Addr) (t1 t2 t3 : TE) : TE := fun σ H Q => t1 σ H fun x H1 => t2 σ H1 fun y H2 => t3 σ H2 fun v H3 => ∃ (ox oy : Option (List V)) (oo : Option (List (Option (List V)))), Tg K C H3 x ox ∧ Tg K C H3 y oy ∧ Tgg K C H3 v oo ∧ dueK ox oy oo = none ∧ ∀ p dx H', Same H3 H' → H3 p = none → H' p = some (.ins C dx (kf x y v)) → Q (.ref p) H'
theorem pe_makeKinds {X : Cx} {D : Addr} {e1 e2 e3 : Expr} {t1 t2 t3 : TE} {p pos : Pos} (G : MkK X.prog X.w X.K X.mg X.base C D) (hr : Room 7 X.A) (h1 : PE X e1 t1) (h2 : PE X e2 t2) (h3 : PE X e3 t3) (hg : Gl X "Kinds" := by rfl)
    (he : starEach [e1, e2, e3] X.env = (false, eval e1 X.env) :: starEach [e2, e3] X.env := by rfl) (he2 : starEach [e2, e3] X.env = (false, eval e2 X.env) :: starEach [e3] X.env := by rfl) (he3 : starEach [e3] X.env = (false, eval e3 X.env) :: starEach [] X.env := by rfl) (hpl : (backTo pos (starEach [e2, e3] X.env)).any (·.1) = false := by rfl) : PE X (.Call (.Name "Kinds" p) [e1, e2, e3] [] pos) (tKinds X.K C t1 t2 t3) := by
  obtain ⟨f, fd, M, F, b⟩ := G.ini
  have base := pe_make (X := X) (x := "Kinds") (p := p) (pos := pos) M (fn_calm0 F) hr hg G.mgC b .nil (pass0 (X := X)) (pa_cons (pe_up h1) (pa_cons (pe_up h2) (pa_cons (pe_up h3) pa_nil he3) he2) he) (by decide) he hpl
  refine PE.imp base fun σ H Q h => ⟨_, h, fun x H1 g1 => ⟨_, g1, fun y H2 g2 => ⟨_, g2, fun v H3 g3 q dx nq ndx ne => ?_⟩⟩⟩
  obtain ⟨ox, oy, oo, hx, hy, hv, h0, k⟩ := g3
  have s1 : Same H3 (upd (upd H3 dx (.own q)) q (.ins C dx [])) := (same_new ndx).trans (same_new (by rw [upd_ne ne.symm]; exact nq))
  refine ⟨q, dx, x, y, v, ox, oy, oo, rfl, upd_same, hx.same s1, hy.same s1, hv.same s1, fun _ H' k1 k2 => ⟨rfl, k q dx H' (fun b o e => ?_) nq k2⟩, fun u hu => by rw [h0] at hu; cases hu⟩
  have nb : b ≠ q := ne_of_none e nq
  exact k1 _ _ nb (s1 _ _ e)
end
end Fo
set_option maxRecDepth 100000
set_option maxHeartbeats 4000000
namespace Fo
open PySem PySem.Spec PyProof.Rows L2
/-- what is known of the errors that a law asks of -/
structure ErK (K : PySem.W.Frag) (mg : Str → Option Value) (DE : Addr) (cs : List (Str × Addr)) : Prop where
  gDE : mg "DrawError" = some (.ref DE)
  gVE : mg "ValueError" = none
  g : ∀ c ∈ cs, mg c.1 = some (.ref c.2)
  xm : ∀ c ∈ cs, PySem.W.exmOne K (.ref c.2) (.ref DE) = some true
  xc : ∀ c ∈ cs, XcC K c.2
  kk : ∀ c ∈ cs, ∀ d ∈ cs, PySem.W.kitOne K (.ref c.2) (.ref d.2) = some (decide (c.1 = d.1))
  kv : ∀ c ∈ cs, PySem.W.kitOne K (.ref c.2) (.type "ValueError") = some true
theorem exm_own {K : PySem.W.Frag} {DE B : Addr} (h1 : PySem.W.subIn K (.ref DE) (.type "BaseException") = some true) (h2 : PySem.W.isClsIn K DE = true) (h3 : PySem.W.typeIn K (.ref DE) = some (.type "type")) (h4 : PySem.W.subIn K (.ref B) (.ref DE) = some true) : PySem.W.exmOne K (.ref B) (.ref DE) = some true := by
  have e1 : (PySem.W.subIn K (.ref DE) (.type "BaseException") == some true) = true := by rw [h1] <;> rfl
  have e2 : ((PySem.W.clsIn K DE).isSome && PySem.W.typeIn K (.ref DE) == some (.type "type")) = true := by
    have h2' : (PySem.W.clsIn K DE).isSome = true := h2
    rw [h2', h3] <;> rfl
  show (if (PySem.W.subIn K (.ref DE) (.type "BaseException") == some true) = true then (if ((PySem.W.clsIn K DE).isSome && PySem.W.typeIn K (.ref DE) == some (.type "type")) = true then PySem.W.subIn K (.ref B) (.ref DE) else none) else none) = some true
  rw [if_pos e1, if_pos e2]
  exact h4
theorem kit_self {K : PySem.W.Frag} {D : Addr} : PySem.W.kitOne K (.ref D) (.ref D) = some true := by
  show (if (Value.ref D == Value.ref D) = true then some true else _) = some true
  rw [if_pos (beq_self_eq_true _)]
theorem all_nil {α : Type} {p : α → Prop} : ∀ c ∈ ([] : List α), p c := fun c h => by cases h
theorem all_cons {α : Type} {p : α → Prop} {a : α} {l : List α} (h : p a) (t : ∀ c ∈ l, p c) : ∀ c ∈ a :: l, p c := fun c hc => by
  rcases List.mem_cons.mp hc with rfl | hc
  · exact h
  · exact t c hc
end Fo
set_option maxRecDepth 100000
set_option maxHeartbeats 4000000
namespace Fo
open PySem PySem.Spec PyProof.Rows L2
def Dxd (H : Hp) (d : Option Addr) : Prop := d = none ∨ ∃ dd fs, d = some dd ∧ H dd = some (.xd fs)
theorem Dxd.same {H H' : Hp} {d : Option Addr} (s : Same H H') (h : Dxd H d) : Dxd H' d := by
  rcases h with h | ⟨dd, fs, h1, h2⟩
  · exact .inl h
  · exact .inr ⟨dd, fs, h1, s _ _ h2⟩
end Fo
set_option maxRecDepth 100000
set_option maxHeartbeats 4000000
namespace Fo
open PySem PySem.Spec PyProof.Rows L2
theorem exm_gen {K : PySem.W.Frag} {D B : Addr} {b : Bool} (h1 : PySem.W.subIn K (.ref D) (.type "BaseException") = some true) (h2 : PySem.W.isClsIn K D = true) (h3 : PySem.W.typeIn K (.ref D) = some (.type "type")) (h4 : PySem.W.subIn K (.ref B) (.ref D) = some b) : PySem.W.exmOne K (.ref B) (.ref D) = some b := by
  have e1 : (PySem.W.subIn K (.ref D) (.type "BaseException") == some true) = true := by rw [h1] <;> rfl
  have e2 : ((PySem.W.clsIn K D).isSome && PySem.W.typeIn K (.ref D) == some (.type "type")) = true := by
    have h2' : (PySem.W.clsIn K D).isSome = true := h2
    rw [h2', h3] <;> rfl
  show (if (PySem.W.subIn K (.ref D) (.type "BaseException") == some true) = true then (if ((PySem.W.clsIn K D).isSome && PySem.W.typeIn K (.ref D) == some (.type "type")) = true then PySem.W.subIn K (.ref B) (.ref D) else none) else none) = some b
  rw [if_pos e1, if_pos e2, h4]
structure ErX (K : PySem.W.Frag) (cs : List (Str × Addr)) : Prop where
  xx : ∀ c ∈ cs, ∀ d ∈ cs, PySem.W.exmOne K (.ref c.2) (.ref d.2) = some (decide (c.1 = d.1))
end Fo
set_option maxRecDepth 100000
set_option maxHeartbeats 4000000
namespace Fo
open PySem PySem.Spec PyProof.Rows L2
/-- what the first clause wishes, where it takes all that comes -/
def wAs1 (K : PySem.W.Frag) (c : Value) (i : Nat) (ts : Addr → Value → Option Addr → TS) (D : Ends) : WX := fun cls d σ H =>
  PySem.W.exmOne K cls c = some true ∧ ∀ z, H z = none → ts z cls d ⟨fun τ G => D.nx (τ.set i none) G, D.rt, fun τ G => D.bk (τ.set i none) G, fun τ G => D.ct (τ.set i none) G⟩ (σ.set i (some (.ref z))) H
section
variable {X : Cx} {x n : Str} {c : Value} {i : Nat} {body suite : List Stmt} {b₀ : Stmt} {more : List ExceptHandler} {np pos pos' : Pos} {tb : WX → TS} {ts : Addr → Value → Option Addr → TS}
theorem ps_try_as1 (k1 : X.stack = X.env :: X.outer) (k2 : X.env.frame = some X.env.locals) (k3 : X.N.Nodup) (k4 : X.N[i]? = some n) (k5 : X.env.kindOf n = some .local) (k6 : Names X x c)
    (kb : ∀ (W : WX) (pn : List (Addr × Obj)) (xe : Value → Shared → Prop), Takes (X.tr pn xe) W → PassesOwn (model X.prog X.w) X.A X.env xe → PSs (X.tr pn xe) body (tb W))
    (ks : ∀ (z : Addr) (oe : Obj) (cls : Value) (d : Option Addr) (pn : List (Addr × Obj)), Zc cls d oe → (∃ vs, oe.data = .fields vs) → PSs (X.suite z ((z, oe) :: pn)) (b₀ :: suite) (ts z cls d)) :
    PS X (.Try body (.ExceptHandler (some (.Name x np)) (some n) (b₀ :: suite) pos' :: more) [] [] pos) (fun D σ H => tb (wAs1 X.K c i ts D) D σ H) := by
  refine ⟨fun pins s σ H D I hh => ?_⟩
  have xok := I.ok
  have hst : X.A.frames = some (X.env :: X.outer) := by rw [xok.frames, k1]
  refine wpAny_Try_except (wpAny_mono ((kb (wAs1 X.K c i ts D) (X.pn ++ pins) (fun e t1 => wpAny (model X.prog X.w) X.A (noteFrame e X.env) (fun _ t2 => wpAny (model X.prog X.w) X.A (setFlight e none) (fun _ t3 => wpAny (model X.prog X.w) X.A (handleBy e X.env (.ExceptHandler (some (.Name x np)) (some n) (b₀ :: suite) pos' :: more)) (SP X pins D) X.xe t3) X.xe t2) X.xe t1) (fun u t xx => ?_) PassesOwn.looking).run [] s σ H D (I.toTry _) hh) (fun f t1 hsp => ?_) (fun e t1 he => he))
  · obtain ⟨z, B, sI, pins', τ, G, cls, d, rfl, J', nb, up, sky, nz, os, ag, hb1, hgo⟩ := xx
    have J : Inv X pins τ G sI := J'.ofTry xok
    have sk : Sky B (X.env :: X.outer) z (Zc cls d) X.env.locals t.heap := by rw [← k1]; exact sky
    show wpAny (model X.prog X.w) X.A (noteFrame (.ref z) X.env) _ _ _
    refine Sky.land Zc.steady hst k2 sk fun m3 fl3 u3 => ?_
    have J3 : Inv X pins τ G { t with heap := m3 } := J.landed nb fl3.1 (up.trans u3) os ag
    obtain ⟨o3, v3, e3, z3, d3⟩ := fl3.there
    have apart : ∀ {m : Heap} {o : Obj} {vs : Array Value}, m.FunFrames B (X.env :: X.outer) → m.get? z = some o → o.data = .fields vs → z ∉ frs (X.env :: X.outer) := fun {m o vs} ff e dd hm => by
      obtain ⟨_, o', e', nd⟩ := ff.mem hm
      rw [e] at e'
      cases e'
      exact nd _ dd
    have nfr := apart fl3.2.2.1 e3 d3
    have nl : z ≠ X.env.locals := fun y => nfr (List.mem_filterMap.mpr ⟨X.env, List.mem_cons_self, by rw [k2, y]⟩)
    have nf : z ∉ X.fs := fun hm => by
      obtain ⟨e, he, q⟩ := List.mem_filterMap.mp hm
      exact nfr (List.mem_filterMap.mpr ⟨e, List.mem_cons_of_mem _ he, q⟩)
    have S3 := J3.suite e3 d3 nz nl nf
    refine wpAny_handleBy_cons (codeAny_handlers_test ?_) (fun q => nomatch q)
    have look : PySem.W.Looks (model X.prog X.w) m3 (typeOf (.ref z)) cls := fun A Q E s k q => wpAny_typeOf_ref (k _ _ e3) (by rw [z3.1]; exact q)
    have mtch := PySem.W.exm_one (M := model X.prog X.w) (J3.kIn) look hb1
    have nam : ∀ {Q : Value → Shared → Prop} {E : Value → Shared → Prop}, Q c { t with heap := m3 } → wpAny (model X.prog X.w) (X.A.mark (some (.ref z))) (eval (.Name x np) X.env) Q E { t with heap := m3 } := fun {Q E} q => by
      obtain ⟨hg, hdbg, hm | ⟨hm, hv, hnn⟩⟩ := k6
      · exact ld_glob (X := X.suite z ((z, o3) :: (X.pn ++ pins))) S3 hg hm q hdbg
      · exact ld_blt (X := X.suite z ((z, o3) :: (X.pn ++ pins))) S3 hg hm hv q hnn hdbg
    refine nam (mtch.here (codeAny_handlers_suite_as (HandSPX.lands_againZ fl3 fun m4 fl4 u4 => ?_)))
    have J4 : Inv X pins τ G { t with heap := m4 } := J.landed nb fl4.1 ((up.trans u3).trans u4) os ag
    obtain ⟨o4, v4, e4, z4, d4⟩ := fl4.there
    have S4 := J4.suite e4 d4 nz nl nf
    refine store_ok (X := X.suite z ((z, o4) :: (X.pn ++ pins))) (v := .ref z) S4 k3 k4 (.inl k5) rfl (fun s5 S5 => ?_) (.inr k5)
    refine wpAny_mono ((ks z o4 cls d (X.pn ++ pins) z4 ⟨_, d4⟩).run [] s5 _ G _ S5 (hgo z nz)) (fun f s6 hsp => ?_) (fun _ _ y => False.elim y)
    have fin : ∀ {τ6 : L2.St} {G6 : Hp} {Q : Shared → Prop}, Inv (X.suite z ((z, o4) :: (X.pn ++ pins))) [] τ6 G6 s6 → (∀ s7, Inv X pins (τ6.set i none) G6 s7 → Q s7) → wpAny (model X.prog X.w) X.A (do bindName X.env n .none; unbindBehindTheSuite X.env n pos') (fun _ s7 => Q s7) X.xe s6 := fun {τ6 G6 Q} S6 hq => gone_ok (S6.unsuite xok) k3 k4 k5 hq
    cases f with
    | next => obtain ⟨τ6, G6, S6, q6⟩ := hsp; exact fin S6 fun s7 J7 => ⟨_, _, J7, q6⟩
    | brk => obtain ⟨τ6, G6, S6, q6⟩ := hsp; exact fin S6 fun s7 J7 => ⟨_, _, J7, q6⟩
    | cont => obtain ⟨τ6, G6, S6, q6⟩ := hsp; exact fin S6 fun s7 J7 => ⟨_, _, J7, q6⟩
    | ret u => obtain ⟨v6, τ6, G6, S6, r6, q6⟩ := hsp; exact fin S6 fun s7 J7 => ⟨_, _, _, J7, r6, q6⟩
  · cases f with
    | next => obtain ⟨τ, G, J', q⟩ := hsp; exact wpAny_execs_nil ⟨τ, G, J'.ofTry xok, q⟩
    | brk => obtain ⟨τ, G, J', q⟩ := hsp; exact ⟨τ, G, J'.ofTry xok, q⟩
    | cont => obtain ⟨τ, G, J', q⟩ := hsp; exact ⟨τ, G, J'.ofTry xok, q⟩
    | ret u => obtain ⟨v, τ, G, J', r, q⟩ := hsp; exact ⟨v, τ, G, J'.ofTry xok, r, q⟩
end
end Fo
set_option maxRecDepth 100000
set_option maxHeartbeats 4000000
namespace Fo
open PySem PySem.Spec PyProof.Rows L2
section
variable {X : Cx} {CX : CXT} {k : Nat} {f C : Addr} {fd : FuncData} {ps : List Str} {sp : Sp} {E : L2.St → XK} {x : Str} {p pos : Pos} {e : Expr} {es : List Expr} {t : TA}
theorem run_makeW {pins : List (Addr × Obj)} {σ : L2.St} {H : Hp} {s : Shared} {Q : VK} {us : List Value} {vs : List V} (M : Mk X.K C f) (F : FnOk X.prog X.w X.K X.mg X.base CX k f fd ps sp) (hr : Room (k + 1) X.A) (hb : Binds X.K fd ps []) (hx : PassesAt CX X σ (E σ)) (I : Inv X pins σ H s) (r : Vals vs us)
    (h : ∀ z dx, H z = none → H dx = none → dx ≠ z → sp (.ref z :: vs) (upd (upd H dx (.own z)) z (.ins C dx [])) (fun v H2 => v = .non ∧ Q (.ref z) H2) (E σ)) :
    wpAny (model X.prog X.w) X.A (call (.ref C) us) (EP X pins σ Q) X.xe s := by
  have go := h _ _ (I.hok.fresh (Nat.le_succ _)) (I.hok.fresh (Nat.le_refl _)) (Nat.ne_of_lt (Nat.lt_succ_self _))
  have J := Inv.made (C := C) I
  have given : Vals (V.ref (s.heap.objs.size + 1) :: vs) (Value.ref (s.heap.objs.size + 1) :: us) := .cons rfl r
  have len : (Value.ref (s.heap.objs.size + 1) :: us).length = ps.length := by
    rw [← given.length]
    exact F.len _ _ _ _ go
  have bound := hb _ (Value.ref (s.heap.objs.size + 1) :: us) J.kIn (by rw [List.append_nil]; exact len)
  rw [List.append_nil] at bound
  refine wpAny_call (make_map (f := f) I.kIn M.makes M.init (beq_iff_eq.mp M.fn) (codeAny_mono (F.run _ X.stack _ _ ⟨_, []⟩ _ _ _ (E σ) (hr.make C us []) (J.env0.make C us []) bound given go) fun q s' got => ?_))
  match q, got with
  | .error y, got => exact hx pins _ _ y s' J got
  | .ok (.ret u), got =>
    obtain ⟨v, H', J', rv, ev, fin⟩ := J.after got
    subst ev
    exact ⟨rv, ⟨V.ref (s.heap.objs.size + 1), H', J', rfl, fin⟩⟩
def tMakeW (C : Addr) (sp : Sp) (E : L2.St → XK) (t : TA) : TE := fun σ H Q => t σ H fun vs H1 => ∀ z dx, H1 z = none → H1 dx = none → dx ≠ z → sp (.ref z :: vs) (upd (upd H1 dx (.own z)) z (.ins C dx [])) (fun v H2 => v = .non ∧ Q (.ref z) H2) (E σ)
theorem pe_makeW (M : Mk X.K C f) (F : FnOk X.prog X.w X.K X.mg X.base CX k f fd ps sp) (hr : Room (k + 1) X.A) (hg : Gl X x) (hm : X.mg x = some (.ref C)) (hb : Binds X.K fd ps []) (hx : ∀ σ, PassesAt CX X σ (E σ))
    (ha : PA X (e :: es) t) (hdb : (x == ("__debug__" : Str)) = false := by decide) (he : starEach (e :: es) X.env = (false, eval e X.env) :: starEach es X.env := by rfl) (hpl : (backTo pos (starEach es X.env)).any (·.1) = false := by rfl) :
    PE X (.Call (.Name x p) (e :: es) [] pos) (tMakeW C sp E t) :=
  ⟨fun pins s σ H Q I h => wpAny_Call_Name_kw (ld_glob I hg hm (PySem.W.callWith_K (h₀ := X.base) I.ok.mod.kin M.kp (thn (ha.run pos pins s σ H _ I h) fun us s1 ⟨vs, H1, I1, r, q⟩ => ⟨I1.kIn, run_makeW M F hr hb (hx σ) I1 r q⟩) he hpl) hdb)⟩
end
end Fo
set_option maxRecDepth 100000
set_option maxHeartbeats 4000000
namespace Fo
open PySem PySem.Spec PyProof.Rows L2
abbrev s_law_tried : Stmt := top 23
abbrev n_law_tried : List Str := ["parts", "made", "told", "e"]
theorem sc_law_tried : FnScope n_law_tried ["parts"] (defScope s_law_tried) := ⟨rfl, rfl, rfl, by decide +kernel, rfl, by decide +kernel, by decide +kernel⟩
section
variable {P : Program} {w : World} {K : PySem.W.Frag} {mg : Str → Option Value} {base : Heap} {C DE D_BadKinds : Addr}
def spTriedK (K : PySem.W.Frag) (C : Addr) : Sp := fun vs H Q _ => ∃ (l : Addr) (x y v : V) (ox oy : Option (List V)) (oo : Option (List (Option (List V)))), vs = [.ref l] ∧ SqL K H l [x, y, v] ∧ Tg K C H x ox ∧ Tg K C H y oy ∧ Tgg K C H v oo ∧
  ((dueK ox oy oo = none ∧ ∀ q m dx H', Same H H' → SqT K H' q [.non, .ref m] → H' m = some (.ins C dx (kf x y v)) → Q (.ref q) H') ∨ ∃ u, dueK ox oy oo = some u ∧ ∀ q H', Same H H' → SqT K H' q [.str u, .non] → Q (.ref q) H')
theorem ok_triedK (A : At K mg "_law_tried" s_law_tried ["parts"]) (T : Tx mg) (EK : ErK K mg DE [("BadKinds", D_BadKinds)]) (EX : ErX K [("BadKinds", D_BadKinds)]) (xf : XfC K D_BadKinds) (nM : PySem.W.findIn K (.ref D_BadKinds) "part" = some none) (G_Kinds : MkK P w K mg base C D_BadKinds) : Dfn P w K mg base "_law_tried" ["parts"] 8 (spTriedK K C) := by
  have n0 : (("BadKinds", D_BadKinds) : Str × Addr) ∈ [(("BadKinds", D_BadKinds) : Str × Addr)] := List.mem_singleton.mpr rfl
  refine A.ok sc_law_tried (fun vs H Q E h => ?_) (fun f cdv A outer s H vs Q E hr h => ?_)
  · obtain ⟨_, _, _, _, _, _, _, rfl, _⟩ := h
    rfl
  · obtain ⟨l, x, y, v, ox, oy, oo, rfl, hl, hx, hy, hv, k⟩ := h
    rcases k with ⟨h0, k⟩ | ⟨u, hu, k⟩
    · refine ⟨_, (pss_cons (ps_set (i := 1) sc_law_tried.nd rfl (Or.inl rfl) pe_non)
        (pss_cons (ps_set (i := 2) sc_law_tried.nd rfl (Or.inl rfl) pe_non)
        (pss_cons (ps_try_thru0 (pss_one (ps_set (i := 1) sc_law_tried.nd rfl (Or.inl rfl) (pe_makeKinds G_Kinds (hr.mono (by decide)) (pe_ix ix_list (pv 0) pe_int (fun _ _ => rfl)) (pe_ix ix_list (pv 0) pe_int (fun _ _ => rfl)) (pe_ix ix_list (pv 0) pe_int (fun _ _ => rfl))))))
        (pss_one (ps_ret (pe_tup (pa_cons (pv 2) (pa_cons (pv 1) pa_nil)))))))), ?_⟩
      refine ⟨_, rfl, l, [x, y, v], 0, x, rfl, rfl, hl, atI_nat (j := 0) rfl, ?_⟩
      refine ⟨_, rfl, l, [x, y, v], 1, y, rfl, rfl, hl, atI_nat (j := 1) rfl, ?_⟩
      refine ⟨_, rfl, l, [x, y, v], 2, v, rfl, rfl, hl, atI_nat (j := 2) rfl, ?_⟩
      refine ⟨ox, oy, oo, hx, hy, hv, h0, fun p dx H1 s1 np hp => ?_⟩
      refine ⟨_, rfl, _, rfl, by show 2 ≤ sizeLine; decide, fun q hq => k q p dx _ (s1.trans (same_new hq)) (SqT.of upd_same) (by rw [upd_ne (ne_of_none hp hq)]; exact hp)⟩
    · obtain ⟨fI, fdI, M, FX, hbI⟩ := G_Kinds.ini
      refine ⟨_, (pss_cons (ps_set (i := 1) sc_law_tried.nd rfl (Or.inl rfl) pe_non)
        (pss_cons (ps_set (i := 2) sc_law_tried.nd rfl (Or.inl rfl) pe_non)
        (pss_cons (ps_try_as1 (i := 3) rfl rfl sc_law_tried.nd rfl rfl ⟨rfl, by decide, .inl (EK.g ("BadKinds", D_BadKinds) n0)⟩
          (fun W pn xe tk po => pss_one (ps_set (i := 1) sc_law_tried.nd rfl (Or.inl rfl) (pe_makeW (E := WE W) M FX (hr.mono (by decide)) rfl G_Kinds.mgC hbI (fun σ => L2.passAt tk σ) (pa_cons (show PE _ _ (tOp (rIxL K) (tVar 0) (tC (V.int 0))) from pe_ix ix_list (pv 0) pe_int (fun _ _ => rfl)) (pa_cons (show PE _ _ (tOp (rIxL K) (tVar 0) (tC (V.int 1))) from pe_ix ix_list (pv 0) pe_int (fun _ _ => rfl)) (pa_cons (show PE _ _ (tOp (rIxL K) (tVar 0) (tC (V.int 2))) from pe_ix ix_list (pv 0) pe_int (fun _ _ => rfl)) pa_nil))))))
          (fun a oe cls d pn hz hf => pss_one (ps_set (i := 2) sc_law_tried.nd rfl (Or.inl rfl) (pe_xf xf nM hz hf (pv 3)))))
        (pss_one (ps_ret (pe_tup (pa_cons (pv 2) (pa_cons (pv 1) pa_nil)))))))), ?_⟩
      refine ⟨_, rfl, l, [x, y, v], 0, x, rfl, rfl, hl, atI_nat (j := 0) rfl, ?_⟩
      refine ⟨_, rfl, l, [x, y, v], 1, y, rfl, rfl, hl, atI_nat (j := 1) rfl, ?_⟩
      refine ⟨_, rfl, l, [x, y, v], 2, v, rfl, rfl, hl, atI_nat (j := 2) rfl, ?_⟩
      intro p dx np ndx ne
      have s1 : Same H (upd (upd H dx (.own p)) p (.ins C dx [])) := (same_new ndx).trans (same_new (by rw [upd_ne ne.symm]; exact np))
      refine ⟨p, dx, x, y, v, ox, oy, oo, rfl, upd_same, hx.same s1, hy.same s1, hv.same s1, (fun h0 => nomatch (h0.symm.trans hu)), fun u' hu' d H2 s2 hd h2 => ?_⟩
      rw [hu] at hu'
      have hu' := Option.some.inj hu'
      subst hu'
      refine ⟨(EX.xx _ n0 _ n0).trans (congrArg some (decide_eq_true rfl)), fun z hz => ?_⟩
      exact ⟨_, rfl, rfl, rfl, d, _, _, rfl, h2, rfl, _, rfl, _, rfl, by show 2 ≤ sizeLine; decide, fun q hq => k q _ ((s1.trans s2).trans (same_new hq)) (SqT.of upd_same)⟩
end
end Fo
set_option maxRecDepth 100000
set_option maxHeartbeats 4000000
namespace Fo
open PySem PySem.Spec PyProof.Rows L2
theorem tg_rows {K : PySem.W.Frag} {C : Addr} {H : Hp} : ∀ {vs : List V} {rows : List (List Int)}, RowsT K H vs rows → (∀ r ∈ rows, r.length ≤ 900) → TgAll K C H vs (rows.map fun r => some (r.map V.int))
  | _, _, .nil, _ => .nil
  | _, _, .cons h t, hl => .cons (Tg.ints h (by have := hl _ List.mem_cons_self; omega)) (tg_rows t fun r hr => hl r (List.mem_cons_of_mem _ hr))
theorem sizes_of {ns : List Int} (h1 : 1 ≤ ns.length) (h8 : ns.length ≤ 8) (hr : ∀ n ∈ ns, 0 ≤ n ∧ n ≤ 10 ^ 13) : sizesO 0 (some (ns.map V.int)) = true := by
  show (decide (1 ≤ (ns.map V.int).length) && decide ((ns.map V.int).length ≤ 8) && (ns.map V.int).all (cntV 0)) = true
  rw [List.length_map, decide_eq_true h1, decide_eq_true h8, Bool.true_and, Bool.true_and, List.all_eq_true]
  intro x hx
  obtain ⟨n, hn, rfl⟩ := List.mem_map.mp hx
  have h := hr n hn
  have e : (10 : Int) ^ 13 = 10000000000000 := by decide
  show (decide (0 ≤ n) && decide (n ≤ mostK)) = true
  have m : n ≤ mostK := by
    show n ≤ 1000000000000000000000000000000
    omega
  rw [decide_eq_true h.1, decide_eq_true m]
  rfl
structure PartsK (K : PySem.W.Frag) (C : Addr) (H : Hp) (x y v : V) (ox oy : Option (List V)) (oo : Option (List (Option (List V)))) : Prop where
  tx : Tg K C H x ox
  ty : Tg K C H y oy
  tv : Tgg K C H v oo
  few : ∀ os, oo = some os → ∀ o ∈ os, ∀ xs, o = some xs → xs.length ≤ 900
theorem PartsK.same {K : PySem.W.Frag} {C : Addr} {H H' : Hp} {x y v : V} {ox oy : Option (List V)} {oo : Option (List (Option (List V)))} (e : Same H H') (h : PartsK K C H x y v ox oy oo) : PartsK K C H' x y v ox oy oo := ⟨h.tx.same e, h.ty.same e, h.tv.same e, h.few⟩
theorem row_few {rows : List (List Int)} {m : Nat} (asc : ∀ r ∈ rows, r.Pairwise (· < ·)) (rng : ∀ r ∈ rows, ∀ z ∈ r, 0 ≤ z ∧ z < (m : Int)) : ∀ r ∈ rows, r.length ≤ m := fun r hr => by
  have := row_len (asc r hr) (rng r hr)
  omega
theorem PartsAt.ok {K : PySem.W.Frag} {C : Addr} {H : Hp} {l x y v : Addr} {ns ms : List Int} {rows : List (List Int)} (h : PartsAt K H l x y v ns ms rows) : PartsK K C H (.ref x) (.ref y) (.ref v) (some (ns.map V.int)) (some (ms.map V.int)) (some (rows.map fun r => some (r.map V.int))) ∧ dueK (some (ns.map V.int)) (some (ms.map V.int)) (some (rows.map fun r => some (r.map V.int))) = none := by
  obtain ⟨a, vs, e, hq, ht⟩ := h.hv
  cases e
  have few := row_few h.asc h.rng
  have n8 := h.n8
  have m8 := h.m8
  refine ⟨⟨Tg.ints h.hx (by omega), Tg.ints h.hy (by omega), .tup hq (tg_rows ht fun r hr => by have := few r hr; omega) (by rw [ht.len, h.rl]; omega), fun os e o ho xs ex => ?_⟩, ?_⟩
  · cases e
    obtain ⟨r, hr, rfl⟩ := List.mem_map.mp ho
    cases ex
    rw [List.length_map]
    have := few r hr
    omega
  · rw [dueK_some (sizes_of h.n1 h.n8 h.nr) (sizes_of h.m1 h.m8 h.mr)]
    have h1 : (rows.map fun r => some (r.map V.int)).length = (ns.map V.int).length := by rw [List.length_map, List.length_map, h.rl]
    have h2 : (rows.map fun r => some (r.map V.int)).all (ascOf (((ms.map V.int).length : Nat) : Int)) = true := by
      rw [List.all_eq_true]
      intro o ho
      obtain ⟨r, hr, rfl⟩ := List.mem_map.mp ho
      rw [List.length_map]
      exact ascV_ints (h.asc r hr) (h.rng r hr)
    rw [dueA_sum h1 h2, sumV_ints, sumV_ints, if_pos h.sums]
end Fo
set_option maxRecDepth 100000
set_option maxHeartbeats 2000000
namespace Fo
open PySem PySem.Spec PyProof.Rows L2
/-- what stands is kept by all that keeps all -/
theorem Inv.kept {X : Cx} {pins : List (Addr × Obj)} {σ : L2.St} {H : Hp} {s : Shared} {h' : Heap} {tk : Nat} (I : L2.Inv X pins σ H s) (keep : ∀ b o, s.heap.get? b = some o → h'.get? b = some o) :
    L2.Inv X pins σ H { heap := h', gens := s.gens, drawn := s.drawn, toks := tk, os := s.os } := by
  refine I.step (ch := []) (fun b z => by cases z) (fun b o n _ _ e _ => keep b o e) (fun b o n _ _ e _ => ⟨o.slots, keep b o e⟩) (fun b o _ _ e => e) (fun b o _ e => ⟨o, keep b o e⟩) (fun _ _ e => e) (fun _ _ _ e => e) (fun b ps e => ⟨#[], by rw [e]; simp⟩) (fun m' q => ?_) ?_ I.bare
  · obtain ⟨o, es, ep, e, d, r⟩ := q
    exact ⟨o, es, ep, keep _ _ e, d, r⟩
  · intro a o ha
    exact ObjOk.stay (I.hok a o ha) (fun b u q e => keep b u e) (fun _ e => e) (fun _ _ e => e)
end Fo
set_option maxRecDepth 100000
set_option maxHeartbeats 2000000
namespace Fo
open PySem PySem.Spec PyProof.Rows L2
theorem reads_is {h : Heap} : ∀ {ns : List Int} {its : List Value}, Vals (ns.map V.int) its → ReadsAll h its (ns.map PyData.int) []
  | [], _, .nil => .nil
  | n :: ns, _, .cons r rs => by
    obtain ⟨t, rfl⟩ := r
    exact ReadsAll.cons (as := []) (bs := []) (.int n t) (reads_is rs)
section
variable {X : Cx} {pins : List (Addr × Obj)} {σ : L2.St} {H : Hp} {s : Shared}
theorem reads_I {a : Addr} {ns : List Int} (I : L2.Inv X pins σ H s) (h : SqT X.K H a (ns.map V.int)) : Reads s.heap (.ref a) (dI ns) [] := by
  obtain ⟨its, rv, ⟨o, e, oc, n, od⟩, _⟩ := I.tuple h
  exact Reads.tuple e oc od (reads_is rv)
theorem reads_R (I : L2.Inv X pins σ H s) : ∀ {vs : List V} {rows : List (List Int)} {its : List Value}, RowsT X.K H vs rows → Vals vs its → ReadsAll s.heap its (rows.map dI) []
  | _, _, _, .nil, .nil => .nil
  | _, _, _, .cons h t, .cons r rs => by
    cases r
    exact ReadsAll.cons (as := []) (bs := []) (reads_I I h) (reads_R I t rs)
/-- a part that is shown: a row, rows, an empty dict -/
inductive PtR (K : PySem.W.Frag) (H : Hp) : V → PyData → Prop
  | row {a : Addr} {ns : List Int} (h : SqT K H a (ns.map V.int)) : PtR K H (.ref a) (dI ns)
  | rows {v : V} {rows : List (List Int)} (h : RowsAt K H v rows) : PtR K H v (dR rows)
  | dict {a : Addr} (h : H a = some (.dK [])) : PtR K H (.ref a) (.dict [])
inductive PtAll (K : PySem.W.Frag) (H : Hp) : List V → List PyData → Prop
  | nil : PtAll K H [] []
  | cons {v : V} {d : PyData} {vs : List V} {ds : List PyData} (h : PtR K H v d) (t : PtAll K H vs ds) : PtAll K H (v :: vs) (d :: ds)
theorem PtR.same {K : PySem.W.Frag} {H H' : Hp} (e : Same H H') {v : V} {d : PyData} (h : PtR K H v d) : PtR K H' v d := by
  cases h with
  | row h => exact .row (sqT_same e h)
  | rows h => exact .rows (h.same e)
  | dict h => exact .dict (e _ _ h)
theorem PtAll.same {K : PySem.W.Frag} {H H' : Hp} (e : Same H H') : ∀ {vs : List V} {ds : List PyData}, PtAll K H vs ds → PtAll K H' vs ds
  | _, _, .nil => .nil
  | _, _, .cons h t => .cons (h.same e) (t.same e)
theorem PtR.reads (I : L2.Inv X pins σ H s) {v : V} {d : PyData} {u : Value} (h : PtR X.K H v d) (r : L2.RelV v u) : ∃ as, Reads s.heap u d as ∧ ∀ b ∈ as, b ≠ sysModules := by
  cases h with
  | row h =>
    cases r
    exact ⟨[], reads_I I h, fun b hb => nomatch hb⟩
  | rows h =>
    obtain ⟨a, vs, rfl, hq, ht⟩ := h
    cases r
    obtain ⟨its, rv, ⟨o, e, oc, n, od⟩, _⟩ := I.tuple hq
    exact ⟨[], Reads.tuple e oc od (reads_R I ht rv), fun b hb => nomatch hb⟩
  | @dict a h =>
    cases r
    obtain ⟨_, hs, vs, kv, dd⟩ := dk_of I.hok h
    cases kv
    obtain ⟨o, es, ep, e1, e2, e3, _, e5, _⟩ := dd
    have en : es.toList = [] := by
      cases h : es.toList with
      | nil => rfl
      | cons x l => rw [h] at e5; cases e5
    refine ⟨a :: [] ++ [], Reads.dict e1 e2.1 e3 (by rw [en]; exact .nil) (by rw [en]; exact .nil), fun b hb => ?_⟩
    have : b = a := by simpa using hb
    rw [this]
    intro z
    rw [z] at hs
    simp at hs
theorem PtAll.reads (I : L2.Inv X pins σ H s) : ∀ {vs : List V} {ds : List PyData} {its : List Value}, PtAll X.K H vs ds → Vals vs its → ∃ as, ReadsAll s.heap its ds as ∧ ∀ b ∈ as, b ≠ sysModules
  | _, _, _, .nil, .nil => ⟨[], .nil, fun b hb => nomatch hb⟩
  | _, _, _, .cons h t, .cons r rs => by
    obtain ⟨as, h1, h2⟩ := h.reads I r
    obtain ⟨bs, t1, t2⟩ := t.reads I rs
    exact ⟨as ++ bs, .cons h1 t1, fun b hb => (List.mem_append.mp hb).elim (h2 b) (t2 b)⟩
end
def rReprP (K : PySem.W.Frag) : List V → Hp → VK → Prop := fun xs H Q => ∃ (l : Addr) (ys : List V) (ds : List PyData), xs = [.ref l] ∧ l ≠ sysModules ∧ H l = some (.lst ys) ∧ PtAll K H ys ds ∧ (PyData.list ds).showable = true ∧ (PyData.list ds).depth ≤ 8 ∧ (PyData.list ds).shown.length ≤ sizeLine ∧ Q (.str (PyData.list ds).shown) H
theorem cr_reprP {X : Cx} (hg : X.A.guards = some []) (hu : X.A.units + 9 < cLine) : CallR X (.builtin "repr") (rReprP X.K) := by
  intro pins s σ H xs us Q I r h
  obtain ⟨l, ys, ds, rfl, nl, hl, hp, h1, h2, h3, q⟩ := h
  obtain ⟨its, rv, ⟨o, n, e, oc, od⟩, _⟩ := I.list (SqL.of (K := X.K) hl)
  obtain ⟨as, R, na⟩ := hp.reads I rv
  rw [Vals.ref1 r]
  have RL : Reads s.heap (.ref l) (PyData.list ds) (l :: as) := Reads.list e oc od.2 R
  refine repr_of_reads' RL h1 (fun _ hm => ?_) hg (by omega) (fun _ _ e => e) (fun h' u tk keep => ⟨.str _, H, Inv.kept I keep, ⟨u, rfl⟩, q⟩) h3
  rcases List.mem_cons.mp hm with hm | hm
  · exact nl hm.symm
  · exact na _ hm rfl
/-- list(xs) of a list, not where the table of the modules is -/
def rListN (K : PySem.W.Frag) : List V → Hp → VK → Prop := fun xs H Q => ∃ p ys, xs = [.ref p] ∧ SqL K H p ys ∧ ∀ l, H l = none → l ≠ sysModules → Q (.ref l) (upd H l (.lst ys))
theorem c_listN {X : Cx} : CallR X (.type "list") (rListN X.K) := by
  intro pins s σ H xs us Q I r h
  obtain ⟨p, ys, rfl, hq, q⟩ := h
  rw [Vals.ref1 r]
  obtain ⟨its, rv, ⟨o, n, e, oc, od⟩, hz⟩ := I.list hq
  have len := rv.length
  refine call_list_seq p (.inl rfl) e oc od.2 (fun h' c' keep new => ?_) (by simp only [List.size_toArray]; omega)
  exact ⟨.ref s.heap.objs.size, _, I.laid (t' := s.toks) keep (Nat.le_refl _) (show ObjOk X.prog X.w _ h' _ (.lst ys) from ⟨hz, its, c', rv, new⟩), rfl, q _ (I.hok.fresh (Nat.le_refl _)) (Nat.ne_of_gt I.big)⟩
/-- what is shown of a list, with or without an empty dict in it -/
def ShQ (K : PySem.W.Frag) (B : Nat) (H : Hp) (l : Addr) (S : Str) : Prop :=
  (l ≠ sysModules ∧ ∃ ys ds, H l = some (.lst ys) ∧ PtAll K H ys ds ∧ (PyData.list ds).showable = true ∧ (PyData.list ds).depth ≤ 8 ∧ (PyData.list ds).shown.length ≤ sizeLine ∧ S = (PyData.list ds).shown) ∨
  ∃ d, Dp K H (.ref l) d ∧ d.hasDict = false ∧ d.showable = true ∧ d.depth ≤ B ∧ d.shown.length ≤ sizeLine ∧ S = d.shown
theorem ShQ.same {K : PySem.W.Frag} {B : Nat} {H H' : Hp} (e : Same H H') {l : Addr} {S : Str} (h : ShQ K B H l S) : ShQ K B H' l S := by
  rcases h with ⟨n, ys, ds, hl, hp, r⟩ | ⟨d, hd, r⟩
  · exact .inl ⟨n, ys, ds, e _ _ hl, hp.same e, r⟩
  · exact .inr ⟨d, dp_same e hd, r⟩
def rReprQ (K : PySem.W.Frag) (B : Nat) : List V → Hp → VK → Prop := fun xs H Q => ∃ (l : Addr) (S : Str), xs = [.ref l] ∧ ShQ K B H l S ∧ Q (.str S) H
theorem cr_reprQ {X : Cx} {B : Nat} (hg : X.A.guards = some []) (hu : X.A.units + (B + 1) < cLine) (hu9 : X.A.units + 9 < cLine) : CallR X (.builtin "repr") (rReprQ X.K B) := by
  intro pins s σ H xs us Q I r h
  obtain ⟨l, S, rfl, h, q⟩ := h
  rcases h with ⟨n, ys, ds, hl, hp, h1, h2, h3, rfl⟩ | ⟨d, hd, h1, h2, h3, h4, rfl⟩
  · exact cr_reprP hg hu9 pins s σ H _ us Q I r ⟨l, ys, ds, rfl, n, hl, hp, h1, h2, h3, q⟩
  · exact cr_repr hg hu pins s σ H _ us Q I r ⟨l, d, rfl, hd, h1, h2, h3, h4, q⟩
end Fo
set_option maxRecDepth 100000
set_option maxHeartbeats 2000000
namespace Fo
open PySem PySem.Spec PyProof.Rows L2
structure Lay (w : Nat) (d : PyData) : Prop where
  hd : d.hasDict = false
  sh : d.showable = true
  dp : d.depth ≤ w
  can : d.canLay0 = true
  ish : PyData.intsShort 13 d = true
structure LayAll (w : Nat) (ds : List PyData) : Prop where
  hd : PyData.hasDictAll ds = false
  sh : PyData.showableAll ds = true
  dp : PyData.depthAll ds ≤ w
  can : PyData.canLayAll0 ds = true
  ish : PyData.intsShortAll 13 ds = true
theorem LayAll.nil {w : Nat} : LayAll w [] := ⟨rfl, rfl, Nat.zero_le _, rfl, rfl⟩
theorem LayAll.cons {w : Nat} {d : PyData} {ds : List PyData} (a : Lay w d) (b : LayAll w ds) : LayAll w (d :: ds) := by
  refine ⟨?_, ?_, ?_, ?_, ?_⟩
  · show (d.hasDict || PyData.hasDictAll ds) = false
    rw [a.hd, b.hd]; rfl
  · show (d.showable && PyData.showableAll ds) = true
    rw [a.sh, b.sh]; rfl
  · show max d.depth (PyData.depthAll ds) ≤ w
    have := a.dp; have := b.dp; omega
  · show (d.canLay0 && PyData.canLayAll0 ds) = true
    rw [a.can, b.can]; rfl
  · show (PyData.intsShort 13 d && PyData.intsShortAll 13 ds) = true
    rw [a.ish, b.ish]; rfl
theorem LayAll.tup {w : Nat} {ds : List PyData} (a : LayAll w ds) : Lay (w + 1) (.tuple ds) := ⟨a.hd, a.sh, Nat.succ_le_succ a.dp, a.can, a.ish⟩
theorem LayAll.lst {w : Nat} {ds : List PyData} (a : LayAll w ds) : Lay (w + 1) (.list ds) := ⟨a.hd, a.sh, Nat.succ_le_succ a.dp, a.can, a.ish⟩
theorem Lay.shown {w : Nat} {d : PyData} (a : Lay w d) (hw : w ≤ 64) (hg : d.weight ≤ 2 ^ 20) : d.shown.length ≤ sizeLine := by
  refine Nat.le_trans (shown_le13 ?_ a.ish) (by decide)
  show (d.canLay0 && decide (d.depth ≤ 64) && decide (d.weight ≤ 2 ^ 20)) = true
  rw [a.can, decide_eq_true (Nat.le_trans a.dp hw), decide_eq_true hg]
  rfl
end Fo
set_option maxRecDepth 100000
set_option maxHeartbeats 2000000
namespace Fo
open PySem PySem.Spec PyProof.Rows L2
theorem Lay.up {w v : Nat} {d : PyData} (a : Lay w d) (h : w ≤ v) : Lay v d := ⟨a.hd, a.sh, Nat.le_trans a.dp h, a.can, a.ish⟩
theorem Lay.shaped {w : Nat} {d : PyData} (a : Lay w d) (h : w ≤ 64) : SeqAt.shaped d = true := by
  unfold SeqAt.shaped
  rw [a.can, decide_eq_true (Nat.le_trans a.dp h)]
  rfl
theorem Lay.refl {w : Nat} {d : PyData} (a : Lay w d) : PyData.eqv d d = true := SeqAt.eqv_refl d a.can
theorem Lay.show {w : Nat} {d : PyData} (a : Lay w d) (h : w ≤ 8) (hg : d.weight ≤ 2 ^ 20) : d.hasDict = false ∧ d.showable = true ∧ d.depth ≤ 8 ∧ d.shown.length ≤ sizeLine := ⟨a.hd, a.sh, Nat.le_trans a.dp h, a.shown (by omega) hg⟩
end Fo
set_option maxRecDepth 100000
set_option maxHeartbeats 2000000
namespace Fo
open PySem PySem.Spec PyProof.Rows L2
structure LyB (w : Nat) (d : PyData) : Prop where
  hd : d.hasDict = false
  sh : d.showable = true
  dp : d.depth ≤ w
  lv : d.leavesShort 40 = true
structure LyBAll (w : Nat) (ds : List PyData) : Prop where
  hd : PyData.hasDictAll ds = false
  sh : PyData.showableAll ds = true
  dp : PyData.depthAll ds ≤ w
  lv : PyData.leavesShortAll 40 ds = true
theorem LyBAll.nil {w : Nat} : LyBAll w [] := ⟨rfl, rfl, Nat.zero_le _, rfl⟩
theorem LyBAll.cons {w : Nat} {d : PyData} {ds : List PyData} (a : LyB w d) (b : LyBAll w ds) : LyBAll w (d :: ds) :=
  ⟨by rw [PyData.hasDictAll, a.hd, b.hd]; rfl, by rw [PyData.showableAll, a.sh, b.sh]; rfl, by rw [PyData.depthAll]; exact Nat.max_le.mpr ⟨a.dp, b.dp⟩, by rw [PyData.leavesShortAll, a.lv, b.lv]; rfl⟩
theorem LyBAll.tup {w : Nat} {ds : List PyData} (a : LyBAll w ds) : LyB (w + 1) (.tuple ds) := ⟨a.hd, a.sh, Nat.succ_le_succ a.dp, a.lv⟩
theorem LyBAll.lst {w : Nat} {ds : List PyData} (a : LyBAll w ds) : LyB (w + 1) (.list ds) := ⟨a.hd, a.sh, Nat.succ_le_succ a.dp, a.lv⟩
theorem LyB.up {w v : Nat} {d : PyData} (a : LyB w d) (h : w ≤ v) : LyB v d := ⟨a.hd, a.sh, Nat.le_trans a.dp h, a.lv⟩
theorem LyB.shown {w : Nat} {d : PyData} (a : LyB w d) (hg : d.weight ≤ 100000) : d.shown.length ≤ sizeLine := by
  refine Nat.le_trans (PyData.shown_le 40 (by decide) d a.lv) ?_
  rw [sizeLine_eq]
  omega
theorem lyB_int {n : Int} (h : n.natAbs < 10 ^ 32) : LyB 0 (.int n) := by
  have l : n.natAbs.log2 < 1920 := by
    by_cases z : n.natAbs = 0
    · rw [z]; decide
    · exact (Nat.log2_lt z).mpr (Nat.lt_trans h (by decide +kernel))
  have e : (PyData.shown (.int n)).length ≤ 33 := by
    have q := int_text_length_le10 (k := 32) (by decide) h
    show (Str.ofString (toString n)).length ≤ 33
    rw [PySem.ofString_length]
    exact q
  exact ⟨rfl, decide_eq_true l, Nat.le_refl _, decide_eq_true (Nat.le_trans e (by decide))⟩
theorem lyB_non : LyB 0 .none := ⟨rfl, rfl, Nat.le_refl _, rfl⟩
theorem lyB_bl {b : Bool} : LyB 0 (.bool b) := ⟨rfl, rfl, Nat.le_refl _, rfl⟩
theorem lyB_ints : ∀ {r : List Int}, (∀ x ∈ r, x.natAbs < 10 ^ 32) → LyBAll 0 (r.map PyData.int)
  | [], _ => .nil
  | x :: r, h => .cons (lyB_int (h x List.mem_cons_self)) (lyB_ints fun y hy => h y (List.mem_cons_of_mem _ hy))
end Fo
set_option maxRecDepth 100000
set_option maxHeartbeats 4000000
namespace Fo
open PySem PySem.Spec PyProof.Rows L2
theorem tup_once (l : Addr) (items : Array Value) (n : Nat) (dd : Option Addr) (sl : Array (Option Value)) (u : Tok) :
    Meets (Builtin.«tuple.__mul__» ⟨[.ref l, .int 1 u], []⟩) (fun _ R s => s.heap.get? l = some { cls := .type "tuple", dict := dd, data := .seq items n, slots := sl } ∧ R (.ok (.ret (Value.ref l))) s) :=
  .of_wp fun prog w A R s h => by
    obtain ⟨hp, g, d, tk, os⟩ := s
    obtain ⟨hl, h⟩ := h
    have f1 := AutoSeq1.idx_int
    have c1 : (items.isEmpty || (1 : Int) == 1) = true := by rw [Bool.or_comm]; rfl
    wp_walk using wpAny_loadPart' hl
    repeat (first
      | (refine wpAny_ite_false (decide_eq_false (by decide)) ?_; wp_walk using wpAny_loadPart' hl)
      | (refine wpAny_ite_true (decide_eq_true (by rw [c1])) ?_; wp_walk using wpAny_loadPart' hl)
      | (refine wpAny_ite_true (decide_eq_true (by decide)) ?_; wp_walk using wpAny_loadPart' hl))
    exact ⟨_, rfl, h⟩
def rRepTn (K : PySem.W.Frag) : R2 := fun x y H Q => ∃ l k xs, x = .ref l ∧ y = .int k ∧ SqT K H l xs ∧ xs ≠ [] ∧ 1 ≤ k ∧ k ≤ 1000 ∧ xs.length ≤ 1000 ∧ ∀ p H', Same H H' → SqT K H' p (List.replicate k.toNat xs).flatten → Q (.ref p) H'
section
variable {X : Cx}
theorem op_repTn : OpR X (binaryOp .Mult) (rRepTn X.K) := by
  intro pins s σ H x y v u Q I rx ry h
  obtain ⟨l, k, xs, rfl, rfl, hT, hne, h1, h2, hz, q⟩ := h
  by_cases e : k = 1
  · subst e
    cases rx
    obtain ⟨t, rfl⟩ := ry
    obtain ⟨its, r, ⟨⟨cls, dd, data, sl⟩, ho, hc, n, hd⟩, hs⟩ := I.tuple hT
    simp only at hc hd
    subst hc hd
    refine wpAny_binaryOp_repeat_ref (T := "tuple") (U := "int") (by decide) ⟨_, ho, rfl⟩ (fun s' => typeIs_int s' 1 t) noFill_tuple_mul F.fills_int_mul F.slot_int_rmul repeat_tuple F.slot_int_index.lookup
      (call_meets F.slot_int_rmul (typeIs_int s 1 t) F.entry_int_rmul (F.args_int_rmul_2 _ _) (int_rmul_tuple 1 t l its.toArray n dd sl)
        ⟨ho, rfl, ⟨_, ho, rfl⟩, call_meets F.slot_tuple_mul ⟨_, ho, rfl⟩ F.entry_tuple_mul (F.args_tuple_mul_2 _ _) (tup_once l its.toArray n dd sl t) ⟨ho, ?_⟩⟩)
    refine ⟨.ref l, H, I.tok _, rfl, q l H (Same.refl H) ?_⟩
    rw [show (List.replicate ((1 : Int)).toNat xs).flatten = xs from by show (List.replicate 1 xs).flatten = xs; simp]
    exact hT
  · exact op_repT pins s σ H (.ref l) (.int k) v u Q I rx ry ⟨l, k, xs, rfl, rfl, hT, hne, by omega, h2, hz, fun p hp => q p _ (same_new hp) (SqT.of upd_same)⟩
end
end Fo
set_option maxRecDepth 100000
set_option maxHeartbeats 4000000
namespace Fo
open PySem PySem.Spec PyProof.Rows L2
abbrev s_law_bent : Stmt := top 20
abbrev n_law_bent : List Str := ["pool", "parts", "found", "which", "row", "at", "kind", "odd"]
theorem sc_law_bent : FnScope n_law_bent ["pool", "parts"] (defScope s_law_bent) := ⟨rfl, rfl, rfl, by decide +kernel, rfl, by decide +kernel, by decide +kernel⟩
theorem wt_int {n : Int} (h : n.natAbs < 10 ^ 32) : (PyData.int n).weight ≤ 110 := by
  show (if n == 0 then 0 else n.natAbs.log2 + 1) ≤ 110
  split
  · decide
  · rename_i z
    have : n.natAbs ≠ 0 := by
      intro q
      exact z (beq_iff_eq.mpr (Int.natAbs_eq_zero.mp q))
    have := (Nat.log2_lt this (k := 107)).mpr (Nat.lt_trans h (by decide +kernel))
    omega
theorem lyB_str5 : LyB 0 (.str "kinds") ∧ LyB 0 (.str "1") := ⟨⟨rfl, by decide +kernel, Nat.zero_le _, by decide +kernel⟩, ⟨rfl, by decide +kernel, Nat.zero_le _, by decide +kernel⟩⟩
/-- an entry of a part -/
def PtE (K : PySem.W.Frag) (C : Addr) (H : Hp) (y : V) : Prop := ∃ o d, Th K C H y ∧ Tg K C H y o ∧ (∀ xs, o = some xs → xs.length ≤ 900) ∧ Dp K H y d ∧ LyB 2 d ∧ d.weight ≤ 500 + 120 * 8
theorem PtE.same {K : PySem.W.Frag} {C : Addr} {H H' : Hp} {y : V} (e : Same H H') (h : PtE K C H y) : PtE K C H' y := by
  obtain ⟨o, d, h1, h2, h3, h4, h5, h6⟩ := h
  exact ⟨o, d, h1.same e, h2.same e, h3, dp_same e h4, h5, h6⟩
/-- a part -/
def PtV (K : PySem.W.Frag) (C : Addr) (H : Hp) (v : V) : Prop := ∃ o oo d, Tg K C H v o ∧ Tgg K C H v oo ∧ (∀ os, oo = some os → ∀ o ∈ os, ∀ xs, o = some xs → xs.length ≤ 900) ∧ Dp K H v d ∧ LyB 3 d ∧ d.weight ≤ 30000
theorem PtV.same {K : PySem.W.Frag} {C : Addr} {H H' : Hp} {y : V} (e : Same H H') (h : PtV K C H y) : PtV K C H' y := by
  obtain ⟨o, oo, d, h1, h2, h3, h4, h5, h6⟩ := h
  exact ⟨o, oo, d, h1.same e, h2.same e, h3, dp_same e h4, h5, h6⟩
section
variable {K : PySem.W.Frag} {C : Addr} {H : Hp}
theorem e_int {n : Int} (h : n.natAbs < 10 ^ 32) : PtE K C H (.int n) := ⟨none, _, th_int, .no (.base (.int n)) (kit_ty (by decide +kernel)), (fun _ e => nomatch e), .int n, (lyB_int h).up (by decide), Nat.le_trans (wt_int h) (by decide)⟩
theorem e_bl {b : Bool} : PtE K C H (.bl b) := ⟨none, _, ⟨_, .base (.bl b), fun _ e => nomatch e⟩, .no (.base (.bl b)) (kit_ty (by decide +kernel)), (fun _ e => nomatch e), .bl b, lyB_bl.up (by decide), by show 0 ≤ _; omega⟩
theorem e_non : PtE K C H .non := ⟨none, _, ⟨_, .base .non, fun _ e => nomatch e⟩, .no (.base .non) (kit_ty (by decide +kernel)), (fun _ e => nomatch e), .non, lyB_non.up (by decide), by show 0 ≤ _; omega⟩
theorem e_str : PtE K C H (.str "1") := ⟨none, _, ⟨_, .base (.str _), fun _ e => nomatch e⟩, .no (.base (.str _)) (kit_ty (by decide +kernel)), (fun _ e => nomatch e), .str _, lyB_str5.2.up (by decide), by decide +kernel⟩
theorem wts_int {ns : List Int} (h : ∀ x ∈ ns, x.natAbs < 10 ^ 32) : PyData.weightAll (ns.map PyData.int) ≤ 111 * ns.length := by
  induction ns with
  | nil => exact Nat.le_refl _
  | cons x r ih =>
    have a := wt_int (h x List.mem_cons_self)
    have b := ih fun y hy => h y (List.mem_cons_of_mem _ hy)
    show (PyData.int x).weight + 1 + PyData.weightAll (r.map PyData.int) ≤ 111 * (r.length + 1)
    omega
theorem e_row {a : Addr} {ns : List Int} (h : SqT K H a (ns.map V.int)) (hn : ∀ x ∈ ns, x.natAbs < 10 ^ 32) (hl : ns.length ≤ 8) : PtE K C H (.ref a) :=
  ⟨_, _, ⟨_, tyX_sqT h, fun _ e => nomatch e⟩, Tg.ints h (by omega), (fun xs e => by cases e; rw [List.length_map]; omega), dp_rowI h, (lyB_ints hn).tup.up (by decide), by have := wts_int hn; show PyData.weightAll (ns.map PyData.int) ≤ _; omega⟩
theorem e_lst {a : Addr} {ns : List Int} (h : H a = some (.lst (ns.map V.int))) (hn : ∀ x ∈ ns, x.natAbs < 10 ^ 32) (hl : ns.length ≤ 8) : PtE K C H (.ref a) :=
  ⟨none, _, ⟨_, .base (.lst h), fun _ e => nomatch e⟩, .no (.base (.lst h)) (kit_ty (by decide +kernel)), (fun _ e => nomatch e), .lst (SqL.of h) (dpAll_ints ns), (lyB_ints hn).lst.up (by decide), by have := wts_int hn; show PyData.weightAll (ns.map PyData.int) ≤ _; omega⟩
theorem e_blT {a : Addr} {b : Bool} (h : SqT K H a [.bl b]) : PtE K C H (.ref a) :=
  ⟨_, _, ⟨_, tyX_sqT h, fun _ e => nomatch e⟩, .tup h (fun y hy => by rw [List.mem_singleton.mp hy]; exact ⟨_, .base (.bl b), fun _ e => nomatch e⟩) (by show 1 ≤ 100000; decide), (fun xs e => by cases e; show 1 ≤ 900; decide), .tup h (.cons (.bl b) .nil), ((LyBAll.cons lyB_bl .nil).tup).up (by decide), by show 0 + 1 + 0 ≤ _; omega⟩
theorem e_all : ∀ {xs : List V}, (∀ x ∈ xs, PtE K C H x) → ∃ os ds, TgAll K C H xs os ∧ (∀ o ∈ os, ∀ ys, o = some ys → ys.length ≤ 900) ∧ DpAll K H xs ds ∧ LyBAll 2 ds ∧ PyData.weightAll ds ≤ 1461 * xs.length
  | [], _ => ⟨[], [], .nil, (fun _ h => nomatch h), .nil, .nil, Nat.le_refl _⟩
  | x :: xs, h => by
    obtain ⟨o, d, h1, h2, h3, h4, h5, h6⟩ := h x List.mem_cons_self
    obtain ⟨os, ds, t1, t2, t3, t4, t5⟩ := e_all (xs := xs) fun y hy => h y (List.mem_cons_of_mem _ hy)
    refine ⟨o :: os, d :: ds, .cons h2 t1, fun o' ho ys e => ?_, .cons h4 t3, .cons h5 t4, ?_⟩
    · rcases List.mem_cons.mp ho with q | q
      · exact h3 ys (q ▸ e)
      · exact t2 o' q ys e
    · show d.weight + 1 + PyData.weightAll ds ≤ 1461 * (xs.length + 1)
      omega
theorem v_tup {a : Addr} {xs : List V} (h : SqT K H a xs) (he : ∀ x ∈ xs, PtE K C H x) (hl : xs.length ≤ 20) : PtV K C H (.ref a) := by
  obtain ⟨os, ds, t1, t2, t3, t4, t5⟩ := e_all he
  exact ⟨_, _, _, .tup h (fun y hy => let ⟨_, _, z, _⟩ := he y hy; z) (by omega), .tup h t1 (by omega), (fun os' e => by cases e; exact t2), .tup h t3, t4.tup, by show PyData.weightAll ds ≤ _; omega⟩
theorem v_lst {a : Addr} {xs : List V} (h : H a = some (.lst xs)) (he : ∀ x ∈ xs, PtE K C H x) (hl : xs.length ≤ 20) : PtV K C H (.ref a) := by
  obtain ⟨os, ds, t1, t2, t3, t4, t5⟩ := e_all he
  exact ⟨none, none, _, .no (.base (.lst h)) (kit_ty (by decide +kernel)), .no (.base (.lst h)) (kit_ty (by decide +kernel)), (fun os' e => nomatch e), .lst (SqL.of h) t3, t4.lst, by show PyData.weightAll ds ≤ _; omega⟩
theorem v_non : PtV K C H .non := ⟨none, none, _, .no (.base .non) (kit_ty (by decide +kernel)), .no (.base .non) (kit_ty (by decide +kernel)), (fun os' e => nomatch e), .non, lyB_non.up (by decide), by show 0 ≤ _; omega⟩
theorem v_int : PtV K C H (.int 0) := ⟨none, none, _, .no (.base (.int 0)) (kit_ty (by decide +kernel)), .no (.base (.int 0)) (kit_ty (by decide +kernel)), (fun os' e => nomatch e), .int 0, (lyB_int (by decide)).up (by decide), by decide +kernel⟩
theorem v_str : PtV K C H (.str "kinds") := ⟨none, none, _, .no (.base (.str _)) (kit_ty (by decide +kernel)), .no (.base (.str _)) (kit_ty (by decide +kernel)), (fun os' e => nomatch e), .str _, lyB_str5.1.up (by decide), by decide +kernel⟩
theorem e_rows : ∀ {vs : List V} {rows : List (List Int)}, RowsT K H vs rows → (∀ r ∈ rows, r.length ≤ 8 ∧ ∀ z ∈ r, z.natAbs < 10 ^ 32) → ∀ x ∈ vs, PtE K C H x
  | _, _, .nil, _, _, hx => nomatch hx
  | _, _, .cons h t, hr, x, hx => by
    rcases List.mem_cons.mp hx with rfl | hx
    · exact e_row h (hr _ List.mem_cons_self).2 (hr _ List.mem_cons_self).1
    · exact e_rows t (fun r q => hr r (List.mem_cons_of_mem _ q)) x hx
/-- three things that are shown -/
theorem show3 {B : Nat} (hB : 8 ≤ B) {l : Addr} {a b c : V} (hl : H l = some (.lst [a, b, c])) (ha : PtV K C H a) (hb : PtV K C H b) (hc : PtV K C H c) : ∃ ox oy oo, PartsK K C H a b c ox oy oo ∧ ∃ S, ShQ K B H l S := by
  obtain ⟨o1, _, d1, a1, _, _, a4, a5, a6⟩ := ha
  obtain ⟨o2, _, d2, b1, _, _, b4, b5, b6⟩ := hb
  obtain ⟨_, o3, d3, _, c2, c3, c4, c5, c6⟩ := hc
  have L : LyB 4 (.list [d1, d2, d3]) := (LyBAll.cons a5 (.cons b5 (.cons c5 .nil))).lst
  refine ⟨o1, o2, o3, ⟨a1, b1, c2, c3⟩, _, .inr ⟨.list [d1, d2, d3], .lst (SqL.of hl) (.cons a4 (.cons b4 (.cons c4 .nil))), L.hd, L.sh, Nat.le_trans L.dp (by omega), L.shown ?_, rfl⟩⟩
  show d1.weight + 1 + (d2.weight + 1 + (d3.weight + 1 + 0)) ≤ 100000
  omega
end
/-- xs[:i] + (y,) + xs[j:], where y is told by what leaves all -/
theorem cat3K {K : PySem.W.Frag} {σ : L2.St} {H : Hp} {Q : VK} {a : Addr} {xs : List V} {v u i j : Nat} {Y D : TE} {Pr : V → Hp → Prop} (e1 : σ[v]? = some (some (.ref a))) (e2 : σ[u]? = some (some (.int (i : Nat)))) (hs : SqT K H a xs) (hl : xs.length ≤ 1000) (hi : i ≤ xs.length)
    (hD : ∀ (H2 : Hp) (Q' : VK), Q' (.int (j : Nat)) H2 → D σ H2 Q')
    (hY : ∀ (H1 : Hp) (Q' : VK), Same H H1 → (∀ y H2, Same H1 H2 → Pr y H2 → Q' y H2) → Y σ H1 Q')
    (k : ∀ y H2 p H3, Same H H2 → Pr y H2 → Same H2 H3 → SqT K H3 p (xs.take i ++ [y] ++ xs.drop j) → Q (.ref p) H3) :
    tOp (rCatA K) (tOp (rCatA K) (tSl (rSlA K) (tVar v) tNoPart (tPart (tVar u))) (tTup (tCons Y tNil))) (tSl (rSlA K) (tVar v) (tPart D) tNoPart) σ H Q := by
  refine ⟨_, e1, _, e2, _, rfl, slA hs fun d H1 s1 hd => ?_⟩
  rw [cut_to hi] at hd
  refine hY H1 _ s1 fun y H2 s2 hy => ⟨by show 1 ≤ sizeLine; decide, fun o ho => ?_⟩
  have so := same_new (o := .tup [y]) ho
  refine catA (sqT_same (s2.trans so) hd) (SqT.of upd_same) (by rw [List.length_take]; show _ + 1 ≤ 100000; omega) fun p H4 s4 hp => ?_
  refine ⟨_, e1, hD H4 _ ⟨_, rfl, ?_⟩⟩
  delta tNoPart
  have s24 := so.trans s4
  refine slA (sqT_same ((s1.trans s2).trans s24) hs) fun q H5 s5 hq => ?_
  rw [cut_from'] at hq
  refine catA (sqT_same s5 hp) hq (by rw [List.length_append, List.length_take, List.length_drop]; show _ + 1 + _ ≤ 100000; omega) fun r H6 s6 hr => ?_
  exact k y H2 r H6 (s1.trans s2) hy ((s24.trans s5).trans s6) hr
/-- all but lists stay -/
def Fsz (H H' : Hp) : Prop := ∀ a ob, (∀ xs, ob ≠ HO.lst xs) → H a = some ob → H' a = some ob
theorem Fsz.trans {H H1 H2 : Hp} (a : Fsz H H1) (b : Fsz H1 H2) : Fsz H H2 := fun p o n h => b p o n (a p o n h)
theorem Fsz.of {H H' : Hp} (e : Same H H') : Fsz H H' := fun p o _ h => e p o h
theorem Fsz.gs {H H' : Hp} {t q : Addr} (g : Gs t q H H') (T : Po H t q) : Fsz H H' := fun _ _ n h => g.at T h n
theorem Fsz.put {H : Hp} {l : Addr} {us ws : List V} (h : H l = some (.lst us)) : Fsz H (upd H l (.lst ws)) := fun a o n ha => by
  by_cases e : a = l
  · subst e
    rw [h] at ha
    cases ha
    exact (n us rfl).elim
  · rw [upd_ne e]
    exact ha
theorem Fsz.t {K : PySem.W.Frag} {H H' : Hp} (f : Fsz H H') {a : Addr} {xs : List V} (h : SqT K H a xs) : SqT K H' a xs := by
  rcases h with (h | ⟨o, h⟩) | h
  · exact .inl (.inl (f _ _ (fun _ z => by cases z) h))
  · exact .inl (.inr ⟨o, f _ _ (fun _ z => by cases z) h⟩)
  · exact .inr h
theorem Fsz.rows {K : PySem.W.Frag} {H H' : Hp} (f : Fsz H H') : ∀ {vs : List V} {rs : List (List Int)}, RowsT K H vs rs → RowsT K H' vs rs
  | _, _, .nil => .nil
  | _, _, .cons h r => .cons (f.t h) (f.rows r)
/-- what is shown of a part -/
def PtX (K : PySem.W.Frag) (H : Hp) (a : V) : Prop := ∃ d, PtR K H a d ∧ d.showable = true ∧ d.depth ≤ 3 ∧ d.leavesShort 40 = true ∧ d.weight ≤ 30000
theorem x_dict {K : PySem.W.Frag} {H : Hp} {a : Addr} (h : H a = some (.dK [])) : PtX K H (.ref a) := ⟨_, .dict h, rfl, by decide, rfl, by show 0 ≤ 30000; omega⟩
theorem x_row {K : PySem.W.Frag} {H : Hp} {a : Addr} {ns : List Int} (h : SqT K H a (ns.map V.int)) (hn : ∀ x ∈ ns, x.natAbs < 10 ^ 32) (hl : ns.length ≤ 8) : PtX K H (.ref a) := by
  have L := (lyB_ints hn).tup
  exact ⟨_, .row h, L.sh, Nat.le_trans L.dp (by decide), L.lv, by have := wts_int hn; show PyData.weightAll (ns.map PyData.int) ≤ _; omega⟩
theorem lyB_rows : ∀ {rows : List (List Int)}, (∀ r ∈ rows, r.length ≤ 8 ∧ ∀ z ∈ r, z.natAbs < 10 ^ 32) → LyBAll 1 (rows.map dI) ∧ PyData.weightAll (rows.map dI) ≤ 900 * rows.length
  | [], _ => ⟨.nil, Nat.le_refl _⟩
  | r :: rs, h => by
    obtain ⟨a, b⟩ := lyB_rows (rows := rs) fun q hq => h q (List.mem_cons_of_mem _ hq)
    have h1 := h r List.mem_cons_self
    have w := wts_int h1.2
    refine ⟨.cons (lyB_ints h1.2).tup a, ?_⟩
    show PyData.weightAll (r.map PyData.int) + 1 + PyData.weightAll (rs.map dI) ≤ 900 * (rs.length + 1)
    omega
theorem x_rows {K : PySem.W.Frag} {H : Hp} {v : V} {rows : List (List Int)} (h : RowsAt K H v rows) (hr : ∀ r ∈ rows, r.length ≤ 8 ∧ ∀ z ∈ r, z.natAbs < 10 ^ 32) (hl : rows.length ≤ 8) : PtX K H v := by
  obtain ⟨L, w⟩ := lyB_rows hr
  have L := L.tup
  exact ⟨_, .rows h, L.sh, Nat.le_trans L.dp (by decide), L.lv, by show PyData.weightAll (rows.map dI) ≤ _; omega⟩
theorem showX {K : PySem.W.Frag} {B : Nat} {H : Hp} {l : Addr} {a b c : V} (nl : l ≠ sysModules) (hl : H l = some (.lst [a, b, c])) (ha : PtX K H a) (hb : PtX K H b) (hc : PtX K H c) : ∃ S, ShQ K B H l S := by
  obtain ⟨d1, a1, a2, a3, a4, a5⟩ := ha
  obtain ⟨d2, b1, b2, b3, b4, b5⟩ := hb
  obtain ⟨d3, c1, c2, c3, c4, c5⟩ := hc
  refine ⟨_, .inl ⟨nl, [a, b, c], [d1, d2, d3], hl, .cons a1 (.cons b1 (.cons c1 .nil)), ?_, ?_, ?_, rfl⟩⟩
  · show (d1.showable && (d2.showable && (d3.showable && true))) = true
    rw [a2, b2, c2]
    rfl
  · show (max d1.depth (max d2.depth (max d3.depth 0))) + 1 ≤ 8
    omega
  · refine Nat.le_trans (PyData.shown_le 40 (by decide) (.list [d1, d2, d3]) ?_) ?_
    · show (d1.leavesShort 40 && (d2.leavesShort 40 && (d3.leavesShort 40 && true))) = true
      rw [a4, b4, c4]
      rfl
    · rw [sizeLine_eq]
      have e : (PyData.list [d1, d2, d3]).weight = d1.weight + 1 + (d2.weight + 1 + (d3.weight + 1 + 0)) := rfl
      omega
/-- what is judged of a part -/
def PtJ (K : PySem.W.Frag) (C : Addr) (H : Hp) (v : V) : Prop := ∃ o oo, Tg K C H v o ∧ Tgg K C H v oo ∧ ∀ os, oo = some os → ∀ o ∈ os, ∀ xs, o = some xs → xs.length ≤ 900
theorem PtV.j {K : PySem.W.Frag} {C : Addr} {H : Hp} {v : V} (h : PtV K C H v) : PtJ K C H v := let ⟨_, _, _, a, b, c, _⟩ := h; ⟨_, _, a, b, c⟩
theorem j_dict {K : PySem.W.Frag} {C : Addr} {H : Hp} {a : Addr} (h : H a = some (.dK [])) : PtJ K C H (.ref a) := ⟨none, none, .no (.base (.dK h)) (kit_ty (by decide +kernel)), .no (.base (.dK h)) (kit_ty (by decide +kernel)), fun _ e => nomatch e⟩
/-- three parts, one of them changed -/
theorem bent_fin {K : PySem.W.Frag} {C : Addr} {H : Hp} {l : Addr} {x y v nv : V} {w : Nat} (nl : l ≠ sysModules) (hw : w < 3) (h : H l = some (.lst ([x, y, v].set w nv))) (hx : PtV K C H x ∧ PtX K H x) (hy : PtV K C H y ∧ PtX K H y) (hv : PtV K C H v ∧ PtX K H v) (hn : PtV K C H nv ∨ ∃ a, nv = .ref a ∧ H a = some (.dK [])) :
    ∃ a b c ox oy oo S, H l = some (.lst [a, b, c]) ∧ PartsK K C H a b c ox oy oo ∧ ShQ K 60 H l S := by
  have go : ∀ {a b c : V}, H l = some (.lst [a, b, c]) → PtJ K C H a → PtJ K C H b → PtJ K C H c → (∃ S, ShQ K 60 H l S) → ∃ a b c ox oy oo S, H l = some (.lst [a, b, c]) ∧ PartsK K C H a b c ox oy oo ∧ ShQ K 60 H l S := fun hl ha hb hc hs => by
    obtain ⟨o1, _, a1, _⟩ := ha
    obtain ⟨o2, _, b1, _⟩ := hb
    obtain ⟨_, o3, _, c1, c2⟩ := hc
    obtain ⟨S, hs⟩ := hs
    exact ⟨_, _, _, o1, o2, o3, S, hl, ⟨a1, b1, c1, c2⟩, hs⟩
  have full : ∀ {a b c : V}, H l = some (.lst [a, b, c]) → PtV K C H a → PtV K C H b → PtV K C H c → ∃ a b c ox oy oo S, H l = some (.lst [a, b, c]) ∧ PartsK K C H a b c ox oy oo ∧ ShQ K 60 H l S := fun hl ha hb hc => by
    obtain ⟨_, _, _, _, _, hs⟩ := show3 (B := 60) (by decide) hl ha hb hc
    exact go hl ha.j hb.j hc.j ⟨_, hs⟩
  match w, hw with
  | 0, _ =>
    rcases hn with hn | ⟨p, rfl, hp⟩
    · exact full h hn hy.1 hv.1
    · exact go h (j_dict hp) hy.1.j hv.1.j (showX nl h (x_dict hp) hy.2 hv.2)
  | 1, _ =>
    rcases hn with hn | ⟨p, rfl, hp⟩
    · exact full h hx.1 hn hv.1
    · exact go h hx.1.j (j_dict hp) hv.1.j (showX nl h hx.2 (x_dict hp) hv.2)
  | 2, _ =>
    rcases hn with hn | ⟨p, rfl, hp⟩
    · exact full h hx.1 hy.1 hn
    · exact go h hx.1.j hy.1.j (j_dict hp) (showX nl h hx.2 hy.2 (x_dict hp))
/-- the parts as they were drawn -/
theorem PartsAt.vals {K : PySem.W.Frag} {C : Addr} {H H' : Hp} {l x y v : Addr} {ns ms : List Int} {rows : List (List Int)} (h : PartsAt K H l x y v ns ms rows) (f : Fsz H H') : (PtV K C H' (.ref x) ∧ PtX K H' (.ref x)) ∧ (PtV K C H' (.ref y) ∧ PtX K H' (.ref y)) ∧ (PtV K C H' (.ref v) ∧ PtX K H' (.ref v)) := by
  have nb : ∀ n ∈ ns, n.natAbs < 10 ^ 32 := fun n hn => by have := h.nr n hn; omega
  have mb : ∀ n ∈ ms, n.natAbs < 10 ^ 32 := fun n hn => by have := h.mr n hn; omega
  obtain ⟨a, vs, e, hq, ht⟩ := h.hv
  cases e
  have few := row_few h.asc h.rng
  have n8 := h.n8
  have m8 := h.m8
  have rb : ∀ r ∈ rows, r.length ≤ 8 ∧ ∀ z ∈ r, z.natAbs < 10 ^ 32 := fun r hr => ⟨by have := few r hr; omega, fun z hz => by have := h.rng r hr z hz; omega⟩
  have eI : ∀ {zs : List Int}, (∀ n ∈ zs, n.natAbs < 10 ^ 32) → ∀ x ∈ zs.map V.int, PtE K C H' x := fun hz x hx => by
    obtain ⟨n, hn, rfl⟩ := List.mem_map.mp hx
    exact e_int (hz n hn)
  have rl := h.rl
  exact ⟨⟨v_tup (f.t h.hx) (eI nb) (by rw [List.length_map]; omega), x_row (f.t h.hx) nb h.n8⟩, ⟨v_tup (f.t h.hy) (eI mb) (by rw [List.length_map]; omega), x_row (f.t h.hy) mb h.m8⟩, v_tup (f.t hq) (e_rows (f.rows ht) rb) (by rw [ht.len, rl]; omega), x_rows ⟨_, _, rfl, f.t hq, f.rows ht⟩ rb (by rw [rl]; omega)⟩
section
variable {P : Program} {w : World} {K : PySem.W.Frag} {mg : Str → Option Value} {base : Heap} {C : Addr}
def spBentK (K : PySem.W.Frag) (C : Addr) : Sp := fun vs H Q _ => ∃ (t q l x y v : Addr) (ns ms : List Int) (rows : List (List Int)), vs = [.ref t, .ref l] ∧ Po H t q ∧ l ≠ t ∧ l ≠ q ∧ PartsAt K H l x y v ns ms rows ∧ ∀ l' a b c ox oy oo S H', H' l' = some (.lst [a, b, c]) → PartsK K C H' a b c ox oy oo → ShQ K 60 H' l' S → Gs t q H H' → Po H' t q → H l' = none → Q (.ref l') H'
theorem ok_bentK (A : At K mg "_law_bent" s_law_bent ["pool", "parts"]) (T : Tx mg) (G_law_draw : Dfn P w K mg base "_law_draw" ["pool", "many"] 1 spDraw) : Dfn P w K mg base "_law_bent" ["pool", "parts"] 2 (spBentK K C) := by
  refine A.ok sc_law_bent (fun vs H Q E h => ?_) (fun f cdv A outer s H vs Q E hr h => ?_)
  · obtain ⟨_, _, _, _, _, _, _, _, _, rfl, _⟩ := h
    rfl
  · obtain ⟨t, q, l, x, y, v, ns, ms, rows, rfl, T0, nt, nq, hp, k⟩ := h
    refine ⟨_, (pss_cons (ps_set (i := 2) sc_law_bent.nd rfl (Or.inl rfl) (pe_callTy c_listN (by rfl) T.list (by decide +kernel) (pa_cons (pv 1) pa_nil)))
      (pss_cons (ps_set (i := 3) sc_law_bent.nd rfl (Or.inl rfl) (pe_d G_law_draw (hr.mono (by decide)) (pa_cons (pv 0) (pa_cons pe_int pa_nil))))
      (pss_cons (ps_set (i := 4) sc_law_bent.nd rfl (Or.inl rfl) (pe_ix ix_list (pv 1) (pv 3) (fun _ _ => rfl)))
      (pss_cons (ps_set (i := 5) sc_law_bent.nd rfl (Or.inl rfl) (pe_d G_law_draw (hr.mono (by decide)) (pa_cons (pv 0) (pa_cons (pe_callB c_len (by rfl) T.len (by decide +kernel) (pa_cons (pv 4) pa_nil)) pa_nil))))
      (pss_cons (ps_set (i := 6) sc_law_bent.nd rfl (Or.inl rfl) (pe_d G_law_draw (hr.mono (by decide)) (pa_cons (pv 0) (pa_cons pe_int pa_nil))))
      (pss_cons (ps_if (pt_cmpR op_eq (pv 6) pe_int (nomark _)) (pss_one (ps_asg (pe_ix ix_list (pe_lst (pa_cons pe_non (pa_cons (pe_callTy c_list (by rfl) T.list (by decide +kernel) (pa_cons (pv 4) pa_nil)) (pa_cons (pe_tup pa_nil) (pa_cons (pe_op op_catA (pv 4) (pe_op op_repTn (pe_slice sl_tupA (pv 4) po_none (po_some pe_int)) pe_int)) (pa_cons pe_int (pa_cons pe_dnewK (pa_cons pe_str pa_nil)))))))) (pe_d G_law_draw (hr.mono (by decide)) (pa_cons (pv 0) (pa_cons pe_int pa_nil))) (fun _ _ => rfl)) (pg_sub (pv 2) (pv 3) set_list))) (pss_one (ps_if (pt_cmpR op_eq (pv 6) pe_int (nomark _)) (pss_cons (ps_set (i := 7) sc_law_bent.nd rfl (Or.inl rfl) (pe_ix ix_list (pe_lst (pa_cons (pe_un un_neg pe_int) (pa_cons (pe_op op_add (pe_op op_pow pe_int pe_int) pe_int) (pa_cons pe_bl (pa_cons pe_non (pa_cons pe_str (pa_cons (pe_tup (pa_cons pe_int pa_nil)) (pa_cons (pe_lst (pa_cons pe_int pa_nil)) (pa_cons (pe_tup (pa_cons pe_bl pa_nil)) (pa_cons (pe_tup (pa_cons (pe_un un_neg pe_int) pa_nil)) (pa_cons (pe_tup (pa_cons pe_int (pa_cons pe_int pa_nil))) (pa_cons (pe_tup (pa_cons pe_int (pa_cons pe_int pa_nil))) (pa_cons (pe_tup (pa_cons pe_int pa_nil)) pa_nil))))))))))))) (pe_d G_law_draw (hr.mono (by decide)) (pa_cons (pv 0) (pa_cons pe_int pa_nil))) (fun _ _ => rfl)))
      (pss_one (ps_asg (pe_op op_catA (pe_op op_catA (pe_slice sl_tupA (pv 4) po_none (po_some (pv 5))) (pe_tup (pa_cons (pv 7) pa_nil))) (pe_slice sl_tupA (pv 4) (po_some (pe_op op_add (pv 5) pe_int)) po_none)) (pg_sub (pv 2) (pv 3) set_list)))) (pss_one (ps_if (pt_cmpR op_eq (pv 6) pe_int (nomark _)) (pss_one (ps_asg (pe_op op_catA (pv 4) (pe_slice sl_tupA (pv 4) po_none (po_some pe_int))) (pg_sub (pv 2) (pv 3) set_list))) (pss_one (ps_if (PW.pt (pw_and (pt_cmpR op_eq (pv 6) pe_int (nomark _)) (pw_and1 (pt_cmpR op_lt (pv 3) pe_int (nomark _))))) (pss_one (ps_asg (pe_op op_catA (pe_op op_catA (pe_slice sl_tupA (pv 4) po_none (po_some (pv 5))) (pe_tup (pa_cons (pe_op op_add (pe_ix ix_tup (pv 4) (pv 5) (fun _ _ => rfl)) pe_int) pa_nil))) (pe_slice sl_tupA (pv 4) (po_some (pe_op op_add (pv 5) pe_int)) po_none)) (pg_sub (pv 2) (pv 3) set_list))) (pss_one (ps_if (pt_cmpR op_eq (pv 6) pe_int (nomark _)) (pss_one (ps_asg (pe_slice sl_tupA (pv 4) (po_some pe_int) po_none) (pg_sub (pv 2) (pv 3) set_list))) pss_nil)))))))))
      (pss_one (ps_ret (pv 2))))))))), ?_⟩
    refine ⟨_, rfl, l, _, rfl, SqL.of hp.hl, fun l' hl' nl' => ?_⟩
    have n1 := T0.free hl'
    have T1 := T0.new (o := .lst [V.ref x, .ref y, .ref v]) hl'
    refine ⟨_, rfl, t, q, 3, rfl, T1, by decide, by decide, fun w H1 w0 w3 g1' T1' => ?_⟩
    have g1 := (Gs.new (t := t) (l := q) (o := .lst [V.ref x, .ref y, .ref v]) hl').trans g1'
    have f1 : H1 l' = some (.lst [V.ref x, .ref y, .ref v]) := g1' _ _ n1.1 n1.2 upd_same
    obtain ⟨wn, rfl⟩ : ∃ n : Nat, w = (n : Int) := ⟨w.toNat, by omega⟩
    obtain ⟨ra, xs, hat, hra, x1, x8, xe, xi⟩ : ∃ ra xs, atI [V.ref x, .ref y, .ref v] (wn : Int) = some (.ref ra) ∧ SqT K H ra xs ∧ 1 ≤ xs.length ∧ xs.length ≤ 8 ∧ (∀ HF, Fsz H HF → ∀ e ∈ xs, PtE K C HF e) ∧ (wn < 2 → ∃ zs : List Int, xs = zs.map V.int ∧ ∀ z ∈ zs, z.natAbs < 10 ^ 14) := by
      have nb : ∀ n ∈ ns, n.natAbs < 10 ^ 14 := fun n hn => by have := hp.nr n hn; omega
      have mb : ∀ n ∈ ms, n.natAbs < 10 ^ 14 := fun n hn => by have := hp.mr n hn; omega
      have eI : ∀ {zs : List Int} (HF : Hp), (∀ n ∈ zs, n.natAbs < 10 ^ 14) → ∀ x ∈ zs.map V.int, PtE K C HF x := fun HF hz x hx => by
        obtain ⟨n, hn, rfl⟩ := List.mem_map.mp hx
        exact e_int (by have := hz n hn; omega)
      obtain ⟨va, vvs, ev, hvq, hvt⟩ := hp.hv
      cases ev
      have few := row_few hp.asc hp.rng
      have l1 := hp.n1
      have l2 := hp.n8
      have l3 := hp.m1
      have l4 := hp.m8
      have hrl := hp.rl
      have vl := hvt.len
      have hw : wn = 0 ∨ wn = 1 ∨ wn = 2 := by omega
      rcases hw with rfl | rfl | rfl
      · exact ⟨x, _, rfl, hp.hx, by rw [List.length_map]; exact l1, by rw [List.length_map]; exact l2, fun HF _ => eI HF nb, fun _ => ⟨ns, rfl, nb⟩⟩
      · exact ⟨y, _, rfl, hp.hy, by rw [List.length_map]; exact l3, by rw [List.length_map]; exact l4, fun HF _ => eI HF mb, fun _ => ⟨ms, rfl, mb⟩⟩
      · exact ⟨v, _, rfl, hvq, by omega, by omega, fun HF f => e_rows (f.rows hvt) fun r hr => ⟨by have := few r hr; omega, fun z hz => by have := hp.rng r hr z hz; omega⟩, fun z => absurd z (by omega)⟩
    refine ⟨_, rfl, _, rfl, l, _, _, .ref ra, rfl, rfl, SqL.of (g1 _ _ nt nq hp.hl), hat, ?_⟩
    have hra1 := gs_T g1 T0 hra
    refine ⟨_, rfl, _, rfl, ra, xs, rfl, .inr hra1, t, q, ((xs.length : Nat) : Int), rfl, T1', by omega, by omega, fun at_ H2 a0 a1 g2 T2 => ?_⟩
    refine ⟨_, rfl, t, q, 6, rfl, T2, by decide, by decide, fun kind H3 k0 k6 g3 T3 => ?_⟩
    have g03 := (g1.trans g2).trans g3
    have z03 := Fsz.gs g03 T0
    have f3 : H3 l' = some (.lst [V.ref x, .ref y, .ref v]) := g3 _ _ n1.1 n1.2 (g2 _ _ n1.1 n1.2 f1)
    have hra3 := gs_T g03 T0 hra
    have ix3 : ixN [V.ref x, .ref y, .ref v].length (wn : Int) = some wn := Evl.ixN_nat (j := wn) (by show wn < 3; omega)
    have fin : ∀ (nv : V) (H' : Hp), Gs t q H H' → Po H' t q → H' l' = some (.lst [V.ref x, .ref y, .ref v]) → (PtV K C (upd H' l' (.lst ([V.ref x, .ref y, .ref v].set wn nv))) nv ∨ ∃ a, nv = .ref a ∧ H' a = some (.dK [])) → Q (.ref l') (upd H' l' (.lst ([V.ref x, .ref y, .ref v].set wn nv))) := fun nv H' g T fl hn => by
      have zf := (Fsz.gs g T0).trans (Fsz.put (ws := [V.ref x, .ref y, .ref v].set wn nv) fl)
      obtain ⟨vx, vy, vv⟩ := hp.vals (C := C) zf
      have hn' : PtV K C (upd H' l' (.lst ([V.ref x, .ref y, .ref v].set wn nv))) nv ∨ ∃ a, nv = .ref a ∧ (upd H' l' (.lst ([V.ref x, .ref y, .ref v].set wn nv))) a = some (.dK []) := by
        rcases hn with hn | ⟨a, e, ha⟩
        · exact .inl hn
        · exact .inr ⟨a, e, Fsz.put fl _ _ (fun _ z => by cases z) ha⟩
      obtain ⟨a, b, c, ox, oy, oo, S, r1, r2, r3⟩ := bent_fin nl' (by omega) upd_same vx vy vv hn'
      exact k l' a b c ox oy oo S _ r1 r2 r3 (g.mut hl') (T.mut n1) hl'
    have keep : Q (.ref l') H3 := by
      obtain ⟨vx, vy, vv⟩ := hp.vals (C := C) z03
      obtain ⟨ox, oy, oo, r1, S, r2⟩ := show3 (B := 60) (by decide) f3 vx.1 vy.1 vv.1
      exact k l' _ _ _ ox oy oo S H3 f3 r1 r2 g03 T3 hl'
    clear f1 g1' T1' hra1 g1 g2 g3
    refine ⟨_, rfl, rfl, _, rfl, ?_⟩
    refine ite2 (fun c => ?_) (fun c => ?_)
    · clear c keep
      refine ⟨_, rfl, ra, _, rfl, .inr hra3, fun b0 h0 => ?_⟩
      have s0 := same_new (o := .lst xs) h0
      refine ⟨by show 0 ≤ sizeLine; decide, fun b1 h1 => ?_⟩
      have s1 := same_new (o := .tup []) h1
      have s01 := s0.trans s1
      refine ⟨_, rfl, _, rfl, 1, rfl, ?_⟩
      refine slA (sqT_same s01 hra3) fun b2 H4 s2 h2 => ?_
      have e1 : cutV xs none (some 1) = xs.take 1 := cut_to (n := 1) x1
      rw [e1] at h2
      have t1n : xs.take 1 ≠ [] := fun z => by
        have := congrArg List.length z
        rw [List.length_take] at this
        have : min 1 xs.length = 0 := this
        omega
      refine ⟨b2, 9, _, rfl, rfl, h2, t1n, by decide, by decide, by rw [List.length_take]; omega, fun b4 H5 s3 h4 => ?_⟩
      have s05 := (s01.trans s2).trans s3
      have l9 : (List.replicate (9 : Int).toNat (xs.take 1)).flatten.length ≤ 9 := by
        rw [List.length_flatten, List.map_replicate, List.length_take]
        have : min 1 xs.length = 1 := by omega
        rw [this]
        decide
      refine catA (sqT_same s05 hra3) h4 (by omega) fun b5 H6 s4 h5 => ?_
      have s06 := s05.trans s4
      refine fun b6 h6 => ?_
      have s5 := same_new (o := .dK []) h6
      refine ⟨by show 7 ≤ sizeLine; decide, fun o ho => ?_⟩
      have s6 := same_new (o := .lst [V.non, .ref b0, .ref b1, .ref b5, .int 0, .ref b6, .str "kinds"]) ho
      have s08 := (s06.trans s5).trans s6
      have T8 := T3.keep s08
      have no := ((T3.keep s06).keep s5).free ho
      have n0 := T3.free h0
      have nl0 : l' ≠ b0 := ne_of_none f3 h0
      refine ⟨_, rfl, t, q, 7, rfl, T8, by decide, by decide, fun j HF j0 j7 g4 T4 => ?_⟩
      have hoF : HF o = some (.lst [V.non, .ref b0, .ref b1, .ref b5, .int 0, .ref b6, .str "kinds"]) := g4 _ _ no.1 no.2 upd_same
      have gF := (g03.trans (.of s08)).trans g4
      have fF : HF l' = some (.lst [V.ref x, .ref y, .ref v]) := g4 _ _ n1.1 n1.2 (s08 _ _ f3)
      have zP : ∀ nv, Fsz HF (upd HF l' (.lst ([V.ref x, .ref y, .ref v].set wn nv))) := fun nv => Fsz.put fF
      have z8 := Fsz.gs g4 T8
      have z3F := (Fsz.of s08).trans z8
      have hb0 : HF b0 = some (.lst xs) := g4 _ _ n0.1 n0.2 (((((s1.trans s2).trans s3).trans s4).trans s5).trans s6 _ _ upd_same)
      have hb1 : SqT K HF b1 [] := ((Fsz.of ((((s2.trans s3).trans s4).trans s5).trans s6)).trans z8).t (SqT.of upd_same)
      have hb5 : SqT K HF b5 (xs ++ (List.replicate (9 : Int).toNat (xs.take 1)).flatten) := ((Fsz.of (s5.trans s6)).trans z8).t h5
      have hb6 : HF b6 = some (.dK []) := ((Fsz.of s6).trans z8) _ _ (fun _ z => by cases z) upd_same
      have xF : ∀ nv, ∀ e ∈ xs, PtE K C (upd HF l' (.lst ([V.ref x, .ref y, .ref v].set wn nv))) e := fun nv => xe _ ((z03.trans z3F).trans (zP nv))
      have hj : j = 0 ∨ j = 1 ∨ j = 2 ∨ j = 3 ∨ j = 4 ∨ j = 5 ∨ j = 6 := by omega
      rcases hj with rfl | rfl | rfl | rfl | rfl | rfl | rfl
      · exact ⟨o, _, _, _, rfl, rfl, SqL.of hoF, rfl, _, rfl, _, rfl, l', _, _, wn, rfl, rfl, fF, ix3, _, rfl, fin _ HF gF T4 fF (.inl v_non)⟩
      · refine ⟨o, _, _, _, rfl, rfl, SqL.of hoF, rfl, _, rfl, _, rfl, l', _, _, wn, rfl, rfl, fF, ix3, _, rfl, fin _ HF gF T4 fF (.inl (v_lst (xs := xs) ?_ (xF _) (by omega)))⟩
        rw [upd_ne nl0.symm]
        exact hb0
      · exact ⟨o, _, _, _, rfl, rfl, SqL.of hoF, rfl, _, rfl, _, rfl, l', _, _, wn, rfl, rfl, fF, ix3, _, rfl, fin _ HF gF T4 fF (.inl (v_tup ((zP _).t hb1) (fun _ z => nomatch z) (Nat.zero_le _)))⟩
      · refine ⟨o, _, _, _, rfl, rfl, SqL.of hoF, rfl, _, rfl, _, rfl, l', _, _, wn, rfl, rfl, fF, ix3, _, rfl, fin _ HF gF T4 fF (.inl (v_tup ((zP _).t hb5) (fun e he => xF _ e ?_) (by rw [List.length_append]; omega)))⟩
        rcases List.mem_append.mp he with he | he
        · exact he
        · obtain ⟨zs, hz, he⟩ := List.mem_flatten.mp he
          rw [(List.mem_replicate.mp hz).2] at he
          exact List.mem_of_mem_take he
      · exact ⟨o, _, _, _, rfl, rfl, SqL.of hoF, rfl, _, rfl, _, rfl, l', _, _, wn, rfl, rfl, fF, ix3, _, rfl, fin _ HF gF T4 fF (.inl v_int)⟩
      · exact ⟨o, _, _, _, rfl, rfl, SqL.of hoF, rfl, _, rfl, _, rfl, l', _, _, wn, rfl, rfl, fF, ix3, _, rfl, fin _ HF gF T4 fF (.inr ⟨b6, rfl, hb6⟩)⟩
      · exact ⟨o, _, _, _, rfl, rfl, SqL.of hoF, rfl, _, rfl, _, rfl, l', _, _, wn, rfl, rfl, fF, ix3, _, rfl, fin _ HF gF T4 fF (.inl v_str)⟩
    refine ⟨_, rfl, rfl, _, rfl, ?_⟩
    refine ite2 (fun c => ?_) (fun c => ?_)
    · clear c keep
      obtain ⟨an, rfl⟩ : ∃ n : Nat, at_ = (n : Int) := ⟨at_.toNat, by omega⟩
      have al : an < xs.length := by omega
      refine ⟨_, rfl, 10, 30, rfl, rfl, ⟨by decide, by decide, by decide⟩, _, _, rfl, rfl, ?_⟩
      refine ⟨by show 1 ≤ sizeLine; decide, fun c5 h5 => ?_⟩
      refine ⟨by show 1 ≤ sizeLine; decide, fun c6 h6 => ?_⟩
      refine ⟨by show 1 ≤ sizeLine; decide, fun c7 h7 => ?_⟩
      refine ⟨_, rfl, by show 1 ≤ sizeLine; decide, fun c8 h8 => ?_⟩
      refine ⟨by show 2 ≤ sizeLine; decide, fun c9 h9 => ?_⟩
      refine ⟨by show 2 ≤ sizeLine; decide, fun ca ha => ?_⟩
      refine ⟨by show 1 ≤ sizeLine; decide, fun cb hb => ?_⟩
      refine ⟨by show 12 ≤ sizeLine; decide, fun o ho => ?_⟩
      have s5 := same_new (o := .tup [V.int 1]) h5
      have s6 := same_new (o := .lst [V.int 0]) h6
      have s7 := same_new (o := .tup [V.bl true]) h7
      have s8 := same_new (o := .tup [V.int (-1)]) h8
      have s9 := same_new (o := .tup [V.int 1, .int 0]) h9
      have sa := same_new (o := .tup [V.int 0, .int 0]) ha
      have sb := same_new (o := .tup [V.int 99]) hb
      have so := same_new (o := .lst [V.int (-1), .int (10 ^ (30 : Int).toNat + 1), .bl true, .non, .str "1", .ref c5, .ref c6, .ref c7, .ref c8, .ref c9, .ref ca, .ref cb]) ho
      have xb := sb.trans so
      have xa := sa.trans xb
      have x9 := s9.trans xa
      have x8' := s8.trans x9
      have x7 := s7.trans x8'
      have x6 := s6.trans x7
      have x5 := s5.trans x6
      have T8 := T3.keep x5
      have no := ((((((((T3.keep s5).keep s6).keep s7).keep s8).keep s9).keep sa).keep sb)).free ho
      have n6 := (T3.keep s5).free h6
      have l5 : c5 ≠ l' := (ne_of_none f3 h5).symm
      have l6 : c6 ≠ l' := (ne_of_none (s5 _ _ f3) h6).symm
      have l7 : c7 ≠ l' := (ne_of_none ((s5.trans s6) _ _ f3) h7).symm
      have l8 : c8 ≠ l' := (ne_of_none (((s5.trans s6).trans s7) _ _ f3) h8).symm
      have l9 : c9 ≠ l' := (ne_of_none ((((s5.trans s6).trans s7).trans s8) _ _ f3) h9).symm
      have la : ca ≠ l' := (ne_of_none (((((s5.trans s6).trans s7).trans s8).trans s9) _ _ f3) ha).symm
      have lb : cb ≠ l' := (ne_of_none ((((((s5.trans s6).trans s7).trans s8).trans s9).trans sa) _ _ f3) hb).symm
      refine ⟨_, rfl, t, q, 12, rfl, T8, by decide, by decide, fun j HF j0 j12 g4 T4 => ?_⟩
      have hoF : HF o = some (.lst [V.int (-1), .int (10 ^ (30 : Int).toNat + 1), .bl true, .non, .str "1", .ref c5, .ref c6, .ref c7, .ref c8, .ref c9, .ref ca, .ref cb]) := g4 _ _ no.1 no.2 upd_same
      have gF := (g03.trans (.of x5)).trans g4
      have fF : HF l' = some (.lst [V.ref x, .ref y, .ref v]) := g4 _ _ n1.1 n1.2 (x5 _ _ f3)
      have hraF := gs_T gF T0 hra
      have z8 := Fsz.gs g4 T8
      have tup : ∀ {a : Addr} {us : List V}, upd (upd (upd (upd (upd (upd (upd (upd H3 c5 (HO.tup [V.int 1])) c6 (HO.lst [V.int 0])) c7 (HO.tup [V.bl true])) c8 (HO.tup [V.int (-1)])) c9 (HO.tup [V.int 1, V.int 0])) ca (HO.tup [V.int 0, V.int 0])) cb (HO.tup [V.int 99])) o (HO.lst [V.int (-1), .int (10 ^ (30 : Int).toNat + 1), .bl true, .non, .str "1", .ref c5, .ref c6, .ref c7, .ref c8, .ref c9, .ref ca, .ref cb]) a = some (.tup us) → HF a = some (.tup us) := fun e => z8 _ _ (fun _ z => by cases z) e
      have t5 : HF c5 = some (.tup [V.int 1]) := tup (x6 _ _ upd_same)
      have t6 : HF c6 = some (.lst [V.int 0]) := g4 _ _ n6.1 n6.2 (x7 _ _ upd_same)
      have t7 : HF c7 = some (.tup [V.bl true]) := tup (x8' _ _ upd_same)
      have t8 : HF c8 = some (.tup [V.int (-1)]) := tup (x9 _ _ upd_same)
      have t9 : HF c9 = some (.tup [V.int 1, .int 0]) := tup (xa _ _ upd_same)
      have ta : HF ca = some (.tup [V.int 0, .int 0]) := tup (xb _ _ upd_same)
      have tb : HF cb = some (.tup [V.int 99]) := tup (so _ _ upd_same)
      have fin1 : ∀ (yv : V) (p : Addr) (H4 : Hp), Same HF H4 → SqT K H4 p (xs.take an ++ [yv] ++ xs.drop (an + 1)) → (∀ HG : Hp, (∀ a ob, a ≠ l' → HF a = some ob → HG a = some ob) → PtE K C HG yv) → Q (.ref l') (upd H4 l' (.lst ([V.ref x, .ref y, .ref v].set wn (.ref p)))) := fun yv p H4 s4 hp2 hy => by
        have f5 := s4 _ _ fF
        refine fin _ H4 (gF.trans (.of s4)) (T4.keep s4) f5 (.inl (v_tup ((Fsz.put f5).t hp2) (fun e he => ?_) (by rw [List.length_append, List.length_append, List.length_take, List.length_drop, List.length_singleton]; omega)))
        rcases mem_cat3 he with he | he
        · exact xe _ (((Fsz.gs gF T0).trans (.of s4)).trans (Fsz.put f5)) e he
        · rw [he]
          exact hy _ fun a ob n h => by rw [upd_ne n]; exact s4 _ _ h
      clear tup T8 x5 x6 x7 x8' x9 xa xb s5 s6 s7 s8 s9 sa sb so h5 h6 h7 h8 h9 ha hb ho z8 no n6
      have hj : j = 0 ∨ j = 1 ∨ j = 2 ∨ j = 3 ∨ j = 4 ∨ j = 5 ∨ j = 6 ∨ j = 7 ∨ j = 8 ∨ j = 9 ∨ j = 10 ∨ j = 11 := by omega
      rcases hj with rfl | rfl | rfl | rfl | rfl | rfl | rfl | rfl | rfl | rfl | rfl | rfl
      · refine ⟨o, _, _, _, rfl, rfl, SqL.of hoF, rfl, cat3K (i := an) (j := an + 1) (Pr := fun y' _ => y' = V.int (-1)) rfl rfl hraF (by omega) (by omega) (fun H2 Q' q => ⟨_, rfl, _, _, rfl, rfl, q⟩) (fun H1 Q' s1 q => ⟨_, rfl, q _ H1 (Same.refl H1) rfl⟩) fun yv H2 p H4 s2 hy s4 hp2 => ?_⟩
        rw [hy] at hp2
        have s5 := s2.trans s4
        exact ⟨_, rfl, _, rfl, l', _, _, wn, rfl, rfl, s5 _ _ fF, ix3, _, rfl, fin1 _ p H4 s5 hp2 (fun HG m => e_int (by decide))⟩
      · refine ⟨o, _, _, _, rfl, rfl, SqL.of hoF, rfl, cat3K (i := an) (j := an + 1) (Pr := fun y' _ => y' = V.int (10 ^ (30 : Int).toNat + 1)) rfl rfl hraF (by omega) (by omega) (fun H2 Q' q => ⟨_, rfl, _, _, rfl, rfl, q⟩) (fun H1 Q' s1 q => ⟨_, rfl, q _ H1 (Same.refl H1) rfl⟩) fun yv H2 p H4 s2 hy s4 hp2 => ?_⟩
        rw [hy] at hp2
        have s5 := s2.trans s4
        exact ⟨_, rfl, _, rfl, l', _, _, wn, rfl, rfl, s5 _ _ fF, ix3, _, rfl, fin1 _ p H4 s5 hp2 (fun HG m => e_int (by decide))⟩
      · refine ⟨o, _, _, _, rfl, rfl, SqL.of hoF, rfl, cat3K (i := an) (j := an + 1) (Pr := fun y' _ => y' = V.bl true) rfl rfl hraF (by omega) (by omega) (fun H2 Q' q => ⟨_, rfl, _, _, rfl, rfl, q⟩) (fun H1 Q' s1 q => ⟨_, rfl, q _ H1 (Same.refl H1) rfl⟩) fun yv H2 p H4 s2 hy s4 hp2 => ?_⟩
        rw [hy] at hp2
        have s5 := s2.trans s4
        exact ⟨_, rfl, _, rfl, l', _, _, wn, rfl, rfl, s5 _ _ fF, ix3, _, rfl, fin1 _ p H4 s5 hp2 (fun HG m => e_bl)⟩
      · refine ⟨o, _, _, _, rfl, rfl, SqL.of hoF, rfl, cat3K (i := an) (j := an + 1) (Pr := fun y' _ => y' = V.non) rfl rfl hraF (by omega) (by omega) (fun H2 Q' q => ⟨_, rfl, _, _, rfl, rfl, q⟩) (fun H1 Q' s1 q => ⟨_, rfl, q _ H1 (Same.refl H1) rfl⟩) fun yv H2 p H4 s2 hy s4 hp2 => ?_⟩
        rw [hy] at hp2
        have s5 := s2.trans s4
        exact ⟨_, rfl, _, rfl, l', _, _, wn, rfl, rfl, s5 _ _ fF, ix3, _, rfl, fin1 _ p H4 s5 hp2 (fun HG m => e_non)⟩
      · refine ⟨o, _, _, _, rfl, rfl, SqL.of hoF, rfl, cat3K (i := an) (j := an + 1) (Pr := fun y' _ => y' = V.str "1") rfl rfl hraF (by omega) (by omega) (fun H2 Q' q => ⟨_, rfl, _, _, rfl, rfl, q⟩) (fun H1 Q' s1 q => ⟨_, rfl, q _ H1 (Same.refl H1) rfl⟩) fun yv H2 p H4 s2 hy s4 hp2 => ?_⟩
        rw [hy] at hp2
        have s5 := s2.trans s4
        exact ⟨_, rfl, _, rfl, l', _, _, wn, rfl, rfl, s5 _ _ fF, ix3, _, rfl, fin1 _ p H4 s5 hp2 (fun HG m => e_str)⟩
      · refine ⟨o, _, _, _, rfl, rfl, SqL.of hoF, rfl, cat3K (i := an) (j := an + 1) (Pr := fun y' _ => y' = V.ref c5) rfl rfl hraF (by omega) (by omega) (fun H2 Q' q => ⟨_, rfl, _, _, rfl, rfl, q⟩) (fun H1 Q' s1 q => ⟨_, rfl, q _ H1 (Same.refl H1) rfl⟩) fun yv H2 p H4 s2 hy s4 hp2 => ?_⟩
        rw [hy] at hp2
        have s5 := s2.trans s4
        exact ⟨_, rfl, _, rfl, l', _, _, wn, rfl, rfl, s5 _ _ fF, ix3, _, rfl, fin1 _ p H4 s5 hp2 (fun HG m => e_row (ns := [1]) (SqT.of (m _ _ l5 t5)) (by decide) (by decide))⟩
      · refine ⟨o, _, _, _, rfl, rfl, SqL.of hoF, rfl, cat3K (i := an) (j := an + 1) (Pr := fun y' _ => y' = V.ref c6) rfl rfl hraF (by omega) (by omega) (fun H2 Q' q => ⟨_, rfl, _, _, rfl, rfl, q⟩) (fun H1 Q' s1 q => ⟨_, rfl, q _ H1 (Same.refl H1) rfl⟩) fun yv H2 p H4 s2 hy s4 hp2 => ?_⟩
        rw [hy] at hp2
        have s5 := s2.trans s4
        exact ⟨_, rfl, _, rfl, l', _, _, wn, rfl, rfl, s5 _ _ fF, ix3, _, rfl, fin1 _ p H4 s5 hp2 (fun HG m => e_lst (ns := [0]) (m _ _ l6 t6) (by decide) (by decide))⟩
      · refine ⟨o, _, _, _, rfl, rfl, SqL.of hoF, rfl, cat3K (i := an) (j := an + 1) (Pr := fun y' _ => y' = V.ref c7) rfl rfl hraF (by omega) (by omega) (fun H2 Q' q => ⟨_, rfl, _, _, rfl, rfl, q⟩) (fun H1 Q' s1 q => ⟨_, rfl, q _ H1 (Same.refl H1) rfl⟩) fun yv H2 p H4 s2 hy s4 hp2 => ?_⟩
        rw [hy] at hp2
        have s5 := s2.trans s4
        exact ⟨_, rfl, _, rfl, l', _, _, wn, rfl, rfl, s5 _ _ fF, ix3, _, rfl, fin1 _ p H4 s5 hp2 (fun HG m => e_blT (b := true) (SqT.of (m _ _ l7 t7)))⟩
      · refine ⟨o, _, _, _, rfl, rfl, SqL.of hoF, rfl, cat3K (i := an) (j := an + 1) (Pr := fun y' _ => y' = V.ref c8) rfl rfl hraF (by omega) (by omega) (fun H2 Q' q => ⟨_, rfl, _, _, rfl, rfl, q⟩) (fun H1 Q' s1 q => ⟨_, rfl, q _ H1 (Same.refl H1) rfl⟩) fun yv H2 p H4 s2 hy s4 hp2 => ?_⟩
        rw [hy] at hp2
        have s5 := s2.trans s4
        exact ⟨_, rfl, _, rfl, l', _, _, wn, rfl, rfl, s5 _ _ fF, ix3, _, rfl, fin1 _ p H4 s5 hp2 (fun HG m => e_row (ns := [-1]) (SqT.of (m _ _ l8 t8)) (by decide) (by decide))⟩
      · refine ⟨o, _, _, _, rfl, rfl, SqL.of hoF, rfl, cat3K (i := an) (j := an + 1) (Pr := fun y' _ => y' = V.ref c9) rfl rfl hraF (by omega) (by omega) (fun H2 Q' q => ⟨_, rfl, _, _, rfl, rfl, q⟩) (fun H1 Q' s1 q => ⟨_, rfl, q _ H1 (Same.refl H1) rfl⟩) fun yv H2 p H4 s2 hy s4 hp2 => ?_⟩
        rw [hy] at hp2
        have s5 := s2.trans s4
        exact ⟨_, rfl, _, rfl, l', _, _, wn, rfl, rfl, s5 _ _ fF, ix3, _, rfl, fin1 _ p H4 s5 hp2 (fun HG m => e_row (ns := [1, 0]) (SqT.of (m _ _ l9 t9)) (by decide) (by decide))⟩
      · refine ⟨o, _, _, _, rfl, rfl, SqL.of hoF, rfl, cat3K (i := an) (j := an + 1) (Pr := fun y' _ => y' = V.ref ca) rfl rfl hraF (by omega) (by omega) (fun H2 Q' q => ⟨_, rfl, _, _, rfl, rfl, q⟩) (fun H1 Q' s1 q => ⟨_, rfl, q _ H1 (Same.refl H1) rfl⟩) fun yv H2 p H4 s2 hy s4 hp2 => ?_⟩
        rw [hy] at hp2
        have s5 := s2.trans s4
        exact ⟨_, rfl, _, rfl, l', _, _, wn, rfl, rfl, s5 _ _ fF, ix3, _, rfl, fin1 _ p H4 s5 hp2 (fun HG m => e_row (ns := [0, 0]) (SqT.of (m _ _ la ta)) (by decide) (by decide))⟩
      · refine ⟨o, _, _, _, rfl, rfl, SqL.of hoF, rfl, cat3K (i := an) (j := an + 1) (Pr := fun y' _ => y' = V.ref cb) rfl rfl hraF (by omega) (by omega) (fun H2 Q' q => ⟨_, rfl, _, _, rfl, rfl, q⟩) (fun H1 Q' s1 q => ⟨_, rfl, q _ H1 (Same.refl H1) rfl⟩) fun yv H2 p H4 s2 hy s4 hp2 => ?_⟩
        rw [hy] at hp2
        have s5 := s2.trans s4
        exact ⟨_, rfl, _, rfl, l', _, _, wn, rfl, rfl, s5 _ _ fF, ix3, _, rfl, fin1 _ p H4 s5 hp2 (fun HG m => e_row (ns := [99]) (SqT.of (m _ _ lb tb)) (by decide) (by decide))⟩
    refine ⟨_, rfl, rfl, _, rfl, ?_⟩
    refine ite2 (fun c => ?_) (fun c => ?_)
    · clear c keep
      refine ⟨_, rfl, _, rfl, 1, rfl, ?_⟩
      refine slA hra3 fun b2 H4 s2 h2 => ?_
      have e1 : cutV xs none (some 1) = xs.take 1 := cut_to (n := 1) x1
      rw [e1] at h2
      refine catA (sqT_same s2 hra3) h2 (by rw [List.length_take]; omega) fun b3 H5 s3 h3 => ?_
      have s4 := s2.trans s3
      have f5 := s4 _ _ f3
      refine ⟨_, rfl, _, rfl, l', _, _, wn, rfl, rfl, f5, ix3, _, rfl, fin _ H5 (g03.trans (.of s4)) (T3.keep s4) f5 (.inl (v_tup ((Fsz.put f5).t h3) (fun e he => xe _ ((z03.trans (.of s4)).trans (Fsz.put f5)) e ?_) (by rw [List.length_append, List.length_take]; omega)))⟩
      rcases List.mem_append.mp he with he | he
      · exact he
      · exact List.mem_of_mem_take he
    refine ⟨_, rfl, rfl, _, rfl, ?_⟩
    refine ite2 (fun c => ?_) (fun c => ?_)
    · refine ⟨_, rfl, _, _, rfl, rfl, _, rfl, ?_⟩
      refine ite2 (fun c2 => ?_) (fun c2 => ?_)
      · obtain ⟨an, rfl⟩ : ∃ n : Nat, at_ = (n : Int) := ⟨at_.toNat, by omega⟩
        obtain ⟨zs, rfl, zb⟩ := xi (by have := of_decide_eq_true c2; omega)
        rw [List.length_map] at a1 x1 x8
        have al : an < zs.length := by omega
        refine cat3K (i := an) (j := an + 1) (Pr := fun y _ => ∃ n : Int, y = .int n ∧ n.natAbs < 10 ^ 20) rfl rfl hra3 (by rw [List.length_map]; omega) (by rw [List.length_map]; omega) (fun H2 Q' q => ?_) (fun H1 Q' s1 q => ?_) fun yv H2 p H4 s2 hy s4 hp2 => ?_
        · exact ⟨_, rfl, _, _, rfl, rfl, q⟩
        · exact ⟨_, rfl, _, rfl, ra, _, _, V.int zs[an], rfl, rfl, sqT_same s1 hra3, atI_nat (j := an) (by rw [List.getElem?_map, List.getElem?_eq_getElem al]; rfl), _, _, rfl, rfl, q _ H1 (Same.refl H1) ⟨_, rfl, by have := zb _ (List.getElem_mem al); omega⟩⟩
        · obtain ⟨n, rfl, hn⟩ := hy
          have s5 := s2.trans s4
          have f5 := s5 _ _ f3
          refine ⟨_, rfl, _, rfl, l', _, _, wn, rfl, rfl, f5, ix3, _, rfl, fin _ H4 (g03.trans (.of s5)) (T3.keep s5) f5 (.inl (v_tup ((Fsz.put f5).t hp2) (fun e he => ?_) (by rw [List.length_append, List.length_append, List.length_take, List.length_drop, List.length_map, List.length_singleton]; omega)))⟩
          rcases mem_cat3 he with he | he
          · exact xe _ ((z03.trans (.of s5)).trans (Fsz.put f5)) e he
          · rw [he]
            exact e_int (by omega)
      · refine ⟨_, rfl, rfl, _, rfl, ?_⟩
        refine ite2 (fun c4 => ?_) (fun c4 => ?_)
        · refine ⟨_, rfl, 1, rfl, ?_⟩
          delta tNoPart
          refine slA hra3 fun b2 H4 s2 h2 => ?_
          have e1 : cutV xs (some 1) none = xs.drop 1 := cut_from (n := 1) x1
          rw [e1] at h2
          have f5 := s2 _ _ f3
          exact ⟨_, rfl, _, rfl, l', _, _, wn, rfl, rfl, f5, ix3, _, rfl, fin _ H4 (g03.trans (.of s2)) (T3.keep s2) f5 (.inl (v_tup ((Fsz.put f5).t h2) (fun e he => xe _ ((z03.trans (.of s2)).trans (Fsz.put f5)) e (List.mem_of_mem_drop he)) (by rw [List.length_drop]; omega)))⟩
        · exact ⟨_, rfl, keep⟩
    refine ⟨_, rfl, rfl, _, rfl, ?_⟩
    refine ite2 (fun c4 => ?_) (fun c4 => ?_)
    · refine ⟨_, rfl, 1, rfl, ?_⟩
      delta tNoPart
      refine slA hra3 fun b2 H4 s2 h2 => ?_
      have e1 : cutV xs (some 1) none = xs.drop 1 := cut_from (n := 1) x1
      rw [e1] at h2
      have f5 := s2 _ _ f3
      exact ⟨_, rfl, _, rfl, l', _, _, wn, rfl, rfl, f5, ix3, _, rfl, fin _ H4 (g03.trans (.of s2)) (T3.keep s2) f5 (.inl (v_tup ((Fsz.put f5).t h2) (fun e he => xe _ ((z03.trans (.of s2)).trans (Fsz.put f5)) e (List.mem_of_mem_drop he)) (by rw [List.length_drop]; omega)))⟩
    · exact ⟨_, rfl, keep⟩
end
end Fo
set_option maxRecDepth 100000
set_option maxHeartbeats 4000000
namespace Fo
open PySem PySem.Spec PyProof.Rows L2 LamX
theorem FnG.of {P : Program} {w : World} {K : PySem.W.Frag} {mg : Str → Option Value} {base : Heap} {k : Nat} {f : Addr} {fd : FuncData} {ps : List Str} {sp : Sp} (F : FnOk P w K mg base CX0 k f fd ps sp) : FnG P w K mg base k f fd ps sp :=
  ⟨F.len, fun A outer s H args us vs Q E hr _ e0 hb r h => F.run A outer s H args us vs Q E hr e0 hb r h⟩
end Fo
set_option maxRecDepth 100000
set_option maxHeartbeats 4000000
namespace Fo
open PySem PySem.Spec PyProof.Rows L2
abbrev s_law : Stmt := top 24
abbrev n_law : List Str := ["script", "pool", "turn", "parts", "kept", "due", "told", "made", "same", "other"]
theorem sc_law : FnScope n_law ["script"] (defScope s_law) := ⟨rfl, rfl, rfl, by decide +kernel, rfl, by decide +kernel, by decide +kernel⟩
theorem tg_in {K : PySem.W.Frag} {C : Addr} {H : Hp} {x : V} {xs : List V} (h : Tg K C H x (some xs)) : ∃ a, x = .ref a ∧ SqT K H a xs := by
  cases h with
  | tup h hi hz => exact ⟨_, rfl, h⟩
theorem rows_in {K : PySem.W.Frag} {C : Addr} {H : Hp} {b : Int} : ∀ {vs : List V} {os : List (Option (List V))}, TgAll K C H vs os → os.all (ascOf b) = true → ∃ rows : List (List Int), RowsT K H vs rows
  | _, _, .nil, _ => ⟨[], .nil⟩
  | _, _, .cons (o := o) h t, ha => by
    rw [List.all_cons, Bool.and_eq_true] at ha
    obtain ⟨rows, hr⟩ := rows_in t ha.2
    cases o with
    | none => exact nomatch ha.1
    | some xs =>
      have h1 : ascV b xs = true := ha.1
      rw [ascV_eq, Bool.and_eq_true] at h1
      obtain ⟨ns, rfl, _⟩ := nums_ints h1.1
      obtain ⟨a, rfl, hq⟩ := tg_in h
      exact ⟨ns :: rows, .cons hq hr⟩
/-- right parts are data -/
theorem due_none {K : PySem.W.Frag} {C : Addr} {H : Hp} {x y v : V} {ox oy : Option (List V)} {oo : Option (List (Option (List V)))} (h : PartsK K C H x y v ox oy oo) (h0 : dueK ox oy oo = none) : ∃ (a b c : Addr) (ns ms : List Int) (vs : List V) (rows : List (List Int)), x = .ref a ∧ y = .ref b ∧ v = .ref c ∧ SqT K H a (ns.map V.int) ∧ SqT K H b (ms.map V.int) ∧ SqT K H c vs ∧ RowsT K H vs rows := by
  unfold dueK at h0
  by_cases c1 : sizesO 0 ox = true
  · rw [if_pos c1] at h0
    by_cases c2 : sizesO 0 oy = true
    · rw [if_pos c2] at h0
      obtain ⟨ns, e1, _⟩ := sizes_ints c1
      obtain ⟨ms, e2, _⟩ := sizes_ints c2
      subst e1
      subst e2
      obtain ⟨a, rfl, ha⟩ := tg_in h.tx
      obtain ⟨b, rfl, hb⟩ := tg_in h.ty
      cases oo with
      | none => cases h0
      | some os =>
        have h0 : dueA (ns.map V.int) (ms.map V.int) (some os) = none := h0
        by_cases c3 : os.all (ascOf (((ms.map V.int).length : Nat) : Int)) = true
        · obtain ⟨vs, c, rfl, hv, hg⟩ : ∃ vs c, v = .ref c ∧ SqT K H c vs ∧ TgAll K C H vs os := by
            cases h.tv with
            | tup hv g hz => exact ⟨_, _, rfl, hv, g⟩
          obtain ⟨rows, hr⟩ := rows_in hg c3
          exact ⟨a, b, c, ns, ms, vs, rows, rfl, rfl, rfl, ha, hb, hv, hr⟩
        · rw [dueA_row (Bool.eq_false_iff.mpr c3)] at h0
          cases h0
    · rw [if_neg c2] at h0
      cases h0
  · rw [if_neg c1] at h0
    cases h0
theorem eqv_same {d : PyData} (h : SeqAt.shaped d = true) : PyData.eqv d d = true := SeqAt.eqv_refl d (SeqAt.canLay_of_shaped h)
theorem due_sh {ox oy : Option (List V)} {oo : Option (List (Option (List V)))} {u : Str} (h : dueK ox oy oo = some u) : SeqAt.shaped (.str u) = true := by
  have ok : ∀ {v : Str}, some v = some u → SeqAt.shaped (.str v) = true → SeqAt.shaped (.str u) = true := fun e h => by
    cases e
    exact h
  unfold dueK at h
  split at h
  · split at h
    · unfold dueA at h
      split at h
      · exact ok h (by decide +kernel)
      · split at h
        · split at h
          · split at h
            · cases h
            · exact ok h (by decide +kernel)
          · exact ok h (by decide +kernel)
        · exact ok h (by decide +kernel)
    · exact ok h (by decide +kernel)
  · exact ok h (by decide +kernel)
theorem dp_R {K : PySem.W.Frag} {H : Hp} : ∀ {vs : List V} {rows : List (List Int)}, RowsT K H vs rows → DpAll K H vs (rows.map dI)
  | _, _, .nil => .nil
  | _, _, .cons h t => .cons (dp_rowI h) (dp_R t)
theorem eqK3 (a b : List Int) (c : List (List Int)) (a' b' : List Int) (c' : List (List Int)) : eqK (dI a) (dI b) (dR c) (some (dI a', dI b', dR c')) = (decide (a = a') && (decide (b = b') && decide (c = c'))) := by
  show (PyData.eqv (dI a) (dI a') && (PyData.eqv (dI b) (dI b') && PyData.eqv (dR c) (dR c'))) = _
  rw [eqv_I, eqv_I, eqv_R]
theorem eqL3 (a b : List Int) (c : List (List Int)) (a' b' : List Int) (c' : List (List Int)) : PyData.eqv (.list [dI a, dI b, dR c]) (.list [dI a', dI b', dR c']) = (decide (a = a') && (decide (b = b') && decide (c = c'))) := by
  rw [PyData.eqv]
  show (PyData.eqv (dI a) (dI a') && (PyData.eqv (dI b) (dI b') && (PyData.eqv (dR c) (dR c') && true))) = _
  rw [eqv_I, eqv_I, eqv_R, Bool.and_true]
theorem eq3_comm (a b : List Int) (c : List (List Int)) (a' b' : List Int) (c' : List (List Int)) : (decide (a = a') && (decide (b = b') && decide (c = c'))) = (decide (a' = a) && (decide (b' = b) && decide (c' = c))) := by
  rw [show decide (a = a') = decide (a' = a) from decide_eq_decide.mpr eq_comm, show decide (b = b') = decide (b' = b) from decide_eq_decide.mpr eq_comm, show decide (c = c') = decide (c' = c) from decide_eq_decide.mpr eq_comm]
theorem sh_3 (a b : List Int) (c : List (List Int)) : SeqAt.shaped (.list [dI a, dI b, dR c]) = true := by
  have ha := sh_I a
  have hb := sh_I b
  have hc := sh_R c
  unfold SeqAt.shaped at *
  rw [Bool.and_eq_true, decide_eq_true_iff] at *
  have e1 : (dI a).depth ≤ 1 := by
    show PyData.depth (.tuple _) ≤ 1
    rw [PyData.depth, dep_ints]
    decide
  have e2 : (dI b).depth ≤ 1 := by
    show PyData.depth (.tuple _) ≤ 1
    rw [PyData.depth, dep_ints]
    decide
  have e3 : (dR c).depth ≤ 3 := by
    show PyData.depth (.tuple _) ≤ 3
    rw [PyData.depth]
    have := dep_rows c
    omega
  refine ⟨?_, ?_⟩
  · show ((dI a).canLay0 && ((dI b).canLay0 && ((dR c).canLay0 && true))) = true
    rw [ha.1, hb.1, hc.1]
    rfl
  · show max (dI a).depth (max (dI b).depth (max (dR c).depth 0)) + 1 ≤ 64
    omega
section
variable {P : Program} {w : World} {K : PySem.W.Frag} {mg : Str → Option Value} {base : Heap} {C D_BadKinds : Addr}
def spLaw (K : PySem.W.Frag) : Sp := fun vs H Q _ => ∃ (a : Addr) (ns : List Int), vs = [.ref a] ∧ SqL K H a (ns.map V.int) ∧ ns.length ≤ 63 ∧ ∀ H', Q (.bl true) H'
theorem ok_law {f : Addr} {fd : FuncData} (F : Fun K "law" "law" s_law f fd) (T : Tx mg) (kc : KC K C) (hty : PySem.W.typeIn K (.ref C) = some (.type "type")) (G_Kinds : MkK P w K mg base C D_BadKinds)
    (G_law_pool : Dfn P w K mg base "_law_pool" ["script"] 1 (spPool K)) (G_law_draw : Dfn P w K mg base "_law_draw" ["pool", "many"] 1 spDraw) (G_law_some_parts : Dfn P w K mg base "_law_some_parts" ["pool"] 2 (spPartsK K)) (G_law_bent : Dfn P w K mg base "_law_bent" ["pool", "parts"] 2 (spBentK K C)) (G_law_due : Dfn P w K mg base "_law_due" ["parts"] 3 (spLDueK K C)) (G_law_tried : Dfn P w K mg base "_law_tried" ["parts"] 8 (spTriedK K C)) : FnG P w K mg base 10 f fd ["script"] (spLaw K) := by
  refine fun_okG F sc_law (fun vs H Q E h => ?_) (fun cdv A outer s H vs Q E hr hg h => ?_)
  · obtain ⟨a, ns, rfl, _⟩ := h
    rfl
  · obtain ⟨sa, ns, rfl, hS, hlen, k⟩ := h
    refine ⟨_, (pss_cons (ps_set (i := 1) sc_law.nd rfl (Or.inl rfl) (pe_d G_law_pool (hr.mono (by decide)) (pa_cons (pv 0) pa_nil)))
      (pss_cons (ps_for PassesOwn.never rfl (pi_range1 rfl T.range (pa_cons pe_int pa_nil)) (pg_name (i := 2) sc_law.nd rfl (Or.inl rfl))
      (pss_cons (ps_set (i := 3) sc_law.nd rfl (Or.inl rfl) (pe_d G_law_some_parts (hr.mono (by decide)) (pa_cons (pv 1) pa_nil)))
      (Evl.pss_cut (ps_if (pt_cmpR op_gt (pe_d G_law_draw (hr.mono (by decide)) (pa_cons (pv 1) (pa_cons pe_int pa_nil))) pe_int (nomark _)) (pss_one (ps_set (i := 3) sc_law.nd rfl (Or.inl rfl) (pe_d G_law_bent (hr.mono (by decide)) (pa_cons (pv 1) (pa_cons (pv 3) pa_nil))))) pss_nil)
      (pss_cons (ps_set (i := 4) sc_law.nd rfl (Or.inl rfl) (pe_callB (cr_reprQ (B := 60) hg (Nat.lt_of_le_of_lt (Nat.add_le_add_left (by decide : 61 ≤ 64) _) hr.units) (Nat.lt_of_le_of_lt (Nat.add_le_add_left (by decide : 9 ≤ 64) _) hr.units)) (by rfl) T.repr (by decide +kernel) (pa_cons (pv 3) pa_nil)))
      (pss_cons (ps_set (i := 5) sc_law.nd rfl (Or.inl rfl) (pe_d G_law_due (hr.mono (by decide)) (pa_cons (pv 3) pa_nil)))
      (pss_cons (ps_asg (pe_d G_law_tried (hr.mono (by decide)) (pa_cons (pv 3) pa_nil)) (pg_tup rfl (pgs_cons (pg_name (i := 6) sc_law.nd rfl (Or.inl rfl)) (pgs_cons (pg_name (i := 7) sc_law.nd rfl (Or.inl rfl)) pgs_nil))))
      (pss_cons (ps_if (PW.pt (pw_or (pt_cmpR (op_neD hr.units) (pv 6) (pv 5) (nomark _)) (pw_or1 (pt_cmpR op_ne (pe_callB (cr_reprQ (B := 60) hg (Nat.lt_of_le_of_lt (Nat.add_le_add_left (by decide : 61 ≤ 64) _) hr.units) (Nat.lt_of_le_of_lt (Nat.add_le_add_left (by decide : 9 ≤ 64) _) hr.units)) (by rfl) T.repr (by decide +kernel) (pa_cons (pv 3) pa_nil)) (pv 4) (nomark _))))) (pss_one (ps_ret pe_bl)) pss_nil)
      (pss_one (ps_if (pt_cmpR op_isN (pv 5) pe_non (nomark _)) (pss_cons (ps_if (PW.pt (pw_or (pt_cmpR (op_neD hr.units) (pe_fld (pv 7) rfl) (pe_ix ix_list (pv 3) pe_int (fun _ _ => rfl)) (nomark _)) (pw_or (pt_cmpR (op_neD hr.units) (pe_fld (pv 7) rfl) (pe_ix ix_list (pv 3) pe_int (fun _ _ => rfl)) (nomark _)) (pw_or1 (pt_cmpR (op_neD hr.units) (pe_fld (pv 7) rfl) (pe_ix ix_list (pv 3) pe_int (fun _ _ => rfl)) (nomark _)))))) (pss_one (ps_ret pe_bl)) pss_nil)
      (pss_cons (ps_set (i := 8) sc_law.nd rfl (Or.inl rfl) (pe_makeKinds G_Kinds (hr.mono (by decide)) (pe_ix ix_list (pv 3) pe_int (fun _ _ => rfl)) (pe_ix ix_list (pv 3) pe_int (fun _ _ => rfl)) (pe_ix ix_list (pv 3) pe_int (fun _ _ => rfl))))
      (pss_cons (ps_if (PW.pt (pw_or (pt_not (pt_cmpR (op_eqK G_Kinds (hr.mono (by decide))) (pv 7) (pv 8) (nomark _))) (pw_or (pt_cmpR (op_neK G_Kinds (hr.mono (by decide))) (pv 7) (pv 8) (nomark _)) (pw_or (pt_cmpR (op_eqK G_Kinds (hr.mono (by decide))) (pv 7) (pe_tup (pa_cons (pe_ix ix_list (pv 3) pe_int (fun _ _ => rfl)) (pa_cons (pe_ix ix_list (pv 3) pe_int (fun _ _ => rfl)) (pa_cons (pe_ix ix_list (pv 3) pe_int (fun _ _ => rfl)) pa_nil)))) (nomark _)) (pw_or (pt_cmpR (op_eqK G_Kinds (hr.mono (by decide))) (pv 7) (pv 3) (nomark _)) (pw_or1 (pt_cmpR (op_eqK G_Kinds (hr.mono (by decide))) (pv 7) pe_int (nomark _)))))))) (pss_one (ps_ret pe_bl)) pss_nil)
      (pss_cons (ps_set (i := 9) sc_law.nd rfl (Or.inl rfl) (pe_d G_law_some_parts (hr.mono (by decide)) (pa_cons (pv 1) pa_nil)))
      (pss_one (ps_if (pt_cmpR op_ne (pe_cmpR (op_eqK G_Kinds (hr.mono (by decide))) (pv 7) (pe_makeKinds G_Kinds (hr.mono (by decide)) (pe_ix ix_list (pv 9) pe_int (fun _ _ => rfl)) (pe_ix ix_list (pv 9) pe_int (fun _ _ => rfl)) (pe_ix ix_list (pv 9) pe_int (fun _ _ => rfl))) (nomark _)) (pe_cmpR (op_eqD hr.units) (pv 9) (pv 3) (nomark _)) (nomark _)) (pss_one (ps_ret pe_bl)) pss_nil)))))) pss_nil)))))))))
      (pss_one (ps_ret pe_bl)))), ?_⟩
    refine ⟨_, rfl, sa, ns, rfl, hS, hlen, fun t q H1 s1 _ _ T1 => ?_⟩
    refine ⟨_, rfl, by decide, by decide, for_range (lo := 0) (n := 5) (fun i σ' H' => (∃ x2 x3 x4 x5 x6 x7 x8 x9, σ' = [some (.ref sa), some (.ref t), x2, x3, x4, x5, x6, x7, x8, x9]) ∧ Po H' t q) ⟨⟨_, _, _, _, _, _, _, _, rfl⟩, T1⟩ ?_ ?_⟩
    · rintro i σ' H2 hi ⟨⟨x2, x3, x4, x5, x6, x7, x8, x9, rfl⟩, T2⟩
      refine ⟨_, rfl, t, q, rfl, T2, fun l x y v ns' ms' rows' H3 hp g3 T3 fl => ?_⟩
      have nl := T2.free fl
      refine ⟨fun σ' H' => ∃ (l : Addr) (a b c : V) (ox oy : Option (List V)) (oo : Option (List (Option (List V)))) (S : Str), σ' = [some (.ref sa), some (.ref t), some (.int (0 + (i : Int))), some (.ref l), x4, x5, x6, x7, x8, x9] ∧ H' l = some (.lst [a, b, c]) ∧ PartsK K C H' a b c ox oy oo ∧ ShQ K 60 H' l S ∧ Po H' t q ∧ l ≠ t ∧ l ≠ q, ?_, ?_⟩
      · refine ⟨_, rfl, t, q, 3, rfl, T3, by decide, by decide, fun m H4 c0 c1 g4 T4 => ⟨_, _, rfl, rfl, _, rfl, ?_⟩⟩
        have z4 := Fsz.gs g4 T3
        have f4 := g4 _ _ nl.1 nl.2 hp.hl
        have hp4 : PartsAt K H4 l x y v ns' ms' rows' := ⟨f4, z4.t hp.hx, z4.t hp.hy, hp.hv.gs g4 T3, hp.n1, hp.n8, hp.m1, hp.m8, hp.sums, hp.nr, hp.mr, hp.rl, hp.asc, hp.rng⟩
        refine ite2 (fun _ => ?_) (fun _ => ?_)
        · refine ⟨_, rfl, _, rfl, t, q, l, x, y, v, ns', ms', rows', rfl, T4, nl.1, nl.2, hp4, fun l' a b c ox oy oo S H5 h5 hpk hs g5 T5 fl' => ?_⟩
          have nl' := T4.free fl'
          exact ⟨l', a, b, c, ox, oy, oo, S, rfl, h5, hpk, hs, T5, nl'.1, nl'.2⟩
        · obtain ⟨vx, vy, vv⟩ := hp4.vals (C := C) (Fsz.of (Same.refl H4))
          obtain ⟨ox, oy, oo, r1, S, r2⟩ := show3 (B := 60) (by decide) f4 vx.1 vy.1 vv.1
          exact ⟨l, _, _, _, ox, oy, oo, S, rfl, f4, r1, r2, T4, nl.1, nl.2⟩
      clear nl fl T3 g3 hp
      rintro σ' H4 ⟨l, a, b, c, ox, oy, oo, S, rfl, hl, hpk, hs, T4, n1, n2⟩
      refine ⟨_, rfl, l, S, rfl, hs, ?_⟩
      refine ⟨_, rfl, l, a, b, c, ox, oy, oo, rfl, SqL.of hl, hpk.tx, hpk.ty, hpk.tv, hpk.few, fun h0 H5 s5 => ?_, fun u hu H5 s5 => ?_⟩
      rotate_left
      · have p5 := hpk.same s5
        refine ⟨_, rfl, l, a, b, c, ox, oy, oo, rfl, SqL.of (s5 _ _ hl), p5.tx, p5.ty, p5.tv, .inr ⟨u, hu, fun r H6 s6 hr => ?_⟩⟩
        have s56 := s5.trans s6
        have su := due_sh hu
        refine ⟨r, _, rfl, hr, rfl, _, _, rfl, _, _, rfl, rfl, ?_⟩
        refine ⟨_, rfl, _, rfl, .str u, .str u, .str u, .str u, su, su, _, rfl, ?_⟩
        rw [eqv_same su]
        refine ite2 (fun n => by cases n) (fun _ => ?_)
        refine ⟨_, rfl, l, S, rfl, hs.same s56, _, rfl, rfl, _, rfl, ?_⟩
        refine ite2 (fun n => by rw [decide_eq_true rfl] at n; cases n) (fun _ => ?_)
        refine ⟨_, rfl, rfl, _, rfl, ?_⟩
        refine ite2 (fun n => by cases of_decide_eq_true n) (fun _ => ?_)
        exact ⟨⟨_, _, _, _, _, _, _, _, rfl⟩, T4.keep s56⟩
      · have p5 := hpk.same s5
        refine ⟨_, rfl, l, a, b, c, ox, oy, oo, rfl, SqL.of (s5 _ _ hl), p5.tx, p5.ty, p5.tv, .inl ⟨h0, fun r m dx H6 s6 hr hm => ?_⟩⟩
        have s56 := s5.trans s6
        refine ⟨r, _, rfl, hr, rfl, _, _, rfl, _, _, rfl, rfl, ?_⟩
        refine ⟨_, rfl, _, rfl, .none, .none, .non, .non, rfl, rfl, _, rfl, ?_⟩
        refine ite2 (fun n => by cases n) (fun _ => ?_)
        refine ⟨_, rfl, l, S, rfl, hs.same s56, _, rfl, rfl, _, rfl, ?_⟩
        refine ite2 (fun n => by rw [decide_eq_true rfl] at n; cases n) (fun _ => ?_)
        refine ⟨_, rfl, rfl, _, rfl, ?_⟩
        refine ite2 (fun _ => ?_) (fun n => absurd (decide_eq_true rfl) n)
        obtain ⟨a, b, c, ns1, ms1, vs1, rows1, rfl, rfl, rfl, ha, hb, hc, hr1⟩ := due_none (hpk.same s56) h0
        have da : Dp K H6 (.ref a) (dI ns1) := dp_rowI ha
        have db : Dp K H6 (.ref b) (dI ms1) := dp_rowI hb
        have dc : Dp K H6 (.ref c) (dR rows1) := .tup hc (dp_R hr1)
        have hl6 := SqL.of (K := K) (s56 _ _ hl)
        have km : KindAt C H6 (.ref m) (.ref a) (.ref b) (.ref c) := ⟨m, dx, rfl, hm⟩
        have p6 := hpk.same s56
        refine ⟨_, rfl, m, C, dx, _, .ref a, rfl, hm, kc.tc.cl, kc.nP, kf_people _ _ _, ?_⟩
        refine ⟨_, rfl, l, _, 0, .ref a, rfl, rfl, hl6, atI_nat (j := 0) rfl, dI ns1, dI ns1, da, da, sh_I _, sh_I _, _, rfl, ?_⟩
        rw [eqv_same (sh_I _)]
        refine ite2 (fun n => by cases n) (fun _ => ?_)
        refine ⟨_, rfl, m, C, dx, _, .ref b, rfl, hm, kc.tc.cl, kc.nT, kf_things _ _ _, ?_⟩
        refine ⟨_, rfl, l, _, 1, .ref b, rfl, rfl, hl6, atI_nat (j := 1) rfl, dI ms1, dI ms1, db, db, sh_I _, sh_I _, _, rfl, ?_⟩
        rw [eqv_same (sh_I _)]
        refine ite2 (fun n => by cases n) (fun _ => ?_)
        refine ⟨_, rfl, m, C, dx, _, .ref c, rfl, hm, kc.tc.cl, kc.nA, kf_allowed _ _ _, ?_⟩
        refine ⟨_, rfl, l, _, 2, .ref c, rfl, rfl, hl6, atI_nat (j := 2) rfl, dR rows1, dR rows1, dc, dc, sh_R _, sh_R _, _, rfl, ?_⟩
        rw [eqv_same (sh_R _)]
        refine ite2 (fun n => by cases n) (fun _ => ?_)
        refine ⟨_, rfl, l, _, 0, .ref a, rfl, rfl, hl6, atI_nat (j := 0) rfl, ?_⟩
        refine ⟨_, rfl, l, _, 1, .ref b, rfl, rfl, hl6, atI_nat (j := 1) rfl, ?_⟩
        refine ⟨_, rfl, l, _, 2, .ref c, rfl, rfl, hl6, atI_nat (j := 2) rfl, ?_⟩
        refine ⟨ox, oy, oo, p6.tx, p6.ty, p6.tv, h0, fun m2 dx2 H7 s7 nm2 hm2 => ?_⟩
        have eqT : eqK (dI ns1) (dI ms1) (dR rows1) (some (dI ns1, dI ms1, dR rows1)) = true := by
          rw [eqK3, decide_eq_true rfl, decide_eq_true rfl, decide_eq_true rfl]
          rfl
        have o1 : ∀ H', Same H6 H' → OthK K C H' (.ref m) (some (dI ns1, dI ms1, dR rows1)) := fun H' s => ⟨_, _, _, km.same s, dp_same s da, dp_same s db, dp_same s dc, sh_I _, sh_I _, sh_R _⟩
        have km2 : KindAt C H7 (.ref m2) (.ref a) (.ref b) (.ref c) := ⟨m2, dx2, rfl, hm2⟩
        have o2 : ∀ H', Same H7 H' → OthK K C H' (.ref m2) (some (dI ns1, dI ms1, dR rows1)) := fun H' s => ⟨_, _, _, km2.same s, dp_same (s7.trans s) da, dp_same (s7.trans s) db, dp_same (s7.trans s) dc, sh_I _, sh_I _, sh_R _⟩
        have ty2 : ∀ H', Same H7 H' → TyX K H' (.ref m2) (.ref C) := fun H' s => (km2.same s).tyx kc.tc
        have nfC : PySem.W.notFirst K C (.ref C) = true := by simp [PySem.W.notFirst]
        refine ⟨_, rfl, _, rfl, _, _, _, _, _, o1 H7 s7, o2 H7 (Same.refl H7), ty2 H7 (Same.refl H7), nfC, fun H8 s8 => ?_⟩
        rw [eqT]
        refine ⟨_, rfl, ?_⟩
        refine ite2 (fun n => by cases n) (fun _ => ?_)
        have s78 := s7.trans s8
        refine ⟨_, rfl, _, rfl, _, _, _, _, _, o1 H8 s78, o2 H8 s8, ty2 H8 s8, nfC, fun H9 s9 => ?_⟩
        rw [eqT]
        refine ⟨_, rfl, ?_⟩
        refine ite2 (fun n => by cases n) (fun _ => ?_)
        have s79 := s78.trans s9
        refine ⟨_, rfl, _, rfl, l, _, 0, .ref a, rfl, rfl, SqL.of (s79 _ _ (s56 _ _ hl)), atI_nat (j := 0) rfl, ?_⟩
        refine ⟨_, rfl, l, _, 1, .ref b, rfl, rfl, SqL.of (s79 _ _ (s56 _ _ hl)), atI_nat (j := 1) rfl, ?_⟩
        refine ⟨_, rfl, l, _, 2, .ref c, rfl, rfl, SqL.of (s79 _ _ (s56 _ _ hl)), atI_nat (j := 2) rfl, ?_⟩
        refine ⟨by show 3 ≤ sizeLine; decide, fun tt htt => ?_⟩
        have st := same_new (o := .tup [V.ref a, .ref b, .ref c]) htt
        have oT : Oth K C (.type "tuple") := Oth.built hty kc.tc.hm rfl
        have oL : Oth K C (.type "list") := Oth.built hty kc.tc.hm rfl
        have oI : Oth K C (.type "int") := Oth.built hty kc.tc.hm rfl
        have tyt : TyX K (upd H9 tt (.tup [V.ref a, .ref b, .ref c])) (.ref tt) (.type "tuple") := .base (.tup upd_same)
        refine ⟨_, _, _, none, .type "tuple", o1 _ (s79.trans st), ⟨_, tyt, oT.kit⟩, tyt, oT.nf, fun H10 s10 => ?_⟩
        refine ⟨_, rfl, ?_⟩
        refine ite2 (fun n => by cases n) (fun _ => ?_)
        have s710 := (s79.trans st).trans s10
        have tyl : TyX K H10 (.ref l) (.type "list") := .base (.lst (s710 _ _ (s56 _ _ hl)))
        refine ⟨_, rfl, _, rfl, _, _, _, none, .type "list", o1 _ s710, ⟨_, tyl, oL.kit⟩, tyl, oL.nf, fun H11 s11 => ?_⟩
        refine ⟨_, rfl, ?_⟩
        refine ite2 (fun n => by cases n) (fun _ => ?_)
        have s711 := s710.trans s11
        have tyi : TyX K H11 (.int 0) (.type "int") := .base (.int 0)
        refine ⟨_, rfl, _, _, _, none, .type "int", o1 _ s711, ⟨_, tyi, oI.kit⟩, tyi, oI.nf, fun H12 s12 => ?_⟩
        refine ⟨_, rfl, ?_⟩
        refine ite2 (fun n => by cases n) (fun _ => ?_)
        have s712 := s711.trans s12
        have T12 := T4.keep (s56.trans s712)
        refine ⟨_, rfl, t, q, rfl, T12, fun l2 x2' y2' v2' ns2 ms2 rows2 HA hpA gA TA flA => ?_⟩
        obtain ⟨pA, dA⟩ := hpA.ok (C := C)
        have zA : Fsz H6 HA := (Fsz.of s712).trans (Fsz.gs gA T12)
        have haA := zA.t ha
        have hbA := zA.t hb
        have hcA := zA.t hc
        have hrA := zA.rows hr1
        have hmA := zA _ _ (fun _ z => by cases z) hm
        have kmA : KindAt C HA (.ref m) (.ref a) (.ref b) (.ref c) := ⟨m, dx, rfl, hmA⟩
        have daA : Dp K HA (.ref a) (dI ns1) := dp_rowI haA
        have dbA : Dp K HA (.ref b) (dI ms1) := dp_rowI hbA
        have dcA : Dp K HA (.ref c) (dR rows1) := .tup hcA (dp_R hrA)
        have hlA := gA _ _ n1 n2 ((s56.trans s712) _ _ hl)
        obtain ⟨v2, vs2, ev, hvq, hvt⟩ := hpA.hv
        cases ev
        have d2 : Dp K HA (.ref x2') (dI ns2) := dp_rowI hpA.hx
        have e2 : Dp K HA (.ref y2') (dI ms2) := dp_rowI hpA.hy
        have f2 : Dp K HA (.ref v2') (dR rows2) := .tup hvq (dp_R hvt)
        refine ⟨_, rfl, _, rfl, l2, _, 0, .ref x2', rfl, rfl, SqL.of hpA.hl, atI_nat (j := 0) rfl, ?_⟩
        refine ⟨_, rfl, l2, _, 1, .ref y2', rfl, rfl, SqL.of hpA.hl, atI_nat (j := 1) rfl, ?_⟩
        refine ⟨_, rfl, l2, _, 2, .ref v2', rfl, rfl, SqL.of hpA.hl, atI_nat (j := 2) rfl, ?_⟩
        refine ⟨_, _, _, pA.tx, pA.ty, pA.tv, dA, fun m3 dx3 HB sB nB hB => ?_⟩
        have km3 : KindAt C HB (.ref m3) (.ref x2') (.ref y2') (.ref v2') := ⟨m3, dx3, rfl, hB⟩
        refine ⟨_, _, _, some (dI ns2, dI ms2, dR rows2), .ref C, ⟨_, _, _, kmA.same sB, dp_same sB daA, dp_same sB dbA, dp_same sB dcA, sh_I _, sh_I _, sh_R _⟩, ⟨_, _, _, km3, dp_same sB d2, dp_same sB e2, dp_same sB f2, sh_I _, sh_I _, sh_R _⟩, km3.tyx kc.tc, nfC, fun HC sC => ?_⟩
        have sBC := sB.trans sC
        refine ⟨_, rfl, _, rfl, .list [dI ns2, dI ms2, dR rows2], .list [dI ns1, dI ms1, dR rows1], .lst (SqL.of (sBC _ _ hpA.hl)) (.cons (dp_same sBC d2) (.cons (dp_same sBC e2) (.cons (dp_same sBC f2) .nil))), .lst (SqL.of (sBC _ _ hlA)) (.cons (dp_same sBC daA) (.cons (dp_same sBC dbA) (.cons (dp_same sBC dcA) .nil))), sh_3 _ _ _, sh_3 _ _ _, ?_⟩
        rw [eqK3, eqL3, eq3_comm ns2 ms2 rows2 ns1 ms1 rows1]
        refine ⟨rfl, _, rfl, ?_⟩
        refine ite2 (fun n => by rw [decide_eq_true rfl] at n; cases n) (fun _ => ?_)
        exact ⟨⟨_, _, _, _, _, _, _, _, rfl⟩, TA.keep sBC⟩
    · rintro σ' H2 ⟨⟨x2, x3, x4, x5, x6, x7, x8, x9, rfl⟩, T2⟩
      exact k _
theorem compose {fa fI fE : Addr} {fd fdI fdE : FuncData} {tkhMK tkhMA : Tok} {DE : Addr} {D_BadKinds : Addr} {f_BadKinds : Addr} {fd_BadKinds : FuncData} (T : Tx mg) (kc : KC K C) (hty : PySem.W.typeIn K (.ref C) = some (.type "type")) (Tsum : mg "sum" = none) (Tabs : mg "abs" = none) (Tmax : mg "max" = none) (hC : mg "Kinds" = some (.ref C)) (hMK : mg "MOST_KINDS" = some (.int 8 tkhMK)) (hMA : mg "MOST_OF_A_KIND" = some (.int 1000000000000000000000000000000 tkhMA)) (EK : ErK K mg DE [("BadKinds", D_BadKinds)]) (EX : ErX K [("BadKinds", D_BadKinds)]) (o_BadKinds : OexC K D_BadKinds) (g_BadKinds : mg "BadKinds" = some (.ref D_BadKinds)) (j_BadKinds : PySem.W.findIn K (.ref D_BadKinds) "__init__" = some (some (.ref f_BadKinds))) (y_BadKinds : PySem.W.typeIn K (.ref f_BadKinds) = some (.type "function")) (F_BadKinds : Fun K "__init__" "BadKinds.__init__" s_BadKinds___init f_BadKinds fd_BadKinds) (n_BadKinds : PySem.W.findIn K (.ref D_BadKinds) "part" = some none) (x_BadKinds : XfC K D_BadKinds) (mI : Mk K C fI) (FI : Fun K "__init__" "Kinds.__init__" s_Kinds___init fI fdI)
    (qe : PySem.W.findIn K (.ref C) "__eq__" = some (some (.ref fE))) (ie : PySem.W.isFn K (.ref fE) = true) (FE : Fun K "__eq__" "Kinds.__eq__" s_Kinds___eq fE fdE)
    
    (A_is_integer : At K mg "is_integer" s_is_integer ["thing"]) (A_are_sizes : At K mg "_are_sizes" s_are_sizes ["least", "thing"]) (A_is_number : At K mg "is_number" s_is_number ["bound", "thing"]) (A_is_numbers : At K mg "is_numbers" s_is_numbers ["bound", "thing"]) (A_is_ascending : At K mg "is_ascending" s_is_ascending ["bound", "thing"]) (A_check_kinds : At K mg "_check_kinds" s_check_kinds ["people", "things", "allowed"]) (A_law_pool : At K mg "_law_pool" s_law_pool ["script"]) (A_law_draw : At K mg "_law_draw" s_law_draw ["pool", "many"]) (A_law_some_parts : At K mg "_law_some_parts" s_law_some_parts ["pool"]) (A_law_bent : At K mg "_law_bent" s_law_bent ["pool", "parts"]) (A_law_is_int : At K mg "_law_is_int" s_law_is_int ["thing"]) (A_law_are_counts : At K mg "_law_are_counts" s_law_are_counts ["thing"]) (A_law_numbers : At K mg "_law_numbers" s_law_numbers ["thing", "many"]) (A_law_due : At K mg "_law_due" s_law_due ["parts"]) (A_law_tried : At K mg "_law_tried" s_law_tried ["parts"])
    (F : Fun K "law" "law" s_law fa fd) : FnG P w K mg base 10 fa fd ["script"] (spLaw K) := by
  have tc : TC K C := kc.tc
  have e_BadKinds : Er1 P w K mg base "BadKinds" "part" D_BadKinds := ⟨o_BadKinds, g_BadKinds, f_BadKinds, fd_BadKinds, j_BadKinds, y_BadKinds, fld_BadKinds F_BadKinds o_BadKinds n_BadKinds, F_BadKinds.binds fun _ _ _ _ _ _ us hl => match us, hl with | [_, _], _ => rfl⟩
  have R_is_integer : Dfn P w K mg base _ _ 1 (spInteger K C) := ok_is_integer A_is_integer T tc
  have R_are_sizes : Dfn P w K mg base _ _ 2 (spSizes K C) := ok_are_sizes A_are_sizes T hMK hMA R_is_integer
  have R_is_number : Dfn P w K mg base _ _ 2 (spNumber K C) := ok_is_number A_is_number T R_is_integer
  have R_is_numbers : Dfn P w K mg base _ _ 3 (spNumbers K C) := ok_is_numbers A_is_numbers T R_is_number
  have R_is_ascending : Dfn P w K mg base _ _ 4 (spAsc K C) := ok_is_ascending A_is_ascending T R_is_numbers
  have RX_check_kinds : DfnX P w K mg base _ _ 5 (spCheckK K C D_BadKinds) := ok_check_kinds A_check_kinds T Tsum e_BadKinds R_are_sizes R_is_ascending
  have GK : MkK P w K mg base C D_BadKinds := ⟨hC, kc, ⟨fI, fdI, mI, ok_initK FI T kc RX_check_kinds, FI.binds fun _ _ _ _ _ _ us hl => match us, hl with | [_, _, _, _], _ => rfl⟩, ⟨fE, fdE, ok_eqK FE T kc hC, FE.binds fun _ _ _ _ _ _ us hl => match us, hl with | [_, _], _ => rfl, qe, ie⟩⟩
  have R_law_pool : Dfn P w K mg base _ _ 1 (spPool K) := ok_pool A_law_pool T Tsum Tabs
  have R_law_draw : Dfn P w K mg base _ _ 1 (spDraw) := ok_draw A_law_draw T
  have RK_law_some_parts : Dfn P w K mg base _ _ 2 (spPartsK K) := ok_partsK A_law_some_parts T Tsum Tabs R_law_draw
  have R_law_bent : Dfn P w K mg base _ _ 2 (spBentK K C) := ok_bentK A_law_bent T R_law_draw
  have R_law_is_int : Dfn P w K mg base _ _ 1 (spInteger K C) := ok_lint A_law_is_int T tc
  have R_law_are_counts : Dfn P w K mg base _ _ 2 (spLCnt K C) := ok_lcnt A_law_are_counts T Tmax R_law_is_int
  have R_law_numbers : Dfn P w K mg base _ _ 2 (spLNum K C) := ok_lnums A_law_numbers T R_law_is_int
  have R_law_due : Dfn P w K mg base _ _ 3 (spLDueK K C) := ok_ldueK A_law_due T Tsum R_law_are_counts R_law_numbers
  have R_law_tried : Dfn P w K mg base _ _ 8 (spTriedK K C) := ok_triedK A_law_tried T EK EX x_BadKinds n_BadKinds GK
  exact ok_law F T kc hty GK R_law_pool R_law_draw RK_law_some_parts R_law_bent R_law_due R_law_tried
end
end Fo
set_option maxRecDepth 100000
set_option maxHeartbeats 4000000
namespace Fo
open PySem PySem.Spec PyProof.Rows L2
theorem kit_own {K : PySem.W.Frag} {C : Addr} {T : String} {b : Bool} (hm : PySem.W.kitMeta T = true) (h : PySem.W.mroIn K C (.type T) = some b) : PySem.W.kitOne K (.ref C) (.type T) = some b := by
  have e : (Value.ref C == Value.type T) = false := by
    rw [beq_eq_false_iff_ne]
    intro q
    cases q
  show (if (Value.ref C == Value.type T) = true then some true else if PySem.W.kitMeta T = true then PySem.W.mroIn K C (.type T) else none) = some b
  rw [e, if_neg (by decide), if_pos hm, h]
theorem at_mk {K : PySem.W.Frag} {h : Heap} {mg : Str → Option Value} (X : K.In h) (G : h.Ns mainGlobals mg) {x : Str} {st : Stmt} {ps : List Str} {f : Addr} {oc : Value} {od an : Option Addr} {sl : Array (Option Value)} {kV dc pm cd ct : Value}
    (a : PySem.W.nsIn K mainGlobals x = some (some (.ref f))) (l : K.lookup f = some ⟨oc, od, .func (PySem.W.fnOf x x (defArgs st) (defBody st) (defScope st) .none kV dc pm an cd ct), sl⟩) (c : PySem.W.codeIn K cd x = true) (k : PySem.W.keepIn K (.ref f) = true)
    (b : ∀ (kV doc pm : Value) (an : Option Addr) (cdv ct : Value) (us : List Value), us.length = ps.length → bindArgs (PySem.W.fnOf x x (defArgs st) (defBody st) (defScope st) Value.none kV doc pm an cdv ct) { pos := us } = pure (ps.zip us)) : At K mg x st ps :=
  ⟨f, _, PySem.W.mg_of X G a, fun_mk (st := st) l c k, (fun_mk (st := st) l c k).binds b⟩
theorem all_mk {l : PySem.W.OpenLaw} {w : World} {K : PySem.W.Frag} {h : Heap} {mg : Str → Option Value} {fa C : Addr} { tkhMK tkhMA : Tok} (X : K.In h) (G : h.Ns mainGlobals mg) (hfa : mg "law" = some (.ref fa))
    {f1 : Addr} {od1 an1 : Option Addr} {sl1 : Array (Option Value)} {oc1 kV1 dc1 pm1 cd1 ct1 : Value}
    {f2 : Addr} {od2 an2 : Option Addr} {sl2 : Array (Option Value)} {oc2 kV2 dc2 pm2 cd2 ct2 : Value}
    {f3 : Addr} {od3 an3 : Option Addr} {sl3 : Array (Option Value)} {oc3 kV3 dc3 pm3 cd3 ct3 : Value}
    {f4 : Addr} {od4 an4 : Option Addr} {sl4 : Array (Option Value)} {oc4 kV4 dc4 pm4 cd4 ct4 : Value}
    {f5 : Addr} {od5 an5 : Option Addr} {sl5 : Array (Option Value)} {oc5 kV5 dc5 pm5 cd5 ct5 : Value}
    {f6 : Addr} {od6 an6 : Option Addr} {sl6 : Array (Option Value)} {oc6 kV6 dc6 pm6 cd6 ct6 : Value}
    {f7 : Addr} {od7 an7 : Option Addr} {sl7 : Array (Option Value)} {oc7 kV7 dc7 pm7 cd7 ct7 : Value}
    {f8 : Addr} {od8 an8 : Option Addr} {sl8 : Array (Option Value)} {oc8 kV8 dc8 pm8 cd8 ct8 : Value}
    {f9 : Addr} {od9 an9 : Option Addr} {sl9 : Array (Option Value)} {oc9 kV9 dc9 pm9 cd9 ct9 : Value}
    {f10 : Addr} {od10 an10 : Option Addr} {sl10 : Array (Option Value)} {oc10 kV10 dc10 pm10 cd10 ct10 : Value}
    {f11 : Addr} {od11 an11 : Option Addr} {sl11 : Array (Option Value)} {oc11 kV11 dc11 pm11 cd11 ct11 : Value}
    {f12 : Addr} {od12 an12 : Option Addr} {sl12 : Array (Option Value)} {oc12 kV12 dc12 pm12 cd12 ct12 : Value}
    {f13 : Addr} {od13 an13 : Option Addr} {sl13 : Array (Option Value)} {oc13 kV13 dc13 pm13 cd13 ct13 : Value}
    {f14 : Addr} {od14 an14 : Option Addr} {sl14 : Array (Option Value)} {oc14 kV14 dc14 pm14 cd14 ct14 : Value}
    {f15 : Addr} {od15 an15 : Option Addr} {sl15 : Array (Option Value)} {oc15 kV15 dc15 pm15 cd15 ct15 : Value}
    {f16 : Addr} {od16 an16 : Option Addr} {sl16 : Array (Option Value)} {oc16 kV16 dc16 pm16 cd16 ct16 : Value}
    {f17 : Addr} {od17 an17 : Option Addr} {sl17 : Array (Option Value)} {oc17 kV17 dc17 pm17 cd17 ct17 : Value}
    {f18 : Addr} {od18 an18 : Option Addr} {sl18 : Array (Option Value)} {oc18 kV18 dc18 pm18 cd18 ct18 : Value}
    {DE : Addr}
    {B0 N0 : Addr} {nm0 q0 : Str} {bs0 : List Value} {sn0 : List Str} {sub0 : List Value} {ab0 : Bool} {col0 : Option Bool} {dd0 : Option Addr} {m00 m10 m20 m30 m50 : Option Value}
    {fX0 : Addr} {odX0 anX0 : Option Addr} {slX0 : Array (Option Value)} {ocX0 kVX0 dcX0 pmX0 cdX0 ctX0 : Value}
    (aC : PySem.W.nsIn K mainGlobals "Kinds" = some (some (.ref C)))
    (aI : PySem.W.findIn K (.ref C) "__init__" = some (some (.ref f1)))
    (iI : PySem.W.isFn K (.ref f1) = true)
    (l1 : K.lookup f1 = some ⟨oc1, od1, .func (PySem.W.fnOf "__init__" "Kinds.__init__" (defArgs s_Kinds___init) (defBody s_Kinds___init) (defScope s_Kinds___init) .none kV1 dc1 pm1 an1 cd1 ct1), sl1⟩)
    (c1 : PySem.W.codeIn K cd1 "Kinds.__init__" = true)
    (k1 : PySem.W.keepIn K (.ref f1) = true)
    (aE : PySem.W.findIn K (.ref C) "__eq__" = some (some (.ref f2)))
    (iE : PySem.W.isFn K (.ref f2) = true)
    (l2 : K.lookup f2 = some ⟨oc2, od2, .func (PySem.W.fnOf "__eq__" "Kinds.__eq__" (defArgs s_Kinds___eq) (defBody s_Kinds___eq) (defScope s_Kinds___eq) .none kV2 dc2 pm2 an2 cd2 ct2), sl2⟩)
    (c2 : PySem.W.codeIn K cd2 "Kinds.__eq__" = true)
    (k2 : PySem.W.keepIn K (.ref f2) = true)
    (aL : PySem.W.nsIn K mainGlobals "law" = some (some (.ref f3)))
    (l3 : K.lookup f3 = some ⟨oc3, od3, .func (PySem.W.fnOf "law" "law" (defArgs s_law) (defBody s_law) (defScope s_law) .none kV3 dc3 pm3 an3 cd3 ct3), sl3⟩)
    (c3 : PySem.W.codeIn K cd3 "law" = true)
    (k3 : PySem.W.keepIn K (.ref f3) = true)
    (a4 : PySem.W.nsIn K mainGlobals "is_integer" = some (some (.ref f4)))
    (l4 : K.lookup f4 = some ⟨oc4, od4, .func (PySem.W.fnOf "is_integer" "is_integer" (defArgs s_is_integer) (defBody s_is_integer) (defScope s_is_integer) .none kV4 dc4 pm4 an4 cd4 ct4), sl4⟩)
    (c4 : PySem.W.codeIn K cd4 "is_integer" = true)
    (k4 : PySem.W.keepIn K (.ref f4) = true)
    (a5 : PySem.W.nsIn K mainGlobals "_are_sizes" = some (some (.ref f5)))
    (l5 : K.lookup f5 = some ⟨oc5, od5, .func (PySem.W.fnOf "_are_sizes" "_are_sizes" (defArgs s_are_sizes) (defBody s_are_sizes) (defScope s_are_sizes) .none kV5 dc5 pm5 an5 cd5 ct5), sl5⟩)
    (c5 : PySem.W.codeIn K cd5 "_are_sizes" = true)
    (k5 : PySem.W.keepIn K (.ref f5) = true)
    (a6 : PySem.W.nsIn K mainGlobals "is_number" = some (some (.ref f6)))
    (l6 : K.lookup f6 = some ⟨oc6, od6, .func (PySem.W.fnOf "is_number" "is_number" (defArgs s_is_number) (defBody s_is_number) (defScope s_is_number) .none kV6 dc6 pm6 an6 cd6 ct6), sl6⟩)
    (c6 : PySem.W.codeIn K cd6 "is_number" = true)
    (k6 : PySem.W.keepIn K (.ref f6) = true)
    (a7 : PySem.W.nsIn K mainGlobals "is_numbers" = some (some (.ref f7)))
    (l7 : K.lookup f7 = some ⟨oc7, od7, .func (PySem.W.fnOf "is_numbers" "is_numbers" (defArgs s_is_numbers) (defBody s_is_numbers) (defScope s_is_numbers) .none kV7 dc7 pm7 an7 cd7 ct7), sl7⟩)
    (c7 : PySem.W.codeIn K cd7 "is_numbers" = true)
    (k7 : PySem.W.keepIn K (.ref f7) = true)
    (a8 : PySem.W.nsIn K mainGlobals "is_ascending" = some (some (.ref f8)))
    (l8 : K.lookup f8 = some ⟨oc8, od8, .func (PySem.W.fnOf "is_ascending" "is_ascending" (defArgs s_is_ascending) (defBody s_is_ascending) (defScope s_is_ascending) .none kV8 dc8 pm8 an8 cd8 ct8), sl8⟩)
    (c8 : PySem.W.codeIn K cd8 "is_ascending" = true)
    (k8 : PySem.W.keepIn K (.ref f8) = true)
    (a9 : PySem.W.nsIn K mainGlobals "_check_kinds" = some (some (.ref f9)))
    (l9 : K.lookup f9 = some ⟨oc9, od9, .func (PySem.W.fnOf "_check_kinds" "_check_kinds" (defArgs s_check_kinds) (defBody s_check_kinds) (defScope s_check_kinds) .none kV9 dc9 pm9 an9 cd9 ct9), sl9⟩)
    (c9 : PySem.W.codeIn K cd9 "_check_kinds" = true)
    (k9 : PySem.W.keepIn K (.ref f9) = true)
    (a10 : PySem.W.nsIn K mainGlobals "_law_pool" = some (some (.ref f10)))
    (l10 : K.lookup f10 = some ⟨oc10, od10, .func (PySem.W.fnOf "_law_pool" "_law_pool" (defArgs s_law_pool) (defBody s_law_pool) (defScope s_law_pool) .none kV10 dc10 pm10 an10 cd10 ct10), sl10⟩)
    (c10 : PySem.W.codeIn K cd10 "_law_pool" = true)
    (k10 : PySem.W.keepIn K (.ref f10) = true)
    (a11 : PySem.W.nsIn K mainGlobals "_law_draw" = some (some (.ref f11)))
    (l11 : K.lookup f11 = some ⟨oc11, od11, .func (PySem.W.fnOf "_law_draw" "_law_draw" (defArgs s_law_draw) (defBody s_law_draw) (defScope s_law_draw) .none kV11 dc11 pm11 an11 cd11 ct11), sl11⟩)
    (c11 : PySem.W.codeIn K cd11 "_law_draw" = true)
    (k11 : PySem.W.keepIn K (.ref f11) = true)
    (a12 : PySem.W.nsIn K mainGlobals "_law_some_parts" = some (some (.ref f12)))
    (l12 : K.lookup f12 = some ⟨oc12, od12, .func (PySem.W.fnOf "_law_some_parts" "_law_some_parts" (defArgs s_law_some_parts) (defBody s_law_some_parts) (defScope s_law_some_parts) .none kV12 dc12 pm12 an12 cd12 ct12), sl12⟩)
    (c12 : PySem.W.codeIn K cd12 "_law_some_parts" = true)
    (k12 : PySem.W.keepIn K (.ref f12) = true)
    (a13 : PySem.W.nsIn K mainGlobals "_law_bent" = some (some (.ref f13)))
    (l13 : K.lookup f13 = some ⟨oc13, od13, .func (PySem.W.fnOf "_law_bent" "_law_bent" (defArgs s_law_bent) (defBody s_law_bent) (defScope s_law_bent) .none kV13 dc13 pm13 an13 cd13 ct13), sl13⟩)
    (c13 : PySem.W.codeIn K cd13 "_law_bent" = true)
    (k13 : PySem.W.keepIn K (.ref f13) = true)
    (a14 : PySem.W.nsIn K mainGlobals "_law_is_int" = some (some (.ref f14)))
    (l14 : K.lookup f14 = some ⟨oc14, od14, .func (PySem.W.fnOf "_law_is_int" "_law_is_int" (defArgs s_law_is_int) (defBody s_law_is_int) (defScope s_law_is_int) .none kV14 dc14 pm14 an14 cd14 ct14), sl14⟩)
    (c14 : PySem.W.codeIn K cd14 "_law_is_int" = true)
    (k14 : PySem.W.keepIn K (.ref f14) = true)
    (a15 : PySem.W.nsIn K mainGlobals "_law_are_counts" = some (some (.ref f15)))
    (l15 : K.lookup f15 = some ⟨oc15, od15, .func (PySem.W.fnOf "_law_are_counts" "_law_are_counts" (defArgs s_law_are_counts) (defBody s_law_are_counts) (defScope s_law_are_counts) .none kV15 dc15 pm15 an15 cd15 ct15), sl15⟩)
    (c15 : PySem.W.codeIn K cd15 "_law_are_counts" = true)
    (k15 : PySem.W.keepIn K (.ref f15) = true)
    (a16 : PySem.W.nsIn K mainGlobals "_law_numbers" = some (some (.ref f16)))
    (l16 : K.lookup f16 = some ⟨oc16, od16, .func (PySem.W.fnOf "_law_numbers" "_law_numbers" (defArgs s_law_numbers) (defBody s_law_numbers) (defScope s_law_numbers) .none kV16 dc16 pm16 an16 cd16 ct16), sl16⟩)
    (c16 : PySem.W.codeIn K cd16 "_law_numbers" = true)
    (k16 : PySem.W.keepIn K (.ref f16) = true)
    (a17 : PySem.W.nsIn K mainGlobals "_law_due" = some (some (.ref f17)))
    (l17 : K.lookup f17 = some ⟨oc17, od17, .func (PySem.W.fnOf "_law_due" "_law_due" (defArgs s_law_due) (defBody s_law_due) (defScope s_law_due) .none kV17 dc17 pm17 an17 cd17 ct17), sl17⟩)
    (c17 : PySem.W.codeIn K cd17 "_law_due" = true)
    (k17 : PySem.W.keepIn K (.ref f17) = true)
    (a18 : PySem.W.nsIn K mainGlobals "_law_tried" = some (some (.ref f18)))
    (l18 : K.lookup f18 = some ⟨oc18, od18, .func (PySem.W.fnOf "_law_tried" "_law_tried" (defArgs s_law_tried) (defBody s_law_tried) (defScope s_law_tried) .none kV18 dc18 pm18 an18 cd18 ct18), sl18⟩)
    (c18 : PySem.W.codeIn K cd18 "_law_tried" = true)
    (k18 : PySem.W.keepIn K (.ref f18) = true)
    (aDE : PySem.W.nsIn K mainGlobals "DrawError" = some (some (.ref DE)))
    (aVE : PySem.W.nsIn K mainGlobals "ValueError" = some none)
    (deC : PySem.W.subIn K (.ref DE) (.type "BaseException") = some true)
    (dsC : PySem.W.isClsIn K DE = true)
    (dtC : PySem.W.typeIn K (.ref DE) = some (.type "type"))
    (aB0 : PySem.W.nsIn K mainGlobals "BadKinds" = some (some (.ref B0)))
    (xL0 : K.lookup B0 = some (excClassObj nm0 q0 B0 N0 bs0 [.ref DE, .type "ValueError", .type "Exception", .type "BaseException", .type "object"] true sn0 sub0 ab0 col0 dd0 m00 m10 m20 m30 m50 "ValueError.__new__"))
    (xsa0 : PySem.W.findIn K (.ref B0) "__setattr__" = some (some (.builtin "object.__setattr__")))
    (xga0 : PySem.W.findIn K (.ref B0) "__getattribute__" = some (some (.builtin "BaseException.__getattribute__")))
    (xgg0 : PySem.W.findIn K (.ref B0) "__getattr__" = some none)
    (xca0 : PySem.W.findIn K (.ref B0) "__class__" = some (some (.builtin "object.__class__")))
    (xmo0 : PySem.W.mroIn K B0 (.type "object") = some true)
    (xmv0 : PySem.W.mroIn K B0 (.type "ValueError") = some true)
    (xis0 : PySem.W.isClsIn K B0 = true)
    (xiB0 : PySem.W.findIn K (.ref B0) "__init__" = some (some (.ref fX0)))
    (xtf0 : PySem.W.typeIn K (.ref fX0) = some (.type "function"))
    (lX0 : K.lookup fX0 = some ⟨ocX0, odX0, .func (PySem.W.fnOf "__init__" "BadKinds.__init__" (defArgs s_BadKinds___init) (defBody s_BadKinds___init) (defScope s_BadKinds___init) .none kVX0 dcX0 pmX0 anX0 cdX0 ctX0), slX0⟩)
    (cX0 : PySem.W.codeIn K cdX0 "BadKinds.__init__" = true)
    (kX0 : PySem.W.keepIn K (.ref fX0) = true)
    (xkC0 : PySem.W.keepIn K (.ref B0) = true)
    (xfn0 : PySem.W.findIn K (.ref B0) "part" = some none)
    (xhd0 : PySem.W.hasDictIn K B0 = true)
    (xeC0 : PySem.W.subIn K (.ref B0) (.type "BaseException") = some true)
    (xtC0 : PySem.W.typeIn K (.ref B0) = some (.type "type"))
    (dbC0 : PySem.W.subIn K (.ref B0) (.ref DE) = some true)
    (dss0 : PySem.W.subIn K (.ref B0) (.ref B0) = some true)
    (pg : PySem.W.plainGet K C Str.empty = true)
    (hd : PySem.W.hasDictIn K C = true)
    (po : PySem.W.plainOver K C = true)
    (sa : PySem.W.findIn K (.ref C) "__setattr__" = some (some (.builtin "object.__setattr__")))
    (mk : PySem.W.makesIn K C = true)
    (kc : PySem.W.keepIn K (.ref C) = true)
    (tha : PySem.W.findIn K (.ref C) "__class__" = some (some (.builtin "object.__class__")))
    (thn : PySem.W.specialIn K (.builtin "object.__class__") "__get__" = some (some (.builtin "getset_descriptor.__get__")))
    (thk : PySem.W.takesIn K (.builtin "object.__class__") = some true)
    (thm : PySem.W.mroIn K C (.type "object") = some true)
    (tne : PySem.W.findIn K (.ref C) "__ne__" = some (some (.builtin "object.__ne__")))
    (n_rows : PySem.W.findIn K (.ref C) "rows" = some none)
    (n_size : PySem.W.findIn K (.ref C) "size" = some none)
    (n_people : PySem.W.findIn K (.ref C) "people" = some none)
    (n_things : PySem.W.findIn K (.ref C) "things" = some none)
    (n_allowed : PySem.W.findIn K (.ref C) "allowed" = some none)
    (kI : PySem.W.mroIn K C (.type "int") = some false)
    (kB : PySem.W.mroIn K C (.type "bool") = some false)
    (kT : PySem.W.mroIn K C (.type "tuple") = some false)
    (kS : PySem.W.mroIn K C (.type "str") = some false)
    (kL : PySem.W.mroIn K C (.type "list") = some false)
    (c_hMK : PySem.W.nsIn K mainGlobals "MOST_KINDS" = some (some (.int 8 tkhMK)))
    (c_hMA : PySem.W.nsIn K mainGlobals "MOST_OF_A_KIND" = some (some (.int 1000000000000000000000000000000 tkhMA)))
    (z_len : PySem.W.nsIn K mainGlobals "len" = some none)
    (z_list : PySem.W.nsIn K mainGlobals "list" = some none)
    (z_range : PySem.W.nsIn K mainGlobals "range" = some none)
    (z_tuple : PySem.W.nsIn K mainGlobals "tuple" = some none)
    (z_sorted : PySem.W.nsIn K mainGlobals "sorted" = some none)
    (z_int : PySem.W.nsIn K mainGlobals "int" = some none)
    (z_min : PySem.W.nsIn K mainGlobals "min" = some none)
    (z_isinstance : PySem.W.nsIn K mainGlobals "isinstance" = some none)
    (z_all : PySem.W.nsIn K mainGlobals "all" = some none)
    (z_enumerate : PySem.W.nsIn K mainGlobals "enumerate" = some none)
    (z_zip : PySem.W.nsIn K mainGlobals "zip" = some none)
    (z_set : PySem.W.nsIn K mainGlobals "set" = some none)
    (z_repr : PySem.W.nsIn K mainGlobals "repr" = some none)
    (z_str : PySem.W.nsIn K mainGlobals "str" = some none)
    (z_bool : PySem.W.nsIn K mainGlobals "bool" = some none)
    (z_sum : PySem.W.nsIn K mainGlobals "sum" = some none)
    (z_abs : PySem.W.nsIn K mainGlobals "abs" = some none)
    (z_max : PySem.W.nsIn K mainGlobals "max" = some none)
    (htyC : PySem.W.typeIn K (.ref C) = some (.type "type")) :
    ∃ fd : FuncData, (∀ (s : Shared) (v : Value), BindsTo s fd ⟨[v], []⟩ [("script", v)]) ∧ ∀ base : Heap, K.In base → base.Ns mainGlobals mg → FnG l.prog w K mg base 10 fa fd ["script"] (spLaw K) := by
  have e := hfa.symm.trans (PySem.W.mg_of X G aL)
  cases e
  have T : Tx mg := ⟨PySem.W.mg_none_of X G z_len, PySem.W.mg_none_of X G z_list, PySem.W.mg_none_of X G z_range, PySem.W.mg_none_of X G z_tuple, PySem.W.mg_none_of X G z_sorted, PySem.W.mg_none_of X G z_int, PySem.W.mg_none_of X G z_min, PySem.W.mg_none_of X G z_isinstance, PySem.W.mg_none_of X G z_all, PySem.W.mg_none_of X G z_enumerate, PySem.W.mg_none_of X G z_zip, PySem.W.mg_none_of X G z_set, PySem.W.mg_none_of X G z_repr, PySem.W.mg_none_of X G z_str, PySem.W.mg_none_of X G z_bool⟩
  have tc : TC K C := ⟨⟨pg, hd, po, sa⟩, tha, thn, thk, thm, tne, n_rows, n_size, kit_own (by decide +kernel) kI, kit_own (by decide +kernel) kB, kit_own (by decide +kernel) kT, kit_own (by decide +kernel) kS, kit_own (by decide +kernel) kL⟩
  have kcC : KC K C := ⟨tc, n_people, n_things, n_allowed⟩
  exact ⟨PySem.W.fnOf "law" "law" (defArgs s_law) (defBody s_law) (defScope s_law) .none kV3 dc3 pm3 an3 cd3 ct3, fun s v => .of_eq rfl, fun base _ _ =>
    compose T kcC htyC (PySem.W.mg_none_of X G z_sum) (PySem.W.mg_none_of X G z_abs) (PySem.W.mg_none_of X G z_max) (PySem.W.mg_of X G aC) (PySem.W.mg_of X G c_hMK) (PySem.W.mg_of X G c_hMA) ⟨PySem.W.mg_of X G aDE, PySem.W.mg_none_of X G aVE, (all_cons (PySem.W.mg_of X G aB0) all_nil), (all_cons (exm_own deC dsC dtC dbC0) all_nil), (all_cons ⟨xis0, xga0, xgg0, xeC0, xca0, thn, thk, xmo0⟩ all_nil), (all_cons (all_cons (kit_self.trans (congrArg some (decide_eq_true rfl).symm)) all_nil) all_nil), (all_cons (kit_own (by decide +kernel) xmv0) all_nil)⟩ ⟨(all_cons (all_cons ((exm_gen xeC0 xis0 xtC0 dss0).trans (congrArg some (decide_eq_true rfl).symm)) all_nil) all_nil)⟩ ⟨⟨nm0, q0, N0, bs0, _, sn0, sub0, ab0, col0, dd0, m00, m10, m20, m30, m50, xL0, (show PySem.HandSPX.refsVE [.type "ValueError", .type "Exception", .type "BaseException", .type "object"] = true by decide +kernel)⟩, xsa0, xeC0, xtC0, xkC0⟩ (PySem.W.mg_of X G aB0) xiB0 xtf0 (fun_mk (st := s_BadKinds___init) lX0 cX0 kX0) xfn0 ⟨xga0, xgg0, xeC0, xhd0⟩ ⟨mk, aI, iI, kc⟩ (fun_mk (st := s_Kinds___init) l1 c1 k1) aE iE (fun_mk (st := s_Kinds___eq) l2 c2 k2)
      (at_mk (ps := ["thing"]) X G a4 l4 c4 k4 fun _ _ _ _ _ _ us hl => match us, hl with | [_], _ => rfl)
      (at_mk (ps := ["least", "thing"]) X G a5 l5 c5 k5 fun _ _ _ _ _ _ us hl => match us, hl with | [_, _], _ => rfl)
      (at_mk (ps := ["bound", "thing"]) X G a6 l6 c6 k6 fun _ _ _ _ _ _ us hl => match us, hl with | [_, _], _ => rfl)
      (at_mk (ps := ["bound", "thing"]) X G a7 l7 c7 k7 fun _ _ _ _ _ _ us hl => match us, hl with | [_, _], _ => rfl)
      (at_mk (ps := ["bound", "thing"]) X G a8 l8 c8 k8 fun _ _ _ _ _ _ us hl => match us, hl with | [_, _], _ => rfl)
      (at_mk (ps := ["people", "things", "allowed"]) X G a9 l9 c9 k9 fun _ _ _ _ _ _ us hl => match us, hl with | [_, _, _], _ => rfl)
      (at_mk (ps := ["script"]) X G a10 l10 c10 k10 fun _ _ _ _ _ _ us hl => match us, hl with | [_], _ => rfl)
      (at_mk (ps := ["pool", "many"]) X G a11 l11 c11 k11 fun _ _ _ _ _ _ us hl => match us, hl with | [_, _], _ => rfl)
      (at_mk (ps := ["pool"]) X G a12 l12 c12 k12 fun _ _ _ _ _ _ us hl => match us, hl with | [_], _ => rfl)
      (at_mk (ps := ["pool", "parts"]) X G a13 l13 c13 k13 fun _ _ _ _ _ _ us hl => match us, hl with | [_, _], _ => rfl)
      (at_mk (ps := ["thing"]) X G a14 l14 c14 k14 fun _ _ _ _ _ _ us hl => match us, hl with | [_], _ => rfl)
      (at_mk (ps := ["thing"]) X G a15 l15 c15 k15 fun _ _ _ _ _ _ us hl => match us, hl with | [_], _ => rfl)
      (at_mk (ps := ["thing", "many"]) X G a16 l16 c16 k16 fun _ _ _ _ _ _ us hl => match us, hl with | [_, _], _ => rfl)
      (at_mk (ps := ["parts"]) X G a17 l17 c17 k17 fun _ _ _ _ _ _ us hl => match us, hl with | [_], _ => rfl)
      (at_mk (ps := ["parts"]) X G a18 l18 c18 k18 fun _ _ _ _ _ _ us hl => match us, hl with | [_], _ => rfl)
      (fun_mk (st := s_law) l3 c3 k3)⟩
theorem walk {l : PySem.W.OpenLaw} {q : Program} {loose : List Str} {XP : (Str → Option Value) → Heap → Prop} {YP : World → Heap → Prop} {d : DefRec} {K : Params → PySem.W.Frag} (hn : l.most = some 63) (hdf : d.params.defaults = [])
    (hY : ∀ (w : World) (h : Heap), YP w h → (K w.params).In h)
    (F : ∀ (w : World) (mg : Str → Option Value) (fa : Addr) (h : Heap), (K w.params).In h → h.Ns mainGlobals mg → mg d.name = some (.ref fa) →
      ∃ fd : FuncData, (∀ (s : Shared) (u : Value), BindsTo s fd ⟨[u], []⟩ [("script", u)]) ∧ ∀ base : Heap, (K w.params).In base → base.Ns mainGlobals mg → FnG l.prog w (K w.params) mg base 10 fa fd ["script"] (spLaw (K w.params))) :
    PySem.W.WalkO q loose XP YP l.row.toRowW d [] (fun f vs => PySem.call f vs) :=
  walk_ofG (n := 63) (k := 10) (x := "script") (sp := fun w => spLaw (K w.params)) hn (by decide) hdf ⟨rfl, by decide, by decide⟩ hY F fun _ _ a ns hl _ hS => ⟨a, ns, rfl, hS, hl, fun _ => rfl⟩
end Fo
open PySem PySem.W PyProof.Rows in
set_option maxRecDepth 100000 in
set_option maxHeartbeats 0 in
theorem PySem.Challenge.cw_fullorring_k78_kinds_judged_holds : PySem.Challenge.rw_fullorring_k78_kinds_judged.Holds := by
  w_on; o_law; k_head; (case hw => w_witness2)
  k_fill
  refine Fo.walk (l := PySem.Challenge.rw_fullorring_k78_kinds_judged) rfl rfl (fun w h Y => PySem.W.kIn_of Y) ?F
  case F =>
    intro w mg fa h KX G hmg
    refine' Fo.all_mk KX G hmg ?aC ?aI ?iI ?l1 ?c1 ?k1 ?aE ?iE ?l2 ?c2 ?k2 ?aL ?l3 ?c3 ?k3 ?a4 ?l4 ?c4 ?k4 ?a5 ?l5 ?c5 ?k5 ?a6 ?l6 ?c6 ?k6 ?a7 ?l7 ?c7 ?k7 ?a8 ?l8 ?c8 ?k8 ?a9 ?l9 ?c9 ?k9 ?a10 ?l10 ?c10 ?k10 ?a11 ?l11 ?c11 ?k11 ?a12 ?l12 ?c12 ?k12 ?a13 ?l13 ?c13 ?k13 ?a14 ?l14 ?c14 ?k14 ?a15 ?l15 ?c15 ?k15 ?a16 ?l16 ?c16 ?k16 ?a17 ?l17 ?c17 ?k17 ?a18 ?l18 ?c18 ?k18 ?aDE ?aVE ?deC ?dsC ?dtC ?aB0 ?xL0 ?xsa0 ?xga0 ?xgg0 ?xca0 ?xmo0 ?xmv0 ?xis0 ?xiB0 ?xtf0 ?lX0 ?cX0 ?kX0 ?xkC0 ?xfn0 ?xhd0 ?xeC0 ?xtC0 ?dbC0 ?dss0 ?pg ?hd ?po ?sa ?mk ?kc ?tha ?thn ?thk ?thm ?tne ?n_rows ?n_size ?n_people ?n_things ?n_allowed ?kI ?kB ?kT ?kS ?kL ?c_hMK ?c_hMA ?z_len ?z_list ?z_range ?z_tuple ?z_sorted ?z_int ?z_min ?z_isinstance ?z_all ?z_enumerate ?z_zip ?z_set ?z_repr ?z_str ?z_bool ?z_sum ?z_abs ?z_max ?htyC
    (case aC => k_is)
    (case aI => k_is)
    (case iI => k_is)
    (case l1 => k_is)
    (case c1 => k_is)
    (case k1 => k_is)
    (case aE => k_is)
    (case iE => k_is)
    (case l2 => k_is)
    (case c2 => k_is)
    (case k2 => k_is)
    (case aL => k_is)
    (case l3 => k_is)
    (case c3 => k_is)
    (case k3 => k_is)
    (case a4 => k_is)
    (case l4 => k_is)
    (case c4 => k_is)
    (case k4 => k_is)
    (case a5 => k_is)
    (case l5 => k_is)
    (case c5 => k_is)
    (case k5 => k_is)
    (case a6 => k_is)
    (case l6 => k_is)
    (case c6 => k_is)
    (case k6 => k_is)
    (case a7 => k_is)
    (case l7 => k_is)
    (case c7 => k_is)
    (case k7 => k_is)
    (case a8 => k_is)
    (case l8 => k_is)
    (case c8 => k_is)
    (case k8 => k_is)
    (case a9 => k_is)
    (case l9 => k_is)
    (case c9 => k_is)
    (case k9 => k_is)
    (case a10 => k_is)
    (case l10 => k_is)
    (case c10 => k_is)
    (case k10 => k_is)
    (case a11 => k_is)
    (case l11 => k_is)
    (case c11 => k_is)
    (case k11 => k_is)
    (case a12 => k_is)
    (case l12 => k_is)
    (case c12 => k_is)
    (case k12 => k_is)
    (case a13 => k_is)
    (case l13 => k_is)
    (case c13 => k_is)
    (case k13 => k_is)
    (case a14 => k_is)
    (case l14 => k_is)
    (case c14 => k_is)
    (case k14 => k_is)
    (case a15 => k_is)
    (case l15 => k_is)
    (case c15 => k_is)
    (case k15 => k_is)
    (case a16 => k_is)
    (case l16 => k_is)
    (case c16 => k_is)
    (case k16 => k_is)
    (case a17 => k_is)
    (case l17 => k_is)
    (case c17 => k_is)
    (case k17 => k_is)
    (case a18 => k_is)
    (case l18 => k_is)
    (case c18 => k_is)
    (case k18 => k_is)
    (case aDE => k_is)
    (case aVE => k_is)
    (case deC => k_is)
    (case dsC => k_is)
    (case dtC => k_is)
    (case aB0 => k_is)
    (case xL0 => k_is)
    (case xsa0 => k_is)
    (case xga0 => k_is)
    (case xgg0 => k_is)
    (case xca0 => k_is)
    (case xmo0 => k_is)
    (case xmv0 => k_is)
    (case xis0 => k_is)
    (case xiB0 => k_is)
    (case xtf0 => k_is)
    (case lX0 => k_is)
    (case cX0 => k_is)
    (case kX0 => k_is)
    (case xkC0 => k_is)
    (case xfn0 => k_is)
    (case xhd0 => k_is)
    (case xeC0 => k_is)
    (case xtC0 => k_is)
    (case dbC0 => k_is)
    (case dss0 => k_is)
    (case pg => k_is)
    (case hd => k_is)
    (case po => k_is)
    (case sa => k_is)
    (case mk => k_is)
    (case kc => k_is)
    (case tha => k_is)
    (case thn => k_is)
    (case thk => k_is)
    (case thm => k_is)
    (case tne => k_is)
    (case n_rows => k_is)
    (case n_size => k_is)
    (case n_people => k_is)
    (case n_things => k_is)
    (case n_allowed => k_is)
    (case kI => k_is)
    (case kB => k_is)
    (case kT => k_is)
    (case kS => k_is)
    (case kL => k_is)
    (case c_hMK => k_is)
    (case c_hMA => k_is)
    (case z_len => k_is)
    (case z_list => k_is)
    (case z_range => k_is)
    (case z_tuple => k_is)
    (case z_sorted => k_is)
    (case z_int => k_is)
    (case z_min => k_is)
    (case z_isinstance => k_is)
    (case z_all => k_is)
    (case z_enumerate => k_is)
    (case z_zip => k_is)
    (case z_set => k_is)
    (case z_repr => k_is)
    (case z_str => k_is)
    (case z_bool => k_is)
    (case z_sum => k_is)
    (case z_abs => k_is)
    (case z_max => k_is)
    (case htyC => k_is)
