import PyProof.Rows.All
import Wide.All
import OpenK.AllK
import Wide.FinOn
import HandS.ForMost
import HandS.OwnEq
import HandS.SortInts
import HandS.TupAny
import HandS.IsInst
import HandS.Flow
import HandS.Zip
import HandS.TupSets
import KE.GoesEnum
import PyProof.InstNe
import HandS.Conv
import HandS.Star
import HandS.Evl
import HandS.RaiseMore
import PyProof.ReprLen
import HandS.Codes
import HandS.Wide
import HandS.ExcInit
import HandS.ExcIs
import HandS.ExcField
import HandS.ForExc
import KE.KExcIs
import HandS.Words
import HandS.TryOnly
import PySem.Challenge.RW_fullorring_k00_errors_and_their_fields
set_option Elab.async false
set_option maxRecDepth 100000
set_option maxHeartbeats 2000000
namespace PySem
open Sem (wp)
end PySem
namespace L2
open PySem PySem.Spec PyProof.Rows
end L2
set_option maxRecDepth 100000
set_option maxHeartbeats 2000000
namespace Fo
open PySem PySem.Spec PyProof.Rows L2
structure At (K : PySem.W.Frag) (mg : Str → Option Value) (x : Str) (st : Stmt) (ps : List Str) : Prop where
  ex : ∃ f fd, mg x = some (.ref f) ∧ Fun K x x st f fd ∧ Binds K fd ps []
structure Dfn (P : Program) (w : World) (K : PySem.W.Frag) (mg : Str → Option Value) (base : Heap) (x : Str) (ps : List Str) (k : Nat) (sp : Sp) : Prop where
  ex : ∃ f fd, mg x = some (.ref f) ∧ PySem.W.keepIn K (.ref f) = true ∧ FnOk P w K mg base CX0 k f fd ps sp ∧ Binds K fd ps []
structure Tx (mg : Str → Option Value) : Prop where
  len : mg "len" = none
  list : mg "list" = none
  range : mg "range" = none
  tuple : mg "tuple" = none
  sorted : mg "sorted" = none
  int : mg "int" = none
  min : mg "min" = none
  isinstance : mg "isinstance" = none
  all : mg "all" = none
  enumerate : mg "enumerate" = none
  zip : mg "zip" = none
  set : mg "set" = none
  repr : mg "repr" = none
  str : mg "str" = none
  bool : mg "bool" = none
section
variable {P : Program} {w : World} {K : PySem.W.Frag} {mg : Str → Option Value} {base : Heap}
theorem At.ok {x : Str} {st : Stmt} {N ps : List Str} {k : Nat} {sp : Sp} (a : At K mg x st ps) (S : FnScope N ps (defScope st)) (len : ∀ vs H Q E, sp vs H Q E → vs.length = ps.length)
    (hbody : ∀ (f : Addr) (cdv : Value) (A : Around) (outer : List Env) (s : Shared) (H : Hp) (vs : List V) (Q : VK) (E : XK), Room k (A.deeper (envOfC x (defScope st) s.heap.objs.size f cdv)) → sp vs H Q E →
      ∃ t, PSs (cxOf CX0 P w K mg base N x (defScope st) f cdv A outer s H E).nox (defBody st) t ∧ t { nx := fun _ H' => Q .non H', rt := Q } (start N vs) H) : Dfn P w K mg base x ps (k + 1) sp := by
  obtain ⟨f, fd, hm, F, b⟩ := a.ex
  exact ⟨f, fd, hm, F.kp, F.ok S len (hbody f), b⟩
theorem pe_d {X : Cx} {x : Str} {ps : List Str} {k : Nat} {sp : Sp} {e : Expr} {es : List Expr} {t : TA} {p pos : Pos} (G : Dfn X.prog X.w X.K X.mg X.base x ps k sp) (hr : Room k X.A) (ha : PA X (e :: es) t) (hg : Gl X x := by rfl)
    (hdb : (x == ("__debug__" : Str)) = false := by decide) (he : starEach (e :: es) X.env = (false, eval e X.env) :: starEach es X.env := by rfl) (hpl : (backTo pos (starEach es X.env)).any (·.1) = false := by rfl) :
    PE X (.Call (.Name x p) (e :: es) [] pos) (tCall sp [] E0 t) := by
  obtain ⟨f, fd, hm, kp, F, b⟩ := G.ex
  exact pe_call F hr hg hm kp b .nil pass0 ha hdb he hpl
theorem pe_d0 {X : Cx} {x : Str} {ps : List Str} {k : Nat} {sp : Sp} {p pos : Pos} (G : Dfn X.prog X.w X.K X.mg X.base x ps k sp) (hr : Room k X.A) (hg : Gl X x := by rfl)
    (hdb : (x == ("__debug__" : Str)) = false := by decide) :
    PE X (.Call (.Name x p) [] [] pos) (fun _ H Q => sp [] H Q E0) := by
  obtain ⟨f, fd, hm, kp, F, b⟩ := G.ex
  exact pe_call0 F hr hg hm kp b .nil pass0 hdb
end
/-- all but what stands at t is kept -/
def Gr (t : Addr) (H H' : Hp) : Prop := ∀ a o, a ≠ t → H a = some o → H' a = some o
theorem Gr.refl {t : Addr} (H : Hp) : Gr t H H := fun _ _ _ h => h
theorem Gr.trans {t : Addr} {H H1 H2 : Hp} (a : Gr t H H1) (b : Gr t H1 H2) : Gr t H H2 := fun c o n h => b c o n (a c o n h)
theorem Gr.new {t : Addr} {H : Hp} {p : Addr} {o : HO} (h : H p = none) : Gr t H (upd H p o) := fun a u _ e => by
  rw [upd_ne (ne_of_none e h)]
  exact e
theorem Gr.put {t : Addr} {H : Hp} {o : HO} : Gr t H (upd H t o) := fun a u n e => by
  rw [upd_ne n]
  exact e
theorem Gr.of {t : Addr} {H H' : Hp} (e : Same H H') : Gr t H H' := fun a o _ h => e a o h
theorem Gr.free {t : Addr} {H H' : Hp} (g : Gr t H H') (ht : H' t ≠ none) {p : Addr} (h : H' p = none) : H p = none := by
  cases q : H p with
  | none => rfl
  | some o =>
    have hne : p ≠ t := fun z => ht (z ▸ h)
    rw [g p o hne q] at h
    cases h
theorem same_new {H : Hp} {p : Addr} {o : HO} (h : H p = none) : Same H (upd H p o) := fun a u e => by
  rw [upd_ne (ne_of_none e h)]
  exact e
/-- an object that H does not know may change -/
theorem same_mut {H H' : Hp} {p : Addr} {o : HO} (e : Same H H') (h : H p = none) : Same H (upd H' p o) := fun a u ha => by
  rw [upd_ne (ne_of_none ha h)]
  exact e a u ha
theorem gr_mut {t : Addr} {H H' : Hp} {p : Addr} {o : HO} (e : Gr t H H') (h : H p = none) : Gr t H (upd H' p o) := fun a u n ha => by
  rw [upd_ne (ne_of_none ha h)]
  exact e a u n ha
theorem sqT_same {K : PySem.W.Frag} {H H' : Hp} {a : Addr} {xs : List V} (e : Same H H') (h : SqT K H a xs) : SqT K H' a xs := by
  rcases h with (h | ⟨o, h⟩) | h
  · exact .inl (.inl (e _ _ h))
  · exact .inl (.inr ⟨o, e _ _ h⟩)
  · exact .inr h
def Tape (H : Hp) (t l : Addr) : Prop := ∃ (ns : List Int) (b c d e : Int), H t = some (.lst [.ref l, .int b, .int c, .int d, .int e]) ∧ H l = some (.lst (ns.map V.int)) ∧ 0 ≤ b
theorem ints_ne (ns : List Int) (l : Addr) (r : List V) : (HO.lst (ns.map V.int)) ≠ .lst (.ref l :: r) := by
  intro q
  cases ns with
  | nil => injection q with q; cases q
  | cons x r => injection q with q; injection q with q; cases q
theorem Tape.there {H : Hp} {t l : Addr} (T : Tape H t l) : H t ≠ none := by
  obtain ⟨ns, b, c, d, e, h, _⟩ := T
  rw [h]
  exact fun z => nomatch z
theorem Tape.keep {H H' : Hp} {t l : Addr} (T : Tape H t l) (g : Same H H') : Tape H' t l := by
  obtain ⟨ns, b, c, d, e, h, hl, hb⟩ := T
  exact ⟨ns, b, c, d, e, g _ _ h, g _ _ hl, hb⟩
/-- what is new is neither of the tape's two -/
theorem Tape.free {H : Hp} {t l a : Addr} (T : Tape H t l) (h : H a = none) : a ≠ t ∧ a ≠ l := by
  obtain ⟨ns, b, c, d, e, ht, hl, hb⟩ := T
  exact ⟨(ne_of_none ht h).symm, (ne_of_none hl h).symm⟩
theorem Tape.new {H : Hp} {t l a : Addr} {o : HO} (T : Tape H t l) (h : H a = none) : Tape (upd H a o) t l := T.keep (same_new h)
/-- other objects than the tape's own may change -/
theorem Tape.mut {H : Hp} {t l a : Addr} {u : HO} (T : Tape H t l) (n : a ≠ t ∧ a ≠ l) : Tape (upd H a u) t l := by
  obtain ⟨ns, b, c, d, e, ht, hl, hb⟩ := T
  exact ⟨ns, b, c, d, e, by rw [upd_ne n.1.symm]; exact ht, by rw [upd_ne n.2.symm]; exact hl, hb⟩
theorem Tape.ne_ints' {H : Hp} {t l a : Addr} {ns : List Int} (T : Tape H t l) (h : H a = some (.lst (ns.map V.int))) : a ≠ t := by
  obtain ⟨ms, b, c, d, e, ht, hl, hb⟩ := T
  exact ne_of h ht (ints_ne _ _ _)
theorem Gr.fresh {t l : Addr} {H H' : Hp} (g : Gr t H H') (T : Tape H' t l) {p : Addr} (h : H' p = none) : H p = none := g.free T.there h
abbrev dI (ns : List Int) : PyData := .tuple (ns.map .int)
abbrev dR (rows : List (List Int)) : PyData := .tuple (rows.map dI)
theorem dpAll_ints {K : PySem.W.Frag} {H : Hp} : ∀ (ns : List Int), DpAll K H (ns.map V.int) (ns.map .int)
  | [] => .nil
  | n :: r => .cons (.int n) (dpAll_ints r)
theorem ints_dpAll {K : PySem.W.Frag} {H : Hp} : ∀ {ns : List Int} {vs : List V}, DpAll K H vs (ns.map .int) → vs = ns.map V.int
  | [], _, .nil => rfl
  | n :: r, _, .cons (.int _) h => by rw [ints_dpAll h]; rfl
theorem dp_tup {K : PySem.W.Frag} {H : Hp} {v : V} {ds : List PyData} (h : Dp K H v (.tuple ds)) : ∃ a xs, v = .ref a ∧ SqT K H a xs ∧ DpAll K H xs ds := by
  cases h with
  | tup h r => exact ⟨_, _, rfl, h, r⟩
theorem dp_row {K : PySem.W.Frag} {H : Hp} {v : V} {ns : List Int} (h : Dp K H v (dI ns)) : ∃ a, v = .ref a ∧ SqT K H a (ns.map V.int) := by
  obtain ⟨a, xs, e, h, r⟩ := dp_tup h
  rw [ints_dpAll r] at h
  exact ⟨a, e, h⟩
theorem dp_rowI {K : PySem.W.Frag} {H : Hp} {a : Addr} {ns : List Int} (h : SqT K H a (ns.map V.int)) : Dp K H (.ref a) (dI ns) := .tup h (dpAll_ints ns)
/-- tuples are not changed by what changes at t -/
theorem gr_T {t l : Addr} {K : PySem.W.Frag} {H H' : Hp} (g : Gr t H H') (T : Tape H t l) {a : Addr} {xs : List V} (h : SqT K H a xs) : SqT K H' a xs := by
  obtain ⟨ns, b, c, d, e, ht, hl, hb⟩ := T
  rcases h with (h | ⟨o, h⟩) | h
  · exact .inl (.inl (g _ _ (ne_of h ht (by intro z; cases z)) h))
  · exact .inl (.inr ⟨o, g _ _ (ne_of h ht (by intro z; cases z)) h⟩)
  · exact .inr h
inductive RowsT (K : PySem.W.Frag) (H : Hp) : List V → List (List Int) → Prop where
  | nil : RowsT K H [] []
  | cons {a : Addr} {vs : List V} {r : List Int} {rs : List (List Int)} : SqT K H a (r.map V.int) → RowsT K H vs rs → RowsT K H (.ref a :: vs) (r :: rs)
theorem rowsT_dp {K : PySem.W.Frag} {H : Hp} : ∀ {vs : List V} {rs : List (List Int)}, RowsT K H vs rs → DpAll K H vs (rs.map dI)
  | _, _, .nil => .nil
  | _, _, .cons h r => .cons (dp_rowI h) (rowsT_dp r)
theorem dp_rowsT {K : PySem.W.Frag} {H : Hp} : ∀ {rs : List (List Int)} {vs : List V}, DpAll K H vs (rs.map dI) → RowsT K H vs rs
  | [], _, .nil => .nil
  | r :: rs, _, .cons h t => by
    obtain ⟨a, rfl, q⟩ := dp_row h
    exact .cons q (dp_rowsT t)
theorem RowsT.gr {t l : Addr} {K : PySem.W.Frag} {H H' : Hp} (g : Gr t H H') (T : Tape H t l) : ∀ {vs : List V} {rs : List (List Int)}, RowsT K H vs rs → RowsT K H' vs rs
  | _, _, .nil => .nil
  | _, _, .cons h r => .cons (gr_T g T h) (r.gr g T)
theorem RowsT.same {K : PySem.W.Frag} {H H' : Hp} (g : Same H H') : ∀ {vs : List V} {rs : List (List Int)}, RowsT K H vs rs → RowsT K H' vs rs
  | _, _, .nil => .nil
  | _, _, .cons h r => .cons (sqT_same g h) (r.same g)
theorem RowsT.len {K : PySem.W.Frag} {H : Hp} : ∀ {vs : List V} {rs : List (List Int)}, RowsT K H vs rs → vs.length = rs.length
  | _, _, .nil => rfl
  | _, _, .cons _ r => by rw [List.length_cons, List.length_cons, r.len]
theorem RowsT.snoc {K : PySem.W.Frag} {H : Hp} {a : Addr} {r : List Int} (h : SqT K H a (r.map V.int)) : ∀ {vs : List V} {rs : List (List Int)}, RowsT K H vs rs → RowsT K H (vs ++ [.ref a]) (rs ++ [r])
  | _, _, .nil => .cons h .nil
  | _, _, .cons q t => .cons q (t.snoc h)
theorem RowsT.get {K : PySem.W.Frag} {H : Hp} : ∀ {vs : List V} {rs : List (List Int)} {i : Nat} {r : List Int}, RowsT K H vs rs → rs[i]? = some r → ∃ a, vs[i]? = some (.ref a) ∧ SqT K H a (r.map V.int)
  | _, _, _, _, .nil, e => by simp at e
  | _, _, 0, _, .cons h _, e => by simp at e; subst e; exact ⟨_, rfl, h⟩
  | _, _, i + 1, r, .cons _ t, e => by
    obtain ⟨a, h1, h2⟩ := t.get (i := i) (r := r) (by simpa using e)
    exact ⟨a, by simpa using h1, h2⟩
/-- rows that stand as a tuple at a -/
def RowsAt (K : PySem.W.Frag) (H : Hp) (v : V) (rows : List (List Int)) : Prop := ∃ a vs, v = .ref a ∧ SqT K H a vs ∧ RowsT K H vs rows
theorem RowsAt.gr {t l : Addr} {K : PySem.W.Frag} {H H' : Hp} {v : V} {rows : List (List Int)} (h : RowsAt K H v rows) (g : Gr t H H') (T : Tape H t l) : RowsAt K H' v rows := by
  obtain ⟨a, vs, e, h1, h2⟩ := h
  exact ⟨a, vs, e, gr_T g T h1, h2.gr g T⟩
theorem RowsAt.same {K : PySem.W.Frag} {H H' : Hp} {v : V} {rows : List (List Int)} (h : RowsAt K H v rows) (g : Same H H') : RowsAt K H' v rows := by
  obtain ⟨a, vs, e, h1, h2⟩ := h
  exact ⟨a, vs, e, sqT_same g h1, h2.same g⟩
theorem RowsAt.dp {K : PySem.W.Frag} {H : Hp} {v : V} {rows : List (List Int)} (h : RowsAt K H v rows) : Dp K H v (dR rows) := by
  obtain ⟨a, vs, rfl, h1, h2⟩ := h
  exact .tup h1 (rowsT_dp h2)
theorem RowsAt.of {K : PySem.W.Frag} {H : Hp} {v : V} {rows : List (List Int)} (h : Dp K H v (dR rows)) : RowsAt K H v rows := by
  obtain ⟨a, vs, rfl, h1, h2⟩ := dp_tup h
  exact ⟨a, vs, rfl, h1, dp_rowsT h2⟩
theorem atI_lt {α : Type} {xs : List α} {i : Int} (h0 : 0 ≤ i) (h1 : i < xs.length) : ∃ x, atI xs i = some x ∧ xs[i.toNat]? = some x := by
  have h : i.toNat < xs.length := by omega
  refine ⟨xs[i.toNat], ?_, List.getElem?_eq_getElem h⟩
  have q : atI xs ((i.toNat : Nat) : Int) = some xs[i.toNat] := atI_nat (List.getElem?_eq_getElem h)
  rw [← q]
  exact congrArg _ (by omega)
theorem map_atI {i : Int} {ns : List Int} (h0 : 0 ≤ i) (h1 : i < ns.length) : ∃ x, x ∈ ns ∧ atI (ns.map V.int) i = some (.int x) := by
  obtain ⟨x, h, g⟩ := atI_lt (xs := ns.map V.int) h0 (by rw [List.length_map]; exact h1)
  rw [List.getElem?_map] at g
  cases e : ns[i.toNat]? with
  | none => rw [e] at g; cases g
  | some y =>
    rw [e] at g
    have : V.int y = x := Option.some.inj g
    subst this
    exact ⟨y, List.mem_of_getElem? e, h⟩
def rLenS (K : PySem.W.Frag) : List V → Hp → VK → Prop := fun xs H Q => ∃ p ys, xs = [.ref p] ∧ (SqL K H p ys ∨ SqT K H p ys) ∧ Q (.int ys.length) H
theorem c_len {X : Cx} : CallR X (.builtin "len") (rLenS X.K) := call_len_seq
def rListOf (K : PySem.W.Frag) : List V → Hp → VK → Prop := fun xs H Q => ∃ p ys, xs = [.ref p] ∧ (SqL K H p ys ∨ SqT K H p ys) ∧ ∀ l, H l = none → Q (.ref l) (upd H l (.lst ys))
theorem c_list {X : Cx} : CallR X (.type "list") (rListOf X.K) := call_list_of
def rIntOf : List V → Hp → VK → Prop := fun xs H Q => (∃ i, xs = [.int i] ∧ Q (.int i) H) ∨ ∃ k, xs = [.bl k] ∧ Q (.int (if k then 1 else 0)) H
theorem c_int {X : Cx} : CallR X (.type "int") rIntOf := call_int1
theorem small_lt {n : Nat} (h : n ≤ 100000) : n < sizeLine := Nat.lt_of_le_of_lt h (by decide)
/-- a list that changes is no row -/
theorem sqT_put {K : PySem.W.Frag} {H : Hp} {a f : Addr} {xs vs ws : List V} (h : SqT K H a xs) (e : H f = some (.lst vs)) : SqT K (upd H f (.lst ws)) a xs := by
  rcases h with (h | ⟨o, h⟩) | h
  · exact .inl (.inl (by rw [upd_ne (ne_of h e (by intro z; cases z))]; exact h))
  · exact .inl (.inr ⟨o, by rw [upd_ne (ne_of h e (by intro z; cases z))]; exact h⟩)
  · exact .inr h
theorem RowsT.put {K : PySem.W.Frag} {H : Hp} {f : Addr} {us ws : List V} (e : H f = some (.lst us)) : ∀ {vs : List V} {rs : List (List Int)}, RowsT K H vs rs → RowsT K (upd H f (.lst ws)) vs rs
  | _, _, .nil => .nil
  | _, _, .cons h r => .cons (sqT_put h e) (r.put e)
end Fo
set_option maxRecDepth 100000
set_option maxHeartbeats 4000000
namespace Fo
open PySem PySem.Spec PyProof.Rows L2
def top (i : Nat) : Stmt := PySem.Challenge.pw_fullorring_k00_errors_and_their_fields.main.body.getD i (.Pass ⟨0, 0, 0, 0⟩)
abbrev s_law_tape : Stmt := top 35
abbrev n_law_tape : List Str := ["script"]
theorem sc_law_tape : FnScope n_law_tape ["script"] (defScope s_law_tape) := ⟨rfl, rfl, rfl, by decide +kernel, rfl, by decide +kernel, by decide +kernel⟩
abbrev s_law_pick : Stmt := top 36
abbrev n_law_pick : List Str := ["tape", "size", "digit", "cell", "mixed"]
theorem sc_law_pick : FnScope n_law_pick ["tape", "size"] (defScope s_law_pick) := ⟨rfl, rfl, rfl, by decide +kernel, rfl, by decide +kernel, by decide +kernel⟩
section
variable {P : Program} {w : World} {K : PySem.W.Frag} {mg : Str → Option Value} {base : Heap}
def spTape (K : PySem.W.Frag) : Sp := fun vs H Q _ => ∃ (a : Addr) (ns : List Int), vs = [.ref a] ∧ SqL K H a (ns.map V.int) ∧ ∀ t l H', Same H H' → H t = none → H l = none → Tape H' t l → Q (.ref t) H'
theorem ok_tape (A : At K mg "_law_tape" s_law_tape ["script"]) (T : Tx mg) : Dfn P w K mg base "_law_tape" ["script"] 1 (spTape K) := by
  refine A.ok sc_law_tape (fun vs H Q E h => ?_) (fun f cdv A outer s H vs Q E hr h => ?_)
  · obtain ⟨a, ns, rfl, _⟩ := h
    rfl
  · obtain ⟨a, ns, rfl, hS, k⟩ := h
    refine ⟨_, (pss_one (ps_ret (pe_lst (pa_cons (pe_callTy c_list (by rfl) T.list (by decide +kernel) (pa_cons (pv 0) pa_nil)) (pa_cons pe_int (pa_cons pe_int (pa_cons pe_int (pa_cons pe_int pa_nil)))))))), ?_⟩
    refine ⟨_, rfl, a, _, rfl, .inl hS, fun l hl => ⟨by show 5 ≤ sizeLine; decide, fun t ht => ?_⟩⟩
    have nlt : l ≠ t := fun q => by
      rw [← q, upd_same] at ht
      cases ht
    have ht0 : H t = none := by
      rw [upd_ne nlt.symm] at ht
      exact ht
    exact k t l _ (same_mut (same_new hl) ht0) ht0 hl ⟨ns, 0, 0, 1, 0, upd_same, by rw [upd_ne nlt, upd_same], by decide⟩
def spPick : Sp := fun vs H Q _ => ∃ (t l : Addr) (n : Int), vs = [.ref t, .int n] ∧ Tape H t l ∧ 0 < n ∧ n < 1073741824 ∧ ∀ (k : Int) (H' : Hp), 0 ≤ k → k < n → Gr t H H' → Tape H' t l → Q (.int k) H'
theorem ok_pick (A : At K mg "_law_pick" s_law_pick ["tape", "size"]) (T : Tx mg) : Dfn P w K mg base "_law_pick" ["tape", "size"] 1 spPick := by
  refine A.ok sc_law_pick (fun vs H Q E h => ?_) (fun f cdv A outer s H vs Q E hr h => ?_)
  · obtain ⟨t, l, n, rfl, _⟩ := h
    rfl
  · obtain ⟨t, l, n, rfl, ⟨ns, b, c, d, e, hT, hL, hb⟩, hn, hn2, k⟩ := h
    have hlt : l ≠ t := ne_of hL hT (ints_ne _ _ _)
    have fin : ∀ (x b c d e : Int), 0 ≤ b → Q (.int (x % n)) (upd H t (.lst [.ref l, .int b, .int c, .int d, .int e])) := fun x b c d e hb => by
      exact k _ _ (Int.emod_nonneg _ (by omega)) (Int.emod_lt_of_pos _ hn) Gr.put ⟨ns, b, c, d, e, upd_same, by rw [upd_ne hlt]; exact hL, hb⟩
    refine ⟨_, (pss_cons (ps_if (pt_cmpR op_gt (pe_ix ix_list (pv 0) pe_int (fun _ _ => rfl)) pe_int (nomark _)) (pss_cons (ps_set (i := 2) sc_law_pick.nd rfl (Or.inl rfl) (pe_op op_mod (pe_callTy c_int (by rfl) T.int (by decide +kernel) (pa_cons (pe_ix ix_list (pv 0) pe_int (fun _ _ => rfl)) pa_nil)) (pv 1)))
      (pss_cons (ps_asg (pe_op op_fdiv (pe_ix ix_list (pv 0) pe_int (fun _ _ => rfl)) (pv 1)) (pg_sub (pv 0) pe_int set_list))
      (pss_one (ps_ret (pv 2))))) pss_nil)
      (pss_cons (ps_asg (pe_op op_add (pe_ix ix_list (pv 0) pe_int (fun _ _ => rfl)) pe_int) (pg_sub (pv 0) pe_int set_list))
      (pss_cons (ps_set (i := 3) sc_law_pick.nd rfl (Or.inl rfl) pe_int)
      (Evl.pss_cut (ps_if (pt_cmpR op_lt (pe_ix ix_list (pv 0) pe_int (fun _ _ => rfl)) (pe_callB c_len (by rfl) T.len (by decide +kernel) (pa_cons (pe_ix ix_list (pv 0) pe_int (fun _ _ => rfl)) pa_nil)) (nomark _)) (pss_cons (ps_set (i := 3) sc_law_pick.nd rfl (Or.inl rfl) (pe_ix ix_list (pe_ix ix_list (pv 0) pe_int (fun _ _ => rfl)) (pe_ix ix_list (pv 0) pe_int (fun _ _ => rfl)) (fun _ _ => rfl)))
      (pss_one (ps_asg (pe_op op_add (pe_ix ix_list (pv 0) pe_int (fun _ _ => rfl)) pe_int) (pg_sub (pv 0) pe_int set_list)))) pss_nil)
      (pss_cons (ps_if (pt_cmpR op_ge (pv 3) (pe_op op_pow pe_int pe_int) (nomark _)) (pss_cons (ps_asg (pe_op op_fdiv (pv 3) (pv 1)) (pg_sub (pv 0) pe_int set_list))
      (pss_one (ps_ret (pe_op op_mod (pe_callTy c_int (by rfl) T.int (by decide +kernel) (pa_cons (pv 3) pa_nil)) (pv 1))))) pss_nil)
      (pss_cons (ps_set (i := 4) sc_law_pick.nd rfl (Or.inl rfl) (pe_op op_mod (pe_callTy c_int (by rfl) T.int (by decide +kernel) (pa_cons (pe_op op_add (pe_op op_add (pe_op op_mul (pe_ix ix_list (pv 0) pe_int (fun _ _ => rfl)) pe_int) (pe_op op_mod (pe_callTy c_int (by rfl) T.int (by decide +kernel) (pa_cons (pv 3) pa_nil)) pe_int)) (pe_op op_mul (pe_ix ix_list (pv 0) pe_int (fun _ _ => rfl)) pe_int)) pa_nil)) pe_int))
      (pss_cons (ps_set (i := 4) sc_law_pick.nd rfl (Or.inl rfl) (pe_op op_mod (pe_callTy c_int (by rfl) T.int (by decide +kernel) (pa_cons (pe_op op_mul (pv 4) (pe_op op_add (pe_op op_fdiv (pv 4) pe_int) pe_int)) pa_nil)) pe_int))
      (pss_cons (ps_asg (pv 4) (pg_sub (pv 0) pe_int set_list))
      (pss_one (ps_ret (pe_op op_mod (pe_callTy c_int (by rfl) T.int (by decide +kernel) (pa_cons (pe_op op_fdiv (pv 4) pe_int) pa_nil)) (pv 1)))))))))))), ?_⟩
    refine ⟨_, rfl, t, _, _, _, rfl, rfl, SqL.of hT, rfl, _, _, rfl, rfl, _, rfl, ?_⟩
    refine ite2 (fun _ => ?_) (fun _ => ?_)
    · -- digit = int(tape[2]) % size
      refine ⟨_, rfl, t, _, _, _, rfl, rfl, SqL.of hT, rfl, .inl ⟨_, rfl, _, rfl, _, _, rfl, rfl, hn, ?_⟩⟩
      -- tape[2] = tape[2] // size
      refine ⟨_, rfl, t, _, _, _, rfl, rfl, SqL.of hT, rfl, _, rfl, _, _, rfl, rfl, ⟨hn, hn2⟩, _, rfl, t, _, _, 2, rfl, rfl, hT, rfl, ?_⟩
      exact ⟨_, rfl, fin _ _ _ _ _ hb⟩
    · -- tape[4] = tape[4] + 1
      refine ⟨_, rfl, t, _, _, _, rfl, rfl, SqL.of hT, rfl, _, _, rfl, rfl, _, rfl, t, _, _, 4, rfl, rfl, hT, rfl, ?_⟩
      have hT1 : (upd H t (.lst [.ref l, .int b, .int c, .int d, .int (e + 1)])) t = some (.lst [.ref l, .int b, .int c, .int d, .int (e + 1)]) := upd_same
      have hL1 : (upd H t (.lst [.ref l, .int b, .int c, .int d, .int (e + 1)])) l = some (.lst (ns.map V.int)) := by rw [upd_ne hlt]; exact hL
      -- the cell
      refine ⟨fun σ' H' => ∃ z b' : Int, 0 ≤ b' ∧ σ' = [some (.ref t), some (.int n), none, some (.int z), none] ∧ H' = upd H t (.lst [.ref l, .int b', .int c, .int d, .int (e + 1)]), ?_, ?_⟩
      · refine ⟨_, rfl, t, _, _, _, rfl, rfl, SqL.of hT1, rfl, _, rfl, t, _, _, _, rfl, rfl, SqL.of hT1, rfl, l, _, rfl, .inl (SqL.of hL1), _, _, rfl, rfl, _, rfl, ?_⟩
        refine ite2 (fun hc => ?_) (fun _ => ?_)
        · have hbl : b < (ns.length : Int) := by
            have := of_decide_eq_true hc
            rw [List.length_map] at this
            exact this
          obtain ⟨z, hz, hz2⟩ := map_atI hb hbl
          refine ⟨_, rfl, t, _, _, _, rfl, rfl, SqL.of hT1, rfl, _, rfl, t, _, _, _, rfl, rfl, SqL.of hT1, rfl, l, _, _, _, rfl, rfl, SqL.of hL1, hz2, ?_⟩
          refine ⟨_, rfl, t, _, _, _, rfl, rfl, SqL.of hT1, rfl, _, _, rfl, rfl, _, rfl, t, _, _, 1, rfl, rfl, hT1, rfl, ?_⟩
          exact ⟨z, b + 1, by omega, rfl, by rw [upd_upd]; rfl⟩
        · exact ⟨0, b, hb, rfl, rfl⟩
      · rintro σ' H' ⟨z, b', hb', rfl, rfl⟩
        have hT2 : (upd H t (.lst [.ref l, .int b', .int c, .int d, .int (e + 1)])) t = some (.lst [.ref l, .int b', .int c, .int d, .int (e + 1)]) := upd_same
        have fin2 : ∀ (x b c d e : Int) (u : HO), 0 ≤ b → Q (.int (x % n)) (upd (upd H t u) t (.lst [.ref l, .int b, .int c, .int d, .int e])) := fun x b c d e u hb => by
          rw [upd_upd]
          exact fin _ _ _ _ _ hb
        refine ⟨_, rfl, _, _, rfl, rfl, ⟨by decide, by decide, by decide⟩, _, _, rfl, rfl, _, rfl, ?_⟩
        refine ite2 (fun _ => ?_) (fun _ => ?_)
        · refine ⟨_, rfl, _, rfl, _, _, rfl, rfl, ⟨hn, hn2⟩, _, rfl, t, _, _, 2, rfl, rfl, hT2, rfl, ?_⟩
          exact ⟨_, rfl, .inl ⟨_, rfl, _, rfl, _, _, rfl, rfl, hn, fin2 _ _ _ _ _ _ hb'⟩⟩
        · refine ⟨_, rfl, t, _, _, _, rfl, rfl, SqL.of hT2, rfl, _, _, rfl, rfl, .inr (by decide), _, rfl, .inl ⟨_, rfl, _, _, rfl, rfl, (by show (0 : Int) < 2147483629; decide), _, _, rfl, rfl, _, rfl, t, _, _, _, rfl, rfl, SqL.of hT2, rfl, _, _, rfl, rfl, .inr (by decide), _, _, rfl, rfl, .inl ⟨_, rfl, _, _, rfl, rfl, (by show (0 : Int) < 2147483647; decide), ?_⟩⟩⟩
          have m0 := Int.emod_nonneg (d * 48271 + z % 2147483629 + (e + 1) * 69621) (show (2147483647 : Int) ≠ 0 by decide)
          have m1 := Int.emod_lt_of_pos (d * 48271 + z % 2147483629 + (e + 1) * 69621) (show (0 : Int) < 2147483647 by decide)
          generalize (d * 48271 + z % 2147483629 + (e + 1) * 69621) % 2147483647 = m at m0 m1 ⊢
          refine ⟨_, rfl, _, rfl, _, _, rfl, rfl, ⟨by decide, by decide⟩, _, _, rfl, rfl, _, _, rfl, rfl, .inl ⟨by omega, by omega⟩, .inl ⟨_, rfl, _, _, rfl, rfl, (by show (0 : Int) < 2147483399; decide), ?_⟩⟩
          refine ⟨_, rfl, _, rfl, t, _, _, 3, rfl, rfl, hT2, rfl, ?_⟩
          exact ⟨_, rfl, _, _, rfl, rfl, ⟨by decide, by decide⟩, .inl ⟨_, rfl, _, rfl, _, _, rfl, rfl, hn, fin2 _ _ _ _ _ _ hb'⟩⟩
end
end Fo
set_option maxRecDepth 100000
set_option maxHeartbeats 2000000
namespace PySem.W
open PySem PySem.Spec PyProof.Rows Builtin
end PySem.W
namespace Fo
open PySem PySem.Spec PyProof.Rows L2
/-- the class of the tables, by what the text's top leaves of it -/
structure TC (K : PySem.W.Frag) (C : Addr) : Prop where
  cl : Cls K C
  ha : PySem.W.findIn K (.ref C) "__class__" = some (some (.builtin "object.__class__"))
  hn : PySem.W.specialIn K (.builtin "object.__class__") "__get__" = some (some (.builtin "getset_descriptor.__get__"))
  htk : PySem.W.takesIn K (.builtin "object.__class__") = some true
  hm : PySem.W.mroIn K C (.type "object") = some true
  ne : PySem.W.findIn K (.ref C) "__ne__" = some (some (.builtin "object.__ne__"))
  nR : NoAttr K C "rows"
  nS : NoAttr K C "size"
  kI : PySem.W.kitOne K (.ref C) (.type "int") = some false
  kB : PySem.W.kitOne K (.ref C) (.type "bool") = some false
  kT : PySem.W.kitOne K (.ref C) (.type "tuple") = some false
  kS : PySem.W.kitOne K (.ref C) (.type "str") = some false
  kL : PySem.W.kitOne K (.ref C) (.type "list") = some false
theorem TC.ty {K : PySem.W.Frag} {C : Addr} (c : TC K C) {H : Hp} {a dx : Addr} {fs : List (Str × V)} (h : H a = some (.ins C dx fs)) : TyX K H (.ref a) (.ref C) := .base (.ins h c.cl c.ha c.hn c.htk c.hm)
/-- a thing whose kind is known: of a built-in type, or of the tables' class -/
def Th (K : PySem.W.Frag) (C : Addr) (H : Hp) (x : V) : Prop := ∃ t, TyX K H x t ∧ (∀ c, t = .ref c → c = C)
theorem tyX_same {K : PySem.W.Frag} {H H' : Hp} (e : Same H H') {x : V} {t : Value} (h : TyX K H x t) : TyX K H' x t := by
  cases h with
  | base b =>
    cases b with
    | non => exact .base .non
    | bl b => exact .base (.bl b)
    | int i => exact .base (.int i)
    | str x => exact .base (.str x)
    | flt x => exact .base (.flt x)
    | lst h => exact .base (.lst (e _ _ h))
    | frz h => exact .base (.frz (e _ _ h))
    | tup h => exact .base (.tup (e _ _ h))
    | dK h => exact .base (.dK (e _ _ h))
    | dT h => exact .base (.dT (e _ _ h))
    | ins h a b c d f => exact .base (.ins (e _ _ h) a b c d f)
  | byt b => exact .byt b
  | set h => exact .set (e _ _ h)
  | kList a b => exact .kList a b
  | kTuple a b => exact .kTuple a b
  | kDict a b => exact .kDict a b
  | fTuple h => exact .fTuple (e _ _ h)
  | fDict h => exact .fDict (e _ _ h)
theorem Th.same {K : PySem.W.Frag} {C : Addr} {H H' : Hp} (e : Same H H') {x : V} (h : Th K C H x) : Th K C H' x := by
  obtain ⟨t, a, b⟩ := h
  exact ⟨t, tyX_same e a, b⟩
/-- a thing as the judges look at it: a tuple of things, or no tuple -/
inductive Tg (K : PySem.W.Frag) (C : Addr) (H : Hp) : V → Option (List V) → Prop
  | tup {a : Addr} {xs : List V} (h : SqT K H a xs) (hi : ∀ y ∈ xs, Th K C H y) (hz : xs.length ≤ 100000) : Tg K C H (.ref a) (some xs)
  | no {x : V} {t : Value} (ty : TyX K H x t) (hk : PySem.W.kitOne K t (.type "tuple") = some false) : Tg K C H x none
theorem Tg.same {K : PySem.W.Frag} {C : Addr} {H H' : Hp} (e : Same H H') {x : V} {o : Option (List V)} (h : Tg K C H x o) : Tg K C H' x o := by
  cases h with
  | tup h hi hz => exact .tup (sqT_same e h) (fun y hy => (hi y hy).same e) hz
  | no ty hk => exact .no (tyX_same e ty) hk
def tf (v : V) (n : Nat) : List (Str × V) := putF "size" (.int (n : Int)) (putF "rows" v [])
def TableAt (K : PySem.W.Frag) (C : Addr) (H : Hp) (x : V) (rows : List (List Int)) : Prop := ∃ p dx v, x = .ref p ∧ H p = some (.ins C dx (tf v rows.length)) ∧ RowsAt K H v rows
theorem TableAt.same {K : PySem.W.Frag} {C : Addr} {H H' : Hp} {x : V} {rows : List (List Int)} (h : TableAt K C H x rows) (e : Same H H') : TableAt K C H' x rows := by
  obtain ⟨p, dx, v, ex, hp, hr⟩ := h
  exact ⟨p, dx, v, ex, e _ _ hp, hr.same e⟩
theorem TableAt.gr {t l : Addr} {K : PySem.W.Frag} {C : Addr} {H H' : Hp} {x : V} {rows : List (List Int)} (h : TableAt K C H x rows) (g : Gr t H H') (T : Tape H t l) : TableAt K C H' x rows := by
  obtain ⟨p, dx, v, ex, hp, hr⟩ := h
  have hpt : p ≠ t := by
    obtain ⟨ns, b, c, d, e, ht, _⟩ := T
    exact ne_of hp ht (by intro z; cases z)
  exact ⟨p, dx, v, ex, g _ _ hpt hp, hr.gr g T⟩
/-- what changes at an instance is no tuple -/
theorem sqT_ins {K : PySem.W.Frag} {H H' : Hp} {a p C dx : Addr} {fs : List (Str × V)} {xs : List V} (h : SqT K H a xs) (e : H p = some (.ins C dx fs)) (k : ∀ b o, b ≠ p → H b = some o → H' b = some o) : SqT K H' a xs := by
  rcases h with (h | ⟨o, h⟩) | h
  · exact .inl (.inl (k _ _ (ne_of h e (by intro z; cases z)) h))
  · exact .inl (.inr ⟨o, k _ _ (ne_of h e (by intro z; cases z)) h⟩)
  · exact .inr h
theorem RowsT.ins {K : PySem.W.Frag} {H H' : Hp} {p C dx : Addr} {fs : List (Str × V)} (e : H p = some (.ins C dx fs)) (k : ∀ b o, b ≠ p → H b = some o → H' b = some o) : ∀ {vs : List V} {rs : List (List Int)}, RowsT K H vs rs → RowsT K H' vs rs
  | _, _, .nil => .nil
  | _, _, .cons h r => .cons (sqT_ins h e k) (r.ins e k)
theorem RowsAt.ins {K : PySem.W.Frag} {H H' : Hp} {p C dx : Addr} {fs : List (Str × V)} {v : V} {rows : List (List Int)} (h : RowsAt K H v rows) (e : H p = some (.ins C dx fs)) (k : ∀ b o, b ≠ p → H b = some o → H' b = some o) : RowsAt K H' v rows := by
  obtain ⟨a, vs, ev, h1, h2⟩ := h
  exact ⟨a, vs, ev, sqT_ins h1 e k, h2.ins e k⟩
end Fo
set_option maxRecDepth 100000
set_option maxHeartbeats 2000000
namespace Fo
open PySem PySem.Spec PyProof.Rows L2
structure FnG (P : Program) (w : World) (K : PySem.W.Frag) (mg : Str → Option Value) (base : Heap) (k : Nat) (f : Addr) (fd : FuncData) (ps : List Str) (sp : Sp) : Prop where
  len : ∀ (vs : List V) (H : Hp) (Q : VK) (E : XK), sp vs H Q E → vs.length = ps.length
  run : ∀ (A : Around) (outer : List Env) (s : Shared) (H : Hp) (args : Args) (us : List Value) (vs : List V) (Q : VK) (E : XK), Room k A → A.guards = some [] → Env0 P w K mg base A outer s H →
    BindsTo s fd args (ps.zip us) → Vals vs us → sp vs H Q E → codeAny (model P w) A (Code.call (.ref f) args) (CR CX0 outer P w H s Q E) s
section
variable {P : Program} {w : World} {K : PySem.W.Frag} {mg : Str → Option Value} {base : Heap}
theorem fun_okG {x qual : Str} {st : Stmt} {f : Addr} {fd : FuncData} {N ps : List Str} {k : Nat} {sp : Sp} (F : Fun K x qual st f fd) (S : FnScope N ps (defScope st)) (len : ∀ vs H Q E, sp vs H Q E → vs.length = ps.length)
    (hbody : ∀ (cdv : Value) (A : Around) (outer : List Env) (s : Shared) (H : Hp) (vs : List V) (Q : VK) (E : XK), Room k (A.deeper (envOfC qual (defScope st) s.heap.objs.size f cdv)) → A.guards = some [] → sp vs H Q E →
      ∃ t, PSs (cxOf CX0 P w K mg base N qual (defScope st) f cdv A outer s H E).nox (defBody st) t ∧ t { nx := fun _ H' => Q .non H', rt := Q } (start N vs) H) : FnG P w K mg base (k + 1) f fd ps sp := by
  obtain ⟨oc, od, kV, doc, pm, an, cdv, ct, osl, rfl, lk, hcd⟩ := F.ex
  refine ⟨len, fun A outer s H args us vs Q E hr hg e0 hb r hsp => ?_⟩
  have hl := len vs H Q E hsp
  have KX : K.In s.heap := e0.mod.kin.keeps fun b o e => (e0.bs b o e).1
  have lim : s.heap.NoLimit := e0.mod.nolimit.keeps fun b o e => (e0.bs b o e).1
  refine codeAny_call_function hr.depth (KX f _ lk) rfl S.co S.gen rfl (PySem.W.codeRec_of KX hcd) ?_
  refine hb (model P w) A.in1 _ _ ?_
  refine wpAny_newFunctionEnv_cells S.kind (fun z hz => ?_) fun env he s1 hx => ?_
  · obtain ⟨n, v⟩ := z
    rcases S.par n (List.of_mem_zip hz).1 with q | q
    · exact .inl q
    · exact .inr ⟨q, PySem.W.cellsFrom_some _ _ _ (.inl q)⟩
  · subst he
    refine ⟨lim.keeps hx.toInCall.keep, codeAny_func ?_⟩
    obtain ⟨t, ht, hq⟩ := hbody cdv A outer s H vs Q E (hr.deeper _) hg hsp
    have I := inv_start (CX := CX0) (P := P) (w := w) (K := K) (mg := mg) (base := base) (E := E) S hr.hd e0 hl r hx
    refine wpAny_mono ((PSs.nox ht).run [] s1 (start N vs) H { nx := fun _ H' => Q .non H', rt := Q } I hq) (fun fl s' hs => ?_) fun e s' hs => hs
    cases fl with
    | next =>
      obtain ⟨σ', H', J, q⟩ := hs
      exact ⟨.non, H', J.os, J.bare, J.base, J.hok, rfl, q⟩
    | brk =>
      obtain ⟨σ', H', J, q⟩ := hs
      exact False.elim q
    | cont =>
      obtain ⟨σ', H', J, q⟩ := hs
      exact False.elim q
    | ret u =>
      obtain ⟨v, σ', H', J, rv, q⟩ := hs
      exact ⟨v, H', J.os, J.bare, J.base, J.hok, rv, q⟩
end
theorem law_callG {P : Program} {w : World} {K : PySem.W.Frag} {mg mb : Str → Option Value} {k : Nat} {fa a : Addr} {fd : FuncData} {x : Str} {sp : Sp} {s₁ : Shared} {vs : List Value} {ns : List Int} (KX : K.In s₁.heap) (hns : s₁.heap.Ns mainGlobals mg) (hb : s₁.heap.Ns builtinsNs mb)
    (hbb : ∀ x : Str, x ≠ Str.ofString "__name__" → mb x = bootBuiltins x) (hlim : s₁.heap.NoLimit) (hg : s₁.gens = #[]) (ha : s₁.heap.get? a = some { cls := .type "list", data := .seq vs.toArray }) (hi : IntsAre vs ns) (hl : ns.length ≤ sizeLine) (hr : Room k callerA)
    (F : ∀ base : Heap, K.In base → base.Ns mainGlobals mg → FnG P w K mg base k fa fd [x] sp) (hbind : ∀ (s : Shared) (u : Value), BindsTo s fd ⟨[u], []⟩ [(x, u)])
    (hsp : ∀ H : Hp, Only H → SqL K H a (ns.map V.int) → sp [.ref a] H (fun v _ => v = .bl true) fun _ _ _ => False) :
    codeAny (model P w) callerA (Code.call (.ref fa) ⟨[.ref a], []⟩) (fun r s' => r = .ok (.ret (.bool true)) ∧ OldK s₁.heap s'.heap ∧ s'.os = s₁.os ∧ AllBare s'.gens) s₁ := by
  have rv := vals_ints hi
  have core : ∀ H : Hp, Only H → SqL K H a (ns.map V.int) → HOk P w H s₁.heap → (∀ b, H b ≠ none → b = a) → (H a ≠ none → List.lookup a K = none) →
      codeAny (model P w) callerA (Code.call (.ref fa) ⟨[.ref a], []⟩) (fun r s' => r = .ok (.ret (.bool true)) ∧ OldK s₁.heap s'.heap ∧ s'.os = s₁.os ∧ AllBare s'.gens) s₁ := by
    intro H hO hS hok hA hK
    have noA : ∀ {b : Addr} {o : Obj} {es : Array DictEntry} {ep : Nat}, s₁.heap.get? b = some o → o.data = .dict es ep → H b = none := fun {b o es ep} e d => by
      cases q : H b with
      | none => rfl
      | some u =>
        have e' := hA b (by rw [q]; simp)
        subst e'
        rw [ha] at e
        cases e
        cases d
    have nsK : ∀ {b : Addr} {m : Str → Option Value}, s₁.heap.Ns b m → (hidT s₁.heap H).Ns b m := fun {b m} z => by
      obtain ⟨o, es, ep, e, d, r⟩ := z
      exact ⟨o, es, ep, hidT_get e (noA e d), d, r⟩
    have hKb : K.In (hidT s₁.heap H) := fun b o e => hidT_get (KX b o e) (by
      cases q : H b with
      | none => rfl
      | some u =>
        have e' := hA b (by rw [q]; simp)
        subst e'
        rw [hK (by rw [q]; simp)] at e
        cases e)
    have hM : L2.Mod K mg (hidT s₁.heap H) := { kin := hKb, glob := nsK hns, blt := ⟨mb, nsK hb, hbb⟩, nolimit := by obtain ⟨mc, h1, h2⟩ := hlim; exact ⟨mc, nsK h1, h2⟩ }
    have e0 : Env0 P w K mg (hidT s₁.heap H) callerA [] s₁ H := { frames := rfl, mod := hM, bs := fun b o e => of_hidT e, bsz := Nat.le_of_eq (hidT_size s₁.heap H), funs := trivial, frf := fun b hb => absurd hb (by intro z; cases z), hok := hok, bare := AllBare.of_eq hg }
    refine codeAny_mono ((F (hidT s₁.heap H) hKb (nsK hns)).run callerA [] s₁ H ⟨[.ref a], []⟩ [.ref a] [.ref a] (fun v _ => v = .bl true) (fun _ _ _ => False) hr rfl e0 (hbind s₁ (.ref a)) (.cons rfl .nil) (hsp H hO hS)) fun r s' h => ?_
    cases r with
    | error e => exact False.elim h
    | ok fl =>
      cases fl with
      | next => exact False.elim h
      | brk => exact False.elim h
      | cont => exact False.elim h
      | ret u =>
        obtain ⟨v, H', os, bare, un, hok', r', q⟩ := h
        subst q
        cases r'
        refine ⟨rfl, OldK.of_keep fun b o e => ?_, os, bare⟩
        cases q : H b with
        | none => exact un.keep b o e q (by intro z; cases z) (by intro z; cases z)
        | some u =>
          rcases hO b with z | ⟨ob, xs, z⟩
          · rw [z] at q; cases q
          · have z2 := un.frzs b ob _ z
            have e1 := (hok b _ z).1
            have e2 := (hok' b _ z2).1
            rw [e] at e1
            cases e1
            exact e2
  cases hk : List.lookup a K with
  | none =>
    refine core (fun b => if b = a then some (.frz { cls := .type "list", data := .seq vs.toArray } (.lst (ns.map V.int))) else none) (fun b => ?_) (.inl (.inr ⟨_, if_pos rfl⟩)) (fun b u z => ?_) (fun b z => ?_) fun _ => hk
    · by_cases e : b = a
      · exact .inr ⟨_, _, if_pos e⟩
      · exact .inl (if_neg e)
    · by_cases e : b = a
      · have z' := (if_pos e).symm.trans z
        cases z'
        subst e
        exact ⟨ha, by rw [List.length_map]; exact hl, vs, 0, rv, ha⟩
      · have z' := (if_neg e).symm.trans z
        cases z'
    · by_cases e : b = a
      · exact e
      · exact absurd (if_neg e) z
  | some o =>
    have e := KX a o hk
    rw [ha] at e
    cases e
    refine core (fun _ => none) (fun _ => .inl rfl) (.inr ⟨_, vs.toArray, 0, hk, rfl, rfl, rfl, ?_, rv⟩) (fun b u z => (by cases z)) (fun b z => absurd rfl z) fun z => absurd rfl z
    have := IntsAre.length hi
    rw [List.size_toArray, this]
    exact hl
theorem walk_ofG {l : PySem.W.OpenLaw} {n k : Nat} {q : Program} {loose : List Str} {XP : (Str → Option Value) → Heap → Prop} {YP : World → Heap → Prop} {d : DefRec} {K : Params → PySem.W.Frag} {sp : World → Sp} {x : Str} (hn : l.most = some n) (hn2 : n ≤ sizeLine) (hdf : d.params.defaults = []) (hr : Room k callerA)
    (hY : ∀ (w : World) (h : Heap), YP w h → (K w.params).In h)
    (F : ∀ (w : World) (mg : Str → Option Value) (fa : Addr) (h : Heap), (K w.params).In h → h.Ns mainGlobals mg → mg d.name = some (.ref fa) →
      ∃ fd : FuncData, (∀ (s : Shared) (u : Value), BindsTo s fd ⟨[u], []⟩ [(x, u)]) ∧ ∀ base : Heap, (K w.params).In base → base.Ns mainGlobals mg → FnG l.prog w (K w.params) mg base k fa fd [x] (sp w))
    (hsp : ∀ (w : World) (H : Hp) (a : Addr) (ns : List Int), ns.length ≤ n → Only H → SqL (K w.params) H a (ns.map V.int) → sp w [.ref a] H (fun v _ => v = .bl true) fun _ _ _ => False) :
    PySem.W.WalkO q loose XP YP l.row.toRowW d [] (fun f vs => PySem.call f vs) :=
  Att.attach_call hn hdf fun w s₀ s₁ mg mb fa o pm cd doc a vs ns G Y ho hd hcd hmg hobj hints hlen hg => by
    have KX := hY w s₁.heap Y
    obtain ⟨fd, hb, hF⟩ := F w mg fa s₁.heap KX G.T.g hmg
    exact law_callG KX G.T.g G.T.b G.T.builtins G.T.nolimit hg hobj hints (Nat.le_trans hlen hn2) hr hF hb fun H hO hS => hsp w H a ns hlen hO hS
end Fo
set_option maxRecDepth 100000
set_option maxHeartbeats 2000000
namespace Fo
open PySem PySem.Spec PyProof.Rows L2
theorem ns_one {h : Heap} {a : Addr} {m m' : Str → Option Value} (x : h.Ns a m) (y : h.Ns a m') : m = m' := by
  obtain ⟨o, es, ep, e, d, _, r⟩ := x
  obtain ⟨o', es', ep', e', d', _, r'⟩ := y
  rw [e] at e'
  cases e'
  rw [d] at d'
  cases d'
  funext n
  rw [← r n, ← r' n]
theorem get_lt {h : Heap} {b : Addr} {o : Obj} (e : h.get? b = some o) : b < h.objs.size := by
  by_cases c : b < h.objs.size
  · exact c
  · unfold Heap.get? at e
    rw [Array.getElem?_eq_none (Nat.le_of_not_lt c)] at e
    cases e
/-- all that stands in h, but what stands at L or was there at first -/
def allNews (base : Heap) (L : Addr) (h : Heap) : List (Addr × Obj) :=
  (List.range h.objs.size).filterMap fun b => if b ≠ L ∧ base.get? b = none then (h.get? b).map fun o => (b, o) else none
theorem mem_allNews {base : Heap} {L : Addr} {h : Heap} {b : Addr} {o : Obj} (e : h.get? b = some o) (n : b ≠ L) (z : base.get? b = none) : (b, o) ∈ allNews base L h :=
  List.mem_filterMap.mpr ⟨b, List.mem_range.mpr (get_lt e), by rw [if_pos ⟨n, z⟩, e]; rfl⟩
theorem news_all (base : Heap) (L : Addr) (h : Heap) : News base L h (allNews base L h) := by
  rintro ⟨b, o⟩ hp
  obtain ⟨c, _, q⟩ := List.mem_filterMap.mp hp
  by_cases e : c ≠ L ∧ base.get? c = none
  · rw [if_pos e] at q
    cases g : h.get? c with
    | none => rw [g] at q; cases q
    | some u =>
      rw [g] at q
      cases q
      exact ⟨g, e.1, e.2⟩
  · rw [if_neg e] at q
    cases q
/-- what stands is kept by all that keeps the frame and the news -/
theorem Inv.framed {X : Cx} {pins : List (Addr × Obj)} {σ : L2.St} {H : Hp} {s : Shared} {m : Str → Option Value} {h' : Heap} {tk : Nat} (I : L2.Inv X pins σ H s) (F : Fr X.base X.env.locals s.heap m) (F' : Fr X.base X.env.locals h' m) (N : News X.base X.env.locals h' (allNews X.base X.env.locals s.heap)) :
    L2.Inv X pins σ H { heap := h', gens := s.gens, drawn := s.drawn, toks := tk, os := s.os } := by
  have keep : ∀ b o, b ≠ X.env.locals → s.heap.get? b = some o → h'.get? b = some o := fun b o n e => by
    cases z : X.base.get? b with
    | none => exact (N _ (mem_allNews e n z)).1
    | some u =>
      have e1 := F.keep b u z
      rw [e] at e1
      cases e1
      exact F'.keep b o z
  refine I.step (ch := []) (fun b z => by cases z) (fun b o n _ _ e _ => keep b o n e) (fun b o n _ _ e _ => ⟨o.slots, keep b o n e⟩) (fun b o _ _ e => e) (fun b o _ e => ?_) (fun _ _ e => e) (fun _ _ _ e => e) (fun b ps e => ⟨#[], by rw [e]; simp⟩) (fun m' q => ?_) ?_ I.bare
  · by_cases n : b = X.env.locals
    · subst n
      obtain ⟨o', _, _, q, _⟩ := F'.ns
      exact ⟨o', q⟩
    · exact ⟨o, keep b o n e⟩
  · rw [ns_one q F.ns]
    exact F'.ns
  · intro a o ha
    have na : a ≠ X.env.locals := fun e => by rw [e, I.free] at ha; cases ha
    refine ObjOk.stay (I.hok a o ha) (fun b u q e => keep b u ?_ e) (fun _ e => e) (fun _ _ e => e)
    rcases q with q | q
    · rw [q]; exact na
    · intro e
      rw [e, I.free] at q
      cases q
/-- repr of a list or a tuple -/
def rRepr (K : PySem.W.Frag) (B : Nat) : List V → Hp → VK → Prop := fun xs H Q => ∃ (a : Addr) (d : PyData), xs = [.ref a] ∧ Dp K H (.ref a) d ∧ d.hasDict = false ∧ d.showable = true ∧ d.depth ≤ B ∧ d.shown.length ≤ sizeLine ∧ Q (.str d.shown) H
theorem cr_repr {X : Cx} {B : Nat} (hg : X.A.guards = some []) (hu : X.A.units + (B + 1) < cLine) : CallR X (.builtin "repr") (rRepr X.K B) := by
  intro pins s σ H xs us Q I r h
  obtain ⟨a, d, rfl, hd, h1, h2, h3, h4, q⟩ := h
  cases r with
  | cons r0 r1 =>
    cases r1
    cases r0
    obtain ⟨as, R⟩ := Dp.reads I d _ _ hd rfl
    obtain ⟨m, hF⟩ := I.fr
    refine repr_HN hF (news_all _ _ _) R h1 h2 hg (Nat.lt_of_le_of_lt (Nat.add_le_add_left (Nat.add_le_add_right h3 1) _) hu) (fun h' u tk F' N => ?_) h4
    exact ⟨.str d.shown, H, Inv.framed I hF F' N, ⟨u, rfl⟩, q⟩
end Fo
set_option maxRecDepth 100000
set_option maxHeartbeats 4000000
set_option maxRecDepth 100000
set_option maxHeartbeats 2000000
namespace Fo
open PySem PySem.Spec PyProof.Rows L2
structure Lay (w : Nat) (d : PyData) : Prop where
  hd : d.hasDict = false
  sh : d.showable = true
  dp : d.depth ≤ w
  can : d.canLay0 = true
  ish : PyData.intsShort 13 d = true
structure LayAll (w : Nat) (ds : List PyData) : Prop where
  hd : PyData.hasDictAll ds = false
  sh : PyData.showableAll ds = true
  dp : PyData.depthAll ds ≤ w
  can : PyData.canLayAll0 ds = true
  ish : PyData.intsShortAll 13 ds = true
theorem LayAll.nil {w : Nat} : LayAll w [] := ⟨rfl, rfl, Nat.zero_le _, rfl, rfl⟩
theorem LayAll.cons {w : Nat} {d : PyData} {ds : List PyData} (a : Lay w d) (b : LayAll w ds) : LayAll w (d :: ds) := by
  refine ⟨?_, ?_, ?_, ?_, ?_⟩
  · show (d.hasDict || PyData.hasDictAll ds) = false
    rw [a.hd, b.hd]; rfl
  · show (d.showable && PyData.showableAll ds) = true
    rw [a.sh, b.sh]; rfl
  · show max d.depth (PyData.depthAll ds) ≤ w
    have := a.dp; have := b.dp; omega
  · show (d.canLay0 && PyData.canLayAll0 ds) = true
    rw [a.can, b.can]; rfl
  · show (PyData.intsShort 13 d && PyData.intsShortAll 13 ds) = true
    rw [a.ish, b.ish]; rfl
theorem LayAll.tup {w : Nat} {ds : List PyData} (a : LayAll w ds) : Lay (w + 1) (.tuple ds) := ⟨a.hd, a.sh, Nat.succ_le_succ a.dp, a.can, a.ish⟩
theorem LayAll.lst {w : Nat} {ds : List PyData} (a : LayAll w ds) : Lay (w + 1) (.list ds) := ⟨a.hd, a.sh, Nat.succ_le_succ a.dp, a.can, a.ish⟩
theorem Lay.shown {w : Nat} {d : PyData} (a : Lay w d) (hw : w ≤ 64) (hg : d.weight ≤ 2 ^ 20) : d.shown.length ≤ sizeLine := by
  refine Nat.le_trans (shown_le13 ?_ a.ish) (by decide)
  show (d.canLay0 && decide (d.depth ≤ 64) && decide (d.weight ≤ 2 ^ 20)) = true
  rw [a.can, decide_eq_true (Nat.le_trans a.dp hw), decide_eq_true hg]
  rfl
theorem room_repr {k : Nat} {A : Around} (hr : Room k A) : A.units + (8 + 1) < cLine := by
  have := hr.un
  omega
end Fo
set_option maxRecDepth 100000
set_option maxHeartbeats 2000000
namespace Fo
open PySem PySem.Spec PyProof.Rows L2
theorem lay_bl {b : Bool} : Lay 0 (.bool b) := ⟨rfl, rfl, Nat.le_refl _, rfl, rfl⟩
theorem Lay.shaped {w : Nat} {d : PyData} (a : Lay w d) (h : w ≤ 64) : SeqAt.shaped d = true := by
  unfold SeqAt.shaped
  rw [a.can, decide_eq_true (Nat.le_trans a.dp h)]
  rfl
theorem Lay.refl {w : Nat} {d : PyData} (a : Lay w d) : PyData.eqv d d = true := SeqAt.eqv_refl d a.can
theorem Lay.show {w : Nat} {d : PyData} (a : Lay w d) (h : w ≤ 8) (hg : d.weight ≤ 2 ^ 20) : d.hasDict = false ∧ d.showable = true ∧ d.depth ≤ 8 ∧ d.shown.length ≤ sizeLine := ⟨a.hd, a.sh, Nat.le_trans a.dp h, a.shown (by omega) hg⟩
end Fo
set_option maxRecDepth 100000
set_option maxHeartbeats 4000000
namespace Fo
open PySem PySem.Spec PyProof.Rows L2
abbrev s_law_value : Stmt := top 37
abbrev n_law_value : List Str := ["tape", "sort", "turn"]
theorem sc_law_value : FnScope n_law_value ["tape"] (defScope s_law_value) := ⟨rfl, rfl, rfl, by decide +kernel, rfl, by decide +kernel, by decide +kernel⟩
inductive Vl (K : PySem.W.Frag) (H : Hp) : V → PyData → Prop
  | int {n : Int} (h : n.natAbs < 10 ^ 40) : Vl K H (.int n) (.int n)
  | str {x : Str} (h : PyData.strOk x = true) (hl : x.cps.size ≤ 8) : Vl K H (.str x) (.str x)
  | tup {a : Addr} {x y : Int} (h : SqT K H a [.int x, .str "0", .int y]) (hx : 0 ≤ x ∧ x < 100) (hy : 0 ≤ y ∧ y < 100) : Vl K H (.ref a) (.tuple [.int x, .str "0", .int y])
  | lst {a : Addr} {x : Int} (h : H a = some (.lst [.int x])) (hx : 0 ≤ x ∧ x < 100) : Vl K H (.ref a) (.list [.int x])
  | bl (b : Bool) : Vl K H (.bl b) (.bool b)
  | non : Vl K H .non .none
inductive VlAll (K : PySem.W.Frag) (H : Hp) : List V → List PyData → Prop
  | nil : VlAll K H [] []
  | cons {v : V} {d : PyData} {vs : List V} {ds : List PyData} (h : Vl K H v d) (t : VlAll K H vs ds) : VlAll K H (v :: vs) (d :: ds)
theorem Vl.same {K : PySem.W.Frag} {H H' : Hp} (s : Same H H') {v : V} {d : PyData} : Vl K H v d → Vl K H' v d
  | .int h => .int h
  | .str h hl => .str h hl
  | .tup h hx hy => .tup (sqT_same s h) hx hy
  | .lst h hx => .lst (s _ _ h) hx
  | .bl b => .bl b
  | .non => .non
theorem VlAll.same {K : PySem.W.Frag} {H H' : Hp} (s : Same H H') : ∀ {vs : List V} {ds : List PyData}, VlAll K H vs ds → VlAll K H' vs ds
  | _, _, .nil => .nil
  | _, _, .cons h t => .cons (h.same s) (t.same s)
theorem Vl.gr {K : PySem.W.Frag} {H H' : Hp} {t l : Addr} (T : Tape H t l) (g : Gr t H H') {v : V} {d : PyData} : Vl K H v d → Vl K H' v d
  | .int h => .int h
  | .str h hl => .str h hl
  | .tup h hx hy => .tup (gr_T g T h) hx hy
  | .lst (x := x) h hx => .lst (g _ _ (T.ne_ints' (ns := [x]) h) h) hx
  | .bl b => .bl b
  | .non => .non
theorem VlAll.gr {K : PySem.W.Frag} {H H' : Hp} {t l : Addr} (T : Tape H t l) (g : Gr t H H') : ∀ {vs : List V} {ds : List PyData}, VlAll K H vs ds → VlAll K H' vs ds
  | _, _, .nil => .nil
  | _, _, .cons h r => .cons (h.gr T g) (r.gr T g)
theorem VlAll.snoc {K : PySem.W.Frag} {H : Hp} {v : V} {d : PyData} (h : Vl K H v d) : ∀ {vs : List V} {ds : List PyData}, VlAll K H vs ds → VlAll K H (vs ++ [v]) (ds ++ [d])
  | _, _, .nil => .cons h .nil
  | _, _, .cons a r => .cons a (r.snoc h)
theorem Vl.dp {K : PySem.W.Frag} {H : Hp} {v : V} {d : PyData} : Vl K H v d → Dp K H v d
  | .int _ => .int _
  | .str _ _ => .str _
  | .tup h _ _ => .tup h (.cons (.int _) (.cons (.str _) (.cons (.int _) .nil)))
  | .lst h _ => .lst (SqL.of h) (.cons (.int _) .nil)
  | .bl b => .bl b
  | .non => .non
theorem VlAll.dp {K : PySem.W.Frag} {H : Hp} : ∀ {vs : List V} {ds : List PyData}, VlAll K H vs ds → DpAll K H vs ds
  | _, _, .nil => .nil
  | _, _, .cons h t => .cons h.dp t.dp
theorem VlAll.len {K : PySem.W.Frag} {H : Hp} : ∀ {vs : List V} {ds : List PyData}, VlAll K H vs ds → vs.length = ds.length
  | _, _, .nil => rfl
  | _, _, .cons h t => congrArg (· + 1) t.len
theorem Vl.put {K : PySem.W.Frag} {H : Hp} {f : Addr} {ws zs : List V} (e : H f = some (.lst ws)) {v : V} {d : PyData} (n : ∀ a, v = .ref a → a ≠ f) : Vl K H v d → Vl K (upd H f (.lst zs)) v d
  | .int h => .int h
  | .str h hl => .str h hl
  | .tup h hx hy => .tup (sqT_put h e) hx hy
  | .lst h hx => .lst (by rw [upd_ne (n _ rfl)]; exact h) hx
  | .bl b => .bl b
  | .non => .non
theorem VlAll.put {K : PySem.W.Frag} {H : Hp} {f : Addr} {ws zs : List V} (e : H f = some (.lst ws)) : ∀ {vs : List V} {ds : List PyData}, (∀ a, V.ref a ∈ vs → a ≠ f) → VlAll K H vs ds → VlAll K (upd H f (.lst zs)) vs ds
  | _, _, _, .nil => .nil
  | _, _, n, .cons h t => .cons (h.put e fun a q => n a (by rw [q]; exact List.mem_cons_self)) (t.put e fun a q => n a (List.mem_cons_of_mem _ q))
structure Lay5 (d : PyData) : Prop where
  hd : d.hasDict = false
  sh : d.showable = true
  dp : d.depth ≤ 1
  can : d.canLay0 = true
  ish : PyData.intsShort 50 d = true
  wt : d.weight ≤ 200
theorem lay5_int {n : Int} (h : n.natAbs < 10 ^ 40) : Lay5 (.int n) := by
  have hl : n.natAbs.log2 < 140 := by
    by_cases z : n.natAbs = 0
    · rw [z]; decide
    · exact (Nat.log2_lt z).mpr (Nat.lt_trans h (by decide))
  refine ⟨rfl, decide_eq_true (by omega), Nat.zero_le _, rfl, decide_eq_true ?_, ?_⟩
  · have e := PySem.int_text_length_le10 (k := 40) (by decide) h
    show (Str.ofString (toString n)).length ≤ 50
    rw [PySem.ofString_length]
    omega
  · show (if n == 0 then 0 else n.natAbs.log2 + 1) ≤ 200
    split
    · decide
    · omega
theorem lay5_small {x : Int} (h : 0 ≤ x ∧ x < 100) : Lay5 (.int x) := lay5_int (by
  have e : (10 : Nat) ^ 40 = 10000000000000000000000000000000000000000 := by decide
  omega)
theorem wt_small : ∀ m : Fin 100, (PyData.int (m.val : Int)).weight ≤ 7 := by decide +kernel
theorem wt_of {x : Int} (h : 0 ≤ x ∧ x < 100) : (PyData.int x).weight ≤ 7 := by
  have := wt_small ⟨x.toNat, by omega⟩
  have e : ((x.toNat : Nat) : Int) = x := by omega
  rw [e] at this
  exact this
theorem Vl.lay {K : PySem.W.Frag} {H : Hp} {v : V} {d : PyData} : Vl K H v d → Lay5 d
  | .int h => lay5_int h
  | .str h hl => ⟨rfl, rfl, Nat.zero_le _, h, rfl, by show _ ≤ 200; exact Nat.le_trans hl (by decide)⟩
  | .tup (x := x) (y := y) _ hx hy => by
    have a := lay5_small hx
    have b := lay5_small hy
    refine ⟨rfl, ?_, Nat.le_refl _, (by show (true && (PyData.strOk "0" && (true && true))) = true; decide +kernel), ?_, ?_⟩
    · show ((PyData.int x).showable && (true && ((PyData.int y).showable && true))) = true
      rw [a.sh, b.sh]; rfl
    · show (PyData.intsShort 50 (.int x) && (true && (PyData.intsShort 50 (.int y) && true))) = true
      rw [a.ish, b.ish]; rfl
    · show (PyData.int x).weight + 1 + (1 + 1 + ((PyData.int y).weight + 1 + 0)) ≤ 200
      have := wt_of hx
      have := wt_of hy
      omega
  | .lst (x := x) _ hx => by
    have a := lay5_small hx
    refine ⟨rfl, ?_, Nat.le_refl _, rfl, ?_, ?_⟩
    · show ((PyData.int x).showable && true) = true
      rw [a.sh]; rfl
    · show (PyData.intsShort 50 (.int x) && true) = true
      rw [a.ish]; rfl
    · show (PyData.int x).weight + 1 + 0 ≤ 200
      have := wt_of hx
      omega
  | .bl b => ⟨rfl, rfl, Nat.zero_le _, rfl, rfl, Nat.zero_le _⟩
  | .non => ⟨rfl, rfl, Nat.zero_le _, rfl, rfl, Nat.zero_le _⟩
theorem VlAll.lays {K : PySem.W.Frag} {H : Hp} : ∀ {vs : List V} {ds : List PyData}, VlAll K H vs ds → PyData.hasDictAll ds = false ∧ PyData.showableAll ds = true ∧ PyData.depthAll ds ≤ 1 ∧ PyData.canLayAll0 ds = true ∧ PyData.intsShortAll 50 ds = true ∧ PyData.weightAll ds ≤ 201 * ds.length
  | _, _, .nil => ⟨rfl, rfl, Nat.zero_le _, rfl, rfl, Nat.le_refl _⟩
  | _, _, .cons (d := d) (ds := ds) h t => by
    have a := h.lay
    obtain ⟨b1, b2, b3, b4, b5, b6⟩ := t.lays
    refine ⟨?_, ?_, ?_, ?_, ?_, ?_⟩
    · show (d.hasDict || PyData.hasDictAll ds) = false
      rw [a.hd, b1]; rfl
    · show (d.showable && PyData.showableAll ds) = true
      rw [a.sh, b2]; rfl
    · show max d.depth (PyData.depthAll ds) ≤ 1
      have := a.dp; omega
    · show (d.canLay0 && PyData.canLayAll0 ds) = true
      rw [a.can, b4]; rfl
    · show (PyData.intsShort 50 d && PyData.intsShortAll 50 ds) = true
      rw [a.ish, b5]; rfl
    · show d.weight + 1 + PyData.weightAll ds ≤ 201 * (ds.length + 1)
      have := a.wt; omega
theorem VlAll.text {K : PySem.W.Frag} {H : Hp} {vs : List V} {ds : List PyData} (h : VlAll K H vs ds) (hl : vs.length ≤ 6) : (PyData.list ds).hasDict = false ∧ (PyData.list ds).showable = true ∧ (PyData.list ds).depth ≤ 8 ∧ (PyData.list ds).shown.length ≤ sizeLine := by
  obtain ⟨b1, b2, b3, b4, b5, b6⟩ := h.lays
  have e := h.len
  refine ⟨b1, b2, Nat.le_trans (Nat.succ_le_succ b3) (by decide), ?_⟩
  have q := PyData.shown_le 50 (by decide) (.list ds) (PyData.leavesShort_of_canLay0 50 (.list ds) b4 b5)
  have w : (PyData.list ds).weight ≤ 1206 := by
    show PyData.weightAll ds ≤ 1206
    omega
  refine Nat.le_trans q ?_
  rw [sizeLine_eq]
  omega
theorem joinL_one : ∀ cs : List Nat, TL.joinL [] (cs.map fun c => [c]) = cs
  | [] => rfl
  | [c] => rfl
  | c :: d :: cs => by
    show [c] ++ ([] ++ TL.joinL [] ((d :: cs).map fun c => [c])) = _
    rw [joinL_one (d :: cs)]
    rfl
theorem sign_all : ∀ m : Fin 7, (atI ((Str.ofString "01.ab *").cps.toList) (m.val : Int)).any (· < 0x110000) = true := by decide +kernel
theorem sign_at (x : Int) (h0 : 0 ≤ x) (h1 : x < 7) : ∃ c, atI ((Str.ofString "01.ab *").cps.toList) x = some c ∧ c < 0x110000 := by
  have := sign_all ⟨x.toNat, by omega⟩
  have e : ((x.toNat : Nat) : Int) = x := by omega
  rw [e] at this
  cases q : atI ((Str.ofString "01.ab *").cps.toList) x with
  | none => rw [q] at this; cases this
  | some c => rw [q] at this; exact ⟨c, rfl, of_decide_eq_true this⟩
theorem sum_one : ∀ cs : List Nat, (((cs.map fun c => [c]).map SX.S).map fun z : Str => z.length).sum = cs.length
  | [] => rfl
  | c :: cs => by
    show 1 + (((cs.map fun c => [c]).map SX.S).map fun z : Str => z.length).sum = cs.length + 1
    rw [sum_one cs]
    omega
section
variable {P : Program} {w : World} {K : PySem.W.Frag} {mg : Str → Option Value} {base : Heap}
def spValue (K : PySem.W.Frag) : Sp := fun vs H Q _ => ∃ t l : Addr, vs = [.ref t] ∧ Tape H t l ∧ ∀ (v : V) (d : PyData) (H' : Hp), (∀ a, v = .ref a → H a = none) → Gr t H H' → Tape H' t l → Vl K H' v d → Q v H'
theorem ok_value (A : At K mg "_law_value" s_law_value ["tape"]) (T : Tx mg) (G_law_pick : Dfn P w K mg base "_law_pick" ["tape", "size"] 1 spPick) : Dfn P w K mg base "_law_value" ["tape"] 2 (spValue K) := by
  refine A.ok sc_law_value (fun vs H Q E h => ?_) (fun f cdv A outer s H vs Q E hr h => ?_)
  · obtain ⟨t, l, rfl, _⟩ := h
    rfl
  · obtain ⟨t, l, rfl, hT, k⟩ := h
    refine ⟨_, (pss_cons (ps_set (i := 1) sc_law_value.nd rfl (Or.inl rfl) (pe_d G_law_pick (hr.mono (by decide)) (pa_cons (pv 0) (pa_cons pe_int pa_nil))))
      (pss_cons (ps_if (pt_cmpR op_eq (pv 1) pe_int (nomark _)) (pss_one (ps_ret (pe_op op_sub (pe_d G_law_pick (hr.mono (by decide)) (pa_cons (pv 0) (pa_cons pe_int pa_nil))) pe_int))) pss_nil)
      (pss_cons (ps_if (pt_cmpR op_eq (pv 1) pe_int (nomark _)) (pss_one (ps_ret (pe_op op_mul (pe_op op_add (pe_op op_pow pe_int pe_int) (pe_d G_law_pick (hr.mono (by decide)) (pa_cons (pv 0) (pa_cons (pe_op op_pow pe_int pe_int) pa_nil)))) (pe_op op_sub pe_int (pe_op op_mul pe_int (pe_d G_law_pick (hr.mono (by decide)) (pa_cons (pv 0) (pa_cons pe_int pa_nil)))))))) pss_nil)
      (pss_cons (ps_if (pt_cmpR op_eq (pv 1) pe_int (nomark _)) (pss_one (ps_ret (pe_join pe_str (pe_lc (own := [("turn", 2)]) (g := (gName 2)) (tt := tYes) (te := (tOp rIxS (tC (V.str "01.ab *")) (tCall spPick [] E0 (tCons (tVar 0) (tCons (tC (V.int 7)) tNil))))) (by rfl) sc_law_value.nd (pi_range1 rfl T.range (pa_cons (pe_d G_law_pick (hr.mono (by decide)) (pa_cons (pv 0) (pa_cons pe_int pa_nil))) pa_nil)) (blkOk_by (own := [("turn", 2)]) (N := n_law_value) (sc := (defScope s_law_value)) (by decide +kernel)) (fun _ _ _ _ _ => (pg_name (i := 2) sc_law_value.nd rfl (Or.inl rfl))) (fun _ _ _ _ _ => pts_nil) (fun _ _ _ _ _ => (pe_ix ix_str pe_str (pe_d G_law_pick (hr.mono (by decide)) (pa_cons (pv 0) (pa_cons pe_int pa_nil))) (fun _ _ => rfl))))))) pss_nil)
      (pss_cons (ps_if (pt_cmpR op_eq (pv 1) pe_int (nomark _)) (pss_one (ps_ret (pe_tup (pa_cons (pe_d G_law_pick (hr.mono (by decide)) (pa_cons (pv 0) (pa_cons pe_int pa_nil))) (pa_cons pe_str (pa_cons (pe_d G_law_pick (hr.mono (by decide)) (pa_cons (pv 0) (pa_cons pe_int pa_nil))) pa_nil)))))) pss_nil)
      (pss_cons (ps_if (pt_cmpR op_eq (pv 1) pe_int (nomark _)) (pss_one (ps_ret (pe_lst (pa_cons (pe_d G_law_pick (hr.mono (by decide)) (pa_cons (pv 0) (pa_cons pe_int pa_nil))) pa_nil)))) pss_nil)
      (pss_cons (ps_if (pt_cmpR op_eq (pv 1) pe_int (nomark _)) (pss_one (ps_ret (pe_cmpR op_eq (pe_d G_law_pick (hr.mono (by decide)) (pa_cons (pv 0) (pa_cons pe_int pa_nil))) pe_int (nomark _)))) pss_nil)
      (pss_one (ps_ret pe_non))))))))), ?_⟩
    refine ⟨_, rfl, t, l, 7, rfl, hT, by decide, by decide, fun s H1 s0 s1 g1 T1 => ?_⟩
    refine ⟨_, rfl, rfl, _, rfl, ?_⟩
    refine ite2 (fun _ => ?_) (fun _ => ?_)
    · refine ⟨_, rfl, t, l, 9, rfl, T1, by decide, by decide, fun x H2 x0 x1 g2 T2 => ?_⟩
      refine ⟨_, _, rfl, rfl, ?_⟩
      exact k _ _ H2 (fun _ e => nomatch e) (g1.trans g2) T2 (.int (by omega))
    refine ⟨_, rfl, rfl, _, rfl, ?_⟩
    refine ite2 (fun _ => ?_) (fun _ => ?_)
    · refine ⟨_, _, rfl, rfl, ⟨by decide, by decide, by decide⟩, _, rfl, _, _, rfl, rfl, ⟨by decide, by decide, by decide⟩, t, l, _, rfl, T1, by decide, by decide, fun x H2 x0 x1 g2 T2 => ⟨_, _, rfl, rfl, _, rfl, t, l, 2, rfl, T2, by decide, by decide, fun y H3 y0 y1 g3 T3 => ?_⟩⟩
      refine ⟨_, _, rfl, rfl, .inl ⟨by decide, by decide⟩, _, _, rfl, rfl, _, _, rfl, rfl, .inr ⟨by omega, by omega⟩, ?_⟩
      refine k _ _ H3 (fun _ e => nomatch e) ((g1.trans g2).trans g3) T3 (.int ?_)
      have e9 : (10 : Int) ^ (9 : Int).toNat = 1000000000 := by decide
      have e39 : (10 : Int) ^ (39 : Int).toNat = 1000000000000000000000000000000000000000 := by decide
      have e40 : (10 : Nat) ^ 40 = 10000000000000000000000000000000000000000 := by decide
      rw [e9] at x1
      rw [e39, e40]
      rcases (show y = 0 ∨ y = 1 by omega) with rfl | rfl
      · omega
      · omega
    refine ⟨_, rfl, rfl, _, rfl, ?_⟩
    refine ite2 (fun _ => ?_) (fun _ => ?_)
    · refine ⟨⟨_, rfl⟩, _, rfl, t, l, 9, rfl, T1, by decide, by decide, fun n H2 n0 n1 g2 T2 => ⟨n, rfl, by omega, by omega, fun D hD => ?_⟩⟩
      have nD := T2.free hD
      refine lc_range (lo := 0) (n := n.toNat) (fun i H' => ∃ cs : List Nat, H' D = some (.lst (((cs.map fun c => [c]).map SX.S).map V.str)) ∧ cs.length = i ∧ (∀ c ∈ cs, c < 0x110000) ∧ Gr t H2 H' ∧ Tape H' t l)
        ⟨[], upd_same, rfl, fun _ h => (by cases h), Gr.new hD, T2.new hD⟩ ?_ ?_
      · rintro i H3 hi ⟨cs, hDc, hcl, hcr, g3, T3⟩
        refine ⟨rfl, _, rfl, t, l, 7, rfl, T3, by decide, by decide, fun x H4 x0 x1 g4 T4 => ?_⟩
        obtain ⟨c, hc, hc2⟩ := sign_at x x0 x1
        have hD4 := g4 _ _ nD.1 hDc
        refine ⟨_, x, c, rfl, rfl, by decide, hc, _, hD4, by simp only [List.length_map]; exact small_lt (by omega), cs ++ [c], ?_, by rw [List.length_append, hcl]; rfl, fun z hz => ?_, gr_mut (g3.trans g4) hD, T4.mut nD⟩
        · rw [upd_same, List.map_append, List.map_append, List.map_append]
          rfl
        · rcases List.mem_append.mp hz with h | h
          · exact hcr z h
          · rw [List.mem_singleton.mp h]; exact hc2
      · rintro H3 ⟨cs, hDc, hcl, hcr, g3, T3⟩
        refine ⟨_, D, (cs.map fun c => [c]).map SX.S, rfl, rfl, .inl (SqL.of hDc), ?_, ?_⟩
        · rw [sum_one]
          simp only [List.length_map]
          have e : (Str.ofString "").length = 0 := by decide
          rw [e]
          omega
        · have e := SX.join_S [] (cs.map fun c => [c])
          rw [joinL_one] at e
          have e0 : (Str.ofString "") = SX.S [] := by rfl
          rw [e0, e]
          refine k _ (.str (SX.S cs)) H3 (fun _ e => nomatch e) ((g1.trans g2).trans g3) T3 (.str ?_ ?_)
          · show (cs.toArray).all (· < 0x110000) = true
            simpa using hcr
          · show cs.toArray.size ≤ 8
            rw [List.size_toArray]
            omega
    refine ⟨_, rfl, rfl, _, rfl, ?_⟩
    refine ite2 (fun _ => ?_) (fun _ => ?_)
    · refine ⟨_, rfl, t, l, 5, rfl, T1, by decide, by decide, fun x H2 x0 x1 g2 T2 => ⟨_, rfl, t, l, 3, rfl, T2, by decide, by decide, fun y H3 y0 y1 g3 T3 => ⟨by show 3 ≤ sizeLine; decide, fun p hp => ?_⟩⟩⟩
      exact k _ _ _ (fun a e => by cases e; exact ((g1.trans g2).trans g3).fresh T3 hp) (((g1.trans g2).trans g3).trans (Gr.new hp)) (T3.new hp) (.tup (SqT.of upd_same) (by omega) (by omega))
    refine ⟨_, rfl, rfl, _, rfl, ?_⟩
    refine ite2 (fun _ => ?_) (fun _ => ?_)
    · refine ⟨_, rfl, t, l, 5, rfl, T1, by decide, by decide, fun x H2 x0 x1 g2 T2 => ⟨by show 1 ≤ sizeLine; decide, fun p hp => ?_⟩⟩
      exact k _ _ _ (fun a e => by cases e; exact (g1.trans g2).fresh T2 hp) ((g1.trans g2).trans (Gr.new hp)) (T2.new hp) (.lst upd_same (by omega))
    refine ⟨_, rfl, rfl, _, rfl, ?_⟩
    refine ite2 (fun _ => ?_) (fun _ => ?_)
    · refine ⟨_, rfl, t, l, 2, rfl, T1, by decide, by decide, fun x H2 x0 x1 g2 T2 => ⟨rfl, ?_⟩⟩
      exact k _ _ H2 (fun _ e => nomatch e) (g1.trans g2) T2 (.bl _)
    · exact k _ _ H1 (fun _ e => nomatch e) g1 T1 .non
end
end Fo
set_option maxRecDepth 100000
set_option maxHeartbeats 2000000
set_option maxRecDepth 100000
set_option maxHeartbeats 2000000
namespace Fo
open PySem PySem.Spec PyProof.Rows L2
structure XcC (K : PySem.W.Frag) (D : Addr) : Prop where
  hc : (PySem.W.clsIn K D).isSome = true
  hg : PySem.W.findIn K (.ref D) "__getattribute__" = some (some (.builtin "BaseException.__getattribute__"))
  hk : PySem.W.findIn K (.ref D) "__getattr__" = some none
  hs : PySem.W.subIn K (.ref D) (.type "BaseException") = some true
  ha : PySem.W.findIn K (.ref D) "__class__" = some (some (.builtin "object.__class__"))
  hn : PySem.W.specialIn K (.builtin "object.__class__") "__get__" = some (some (.builtin "getset_descriptor.__get__"))
  ht : PySem.W.takesIn K (.builtin "object.__class__") = some true
  hm : PySem.W.mroIn K D (.type "object") = some true
theorem kit_other {K : PySem.W.Frag} {D D2 : Addr} (h1 : (PySem.W.clsIn K D2).isSome = true) (h2 : PySem.W.typeIn K (.ref D2) = some (.type "type")) (h3 : PySem.W.subIn K (.ref D) (.ref D2) = some false) (h4 : PySem.W.subIn K (.ref D2) (.ref D2) = some true) : PySem.W.kitOne K (.ref D) (.ref D2) = some false := by
  have ne : (Value.ref D == Value.ref D2) = false := by
    rw [beq_eq_false_iff_ne]
    intro q
    cases q
    rw [h3] at h4
    cases h4
  have e2 : ((PySem.W.clsIn K D2).isSome && PySem.W.typeIn K (.ref D2) == some (.type "type")) = true := by rw [h1, h2] <;> rfl
  unfold PySem.W.kitOne
  rw [ne, if_neg (by decide)]
  show (if ((PySem.W.clsIn K D2).isSome && PySem.W.typeIn K (.ref D2) == some (.type "type")) = true then PySem.W.subIn K (.ref D) (.ref D2) else none) = some false
  rw [if_pos e2]
  exact h3
end Fo
set_option maxRecDepth 100000
set_option maxHeartbeats 4000000
namespace Fo
open PySem PySem.Spec PyProof.Rows L2
/-- the promise of an __init__ that does nothing -/
def spPass : Sp := fun vs H Q _ => ∃ a : Addr, vs = [.ref a] ∧ Q .non H
section
variable {X : Cx}
theorem mk_endN {pins : List (Addr × Obj)} {σ : L2.St} {H1 : Hp} {Q : XK} {hp hp2 h2 : Heap} {g1 g2 : Array GenState} {d1 d2 : Drawn} {t1 t2 : Nat} {os1 os2 : OsState} {a C : Addr} (T : Raises X (.ref C)) (I1 : Inv X pins σ H1 ⟨hp, g1, d1, t1, os1⟩)
    (ha : hp.objs.size ≤ a) (k : ∀ b o, hp.get? b = some o → hp2.get? b = some o) (un : Un (frs X.stack) [] (upd H1 a (exo a C none)) (upd H1 a (exo a C none)) hp2 h2) (hok : HOk X.prog X.w (upd H1 a (exo a C none)) h2) (ho : os2 = os1) (hb : AllBare g2)
    (q : Q (.ref C) none H1) : MkP X pins σ Q (.ref a) ⟨h2, g2, d2, t2, os2⟩ := by
  have ea : upd H1 a (exo a C none) a = some (exo a C none) := upd_same
  obtain ⟨t0, hoe⟩ := exo_at hok ea
  have hn : H1 a = none := I1.hok.fresh ha
  obtain ⟨G, g1', g2'⟩ := restrict h2 fun b => decide (b ≠ a)
  have gk : ∀ b, b ≠ a → G.get? b = h2.get? b := fun b hb => g1' b (decide_eq_true hb)
  have ge : G.get? a = none := g2' a (by simp)
  have nha : ∀ {b : Addr} {o : Obj}, hp.get? b = some o → b ≠ a := fun {b o} z => Nat.ne_of_lt (Nat.lt_of_lt_of_le (Heap.lt_size z) ha)
  have up : ∀ {b : Addr}, b ≠ a → H1 b = none → upd H1 a (exo a C none) b = none := fun {b} hb n => by rw [upd_ne hb]; exact n
  have U : Un (frs X.stack) [] H1 H1 hp G := {
    keep := fun b o z n hf hx => by
      rw [gk b (nha z)]
      exact un.keep b o (k b o z) (up (nha z) n) hf hx
    slot := fun b o z n hf hx => by
      rw [gk b (nha z)]
      exact un.slot b o (k b o z) (up (nha z) n) hf hx
    free := fun b o z n hx => n
    there := fun b o z hx => by
      rw [gk b (nha z)]
      exact un.there b o (k b o z) hx
    tups := fun b xs z => z
    frzs := fun b o v z => z
    tbls := fun b ps z => ⟨#[], by rw [Array.append_empty]; exact z⟩ }
  have hok3 : HOk X.prog X.w H1 G := fun b o z => by
    have hba : b ≠ a := ne_of_none z hn
    have z2 : upd H1 a (exo a C none) b = some o := by rw [upd_ne hba]; exact z
    have noa : ∀ {c : Addr}, upd H1 a (exo a C none) c = some (.own b) → c ≠ a := fun {c} hc => at_ne ea hc exo_own
    exact (hok b o z2).stay (fun c v hc y => by
        have hca : c ≠ a := by
          rcases hc with hc | hc
          · rw [hc]
            exact hba
          · exact noa hc
        rw [gk c hca]
        exact y)
      (fun c hc => by
        have := noa hc
        rw [upd_ne this] at hc
        exact hc) (fun c xs hc => by
        have := at_ne ea hc exo_tup
        rw [upd_ne this] at hc
        exact hc)
  have J : Inv X pins σ H1 ⟨G, g2, d2, t2, os2⟩ := I1.call' (ch := []) ho U hok3 hb (fun b z => absurd z (by simp))
  refine ⟨a, _, _, ⟨G, g2, d2, t2, os2⟩, _, .ref C, none, rfl, J, fun b o z => ?_, ge, hoe, ⟨rfl, rfl⟩, rfl, rfl, hn, rfl, hb, T, q⟩
  by_cases hba : b = a
  · rw [hba, ge] at z
    cases z
  · exact (gk b hba).symm.trans z
theorem pmk_oex0 {x : Str} {C fI : Addr} {k : Nat} {fd : FuncData} {p pos : Pos} (T : OexC X.K C) (iC : PySem.W.findIn X.K (.ref C) "__init__" = some (some (.ref fI))) (tI : PySem.W.typeIn X.K (.ref fI) = some (.type "function"))
    (F1 : FnOk X.prog X.w X.K X.mg X.base CX0 k fI fd ["self"] spPass) (hr : Room (k + 1) X.A) (hb : Binds X.K fd ["self"] []) (hg : Gl X x) (hm : X.mg x = some (.ref C))
    (hdb : (x == ("__debug__" : Str)) = false := by decide) : PMk X (.Call (.Name x p) [] [] pos) (fun _ H Q => Q (.ref C) none H) := by
  intro pins s σ H Q I h
  obtain ⟨nm, q, N, bs, bm, sn, sub, ab, col, dd, k0, k1, k2, k3, k5, hC, hbm⟩ := T.cls
  refine wpAny_Call_Name_kw (ld_glob I hg hm ?_ hdb)
  refine PySem.W.callWith_K0 I.kIn T.kC ?_
  show wpAny _ _ (call (.ref C) []) _ _ _
  obtain ⟨hp, g, dr, tk, os⟩ := s
  have hsz : hp.objs.size ≤ hp.objs.size + 1 := Nat.le_succ _
  have hn : H (hp.objs.size + 1) = none := I.hok.fresh hsz
  have kk : ∀ b o, hp.get? b = some o → ((hp.push (PySem.W.kdv_tup [])).push (PySem.HandSPX.excO C hp.objs.size)).get? b = some o := fun b o e => Heap.get?_push_of_some _ (Heap.get?_push_of_some _ e)
  have hget : ((hp.push (PySem.W.kdv_tup [])).push (PySem.HandSPX.excO C hp.objs.size)).get? (hp.objs.size + 1) = some (PySem.HandSPX.excO C hp.objs.size) := by heap_get
  have I2 : Inv X pins σ (upd H (hp.objs.size + 1) (exo (hp.objs.size + 1) C none)) ⟨(hp.push (PySem.W.kdv_tup [])).push (PySem.HandSPX.excO C hp.objs.size), g, dr, tk, os⟩ :=
    I.laid (t' := tk) (a := hp.objs.size + 1) (o := exo (hp.objs.size + 1) C none) (h' := (hp.push (PySem.W.kdv_tup [])).push (PySem.HandSPX.excO C hp.objs.size)) kk hsz (exo_ok hget)
  have r2 : Vals [V.ref (hp.objs.size + 1)] [Value.ref (hp.objs.size + 1)] := .cons rfl .nil
  refine wpAny_call (PySem.HandSPX.call_own F.excBase_ValueError (fun Y => PySem.HandSPX.refsVE_contains Y bm hbm) (I.kIn _ _ hC) (PySem.W.looks_findIn I.kIn iC) (fun self => PySem.W.bind_fn I.kIn self tI) (by show 0 ≤ sizeLine; decide)
    (codeAny_mono (F1.run _ X.stack _ (upd H (hp.objs.size + 1) (exo (hp.objs.size + 1) C none)) ⟨[Value.ref (hp.objs.size + 1)], []⟩ [Value.ref (hp.objs.size + 1)] _ (fun v H2 => v = .non ∧ H2 = upd H (hp.objs.size + 1) (exo (hp.objs.size + 1) C none) ∧ Q (.ref C) none H) (fun _ _ _ => False) (hr.make C [] []) (I2.env0.make C [] []) (hb _ [Value.ref (hp.objs.size + 1)] I2.kIn rfl) r2 ⟨_, rfl, rfl, rfl, h⟩) fun r s' hq' => ?_))
  cases r with
  | error er => exact pass0 pins σ _ _ er s' I2 hq'
  | ok fl =>
    cases fl with
    | ret u =>
      obtain ⟨v, H2, os2, bare2, un2, hok2, rv, ev, eH, q2⟩ := hq'
      subst ev
      subst eH
      obtain ⟨h2, g2, d2, t2, os'⟩ := s'
      exact ⟨rv, mk_endN (raises_own T.exC T.tyC) I hsz kk un2 hok2 os2 bare2 q2⟩
    | next => exact False.elim hq'
    | brk => exact False.elim hq'
    | cont => exact False.elim hq'
end
/-- what is known of an error's class, without fields -/
structure Er0 (P : Program) (w : World) (K : PySem.W.Frag) (mg : Str → Option Value) (base : Heap) (x : Str) (D : Addr) : Prop where
  oex : OexC K D
  gC : mg x = some (.ref D)
  ini : ∃ fI fd, PySem.W.findIn K (.ref D) "__init__" = some (some (.ref fI)) ∧ PySem.W.typeIn K (.ref fI) = some (.type "function") ∧ FnOk P w K mg base CX0 1 fI fd ["self"] spPass ∧ Binds K fd ["self"] []
theorem pmk_er0 {X : Cx} {x : Str} {D : Addr} {p pos : Pos} (T : Er0 X.prog X.w X.K X.mg X.base x D) (hr : Room 2 X.A) (hg : Gl X x) (hdb : (x == ("__debug__" : Str)) = false := by decide) : PMk X (.Call (.Name x p) [] [] pos) (fun _ H Q => Q (.ref D) none H) := by
  obtain ⟨fI, fd, iC, tI, F1, hb⟩ := T.ini
  exact pmk_oex0 T.oex iC tI F1 hr hb hg T.gC hdb
end Fo
set_option maxRecDepth 100000
set_option maxHeartbeats 4000000
namespace Fo
open PySem PySem.Spec PyProof.Rows L2
/-- what is known of the errors that a law asks of -/
structure ErK (K : PySem.W.Frag) (mg : Str → Option Value) (DE : Addr) (cs : List (Str × Addr)) : Prop where
  gDE : mg "DrawError" = some (.ref DE)
  gVE : mg "ValueError" = none
  g : ∀ c ∈ cs, mg c.1 = some (.ref c.2)
  xm : ∀ c ∈ cs, PySem.W.exmOne K (.ref c.2) (.ref DE) = some true
  xc : ∀ c ∈ cs, XcC K c.2
  kk : ∀ c ∈ cs, ∀ d ∈ cs, PySem.W.kitOne K (.ref c.2) (.ref d.2) = some (decide (c.1 = d.1))
  kv : ∀ c ∈ cs, PySem.W.kitOne K (.ref c.2) (.type "ValueError") = some true
theorem exm_own {K : PySem.W.Frag} {DE B : Addr} (h1 : PySem.W.subIn K (.ref DE) (.type "BaseException") = some true) (h2 : PySem.W.isClsIn K DE = true) (h3 : PySem.W.typeIn K (.ref DE) = some (.type "type")) (h4 : PySem.W.subIn K (.ref B) (.ref DE) = some true) : PySem.W.exmOne K (.ref B) (.ref DE) = some true := by
  have e1 : (PySem.W.subIn K (.ref DE) (.type "BaseException") == some true) = true := by rw [h1] <;> rfl
  have e2 : ((PySem.W.clsIn K DE).isSome && PySem.W.typeIn K (.ref DE) == some (.type "type")) = true := by
    have h2' : (PySem.W.clsIn K DE).isSome = true := h2
    rw [h2', h3] <;> rfl
  show (if (PySem.W.subIn K (.ref DE) (.type "BaseException") == some true) = true then (if ((PySem.W.clsIn K DE).isSome && PySem.W.typeIn K (.ref DE) == some (.type "type")) = true then PySem.W.subIn K (.ref B) (.ref DE) else none) else none) = some true
  rw [if_pos e1, if_pos e2]
  exact h4
theorem kit_self {K : PySem.W.Frag} {D : Addr} : PySem.W.kitOne K (.ref D) (.ref D) = some true := by
  show (if (Value.ref D == Value.ref D) = true then some true else _) = some true
  rw [if_pos (beq_self_eq_true _)]
theorem all_nil {α : Type} {p : α → Prop} : ∀ c ∈ ([] : List α), p c := fun c h => by cases h
theorem all_cons {α : Type} {p : α → Prop} {a : α} {l : List α} (h : p a) (t : ∀ c ∈ l, p c) : ∀ c ∈ a :: l, p c := fun c hc => by
  rcases List.mem_cons.mp hc with rfl | hc
  · exact h
  · exact t c hc
end Fo
set_option maxRecDepth 100000
set_option maxHeartbeats 4000000
namespace Fo
open PySem PySem.Spec PyProof.Rows L2
def spFld1 (D : Addr) (x : Str) : Sp := fun vs H Q _ => ∃ (a : Addr) (u : V), vs = [.ref a, u] ∧ H a = some (exo a D none) ∧ ∀ (d : Addr) (H' : Hp), (∀ b o, b ≠ a → H b = some o → H' b = some o) → H d = none → d ≠ a → H' a = some (exo a D (some d)) → H' d = some (exd d [(x, u)]) → Q .non H'
structure Er1 (P : Program) (w : World) (K : PySem.W.Frag) (mg : Str → Option Value) (base : Heap) (x fld : Str) (D : Addr) : Prop where
  oex : OexC K D
  gC : mg x = some (.ref D)
  ini : ∃ fI fd, PySem.W.findIn K (.ref D) "__init__" = some (some (.ref fI)) ∧ PySem.W.typeIn K (.ref fI) = some (.type "function") ∧ FnOk P w K mg base CX0 1 fI fd ["self", fld] (spFld1 D fld) ∧ Binds K fd ["self", fld] []
def MonoA (ta : TA) : Prop := ∀ σ H (A B : List V → Hp → Prop), (∀ vs H1, A vs H1 → B vs H1) → ta σ H A → ta σ H B
end Fo
set_option maxRecDepth 100000
set_option maxHeartbeats 4000000
namespace Fo
open PySem PySem.Spec PyProof.Rows L2
def Dxd (H : Hp) (d : Option Addr) : Prop := d = none ∨ ∃ dd fs, d = some dd ∧ H dd = some (.xd fs)
theorem Dxd.same {H H' : Hp} {d : Option Addr} (s : Same H H') (h : Dxd H d) : Dxd H' d := by
  rcases h with h | ⟨dd, fs, h1, h2⟩
  · exact .inl h
  · exact .inr ⟨dd, fs, h1, s _ _ h2⟩
end Fo
set_option maxRecDepth 100000
set_option maxHeartbeats 4000000
namespace Fo
open PySem PySem.Spec PyProof.Rows L2
section
variable {X : Cx}
def tNewO (C : Addr) (sp : Sp) (ta : TA) : TE := fun σ H Q => ta σ H fun vs H1 => vs.length ≤ 1000 ∧ ∀ a, H1 a = none → sp (.ref a :: (vs ++ [])) (upd H1 a (exo a C none)) (fun v H2 => v = .non ∧ Q (.ref a) H2) (fun _ _ _ => False)
theorem pe_newO {x : Str} {C fI : Addr} {k : Nat} {fd : FuncData} {ps : List Str} {sp : Sp} {e : Expr} {es : List Expr} {ta : TA} {p pos : Pos} (T : OexC X.K C) (iC : PySem.W.findIn X.K (.ref C) "__init__" = some (some (.ref fI))) (tI : PySem.W.typeIn X.K (.ref fI) = some (.type "function"))
    (F1 : FnOk X.prog X.w X.K X.mg X.base CX0 k fI fd ps sp) (hr : Room (k + 1) X.A) (hb : Binds X.K fd ps []) (hg : Gl X x) (hm : X.mg x = some (.ref C)) (ha : PA X (e :: es) ta)
    (hdb : (x == ("__debug__" : Str)) = false := by decide) (he : starEach (e :: es) X.env = (false, eval e X.env) :: starEach es X.env := by rfl) (hpl : (backTo pos (starEach es X.env)).any (·.1) = false := by rfl) :
    PE X (.Call (.Name x p) (e :: es) [] pos) (tNewO C sp ta) := by
  refine ⟨fun pins s σ H Q I h => ?_⟩
  obtain ⟨nm, q, N, bs, bm, sn, sub, ab, col, dd, k0, k1, k2, k3, k5, hC, hbm⟩ := T.cls
  refine wpAny_Call_Name_kw (ld_glob I hg hm ?_ hdb)
  refine PySem.W.callWith_K (h₀ := X.base) I.ok.mod.kin T.kC (thn (ha.run pos pins s σ H _ I h) fun us s1 ⟨vs, H1, I1, r1, hz, q1⟩ => ⟨I1.kIn, ?_⟩) he hpl
  show wpAny _ _ (call (.ref C) us) _ _ _
  obtain ⟨hp, g, dr, tk, os⟩ := s1
  have hsz : hp.objs.size ≤ hp.objs.size + 1 := Nat.le_succ _
  have hn : H1 (hp.objs.size + 1) = none := I1.hok.fresh hsz
  have hq := q1 (hp.objs.size + 1) hn
  have kk : ∀ b o, hp.get? b = some o → ((hp.push (PySem.W.kdv_tup us)).push (PySem.HandSPX.excO C hp.objs.size)).get? b = some o := fun b o e => Heap.get?_push_of_some _ (Heap.get?_push_of_some _ e)
  have hget : ((hp.push (PySem.W.kdv_tup us)).push (PySem.HandSPX.excO C hp.objs.size)).get? (hp.objs.size + 1) = some (PySem.HandSPX.excO C hp.objs.size) := by heap_get
  have I2 : Inv X pins σ (upd H1 (hp.objs.size + 1) (exo (hp.objs.size + 1) C none)) ⟨(hp.push (PySem.W.kdv_tup us)).push (PySem.HandSPX.excO C hp.objs.size), g, dr, tk, os⟩ :=
    I1.laid (t' := tk) (a := hp.objs.size + 1) (o := exo (hp.objs.size + 1) C none) (h' := (hp.push (PySem.W.kdv_tup us)).push (PySem.HandSPX.excO C hp.objs.size)) kk hsz (exo_ok hget)
  have r2 : Vals (V.ref (hp.objs.size + 1) :: (vs ++ [])) (Value.ref (hp.objs.size + 1) :: (us ++ [])) := .cons rfl (r1.append .nil)
  have hl : (Value.ref (hp.objs.size + 1) :: (us ++ [])).length = ps.length := by
    have e := r2.length
    rw [F1.len _ _ _ _ hq] at e
    exact e.symm
  have hus : us.length ≤ sizeLine := by
    rw [← Paired.length r1, sizeLine_eq]
    omega
  have hb' := fun {s} kI hl => hb s (Value.ref (hp.objs.size + 1) :: us) kI hl
  rw [List.cons_append] at hb'
  refine wpAny_call (PySem.HandSPX.call_own F.excBase_ValueError (fun Y => PySem.HandSPX.refsVE_contains Y bm hbm) (I1.kIn _ _ hC) (PySem.W.looks_findIn I1.kIn iC) (fun self => PySem.W.bind_fn I1.kIn self tI) hus
    (codeAny_mono (F1.run _ X.stack _ _ ⟨Value.ref (hp.objs.size + 1) :: us, []⟩ (Value.ref (hp.objs.size + 1) :: (us ++ [])) _ _ (fun _ _ _ => False) (hr.make C us []) (I2.env0.make C us []) (hb' I2.kIn hl) r2 hq) fun r s' hq' => ?_))
  cases r with
  | error er => exact pass0 pins σ _ _ er s' I2 hq'
  | ok fl =>
    cases fl with
    | ret u =>
      obtain ⟨v, H2, os2, bare2, un2, hok2, rv, ev, q2⟩ := hq'
      subst ev
      obtain ⟨h2, g2, d2, t2, os'⟩ := s'
      exact ⟨rv, .ref (hp.objs.size + 1), H2, I2.call' (ch := []) os2 un2 hok2 bare2 (fun b z => absurd z (by simp)), rfl, q2⟩
    | next => exact False.elim hq'
    | brk => exact False.elim hq'
    | cont => exact False.elim hq'
def tNewO0 (C : Addr) : TE := fun _ H Q => ∀ a, H a = none → Q (.ref a) (upd H a (exo a C none))
theorem pe_newO0 {x : Str} {C fI : Addr} {k : Nat} {fd : FuncData} {p pos : Pos} (T : OexC X.K C) (iC : PySem.W.findIn X.K (.ref C) "__init__" = some (some (.ref fI))) (tI : PySem.W.typeIn X.K (.ref fI) = some (.type "function"))
    (F1 : FnOk X.prog X.w X.K X.mg X.base CX0 k fI fd ["self"] spPass) (hr : Room (k + 1) X.A) (hb : Binds X.K fd ["self"] []) (hg : Gl X x) (hm : X.mg x = some (.ref C))
    (hdb : (x == ("__debug__" : Str)) = false := by decide) : PE X (.Call (.Name x p) [] [] pos) (tNewO0 C) := by
  refine ⟨fun pins s σ H Q I h => ?_⟩
  obtain ⟨nm, q, N, bs, bm, sn, sub, ab, col, dd, k0, k1, k2, k3, k5, hC, hbm⟩ := T.cls
  refine wpAny_Call_Name_kw (ld_glob I hg hm ?_ hdb)
  refine PySem.W.callWith_K0 I.kIn T.kC ?_
  show wpAny _ _ (call (.ref C) []) _ _ _
  obtain ⟨hp, g, dr, tk, os⟩ := s
  have hsz : hp.objs.size ≤ hp.objs.size + 1 := Nat.le_succ _
  have hn : H (hp.objs.size + 1) = none := I.hok.fresh hsz
  have kk : ∀ b o, hp.get? b = some o → ((hp.push (PySem.W.kdv_tup [])).push (PySem.HandSPX.excO C hp.objs.size)).get? b = some o := fun b o e => Heap.get?_push_of_some _ (Heap.get?_push_of_some _ e)
  have hget : ((hp.push (PySem.W.kdv_tup [])).push (PySem.HandSPX.excO C hp.objs.size)).get? (hp.objs.size + 1) = some (PySem.HandSPX.excO C hp.objs.size) := by heap_get
  have I2 : Inv X pins σ (upd H (hp.objs.size + 1) (exo (hp.objs.size + 1) C none)) ⟨(hp.push (PySem.W.kdv_tup [])).push (PySem.HandSPX.excO C hp.objs.size), g, dr, tk, os⟩ :=
    I.laid (t' := tk) (a := hp.objs.size + 1) (o := exo (hp.objs.size + 1) C none) (h' := (hp.push (PySem.W.kdv_tup [])).push (PySem.HandSPX.excO C hp.objs.size)) kk hsz (exo_ok hget)
  have r2 : Vals [V.ref (hp.objs.size + 1)] [Value.ref (hp.objs.size + 1)] := .cons rfl .nil
  refine wpAny_call (PySem.HandSPX.call_own F.excBase_ValueError (fun Y => PySem.HandSPX.refsVE_contains Y bm hbm) (I.kIn _ _ hC) (PySem.W.looks_findIn I.kIn iC) (fun self => PySem.W.bind_fn I.kIn self tI) (by show 0 ≤ sizeLine; decide)
    (codeAny_mono (F1.run _ X.stack _ (upd H (hp.objs.size + 1) (exo (hp.objs.size + 1) C none)) ⟨[Value.ref (hp.objs.size + 1)], []⟩ [Value.ref (hp.objs.size + 1)] _ (fun v H2 => v = .non ∧ H2 = upd H (hp.objs.size + 1) (exo (hp.objs.size + 1) C none)) (fun _ _ _ => False) (hr.make C [] []) (I2.env0.make C [] []) (hb _ [Value.ref (hp.objs.size + 1)] I2.kIn rfl) r2 ⟨_, rfl, rfl, rfl⟩) fun r s' hq' => ?_))
  cases r with
  | error er => exact pass0 pins σ _ _ er s' I2 hq'
  | ok fl =>
    cases fl with
    | ret u =>
      obtain ⟨v, H2, os2, bare2, un2, hok2, rv, ev, eH⟩ := hq'
      subst ev
      subst eH
      obtain ⟨h2, g2, d2, t2, os'⟩ := s'
      exact ⟨rv, .ref (hp.objs.size + 1), _, I2.call' (ch := []) os2 un2 hok2 bare2 (fun b z => absurd z (by simp)), rfl, h _ hn⟩
    | next => exact False.elim hq'
    | brk => exact False.elim hq'
    | cont => exact False.elim hq'
/-- an error that stands: its class, its dict with what fields -/
def ErV (H : Hp) (a D : Addr) (fs : Option (List (Str × V))) : Prop := match fs with
  | none => H a = some (exo a D none)
  | some fs => ∃ d, H a = some (exo a D (some d)) ∧ H d = some (exd d fs)
theorem ErV.same {H H' : Hp} (s : Same H H') {a D : Addr} : ∀ {fs : Option (List (Str × V))}, ErV H a D fs → ErV H' a D fs
  | none, h => s _ _ h
  | some _, ⟨d, h1, h2⟩ => ⟨d, s _ _ h1, s _ _ h2⟩
def rIsV (K : PySem.W.Frag) : List V → Hp → VK → Prop := fun xs H Q => ∃ (a D : Addr) (fs : Option (List (Str × V))) (y : V) (u : Value) (b : Bool), xs = [.ref a, y] ∧ ErV H a D fs ∧ (∀ z, RelV y z → z = u) ∧ XcC K D ∧ PySem.W.kitOne K (.ref D) u = some b ∧ Q (.bl b) H
theorem call_isV : CallR X (.builtin "isinstance") (rIsV X.K) := by
  intro pins s σ H xs us Q I r h
  obtain ⟨a, D, fs, y, u, b, rfl, hv, hy, C, e, q⟩ := h
  cases r with
  | cons r0 r1 =>
    cases r1 with
    | cons r2 r3 =>
      cases r3
      cases r0
      have := hy _ r2
      subst this
      cases fs with
      | none =>
        obtain ⟨t1, hg⟩ := exo_at I.hok hv
        have J : PySem.W.InstAt s.heap a _ D none := ⟨hg, rfl, rfl, trivial⟩
        exact PySem.W.kia_one (PySem.W.kitx_exc C.hc C.hg C.hk C.hs C.ha C.hn C.ht C.hm) I.kIn J e (fun z => nomatch z) fun tk => ⟨.bl b, H, I.kept (t' := tk) fun _ _ z => z, rfl, q⟩
      | some fs =>
        obtain ⟨d, h1, h2⟩ := hv
        obtain ⟨t1, hg⟩ := exo_at I.hok h1
        obtain ⟨mA, hns, rel⟩ := exd_at I.hok h2
        obtain ⟨oD, _, _, hoD, _, _⟩ := hns.count (within_of rel)
        have J : PySem.W.InstAt s.heap a _ D (some oD) := ⟨hg, rfl, rfl, hoD⟩
        exact PySem.W.kia_one (PySem.W.kitx_exc C.hc C.hg C.hk C.hs C.ha C.hn C.ht C.hm) I.kIn J e (fun z => nomatch z) fun tk => ⟨.bl b, H, I.kept (t' := tk) fun _ _ z => z, rfl, q⟩
/-- a field of an error that stands -/
def tXv (K : PySem.W.Frag) (n : Str) (te : TE) : TE := fun σ H Q => te σ H fun x H1 => ∃ (a C : Addr) (fs : List (Str × V)) (v : V), x = .ref a ∧ ErV H1 a C (some fs) ∧ XfC K C ∧ PySem.W.findIn K (.ref C) n = some none ∧ fs.lookup n = some v ∧ Q v H1
theorem pe_xv {e : Expr} {te : TE} {pos : Pos} {n : Str} (he : PE X e te) (hb : attributeBase e n X.env (eval e X.env) = eval e X.env := by rfl) : PE X (.Attribute e n pos) (tXv X.K n te) := by
  refine ⟨fun pins s σ H Q I h => ?_⟩
  refine attr_of hb (thn (he.run pins s σ H _ I h) fun u s1 hh => ?_)
  obtain ⟨x, H1, I1, rx, a, C, fs, v, ex, ⟨d, h1, h2⟩, T, hno, l, q⟩ := hh
  subst ex
  obtain rfl : u = Value.ref a := rx
  obtain ⟨t1, hg⟩ := exo_at I1.hok h1
  obtain ⟨mA, hns, rel⟩ := exd_at I1.hok h2
  obtain ⟨od, es, ep, ho, hr⟩ := id hns
  have hl : ∀ n, PySem.W.lookIn n od = some (mA n) := by
    obtain ⟨od', ho', hl'⟩ := lookIn_ns hns
    rw [ho] at ho'
    cases ho'
    exact hl'
  obtain ⟨u, hu, ru⟩ := RelO.some_of (v := v) (o := mA n) (by rw [← l]; exact rel n)
  have J : PySem.W.InstAt s1.heap a _ C (some od) := ⟨hg, rfl, rfl, ho⟩
  exact HandSPX.exc_get I1.kIn J T.ga T.gg T.exC (PySem.W.findObj_own T.hdC hno rfl (by rw [hl, hu])) (handed_of ru) ⟨v, H1, I1.tok _, ru, q⟩
end
end Fo
set_option maxRecDepth 100000
set_option maxHeartbeats 4000000
namespace Fo
open PySem PySem.Spec PyProof.Rows L2
theorem exm_gen {K : PySem.W.Frag} {D B : Addr} {b : Bool} (h1 : PySem.W.subIn K (.ref D) (.type "BaseException") = some true) (h2 : PySem.W.isClsIn K D = true) (h3 : PySem.W.typeIn K (.ref D) = some (.type "type")) (h4 : PySem.W.subIn K (.ref B) (.ref D) = some b) : PySem.W.exmOne K (.ref B) (.ref D) = some b := by
  have e1 : (PySem.W.subIn K (.ref D) (.type "BaseException") == some true) = true := by rw [h1] <;> rfl
  have e2 : ((PySem.W.clsIn K D).isSome && PySem.W.typeIn K (.ref D) == some (.type "type")) = true := by
    have h2' : (PySem.W.clsIn K D).isSome = true := h2
    rw [h2', h3] <;> rfl
  show (if (PySem.W.subIn K (.ref D) (.type "BaseException") == some true) = true then (if ((PySem.W.clsIn K D).isSome && PySem.W.typeIn K (.ref D) == some (.type "type")) = true then PySem.W.subIn K (.ref B) (.ref D) else none) else none) = some b
  rw [if_pos e1, if_pos e2, h4]
end Fo
set_option maxRecDepth 100000
set_option maxHeartbeats 4000000
namespace Fo
open PySem PySem.Spec PyProof.Rows L2
def spFld2 (D : Addr) (x y : Str) : Sp := fun vs H Q _ => ∃ (a : Addr) (u v : V), vs = [.ref a, u, v] ∧ H a = some (exo a D none) ∧ ∀ (d : Addr) (H' : Hp), (∀ b o, b ≠ a → H b = some o → H' b = some o) → H d = none → d ≠ a → H' a = some (exo a D (some d)) → H' d = some (exd d [(y, v), (x, u)]) → Q .non H'
structure Er2 (P : Program) (w : World) (K : PySem.W.Frag) (mg : Str → Option Value) (base : Heap) (x f g : Str) (D : Addr) : Prop where
  oex : OexC K D
  gC : mg x = some (.ref D)
  ini : ∃ fI fd, PySem.W.findIn K (.ref D) "__init__" = some (some (.ref fI)) ∧ PySem.W.typeIn K (.ref fI) = some (.type "function") ∧ FnOk P w K mg base CX0 1 fI fd ["self", f, g] (spFld2 D f g) ∧ Binds K fd ["self", f, g] []
section
variable {X : Cx}
def tEr0 (D : Addr) : TE := fun _ H Q => ∀ a H', Same H H' → ErV H' a D none → Q (.ref a) H'
theorem pe_er0 {x : Str} {D : Addr} {p pos : Pos} (T : Er0 X.prog X.w X.K X.mg X.base x D) (hr : Room 2 X.A) (hg : Gl X x) (hdb : (x == ("__debug__" : Str)) = false := by decide) : PE X (.Call (.Name x p) [] [] pos) (tEr0 D) := by
  obtain ⟨fI, fd, iC, tI, F1, hb⟩ := T.ini
  exact ⟨fun pins s σ H Q I h => (pe_newO0 T.oex iC tI F1 hr hb hg T.gC hdb).run pins s σ H Q I fun a ha => h a _ (same_new ha) upd_same⟩
theorem pe_er1 {x fld : Str} {D : Addr} {e : Expr} {es : List Expr} {ta : TA} {p pos : Pos} (T : Er1 X.prog X.w X.K X.mg X.base x fld D) (hr : Room 2 X.A) (hg : Gl X x) (ha : PA X (e :: es) ta) (hdb : (x == ("__debug__" : Str)) = false := by decide) (he : starEach (e :: es) X.env = (false, eval e X.env) :: starEach es X.env := by rfl) (hpl : (backTo pos (starEach es X.env)).any (·.1) = false := by rfl) :
    PE X (.Call (.Name x p) (e :: es) [] pos) (tNewO D (spFld1 D fld) ta) := by
  obtain ⟨fI, fd, iC, tI, F1, hb⟩ := T.ini
  exact pe_newO T.oex iC tI F1 hr hb hg T.gC ha hdb he hpl
theorem pe_er2 {x f g : Str} {D : Addr} {e : Expr} {es : List Expr} {ta : TA} {p pos : Pos} (T : Er2 X.prog X.w X.K X.mg X.base x f g D) (hr : Room 2 X.A) (hg : Gl X x) (ha : PA X (e :: es) ta) (hdb : (x == ("__debug__" : Str)) = false := by decide) (he : starEach (e :: es) X.env = (false, eval e X.env) :: starEach es X.env := by rfl) (hpl : (backTo pos (starEach es X.env)).any (·.1) = false := by rfl) :
    PE X (.Call (.Name x p) (e :: es) [] pos) (tNewO D (spFld2 D f g) ta) := by
  obtain ⟨fI, fd, iC, tI, F1, hb⟩ := T.ini
  exact pe_newO T.oex iC tI F1 hr hb hg T.gC ha hdb he hpl
theorem pmk_er2 {x f g : Str} {D : Addr} {e : Expr} {es : List Expr} {ta : TA} {p pos : Pos} (T : Er2 X.prog X.w X.K X.mg X.base x f g D) (hr : Room 2 X.A) (hg : Gl X x) (ha : PA X (e :: es) ta) (hmo : MonoA ta) (hdb : (x == ("__debug__" : Str)) = false := by decide) (he : starEach (e :: es) X.env = (false, eval e X.env) :: starEach es X.env := by rfl) (hpl : (backTo pos (starEach es X.env)).any (·.1) = false := by rfl) :
    PMk X (.Call (.Name x p) (e :: es) [] pos) (fun σ H Q => ta σ H fun vs H1 => ∃ u v, vs = [u, v] ∧ ∀ d H', Same H1 H' → H1 d = none → H' d = some (.xd [(g, v), (f, u)]) → Q (.ref D) (some d) H') := by
  obtain ⟨fI, fd, iC, tI, F1, hb⟩ := T.ini
  intro pins s σ H Q I h
  refine pmk_oex T.oex iC tI F1 hr hb .nil pass0 hg T.gC ha hdb he hpl pins s σ H Q I ?_
  refine hmo σ H _ _ (fun vs H1 h2 => ?_) h
  obtain ⟨u, v, rfl, k2⟩ := h2
  refine ⟨by show 2 ≤ 1000; decide, fun a ha => ⟨a, _, _, rfl, upd_same, fun d H' hk hdn hne h1 h2 => ⟨rfl, d, _, h1, h2, ?_, ?_⟩⟩⟩
  · rw [upd_ne hne] at hdn
    exact hdn
  · have hdn' : H1 d = none := by rw [upd_ne hne] at hdn; exact hdn
    refine k2 d _ (fun b o e1 => ?_) hdn' upd_same
    have hba : b ≠ a := ne_of_none e1 ha
    have hbd : b ≠ d := ne_of_none e1 hdn'
    rw [upd_ne hbd, del_ne hba]
    exact hk b o hba (by rw [upd_ne hba]; exact e1)
end
/-- what an __init__ leaves: all but the new one as it was -/
theorem same_ini {H1 H' : Hp} {a : Addr} {o : HO} (ha : H1 a = none) (hk : ∀ b u, b ≠ a → (upd H1 a o) b = some u → H' b = some u) : Same H1 H' := fun b u e => by
  have hba : b ≠ a := ne_of_none e ha
  exact hk b u hba (by rw [upd_ne hba]; exact e)
/-- which class is ValueError's and DrawError's -/
structure ErD (K : PySem.W.Frag) (DE : Addr) (cs : List (Str × Addr)) : Prop where
  kd : ∀ c ∈ cs, PySem.W.kitOne K (.ref c.2) (.ref DE) = some true
theorem kit_de {K : PySem.W.Frag} {D D2 : Addr} (h1 : (PySem.W.clsIn K D2).isSome = true) (h2 : PySem.W.typeIn K (.ref D2) = some (.type "type")) (h3 : PySem.W.subIn K (.ref D) (.ref D2) = some true) : PySem.W.kitOne K (.ref D) (.ref D2) = some true := by
  by_cases q : (Value.ref D == Value.ref D2) = true
  · unfold PySem.W.kitOne
    rw [if_pos q]
  · have e2 : ((PySem.W.clsIn K D2).isSome && PySem.W.typeIn K (.ref D2) == some (.type "type")) = true := by rw [h1, h2] <;> rfl
    unfold PySem.W.kitOne
    rw [if_neg q]
    show (if ((PySem.W.clsIn K D2).isSome && PySem.W.typeIn K (.ref D2) == some (.type "type")) = true then PySem.W.subIn K (.ref D) (.ref D2) else none) = some true
    rw [if_pos e2]
    exact h3
/-- an own error's class: whose heir it is -/
def MroX (K : PySem.W.Frag) (DE B : Addr) : Prop := ∀ D : Addr, PySem.W.subIn K (.ref B) (.ref D) = some (decide (D = B ∨ D = DE))
theorem mrox_of {K : PySem.W.Frag} {DE B N : Addr} {nm q : Str} {bs : List Value} {hd ab : Bool} {sn : List Str} {sub : List Value} {col : Option Bool} {dd : Option Addr} {k0 k1 k2 k3 k5 : Option Value} {ni : String} (xL : K.lookup B = some (excClassObj nm q B N bs [.ref DE, .type "ValueError", .type "Exception", .type "BaseException", .type "object"] hd sn sub ab col dd k0 k1 k2 k3 k5 ni)) : MroX K DE B := by
  intro D
  show (PySem.W.clsIn K B).bind _ = _
  have e : ∃ cd, PySem.W.clsIn K B = some cd ∧ cd.mro = [.ref B, .ref DE, .type "ValueError", .type "Exception", .type "BaseException", .type "object"] := by
    unfold PySem.W.clsIn
    rw [xL]
    exact ⟨_, rfl, rfl⟩
  obtain ⟨cd, e1, e2⟩ := e
  rw [e1]
  show (if cd.mro.isEmpty then none else some (cd.mro.contains (.ref D))) = _
  rw [e2]
  show some (([.ref B, .ref DE, .type "ValueError", .type "Exception", .type "BaseException", .type "object"] : List Value).contains (.ref D)) = _
  congr 1
  by_cases h1 : D = B
  · subst h1
    simp
  · by_cases h2 : D = DE
    · subst h2
      simp
    · simp [h1, h2]
theorem inj_nodup {α β : Type} {f : α → β} : ∀ {l : List α}, (l.map f).Nodup → ∀ a ∈ l, ∀ b ∈ l, f a = f b → a = b
  | [], _, _, h, _, _, _ => by cases h
  | x :: l, nd, a, ha, b, hb, e => by
    rw [List.map_cons, List.nodup_cons] at nd
    rcases List.mem_cons.mp ha with e1 | h1
    · rcases List.mem_cons.mp hb with e2 | h2
      · rw [e1, e2]
      · rw [e1] at e
        exact absurd (e ▸ List.mem_map_of_mem h2) nd.1
    · rcases List.mem_cons.mp hb with e2 | h2
      · rw [e2] at e
        exact absurd (e ▸ List.mem_map_of_mem h1) nd.1
      · exact inj_nodup nd.2 a h1 b h2 e
theorem kk_all {K : PySem.W.Frag} {DE : Addr} {cs : List (Str × Addr)} (M : ∀ c ∈ cs, MroX K DE c.2) (I : ∀ c ∈ cs, PySem.W.isClsIn K c.2 = true) (T : ∀ c ∈ cs, PySem.W.typeIn K (.ref c.2) = some (.type "type")) (n1 : (cs.map (·.1)).Nodup) (n2 : (DE :: cs.map (·.2)).Nodup) :
    ∀ c ∈ cs, ∀ d ∈ cs, PySem.W.kitOne K (.ref c.2) (.ref d.2) = some (decide (c.1 = d.1)) := by
  intro c hc d hd
  rw [List.nodup_cons] at n2
  by_cases e : c = d
  · subst e
    rw [decide_eq_true rfl]
    exact kit_self
  · have h1 : ¬ c.1 = d.1 := fun q => e (inj_nodup n1 c hc d hd q)
    have h2 : ¬ d.2 = c.2 := fun q => e (inj_nodup n2.2 c hc d hd q.symm)
    have h3 : ¬ d.2 = DE := fun q => n2.1 (q ▸ List.mem_map_of_mem hd)
    rw [decide_eq_false h1]
    refine kit_other (I d hd) (T d hd) ?_ ?_
    · rw [M c hc d.2, decide_eq_false]
      rintro (q | q)
      · exact h2 q
      · exact h3 q
    · rw [M d hd d.2, decide_eq_true (.inl rfl)]
end Fo
set_option maxRecDepth 100000
set_option maxHeartbeats 4000000
namespace Fo
open PySem PySem.Spec PyProof.Rows L2
abbrev s_law_plain : Stmt := top 38
abbrev n_law_plain : List Str := ["first", "more"]
theorem sc_law_plain : FnScope n_law_plain [] (defScope s_law_plain) := ⟨rfl, rfl, rfl, by decide +kernel, rfl, by decide +kernel, by decide +kernel⟩
abbrev s_law_with : Stmt := top 39
abbrev n_law_with : List Str := ["values", "found"]
theorem sc_law_with : FnScope n_law_with ["values"] (defScope s_law_with) := ⟨rfl, rfl, rfl, by decide +kernel, rfl, by decide +kernel, by decide +kernel⟩
abbrev s_law_fields : Stmt := top 40
abbrev n_law_fields : List Str := ["errors", "found"]
theorem sc_law_fields : FnScope n_law_fields ["errors"] (defScope s_law_fields) := ⟨rfl, rfl, rfl, by decide +kernel, rfl, by decide +kernel, by decide +kernel⟩
abbrev s_law_kinds : Stmt := top 41
abbrev n_law_kinds : List Str := ["e", "first", "more", "last"]
theorem sc_law_kinds : FnScope n_law_kinds ["e"] (defScope s_law_kinds) := ⟨rfl, rfl, rfl, by decide +kernel, rfl, by decide +kernel, by decide +kernel⟩
abbrev s_law_alone : Stmt := top 42
abbrev n_law_alone : List Str := ["error", "at", "index"]
theorem sc_law_alone : FnScope n_law_alone ["error", "at"] (defScope s_law_alone) := ⟨rfl, rfl, rfl, by decide +kernel, rfl, by decide +kernel, by decide +kernel⟩
abbrev s_law_caught : Stmt := top 43
abbrev n_law_caught : List Str := ["value", "other", "found", "e"]
theorem sc_law_caught : FnScope n_law_caught ["value", "other"] (defScope s_law_caught) := ⟨rfl, rfl, rfl, by decide +kernel, rfl, by decide +kernel, by decide +kernel⟩
abbrev s_NoPerson___init : Stmt := inClass (top 3) 0
abbrev n_NoPerson___init : List Str := ["self"]
theorem sc_NoPerson___init : FnScope n_NoPerson___init ["self"] (defScope s_NoPerson___init) := ⟨rfl, rfl, rfl, by decide +kernel, rfl, by decide +kernel, by decide +kernel⟩
abbrev s_NoThing___init : Stmt := inClass (top 4) 0
abbrev n_NoThing___init : List Str := ["self"]
theorem sc_NoThing___init : FnScope n_NoThing___init ["self"] (defScope s_NoThing___init) := ⟨rfl, rfl, rfl, by decide +kernel, rfl, by decide +kernel, by decide +kernel⟩
abbrev s_NoNumbers___init : Stmt := inClass (top 5) 0
abbrev n_NoNumbers___init : List Str := ["self"]
theorem sc_NoNumbers___init : FnScope n_NoNumbers___init ["self"] (defScope s_NoNumbers___init) := ⟨rfl, rfl, rfl, by decide +kernel, rfl, by decide +kernel, by decide +kernel⟩
abbrev s_NoNumber___init : Stmt := inClass (top 6) 0
abbrev n_NoNumber___init : List Str := ["self"]
theorem sc_NoNumber___init : FnScope n_NoNumber___init ["self"] (defScope s_NoNumber___init) := ⟨rfl, rfl, rfl, by decide +kernel, rfl, by decide +kernel, by decide +kernel⟩
abbrev s_NoDealing___init : Stmt := inClass (top 8) 0
abbrev n_NoDealing___init : List Str := ["self"]
theorem sc_NoDealing___init : FnScope n_NoDealing___init ["self"] (defScope s_NoDealing___init) := ⟨rfl, rfl, rfl, by decide +kernel, rfl, by decide +kernel, by decide +kernel⟩
abbrev s_NoLot___init : Stmt := inClass (top 9) 0
abbrev n_NoLot___init : List Str := ["self"]
theorem sc_NoLot___init : FnScope n_NoLot___init ["self"] (defScope s_NoLot___init) := ⟨rfl, rfl, rfl, by decide +kernel, rfl, by decide +kernel, by decide +kernel⟩
abbrev s_Stuck___init : Stmt := inClass (top 11) 0
abbrev n_Stuck___init : List Str := ["self"]
theorem sc_Stuck___init : FnScope n_Stuck___init ["self"] (defScope s_Stuck___init) := ⟨rfl, rfl, rfl, by decide +kernel, rfl, by decide +kernel, by decide +kernel⟩
abbrev s_NoRing___init : Stmt := inClass (top 12) 0
abbrev n_NoRing___init : List Str := ["self"]
theorem sc_NoRing___init : FnScope n_NoRing___init ["self"] (defScope s_NoRing___init) := ⟨rfl, rfl, rfl, by decide +kernel, rfl, by decide +kernel, by decide +kernel⟩
abbrev s_NoTie___init : Stmt := inClass (top 13) 0
abbrev n_NoTie___init : List Str := ["self"]
theorem sc_NoTie___init : FnScope n_NoTie___init ["self"] (defScope s_NoTie___init) := ⟨rfl, rfl, rfl, by decide +kernel, rfl, by decide +kernel, by decide +kernel⟩
abbrev s_NoStanding___init : Stmt := inClass (top 14) 0
abbrev n_NoStanding___init : List Str := ["self"]
theorem sc_NoStanding___init : FnScope n_NoStanding___init ["self"] (defScope s_NoStanding___init) := ⟨rfl, rfl, rfl, by decide +kernel, rfl, by decide +kernel, by decide +kernel⟩
abbrev s_NoTurn___init : Stmt := inClass (top 15) 0
abbrev n_NoTurn___init : List Str := ["self"]
theorem sc_NoTurn___init : FnScope n_NoTurn___init ["self"] (defScope s_NoTurn___init) := ⟨rfl, rfl, rfl, by decide +kernel, rfl, by decide +kernel, by decide +kernel⟩
abbrev s_NoCustom___init : Stmt := inClass (top 16) 0
abbrev n_NoCustom___init : List Str := ["self"]
theorem sc_NoCustom___init : FnScope n_NoCustom___init ["self"] (defScope s_NoCustom___init) := ⟨rfl, rfl, rfl, by decide +kernel, rfl, by decide +kernel, by decide +kernel⟩
abbrev s_NoFraction___init : Stmt := inClass (top 17) 0
abbrev n_NoFraction___init : List Str := ["self"]
theorem sc_NoFraction___init : FnScope n_NoFraction___init ["self"] (defScope s_NoFraction___init) := ⟨rfl, rfl, rfl, by decide +kernel, rfl, by decide +kernel, by decide +kernel⟩
abbrev s_NoBook___init : Stmt := inClass (top 18) 0
abbrev n_NoBook___init : List Str := ["self"]
theorem sc_NoBook___init : FnScope n_NoBook___init ["self"] (defScope s_NoBook___init) := ⟨rfl, rfl, rfl, by decide +kernel, rfl, by decide +kernel, by decide +kernel⟩
abbrev s_NoHistory___init : Stmt := inClass (top 19) 0
abbrev n_NoHistory___init : List Str := ["self"]
theorem sc_NoHistory___init : FnScope n_NoHistory___init ["self"] (defScope s_NoHistory___init) := ⟨rfl, rfl, rfl, by decide +kernel, rfl, by decide +kernel, by decide +kernel⟩
abbrev s_NoTickets___init : Stmt := inClass (top 20) 0
abbrev n_NoTickets___init : List Str := ["self"]
theorem sc_NoTickets___init : FnScope n_NoTickets___init ["self"] (defScope s_NoTickets___init) := ⟨rfl, rfl, rfl, by decide +kernel, rfl, by decide +kernel, by decide +kernel⟩
abbrev s_NoSteps___init : Stmt := inClass (top 21) 0
abbrev n_NoSteps___init : List Str := ["self"]
theorem sc_NoSteps___init : FnScope n_NoSteps___init ["self"] (defScope s_NoSteps___init) := ⟨rfl, rfl, rfl, by decide +kernel, rfl, by decide +kernel, by decide +kernel⟩
abbrev s_NoChances___init : Stmt := inClass (top 22) 0
abbrev n_NoChances___init : List Str := ["self"]
theorem sc_NoChances___init : FnScope n_NoChances___init ["self"] (defScope s_NoChances___init) := ⟨rfl, rfl, rfl, by decide +kernel, rfl, by decide +kernel, by decide +kernel⟩
abbrev s_NoPrices___init : Stmt := inClass (top 23) 0
abbrev n_NoPrices___init : List Str := ["self"]
theorem sc_NoPrices___init : FnScope n_NoPrices___init ["self"] (defScope s_NoPrices___init) := ⟨rfl, rfl, rfl, by decide +kernel, rfl, by decide +kernel, by decide +kernel⟩
abbrev s_Empty___init : Stmt := inClass (top 25) 0
abbrev n_Empty___init : List Str := ["self"]
theorem sc_Empty___init : FnScope n_Empty___init ["self"] (defScope s_Empty___init) := ⟨rfl, rfl, rfl, by decide +kernel, rfl, by decide +kernel, by decide +kernel⟩
abbrev s_NoSizes___init : Stmt := inClass (top 26) 0
abbrev n_NoSizes___init : List Str := ["self"]
theorem sc_NoSizes___init : FnScope n_NoSizes___init ["self"] (defScope s_NoSizes___init) := ⟨rfl, rfl, rfl, by decide +kernel, rfl, by decide +kernel, by decide +kernel⟩
abbrev s_NoLooks___init : Stmt := inClass (top 27) 0
abbrev n_NoLooks___init : List Str := ["self"]
theorem sc_NoLooks___init : FnScope n_NoLooks___init ["self"] (defScope s_NoLooks___init) := ⟨rfl, rfl, rfl, by decide +kernel, rfl, by decide +kernel, by decide +kernel⟩
abbrev s_NoOutcome___init : Stmt := inClass (top 28) 0
abbrev n_NoOutcome___init : List Str := ["self"]
theorem sc_NoOutcome___init : FnScope n_NoOutcome___init ["self"] (defScope s_NoOutcome___init) := ⟨rfl, rfl, rfl, by decide +kernel, rfl, by decide +kernel, by decide +kernel⟩
abbrev s_NoComer___init : Stmt := inClass (top 29) 0
abbrev n_NoComer___init : List Str := ["self"]
theorem sc_NoComer___init : FnScope n_NoComer___init ["self"] (defScope s_NoComer___init) := ⟨rfl, rfl, rfl, by decide +kernel, rfl, by decide +kernel, by decide +kernel⟩
abbrev s_NotOpen___init : Stmt := inClass (top 30) 0
abbrev n_NotOpen___init : List Str := ["self"]
theorem sc_NotOpen___init : FnScope n_NotOpen___init ["self"] (defScope s_NotOpen___init) := ⟨rfl, rfl, rfl, by decide +kernel, rfl, by decide +kernel, by decide +kernel⟩
abbrev s_NothingDone___init : Stmt := inClass (top 31) 0
abbrev n_NothingDone___init : List Str := ["self"]
theorem sc_NothingDone___init : FnScope n_NothingDone___init ["self"] (defScope s_NothingDone___init) := ⟨rfl, rfl, rfl, by decide +kernel, rfl, by decide +kernel, by decide +kernel⟩
abbrev s_NoLine___init : Stmt := inClass (top 32) 0
abbrev n_NoLine___init : List Str := ["self"]
theorem sc_NoLine___init : FnScope n_NoLine___init ["self"] (defScope s_NoLine___init) := ⟨rfl, rfl, rfl, by decide +kernel, rfl, by decide +kernel, by decide +kernel⟩
theorem pass_NoPerson {P : Program} {w : World} {K : PySem.W.Frag} {mg : Str → Option Value} {base : Heap} {f : Addr} {fd : FuncData} (F : Fun K "__init__" "NoPerson.__init__" s_NoPerson___init f fd) : FnOk P w K mg base CX0 1 f fd ["self"] spPass := by
  refine F.ok sc_NoPerson___init (fun vs H Q E h => ?_) (fun cdv A outer s H vs Q E hr h => ?_)
  · obtain ⟨a, rfl, _⟩ := h
    rfl
  · obtain ⟨a, rfl, k⟩ := h
    exact ⟨_, pss_one ps_pass, k⟩
theorem pass_NoThing {P : Program} {w : World} {K : PySem.W.Frag} {mg : Str → Option Value} {base : Heap} {f : Addr} {fd : FuncData} (F : Fun K "__init__" "NoThing.__init__" s_NoThing___init f fd) : FnOk P w K mg base CX0 1 f fd ["self"] spPass := by
  refine F.ok sc_NoThing___init (fun vs H Q E h => ?_) (fun cdv A outer s H vs Q E hr h => ?_)
  · obtain ⟨a, rfl, _⟩ := h
    rfl
  · obtain ⟨a, rfl, k⟩ := h
    exact ⟨_, pss_one ps_pass, k⟩
theorem pass_NoNumbers {P : Program} {w : World} {K : PySem.W.Frag} {mg : Str → Option Value} {base : Heap} {f : Addr} {fd : FuncData} (F : Fun K "__init__" "NoNumbers.__init__" s_NoNumbers___init f fd) : FnOk P w K mg base CX0 1 f fd ["self"] spPass := by
  refine F.ok sc_NoNumbers___init (fun vs H Q E h => ?_) (fun cdv A outer s H vs Q E hr h => ?_)
  · obtain ⟨a, rfl, _⟩ := h
    rfl
  · obtain ⟨a, rfl, k⟩ := h
    exact ⟨_, pss_one ps_pass, k⟩
theorem pass_NoNumber {P : Program} {w : World} {K : PySem.W.Frag} {mg : Str → Option Value} {base : Heap} {f : Addr} {fd : FuncData} (F : Fun K "__init__" "NoNumber.__init__" s_NoNumber___init f fd) : FnOk P w K mg base CX0 1 f fd ["self"] spPass := by
  refine F.ok sc_NoNumber___init (fun vs H Q E h => ?_) (fun cdv A outer s H vs Q E hr h => ?_)
  · obtain ⟨a, rfl, _⟩ := h
    rfl
  · obtain ⟨a, rfl, k⟩ := h
    exact ⟨_, pss_one ps_pass, k⟩
theorem pass_NoDealing {P : Program} {w : World} {K : PySem.W.Frag} {mg : Str → Option Value} {base : Heap} {f : Addr} {fd : FuncData} (F : Fun K "__init__" "NoDealing.__init__" s_NoDealing___init f fd) : FnOk P w K mg base CX0 1 f fd ["self"] spPass := by
  refine F.ok sc_NoDealing___init (fun vs H Q E h => ?_) (fun cdv A outer s H vs Q E hr h => ?_)
  · obtain ⟨a, rfl, _⟩ := h
    rfl
  · obtain ⟨a, rfl, k⟩ := h
    exact ⟨_, pss_one ps_pass, k⟩
theorem pass_NoLot {P : Program} {w : World} {K : PySem.W.Frag} {mg : Str → Option Value} {base : Heap} {f : Addr} {fd : FuncData} (F : Fun K "__init__" "NoLot.__init__" s_NoLot___init f fd) : FnOk P w K mg base CX0 1 f fd ["self"] spPass := by
  refine F.ok sc_NoLot___init (fun vs H Q E h => ?_) (fun cdv A outer s H vs Q E hr h => ?_)
  · obtain ⟨a, rfl, _⟩ := h
    rfl
  · obtain ⟨a, rfl, k⟩ := h
    exact ⟨_, pss_one ps_pass, k⟩
theorem pass_Stuck {P : Program} {w : World} {K : PySem.W.Frag} {mg : Str → Option Value} {base : Heap} {f : Addr} {fd : FuncData} (F : Fun K "__init__" "Stuck.__init__" s_Stuck___init f fd) : FnOk P w K mg base CX0 1 f fd ["self"] spPass := by
  refine F.ok sc_Stuck___init (fun vs H Q E h => ?_) (fun cdv A outer s H vs Q E hr h => ?_)
  · obtain ⟨a, rfl, _⟩ := h
    rfl
  · obtain ⟨a, rfl, k⟩ := h
    exact ⟨_, pss_one ps_pass, k⟩
theorem pass_NoRing {P : Program} {w : World} {K : PySem.W.Frag} {mg : Str → Option Value} {base : Heap} {f : Addr} {fd : FuncData} (F : Fun K "__init__" "NoRing.__init__" s_NoRing___init f fd) : FnOk P w K mg base CX0 1 f fd ["self"] spPass := by
  refine F.ok sc_NoRing___init (fun vs H Q E h => ?_) (fun cdv A outer s H vs Q E hr h => ?_)
  · obtain ⟨a, rfl, _⟩ := h
    rfl
  · obtain ⟨a, rfl, k⟩ := h
    exact ⟨_, pss_one ps_pass, k⟩
theorem pass_NoTie {P : Program} {w : World} {K : PySem.W.Frag} {mg : Str → Option Value} {base : Heap} {f : Addr} {fd : FuncData} (F : Fun K "__init__" "NoTie.__init__" s_NoTie___init f fd) : FnOk P w K mg base CX0 1 f fd ["self"] spPass := by
  refine F.ok sc_NoTie___init (fun vs H Q E h => ?_) (fun cdv A outer s H vs Q E hr h => ?_)
  · obtain ⟨a, rfl, _⟩ := h
    rfl
  · obtain ⟨a, rfl, k⟩ := h
    exact ⟨_, pss_one ps_pass, k⟩
theorem pass_NoStanding {P : Program} {w : World} {K : PySem.W.Frag} {mg : Str → Option Value} {base : Heap} {f : Addr} {fd : FuncData} (F : Fun K "__init__" "NoStanding.__init__" s_NoStanding___init f fd) : FnOk P w K mg base CX0 1 f fd ["self"] spPass := by
  refine F.ok sc_NoStanding___init (fun vs H Q E h => ?_) (fun cdv A outer s H vs Q E hr h => ?_)
  · obtain ⟨a, rfl, _⟩ := h
    rfl
  · obtain ⟨a, rfl, k⟩ := h
    exact ⟨_, pss_one ps_pass, k⟩
theorem pass_NoTurn {P : Program} {w : World} {K : PySem.W.Frag} {mg : Str → Option Value} {base : Heap} {f : Addr} {fd : FuncData} (F : Fun K "__init__" "NoTurn.__init__" s_NoTurn___init f fd) : FnOk P w K mg base CX0 1 f fd ["self"] spPass := by
  refine F.ok sc_NoTurn___init (fun vs H Q E h => ?_) (fun cdv A outer s H vs Q E hr h => ?_)
  · obtain ⟨a, rfl, _⟩ := h
    rfl
  · obtain ⟨a, rfl, k⟩ := h
    exact ⟨_, pss_one ps_pass, k⟩
theorem pass_NoCustom {P : Program} {w : World} {K : PySem.W.Frag} {mg : Str → Option Value} {base : Heap} {f : Addr} {fd : FuncData} (F : Fun K "__init__" "NoCustom.__init__" s_NoCustom___init f fd) : FnOk P w K mg base CX0 1 f fd ["self"] spPass := by
  refine F.ok sc_NoCustom___init (fun vs H Q E h => ?_) (fun cdv A outer s H vs Q E hr h => ?_)
  · obtain ⟨a, rfl, _⟩ := h
    rfl
  · obtain ⟨a, rfl, k⟩ := h
    exact ⟨_, pss_one ps_pass, k⟩
theorem pass_NoFraction {P : Program} {w : World} {K : PySem.W.Frag} {mg : Str → Option Value} {base : Heap} {f : Addr} {fd : FuncData} (F : Fun K "__init__" "NoFraction.__init__" s_NoFraction___init f fd) : FnOk P w K mg base CX0 1 f fd ["self"] spPass := by
  refine F.ok sc_NoFraction___init (fun vs H Q E h => ?_) (fun cdv A outer s H vs Q E hr h => ?_)
  · obtain ⟨a, rfl, _⟩ := h
    rfl
  · obtain ⟨a, rfl, k⟩ := h
    exact ⟨_, pss_one ps_pass, k⟩
theorem pass_NoBook {P : Program} {w : World} {K : PySem.W.Frag} {mg : Str → Option Value} {base : Heap} {f : Addr} {fd : FuncData} (F : Fun K "__init__" "NoBook.__init__" s_NoBook___init f fd) : FnOk P w K mg base CX0 1 f fd ["self"] spPass := by
  refine F.ok sc_NoBook___init (fun vs H Q E h => ?_) (fun cdv A outer s H vs Q E hr h => ?_)
  · obtain ⟨a, rfl, _⟩ := h
    rfl
  · obtain ⟨a, rfl, k⟩ := h
    exact ⟨_, pss_one ps_pass, k⟩
theorem pass_NoHistory {P : Program} {w : World} {K : PySem.W.Frag} {mg : Str → Option Value} {base : Heap} {f : Addr} {fd : FuncData} (F : Fun K "__init__" "NoHistory.__init__" s_NoHistory___init f fd) : FnOk P w K mg base CX0 1 f fd ["self"] spPass := by
  refine F.ok sc_NoHistory___init (fun vs H Q E h => ?_) (fun cdv A outer s H vs Q E hr h => ?_)
  · obtain ⟨a, rfl, _⟩ := h
    rfl
  · obtain ⟨a, rfl, k⟩ := h
    exact ⟨_, pss_one ps_pass, k⟩
theorem pass_NoTickets {P : Program} {w : World} {K : PySem.W.Frag} {mg : Str → Option Value} {base : Heap} {f : Addr} {fd : FuncData} (F : Fun K "__init__" "NoTickets.__init__" s_NoTickets___init f fd) : FnOk P w K mg base CX0 1 f fd ["self"] spPass := by
  refine F.ok sc_NoTickets___init (fun vs H Q E h => ?_) (fun cdv A outer s H vs Q E hr h => ?_)
  · obtain ⟨a, rfl, _⟩ := h
    rfl
  · obtain ⟨a, rfl, k⟩ := h
    exact ⟨_, pss_one ps_pass, k⟩
theorem pass_NoSteps {P : Program} {w : World} {K : PySem.W.Frag} {mg : Str → Option Value} {base : Heap} {f : Addr} {fd : FuncData} (F : Fun K "__init__" "NoSteps.__init__" s_NoSteps___init f fd) : FnOk P w K mg base CX0 1 f fd ["self"] spPass := by
  refine F.ok sc_NoSteps___init (fun vs H Q E h => ?_) (fun cdv A outer s H vs Q E hr h => ?_)
  · obtain ⟨a, rfl, _⟩ := h
    rfl
  · obtain ⟨a, rfl, k⟩ := h
    exact ⟨_, pss_one ps_pass, k⟩
theorem pass_NoChances {P : Program} {w : World} {K : PySem.W.Frag} {mg : Str → Option Value} {base : Heap} {f : Addr} {fd : FuncData} (F : Fun K "__init__" "NoChances.__init__" s_NoChances___init f fd) : FnOk P w K mg base CX0 1 f fd ["self"] spPass := by
  refine F.ok sc_NoChances___init (fun vs H Q E h => ?_) (fun cdv A outer s H vs Q E hr h => ?_)
  · obtain ⟨a, rfl, _⟩ := h
    rfl
  · obtain ⟨a, rfl, k⟩ := h
    exact ⟨_, pss_one ps_pass, k⟩
theorem pass_NoPrices {P : Program} {w : World} {K : PySem.W.Frag} {mg : Str → Option Value} {base : Heap} {f : Addr} {fd : FuncData} (F : Fun K "__init__" "NoPrices.__init__" s_NoPrices___init f fd) : FnOk P w K mg base CX0 1 f fd ["self"] spPass := by
  refine F.ok sc_NoPrices___init (fun vs H Q E h => ?_) (fun cdv A outer s H vs Q E hr h => ?_)
  · obtain ⟨a, rfl, _⟩ := h
    rfl
  · obtain ⟨a, rfl, k⟩ := h
    exact ⟨_, pss_one ps_pass, k⟩
theorem pass_Empty {P : Program} {w : World} {K : PySem.W.Frag} {mg : Str → Option Value} {base : Heap} {f : Addr} {fd : FuncData} (F : Fun K "__init__" "Empty.__init__" s_Empty___init f fd) : FnOk P w K mg base CX0 1 f fd ["self"] spPass := by
  refine F.ok sc_Empty___init (fun vs H Q E h => ?_) (fun cdv A outer s H vs Q E hr h => ?_)
  · obtain ⟨a, rfl, _⟩ := h
    rfl
  · obtain ⟨a, rfl, k⟩ := h
    exact ⟨_, pss_one ps_pass, k⟩
theorem pass_NoSizes {P : Program} {w : World} {K : PySem.W.Frag} {mg : Str → Option Value} {base : Heap} {f : Addr} {fd : FuncData} (F : Fun K "__init__" "NoSizes.__init__" s_NoSizes___init f fd) : FnOk P w K mg base CX0 1 f fd ["self"] spPass := by
  refine F.ok sc_NoSizes___init (fun vs H Q E h => ?_) (fun cdv A outer s H vs Q E hr h => ?_)
  · obtain ⟨a, rfl, _⟩ := h
    rfl
  · obtain ⟨a, rfl, k⟩ := h
    exact ⟨_, pss_one ps_pass, k⟩
theorem pass_NoLooks {P : Program} {w : World} {K : PySem.W.Frag} {mg : Str → Option Value} {base : Heap} {f : Addr} {fd : FuncData} (F : Fun K "__init__" "NoLooks.__init__" s_NoLooks___init f fd) : FnOk P w K mg base CX0 1 f fd ["self"] spPass := by
  refine F.ok sc_NoLooks___init (fun vs H Q E h => ?_) (fun cdv A outer s H vs Q E hr h => ?_)
  · obtain ⟨a, rfl, _⟩ := h
    rfl
  · obtain ⟨a, rfl, k⟩ := h
    exact ⟨_, pss_one ps_pass, k⟩
theorem pass_NoOutcome {P : Program} {w : World} {K : PySem.W.Frag} {mg : Str → Option Value} {base : Heap} {f : Addr} {fd : FuncData} (F : Fun K "__init__" "NoOutcome.__init__" s_NoOutcome___init f fd) : FnOk P w K mg base CX0 1 f fd ["self"] spPass := by
  refine F.ok sc_NoOutcome___init (fun vs H Q E h => ?_) (fun cdv A outer s H vs Q E hr h => ?_)
  · obtain ⟨a, rfl, _⟩ := h
    rfl
  · obtain ⟨a, rfl, k⟩ := h
    exact ⟨_, pss_one ps_pass, k⟩
theorem pass_NoComer {P : Program} {w : World} {K : PySem.W.Frag} {mg : Str → Option Value} {base : Heap} {f : Addr} {fd : FuncData} (F : Fun K "__init__" "NoComer.__init__" s_NoComer___init f fd) : FnOk P w K mg base CX0 1 f fd ["self"] spPass := by
  refine F.ok sc_NoComer___init (fun vs H Q E h => ?_) (fun cdv A outer s H vs Q E hr h => ?_)
  · obtain ⟨a, rfl, _⟩ := h
    rfl
  · obtain ⟨a, rfl, k⟩ := h
    exact ⟨_, pss_one ps_pass, k⟩
theorem pass_NotOpen {P : Program} {w : World} {K : PySem.W.Frag} {mg : Str → Option Value} {base : Heap} {f : Addr} {fd : FuncData} (F : Fun K "__init__" "NotOpen.__init__" s_NotOpen___init f fd) : FnOk P w K mg base CX0 1 f fd ["self"] spPass := by
  refine F.ok sc_NotOpen___init (fun vs H Q E h => ?_) (fun cdv A outer s H vs Q E hr h => ?_)
  · obtain ⟨a, rfl, _⟩ := h
    rfl
  · obtain ⟨a, rfl, k⟩ := h
    exact ⟨_, pss_one ps_pass, k⟩
theorem pass_NothingDone {P : Program} {w : World} {K : PySem.W.Frag} {mg : Str → Option Value} {base : Heap} {f : Addr} {fd : FuncData} (F : Fun K "__init__" "NothingDone.__init__" s_NothingDone___init f fd) : FnOk P w K mg base CX0 1 f fd ["self"] spPass := by
  refine F.ok sc_NothingDone___init (fun vs H Q E h => ?_) (fun cdv A outer s H vs Q E hr h => ?_)
  · obtain ⟨a, rfl, _⟩ := h
    rfl
  · obtain ⟨a, rfl, k⟩ := h
    exact ⟨_, pss_one ps_pass, k⟩
theorem pass_NoLine {P : Program} {w : World} {K : PySem.W.Frag} {mg : Str → Option Value} {base : Heap} {f : Addr} {fd : FuncData} (F : Fun K "__init__" "NoLine.__init__" s_NoLine___init f fd) : FnOk P w K mg base CX0 1 f fd ["self"] spPass := by
  refine F.ok sc_NoLine___init (fun vs H Q E h => ?_) (fun cdv A outer s H vs Q E hr h => ?_)
  · obtain ⟨a, rfl, _⟩ := h
    rfl
  · obtain ⟨a, rfl, k⟩ := h
    exact ⟨_, pss_one ps_pass, k⟩
abbrev s_BadTable___init : Stmt := inClass (top 2) 0
abbrev n_BadTable___init : List Str := ["self", "part", "at"]
theorem sc_BadTable___init : FnScope n_BadTable___init ["self", "part", "at"] (defScope s_BadTable___init) := ⟨rfl, rfl, rfl, by decide +kernel, rfl, by decide +kernel, by decide +kernel⟩
abbrev s_BadText___init : Stmt := inClass (top 7) 0
abbrev n_BadText___init : List Str := ["self", "line"]
theorem sc_BadText___init : FnScope n_BadText___init ["self", "line"] (defScope s_BadText___init) := ⟨rfl, rfl, rfl, by decide +kernel, rfl, by decide +kernel, by decide +kernel⟩
abbrev s_TooMany___init : Stmt := inClass (top 10) 0
abbrev n_TooMany___init : List Str := ["self", "most"]
theorem sc_TooMany___init : FnScope n_TooMany___init ["self", "most"] (defScope s_TooMany___init) := ⟨rfl, rfl, rfl, by decide +kernel, rfl, by decide +kernel, by decide +kernel⟩
abbrev s_BadKinds___init : Stmt := inClass (top 24) 0
abbrev n_BadKinds___init : List Str := ["self", "part"]
theorem sc_BadKinds___init : FnScope n_BadKinds___init ["self", "part"] (defScope s_BadKinds___init) := ⟨rfl, rfl, rfl, by decide +kernel, rfl, by decide +kernel, by decide +kernel⟩
abbrev s_NoName___init : Stmt := inClass (top 33) 0
abbrev n_NoName___init : List Str := ["self", "name"]
theorem sc_NoName___init : FnScope n_NoName___init ["self", "name"] (defScope s_NoName___init) := ⟨rfl, rfl, rfl, by decide +kernel, rfl, by decide +kernel, by decide +kernel⟩
abbrev csX (D_NoPerson D_NoThing D_NoNumbers D_NoNumber D_NoDealing D_NoLot D_Stuck D_NoRing D_NoTie D_NoStanding D_NoTurn D_NoCustom D_NoFraction D_NoBook D_NoHistory D_NoTickets D_NoSteps D_NoChances D_NoPrices D_Empty D_NoSizes D_NoLooks D_NoOutcome D_NoComer D_NotOpen D_NothingDone D_NoLine D_BadTable D_BadText D_TooMany D_BadKinds D_NoName : Addr) : List (Str × Addr) := [("NoPerson", D_NoPerson), ("NoThing", D_NoThing), ("NoNumbers", D_NoNumbers), ("NoNumber", D_NoNumber), ("NoDealing", D_NoDealing), ("NoLot", D_NoLot), ("Stuck", D_Stuck), ("NoRing", D_NoRing), ("NoTie", D_NoTie), ("NoStanding", D_NoStanding), ("NoTurn", D_NoTurn), ("NoCustom", D_NoCustom), ("NoFraction", D_NoFraction), ("NoBook", D_NoBook), ("NoHistory", D_NoHistory), ("NoTickets", D_NoTickets), ("NoSteps", D_NoSteps), ("NoChances", D_NoChances), ("NoPrices", D_NoPrices), ("Empty", D_Empty), ("NoSizes", D_NoSizes), ("NoLooks", D_NoLooks), ("NoOutcome", D_NoOutcome), ("NoComer", D_NoComer), ("NotOpen", D_NotOpen), ("NothingDone", D_NothingDone), ("NoLine", D_NoLine), ("BadTable", D_BadTable), ("BadText", D_BadText), ("TooMany", D_TooMany), ("BadKinds", D_BadKinds), ("NoName", D_NoName)]
abbrev nmX : List Str := ["NoPerson", "NoThing", "NoNumbers", "NoNumber", "NoDealing", "NoLot", "Stuck", "NoRing", "NoTie", "NoStanding", "NoTurn", "NoCustom", "NoFraction", "NoBook", "NoHistory", "NoTickets", "NoSteps", "NoChances", "NoPrices", "Empty", "NoSizes", "NoLooks", "NoOutcome", "NoComer", "NotOpen", "NothingDone", "NoLine", "BadTable", "BadText", "TooMany", "BadKinds", "NoName"]
theorem nm_same : ∀ i : Fin 32, (nmX.map fun s => decide (nmX[i.val]? = some s)) = (List.range 32).map fun j => decide (((j : Nat) : Int) = ((i.val : Nat) : Int)) := by decide +kernel
theorem sqL_s {K : PySem.W.Frag} {H H' : Hp} {a : Addr} {xs : List V} (e : Same H H') (h : SqL K H a xs) : SqL K H' a xs := by
  rcases h with (h | ⟨o, h⟩) | h
  · exact .inl (.inl (e _ _ h))
  · exact .inl (.inr ⟨o, e _ _ h⟩)
  · exact .inr h
theorem bl_dp {K : PySem.W.Frag} {H : Hp} : ∀ bs : List Bool, DpAll K H (bs.map V.bl) (bs.map PyData.bool)
  | [] => .nil
  | b :: bs => .cons (.bl b) (bl_dp bs)
theorem bl_lay : ∀ bs : List Bool, LayAll 0 (bs.map PyData.bool)
  | [] => .nil
  | b :: bs => .cons lay_bl (bl_lay bs)
theorem kinds_due {D_NoPerson D_NoThing D_NoNumbers D_NoNumber D_NoDealing D_NoLot D_Stuck D_NoRing D_NoTie D_NoStanding D_NoTurn D_NoCustom D_NoFraction D_NoBook D_NoHistory D_NoTickets D_NoSteps D_NoChances D_NoPrices D_Empty D_NoSizes D_NoLooks D_NoOutcome D_NoComer D_NotOpen D_NothingDone D_NoLine D_BadTable D_BadText D_TooMany D_BadKinds D_NoName : Addr} {i : Nat} {c : Str × Addr} (hi : (csX D_NoPerson D_NoThing D_NoNumbers D_NoNumber D_NoDealing D_NoLot D_Stuck D_NoRing D_NoTie D_NoStanding D_NoTurn D_NoCustom D_NoFraction D_NoBook D_NoHistory D_NoTickets D_NoSteps D_NoChances D_NoPrices D_Empty D_NoSizes D_NoLooks D_NoOutcome D_NoComer D_NotOpen D_NothingDone D_NoLine D_BadTable D_BadText D_TooMany D_BadKinds D_NoName)[i]? = some c) : ((csX D_NoPerson D_NoThing D_NoNumbers D_NoNumber D_NoDealing D_NoLot D_Stuck D_NoRing D_NoTie D_NoStanding D_NoTurn D_NoCustom D_NoFraction D_NoBook D_NoHistory D_NoTickets D_NoSteps D_NoChances D_NoPrices D_Empty D_NoSizes D_NoLooks D_NoOutcome D_NoComer D_NotOpen D_NothingDone D_NoLine D_BadTable D_BadText D_TooMany D_BadKinds D_NoName).map fun d => V.bl (decide (c.1 = d.1))) = (((List.range 32).map fun m : Nat => decide ((m : Int) = (i : Int))).map V.bl) := by
  have hl : i < 32 := (List.getElem?_eq_some_iff.mp hi).1
  have hn : nmX[i]? = some c.1 := by
    have e : nmX = (csX D_NoPerson D_NoThing D_NoNumbers D_NoNumber D_NoDealing D_NoLot D_Stuck D_NoRing D_NoTie D_NoStanding D_NoTurn D_NoCustom D_NoFraction D_NoBook D_NoHistory D_NoTickets D_NoSteps D_NoChances D_NoPrices D_Empty D_NoSizes D_NoLooks D_NoOutcome D_NoComer D_NotOpen D_NothingDone D_NoLine D_BadTable D_BadText D_TooMany D_BadKinds D_NoName).map (·.1) := rfl
    rw [e, List.getElem?_map, hi]
    rfl
  have q := nm_same ⟨i, hl⟩
  rw [← q, hn]
  have e : ∀ s : Str, decide (some c.1 = some s) = decide (c.1 = s) := fun s => by simp only [Option.some.injEq]
  simp only [e]
  rfl
/-- errors that stand, class by class -/
inductive ErsV (H : Hp) : List V → List (Str × Addr) → List (Option (List (Str × V))) → Prop
  | nil : ErsV H [] [] []
  | cons {a : Addr} {c : Str × Addr} {f : Option (List (Str × V))} {vs : List V} {cs : List (Str × Addr)} {fs : List (Option (List (Str × V)))} (h : ErV H a c.2 f) (t : ErsV H vs cs fs) : ErsV H (.ref a :: vs) (c :: cs) (f :: fs)
theorem ErsV.same {H H' : Hp} (s : Same H H') : ∀ {vs : List V} {cs : List (Str × Addr)} {fs : List (Option (List (Str × V)))}, ErsV H vs cs fs → ErsV H' vs cs fs
  | _, _, _, .nil => .nil
  | _, _, _, .cons h t => .cons (h.same s) (t.same s)
theorem ErsV.append {H : Hp} {us : List V} {ds : List (Str × Addr)} {gs : List (Option (List (Str × V)))} (h2 : ErsV H us ds gs) : ∀ {vs : List V} {cs : List (Str × Addr)} {fs : List (Option (List (Str × V)))}, ErsV H vs cs fs → ErsV H (vs ++ us) (cs ++ ds) (fs ++ gs)
  | _, _, _, .nil => h2
  | _, _, _, .cons h t => .cons h (h2.append t)
theorem ErsV.len {H : Hp} : ∀ {vs : List V} {cs : List (Str × Addr)} {fs : List (Option (List (Str × V)))}, ErsV H vs cs fs → vs.length = cs.length
  | _, _, _, .nil => rfl
  | _, _, _, .cons _ t => congrArg (· + 1) t.len
theorem ErsV.get {H : Hp} : ∀ {vs : List V} {cs : List (Str × Addr)} {fs : List (Option (List (Str × V)))} {i : Nat}, ErsV H vs cs fs → i < vs.length → ∃ a c f, vs[i]? = some (.ref a) ∧ cs[i]? = some c ∧ ErV H a c.2 f
  | _, _, _, _, .nil, h => absurd h (Nat.not_lt_zero _)
  | _, _, _, 0, .cons h _, _ => ⟨_, _, _, rfl, rfl, h⟩
  | _, _, _, i + 1, .cons _ t, h => t.get (i := i) (Nat.lt_of_succ_lt_succ h)
section
variable {P : Program} {w : World} {K : PySem.W.Frag} {mg : Str → Option Value} {base : Heap} {DE D_NoPerson D_NoThing D_NoNumbers D_NoNumber D_NoDealing D_NoLot D_Stuck D_NoRing D_NoTie D_NoStanding D_NoTurn D_NoCustom D_NoFraction D_NoBook D_NoHistory D_NoTickets D_NoSteps D_NoChances D_NoPrices D_Empty D_NoSizes D_NoLooks D_NoOutcome D_NoComer D_NotOpen D_NothingDone D_NoLine D_BadTable D_BadText D_TooMany D_BadKinds D_NoName : Addr}
theorem fld_BadText {f D : Addr} {fd : FuncData} (F : Fun K "__init__" "BadText.__init__" s_BadText___init f fd) (X : OexC K D) (nM : PySem.W.findIn K (.ref D) "line" = some none) : FnOk P w K mg base CX0 1 f fd ["self", "line"] (spFld1 D "line") := by
  refine F.ok sc_BadText___init (fun vs H Q E h => ?_) (fun cdv A outer s H vs Q E hr h => ?_)
  · obtain ⟨a, u, rfl, _⟩ := h
    rfl
  · obtain ⟨a, u, rfl, ha, k⟩ := h
    refine ⟨_, pss_one (ps_ost (pv 0) (pv 1)), ?_⟩
    refine ⟨_, rfl, _, rfl, a, D, rfl, X, nM, .inl ⟨ha, fun d hd hne => ?_⟩⟩
    refine k d _ (fun b o n e => ?_) hd hne upd_same (Eq.trans (upd_ne hne) upd_same)
    have nbd : b ≠ d := ne_of_none e hd
    rw [upd_ne n, upd_ne nbd]
    exact e
theorem fld_TooMany {f D : Addr} {fd : FuncData} (F : Fun K "__init__" "TooMany.__init__" s_TooMany___init f fd) (X : OexC K D) (nM : PySem.W.findIn K (.ref D) "most" = some none) : FnOk P w K mg base CX0 1 f fd ["self", "most"] (spFld1 D "most") := by
  refine F.ok sc_TooMany___init (fun vs H Q E h => ?_) (fun cdv A outer s H vs Q E hr h => ?_)
  · obtain ⟨a, u, rfl, _⟩ := h
    rfl
  · obtain ⟨a, u, rfl, ha, k⟩ := h
    refine ⟨_, pss_one (ps_ost (pv 0) (pv 1)), ?_⟩
    refine ⟨_, rfl, _, rfl, a, D, rfl, X, nM, .inl ⟨ha, fun d hd hne => ?_⟩⟩
    refine k d _ (fun b o n e => ?_) hd hne upd_same (Eq.trans (upd_ne hne) upd_same)
    have nbd : b ≠ d := ne_of_none e hd
    rw [upd_ne n, upd_ne nbd]
    exact e
theorem fld_BadKinds {f D : Addr} {fd : FuncData} (F : Fun K "__init__" "BadKinds.__init__" s_BadKinds___init f fd) (X : OexC K D) (nM : PySem.W.findIn K (.ref D) "part" = some none) : FnOk P w K mg base CX0 1 f fd ["self", "part"] (spFld1 D "part") := by
  refine F.ok sc_BadKinds___init (fun vs H Q E h => ?_) (fun cdv A outer s H vs Q E hr h => ?_)
  · obtain ⟨a, u, rfl, _⟩ := h
    rfl
  · obtain ⟨a, u, rfl, ha, k⟩ := h
    refine ⟨_, pss_one (ps_ost (pv 0) (pv 1)), ?_⟩
    refine ⟨_, rfl, _, rfl, a, D, rfl, X, nM, .inl ⟨ha, fun d hd hne => ?_⟩⟩
    refine k d _ (fun b o n e => ?_) hd hne upd_same (Eq.trans (upd_ne hne) upd_same)
    have nbd : b ≠ d := ne_of_none e hd
    rw [upd_ne n, upd_ne nbd]
    exact e
theorem fld_NoName {f D : Addr} {fd : FuncData} (F : Fun K "__init__" "NoName.__init__" s_NoName___init f fd) (X : OexC K D) (nM : PySem.W.findIn K (.ref D) "name" = some none) : FnOk P w K mg base CX0 1 f fd ["self", "name"] (spFld1 D "name") := by
  refine F.ok sc_NoName___init (fun vs H Q E h => ?_) (fun cdv A outer s H vs Q E hr h => ?_)
  · obtain ⟨a, u, rfl, _⟩ := h
    rfl
  · obtain ⟨a, u, rfl, ha, k⟩ := h
    refine ⟨_, pss_one (ps_ost (pv 0) (pv 1)), ?_⟩
    refine ⟨_, rfl, _, rfl, a, D, rfl, X, nM, .inl ⟨ha, fun d hd hne => ?_⟩⟩
    refine k d _ (fun b o n e => ?_) hd hne upd_same (Eq.trans (upd_ne hne) upd_same)
    have nbd : b ≠ d := ne_of_none e hd
    rw [upd_ne n, upd_ne nbd]
    exact e
theorem fld_BadTable {f B : Addr} {fd : FuncData} (F : Fun K "__init__" "BadTable.__init__" s_BadTable___init f fd) (X : OexC K B) (nP : PySem.W.findIn K (.ref B) "part" = some none) (nA : PySem.W.findIn K (.ref B) "at" = some none) : FnOk P w K mg base CX0 1 f fd ["self", "part", "at"] (spFld2 B "part" "at") := by
  refine F.ok sc_BadTable___init (fun vs H Q E h => ?_) (fun cdv A outer s H vs Q E hr h => ?_)
  · obtain ⟨a, u, v, rfl, _⟩ := h
    rfl
  · obtain ⟨a, u, v, rfl, ha, k⟩ := h
    refine ⟨_, (pss_cons (ps_ost (pv 0) (pv 1)) (pss_one (ps_ost (pv 0) (pv 2)))), ?_⟩
    refine ⟨_, rfl, _, rfl, a, B, rfl, X, nP, .inl ⟨ha, fun d hd hne => ?_⟩⟩
    refine ⟨_, rfl, _, rfl, a, B, rfl, X, nA, .inr ⟨d, _, upd_same, Eq.trans (upd_ne hne) upd_same, by show 1 ≤ 900; decide, ?_⟩⟩
    refine k d _ (fun b o n e => ?_) hd hne ?_ upd_same
    · have nbd : b ≠ d := ne_of_none e hd
      rw [upd_ne nbd, upd_ne n, upd_ne nbd]
      exact e
    · rw [upd_ne hne.symm, upd_same]
def spPlain (D_NoPerson D_NoThing D_NoNumbers D_NoNumber D_NoDealing D_NoLot D_Stuck D_NoRing D_NoTie D_NoStanding D_NoTurn D_NoCustom D_NoFraction D_NoBook D_NoHistory D_NoTickets D_NoSteps D_NoChances D_NoPrices D_Empty D_NoSizes D_NoLooks D_NoOutcome D_NoComer D_NotOpen D_NothingDone D_NoLine D_BadTable D_BadText D_TooMany D_BadKinds D_NoName : Addr) : Sp := fun vs H Q _ => vs = [] ∧ ∀ (p : Addr) (us : List V) (H' : Hp), Same H H' → H' p = some (.lst us) → ErsV H' us ((csX D_NoPerson D_NoThing D_NoNumbers D_NoNumber D_NoDealing D_NoLot D_Stuck D_NoRing D_NoTie D_NoStanding D_NoTurn D_NoCustom D_NoFraction D_NoBook D_NoHistory D_NoTickets D_NoSteps D_NoChances D_NoPrices D_Empty D_NoSizes D_NoLooks D_NoOutcome D_NoComer D_NotOpen D_NothingDone D_NoLine D_BadTable D_BadText D_TooMany D_BadKinds D_NoName).take 27) (List.replicate 27 none) → Q (.ref p) H'
theorem ok_plain (A : At K mg "_law_plain" s_law_plain []) (T : Tx mg) (er_NoPerson : Er0 P w K mg base "NoPerson" D_NoPerson) (er_NoThing : Er0 P w K mg base "NoThing" D_NoThing) (er_NoNumbers : Er0 P w K mg base "NoNumbers" D_NoNumbers) (er_NoNumber : Er0 P w K mg base "NoNumber" D_NoNumber) (er_NoDealing : Er0 P w K mg base "NoDealing" D_NoDealing) (er_NoLot : Er0 P w K mg base "NoLot" D_NoLot) (er_Stuck : Er0 P w K mg base "Stuck" D_Stuck) (er_NoRing : Er0 P w K mg base "NoRing" D_NoRing) (er_NoTie : Er0 P w K mg base "NoTie" D_NoTie) (er_NoStanding : Er0 P w K mg base "NoStanding" D_NoStanding) (er_NoTurn : Er0 P w K mg base "NoTurn" D_NoTurn) (er_NoCustom : Er0 P w K mg base "NoCustom" D_NoCustom) (er_NoFraction : Er0 P w K mg base "NoFraction" D_NoFraction) (er_NoBook : Er0 P w K mg base "NoBook" D_NoBook) (er_NoHistory : Er0 P w K mg base "NoHistory" D_NoHistory) (er_NoTickets : Er0 P w K mg base "NoTickets" D_NoTickets) (er_NoSteps : Er0 P w K mg base "NoSteps" D_NoSteps) (er_NoChances : Er0 P w K mg base "NoChances" D_NoChances) (er_NoPrices : Er0 P w K mg base "NoPrices" D_NoPrices) (er_Empty : Er0 P w K mg base "Empty" D_Empty) (er_NoSizes : Er0 P w K mg base "NoSizes" D_NoSizes) (er_NoLooks : Er0 P w K mg base "NoLooks" D_NoLooks) (er_NoOutcome : Er0 P w K mg base "NoOutcome" D_NoOutcome) (er_NoComer : Er0 P w K mg base "NoComer" D_NoComer) (er_NotOpen : Er0 P w K mg base "NotOpen" D_NotOpen) (er_NothingDone : Er0 P w K mg base "NothingDone" D_NothingDone) (er_NoLine : Er0 P w K mg base "NoLine" D_NoLine) : Dfn P w K mg base "_law_plain" [] 3 (spPlain D_NoPerson D_NoThing D_NoNumbers D_NoNumber D_NoDealing D_NoLot D_Stuck D_NoRing D_NoTie D_NoStanding D_NoTurn D_NoCustom D_NoFraction D_NoBook D_NoHistory D_NoTickets D_NoSteps D_NoChances D_NoPrices D_Empty D_NoSizes D_NoLooks D_NoOutcome D_NoComer D_NotOpen D_NothingDone D_NoLine D_BadTable D_BadText D_TooMany D_BadKinds D_NoName) := by
  refine A.ok sc_law_plain (fun vs H Q E h => ?_) (fun f cdv A outer s H vs Q E hr h => ?_)
  · obtain ⟨rfl, _⟩ := h
    rfl
  · obtain ⟨rfl, k⟩ := h
    refine ⟨_, (pss_cons (ps_set (i := 0) sc_law_plain.nd rfl (Or.inl rfl) (pe_lst (pa_cons (pe_er0 er_NoPerson (hr.mono (by decide)) rfl) (pa_cons (pe_er0 er_NoThing (hr.mono (by decide)) rfl) (pa_cons (pe_er0 er_NoNumbers (hr.mono (by decide)) rfl) (pa_cons (pe_er0 er_NoNumber (hr.mono (by decide)) rfl) (pa_cons (pe_er0 er_NoDealing (hr.mono (by decide)) rfl) (pa_cons (pe_er0 er_NoLot (hr.mono (by decide)) rfl) (pa_cons (pe_er0 er_Stuck (hr.mono (by decide)) rfl) (pa_cons (pe_er0 er_NoRing (hr.mono (by decide)) rfl) (pa_cons (pe_er0 er_NoTie (hr.mono (by decide)) rfl) (pa_cons (pe_er0 er_NoStanding (hr.mono (by decide)) rfl) (pa_cons (pe_er0 er_NoTurn (hr.mono (by decide)) rfl) (pa_cons (pe_er0 er_NoCustom (hr.mono (by decide)) rfl) (pa_cons (pe_er0 er_NoFraction (hr.mono (by decide)) rfl) (pa_cons (pe_er0 er_NoBook (hr.mono (by decide)) rfl) pa_nil))))))))))))))))
      (pss_cons (ps_set (i := 1) sc_law_plain.nd rfl (Or.inl rfl) (pe_lst (pa_cons (pe_er0 er_NoHistory (hr.mono (by decide)) rfl) (pa_cons (pe_er0 er_NoTickets (hr.mono (by decide)) rfl) (pa_cons (pe_er0 er_NoSteps (hr.mono (by decide)) rfl) (pa_cons (pe_er0 er_NoChances (hr.mono (by decide)) rfl) (pa_cons (pe_er0 er_NoPrices (hr.mono (by decide)) rfl) (pa_cons (pe_er0 er_Empty (hr.mono (by decide)) rfl) (pa_cons (pe_er0 er_NoSizes (hr.mono (by decide)) rfl) (pa_cons (pe_er0 er_NoLooks (hr.mono (by decide)) rfl) (pa_cons (pe_er0 er_NoOutcome (hr.mono (by decide)) rfl) (pa_cons (pe_er0 er_NoComer (hr.mono (by decide)) rfl) (pa_cons (pe_er0 er_NotOpen (hr.mono (by decide)) rfl) (pa_cons (pe_er0 er_NothingDone (hr.mono (by decide)) rfl) (pa_cons (pe_er0 er_NoLine (hr.mono (by decide)) rfl) pa_nil)))))))))))))))
      (pss_one (ps_ret (pe_op op_cat (pv 0) (pv 1)))))), ?_⟩
    refine ?_
    intro ax0 Hx0 sx0 ex0 ax1 Hx1 sx1 ex1 ax2 Hx2 sx2 ex2 ax3 Hx3 sx3 ex3 ax4 Hx4 sx4 ex4 ax5 Hx5 sx5 ex5 ax6 Hx6 sx6 ex6 ax7 Hx7 sx7 ex7 ax8 Hx8 sx8 ex8 ax9 Hx9 sx9 ex9 ax10 Hx10 sx10 ex10 ax11 Hx11 sx11 ex11 ax12 Hx12 sx12 ex12 ax13 Hx13 sx13 ex13
    refine ⟨by show 14 ≤ sizeLine; decide, fun L1 h1 => ?_⟩
    intro ay0 Hy0 sy0 ey0 ay1 Hy1 sy1 ey1 ay2 Hy2 sy2 ey2 ay3 Hy3 sy3 ey3 ay4 Hy4 sy4 ey4 ay5 Hy5 sy5 ey5 ay6 Hy6 sy6 ey6 ay7 Hy7 sy7 ey7 ay8 Hy8 sy8 ey8 ay9 Hy9 sy9 ey9 ay10 Hy10 sy10 ey10 ay11 Hy11 sy11 ey11 ay12 Hy12 sy12 ey12
    refine ⟨by show 13 ≤ sizeLine; decide, fun L2 h2 => ?_⟩
    have zx13 := Same.refl Hx13
    have zx12 : Same Hx12 Hx13 := sx13.trans zx13
    have zx11 : Same Hx11 Hx13 := sx12.trans zx12
    have zx10 : Same Hx10 Hx13 := sx11.trans zx11
    have zx9 : Same Hx9 Hx13 := sx10.trans zx10
    have zx8 : Same Hx8 Hx13 := sx9.trans zx9
    have zx7 : Same Hx7 Hx13 := sx8.trans zx8
    have zx6 : Same Hx6 Hx13 := sx7.trans zx7
    have zx5 : Same Hx5 Hx13 := sx6.trans zx6
    have zx4 : Same Hx4 Hx13 := sx5.trans zx5
    have zx3 : Same Hx3 Hx13 := sx4.trans zx4
    have zx2 : Same Hx2 Hx13 := sx3.trans zx3
    have zx1 : Same Hx1 Hx13 := sx2.trans zx2
    have zx0 : Same Hx0 Hx13 := sx1.trans zx1
    have zH : Same H Hx13 := sx0.trans zx0
    have E1 : ErsV Hx13 [.ref ax0, .ref ax1, .ref ax2, .ref ax3, .ref ax4, .ref ax5, .ref ax6, .ref ax7, .ref ax8, .ref ax9, .ref ax10, .ref ax11, .ref ax12, .ref ax13] [("NoPerson", D_NoPerson), ("NoThing", D_NoThing), ("NoNumbers", D_NoNumbers), ("NoNumber", D_NoNumber), ("NoDealing", D_NoDealing), ("NoLot", D_NoLot), ("Stuck", D_Stuck), ("NoRing", D_NoRing), ("NoTie", D_NoTie), ("NoStanding", D_NoStanding), ("NoTurn", D_NoTurn), ("NoCustom", D_NoCustom), ("NoFraction", D_NoFraction), ("NoBook", D_NoBook)] (List.replicate 14 none) := .cons (ex0.same zx0) (.cons (ex1.same zx1) (.cons (ex2.same zx2) (.cons (ex3.same zx3) (.cons (ex4.same zx4) (.cons (ex5.same zx5) (.cons (ex6.same zx6) (.cons (ex7.same zx7) (.cons (ex8.same zx8) (.cons (ex9.same zx9) (.cons (ex10.same zx10) (.cons (ex11.same zx11) (.cons (ex12.same zx12) (.cons (ex13.same zx13) (.nil))))))))))))))
    have zy12 := Same.refl Hy12
    have zy11 : Same Hy11 Hy12 := sy12.trans zy12
    have zy10 : Same Hy10 Hy12 := sy11.trans zy11
    have zy9 : Same Hy9 Hy12 := sy10.trans zy10
    have zy8 : Same Hy8 Hy12 := sy9.trans zy9
    have zy7 : Same Hy7 Hy12 := sy8.trans zy8
    have zy6 : Same Hy6 Hy12 := sy7.trans zy7
    have zy5 : Same Hy5 Hy12 := sy6.trans zy6
    have zy4 : Same Hy4 Hy12 := sy5.trans zy5
    have zy3 : Same Hy3 Hy12 := sy4.trans zy4
    have zy2 : Same Hy2 Hy12 := sy3.trans zy3
    have zy1 : Same Hy1 Hy12 := sy2.trans zy2
    have zy0 : Same Hy0 Hy12 := sy1.trans zy1
    have zX : Same Hx13 Hy12 := (same_new h1).trans (sy0.trans zy0)
    have E2 : ErsV Hy12 [.ref ay0, .ref ay1, .ref ay2, .ref ay3, .ref ay4, .ref ay5, .ref ay6, .ref ay7, .ref ay8, .ref ay9, .ref ay10, .ref ay11, .ref ay12] [("NoHistory", D_NoHistory), ("NoTickets", D_NoTickets), ("NoSteps", D_NoSteps), ("NoChances", D_NoChances), ("NoPrices", D_NoPrices), ("Empty", D_Empty), ("NoSizes", D_NoSizes), ("NoLooks", D_NoLooks), ("NoOutcome", D_NoOutcome), ("NoComer", D_NoComer), ("NotOpen", D_NotOpen), ("NothingDone", D_NothingDone), ("NoLine", D_NoLine)] (List.replicate 13 none) := .cons (ey0.same zy0) (.cons (ey1.same zy1) (.cons (ey2.same zy2) (.cons (ey3.same zy3) (.cons (ey4.same zy4) (.cons (ey5.same zy5) (.cons (ey6.same zy6) (.cons (ey7.same zy7) (.cons (ey8.same zy8) (.cons (ey9.same zy9) (.cons (ey10.same zy10) (.cons (ey11.same zy11) (.cons (ey12.same zy12) (.nil)))))))))))))
    have hL1 : Hy12 L1 = some (.lst _) := (sy0.trans zy0) _ _ upd_same
    have n12 : L1 ≠ L2 := ne_of_none hL1 h2
    refine ⟨_, rfl, _, rfl, L1, L2, _, _, rfl, rfl, by rw [upd_ne n12]; exact hL1, upd_same, by show 27 ≤ sizeLine; decide, fun L3 h3 => ?_⟩
    refine k L3 _ _ (((zH.trans zX).trans (same_new h2)).trans (same_new h3)) upd_same ?_
    exact (E2.append (E1.same zX)).same ((same_new h2).trans (same_new h3))
def fsX (x : List V) : List (Option (List (Str × V))) := match x with
  | [x0, x1, x2, x3, x4, x5] => [some [("at", x1), ("part", x0)], some [("line", x2)], some [("most", x3)], some [("part", x4)], some [("name", x5)]]
  | _ => []
def spWith (K : PySem.W.Frag) (D_NoPerson D_NoThing D_NoNumbers D_NoNumber D_NoDealing D_NoLot D_Stuck D_NoRing D_NoTie D_NoStanding D_NoTurn D_NoCustom D_NoFraction D_NoBook D_NoHistory D_NoTickets D_NoSteps D_NoChances D_NoPrices D_Empty D_NoSizes D_NoLooks D_NoOutcome D_NoComer D_NotOpen D_NothingDone D_NoLine D_BadTable D_BadText D_TooMany D_BadKinds D_NoName : Addr) : Sp := fun vs H Q _ => ∃ (v : Addr) (x0 x1 x2 x3 x4 x5 : V), vs = [.ref v] ∧ SqL K H v [x0, x1, x2, x3, x4, x5] ∧ ∀ (p : Addr) (us : List V) (H' : Hp), Same H H' → H' p = some (.lst us) → ErsV H' us ((csX D_NoPerson D_NoThing D_NoNumbers D_NoNumber D_NoDealing D_NoLot D_Stuck D_NoRing D_NoTie D_NoStanding D_NoTurn D_NoCustom D_NoFraction D_NoBook D_NoHistory D_NoTickets D_NoSteps D_NoChances D_NoPrices D_Empty D_NoSizes D_NoLooks D_NoOutcome D_NoComer D_NotOpen D_NothingDone D_NoLine D_BadTable D_BadText D_TooMany D_BadKinds D_NoName).drop 27) (fsX [x0, x1, x2, x3, x4, x5]) → Q (.ref p) H'
theorem ok_with (A : At K mg "_law_with" s_law_with ["values"]) (T : Tx mg) (er_BadTable : Er2 P w K mg base "BadTable" "part" "at" D_BadTable) (er_BadText : Er1 P w K mg base "BadText" "line" D_BadText) (er_TooMany : Er1 P w K mg base "TooMany" "most" D_TooMany) (er_BadKinds : Er1 P w K mg base "BadKinds" "part" D_BadKinds) (er_NoName : Er1 P w K mg base "NoName" "name" D_NoName) : Dfn P w K mg base "_law_with" ["values"] 3 (spWith K D_NoPerson D_NoThing D_NoNumbers D_NoNumber D_NoDealing D_NoLot D_Stuck D_NoRing D_NoTie D_NoStanding D_NoTurn D_NoCustom D_NoFraction D_NoBook D_NoHistory D_NoTickets D_NoSteps D_NoChances D_NoPrices D_Empty D_NoSizes D_NoLooks D_NoOutcome D_NoComer D_NotOpen D_NothingDone D_NoLine D_BadTable D_BadText D_TooMany D_BadKinds D_NoName) := by
  refine A.ok sc_law_with (fun vs H Q E h => ?_) (fun f cdv A outer s H vs Q E hr h => ?_)
  · obtain ⟨v, x0, x1, x2, x3, x4, x5, rfl, _⟩ := h
    rfl
  · obtain ⟨v, x0, x1, x2, x3, x4, x5, rfl, hv, k⟩ := h
    refine ⟨_, (pss_cons (ps_set (i := 1) sc_law_with.nd rfl (Or.inl rfl) (pe_lst (pa_cons (pe_er2 er_BadTable (hr.mono (by decide)) rfl (pa_cons (pe_ix ix_list (pv 0) pe_int (fun _ _ => rfl)) (pa_cons (pe_ix ix_list (pv 0) pe_int (fun _ _ => rfl)) pa_nil))) (pa_cons (pe_er1 er_BadText (hr.mono (by decide)) rfl (pa_cons (pe_ix ix_list (pv 0) pe_int (fun _ _ => rfl)) pa_nil)) (pa_cons (pe_er1 er_TooMany (hr.mono (by decide)) rfl (pa_cons (pe_ix ix_list (pv 0) pe_int (fun _ _ => rfl)) pa_nil)) (pa_cons (pe_er1 er_BadKinds (hr.mono (by decide)) rfl (pa_cons (pe_ix ix_list (pv 0) pe_int (fun _ _ => rfl)) pa_nil)) pa_nil))))))
      (pss_one (ps_ret (pe_op op_cat (pv 1) (pe_lst (pa_cons (pe_er1 er_NoName (hr.mono (by decide)) rfl (pa_cons (pe_ix ix_list (pv 0) pe_int (fun _ _ => rfl)) pa_nil)) pa_nil)))))), ?_⟩
    refine ⟨_, rfl, v, _, 0, x0, rfl, rfl, hv, rfl, _, rfl, v, _, 1, x1, rfl, rfl, hv, rfl, by show 2 ≤ 1000; decide, fun a0 n0 => ⟨a0, x0, x1, rfl, upd_same, fun d0 H0 k0 _ _ p0 q0 => ⟨rfl, ?_⟩⟩⟩
    have s0 := same_ini n0 k0
    have v0 := sqL_s s0 hv
    refine ⟨_, rfl, v, _, 2, x2, rfl, rfl, v0, rfl, by show 1 ≤ 1000; decide, fun a1 n1 => ⟨a1, x2, rfl, upd_same, fun d1 H1 k1 _ _ p1 q1 => ⟨rfl, ?_⟩⟩⟩
    have s1 := same_ini n1 k1
    have v1 := sqL_s s1 v0
    refine ⟨_, rfl, v, _, 3, x3, rfl, rfl, v1, rfl, by show 1 ≤ 1000; decide, fun a2 n2 => ⟨a2, x3, rfl, upd_same, fun d2 H2 k2 _ _ p2 q2 => ⟨rfl, ?_⟩⟩⟩
    have s2 := same_ini n2 k2
    have v2 := sqL_s s2 v1
    refine ⟨_, rfl, v, _, 4, x4, rfl, rfl, v2, rfl, by show 1 ≤ 1000; decide, fun a3 n3 => ⟨a3, x4, rfl, upd_same, fun d3 H3 k3 _ _ p3 q3 => ⟨rfl, ?_⟩⟩⟩
    have s3 := same_ini n3 k3
    have v3 := sqL_s s3 v2
    refine ⟨by show 4 ≤ sizeLine; decide, fun L1 h1 => ?_⟩
    have v4 := sqL_s (same_new (o := .lst [.ref a0, .ref a1, .ref a2, .ref a3]) h1) v3
    refine ⟨_, rfl, _, rfl, v, _, 5, x5, rfl, rfl, v4, rfl, by show 1 ≤ 1000; decide, fun a4 n4 => ⟨a4, x5, rfl, upd_same, fun d4 H4 k4 _ _ p4 q4 => ⟨rfl, by show 1 ≤ sizeLine; decide, fun L2 h2 => ?_⟩⟩⟩
    have s4 := same_ini n4 k4
    have hL1 : H4 L1 = some (.lst [.ref a0, .ref a1, .ref a2, .ref a3]) := s4 _ _ upd_same
    have n12 : L1 ≠ L2 := ne_of_none hL1 h2
    refine ⟨L1, L2, _, _, rfl, rfl, by rw [upd_ne n12]; exact hL1, upd_same, by show 5 ≤ sizeLine; decide, fun L3 h3 => ?_⟩
    have t4 := (same_new (o := .lst [.ref a4]) h2).trans (same_new (o := .lst [.ref a0, .ref a1, .ref a2, .ref a3, .ref a4]) h3)
    have t3 := ((same_new (o := .lst [.ref a0, .ref a1, .ref a2, .ref a3]) h1).trans s4).trans t4
    refine k L3 _ _ ((((s0.trans s1).trans s2).trans s3).trans t3) upd_same ?_
    exact .cons (ErV.same (((s1.trans s2).trans s3).trans t3) (fs := some [("at", x1), ("part", x0)]) ⟨d0, p0, q0⟩) (.cons (ErV.same ((s2.trans s3).trans t3) (fs := some [("line", x2)]) ⟨d1, p1, q1⟩) (.cons (ErV.same (s3.trans t3) (fs := some [("most", x3)]) ⟨d2, p2, q2⟩) (.cons (ErV.same t3 (fs := some [("part", x4)]) ⟨d3, p3, q3⟩) (.cons (ErV.same t4 (fs := some [("name", x5)]) ⟨d4, p4, q4⟩) .nil))))
def spFields (K : PySem.W.Frag) (D_NoPerson D_NoThing D_NoNumbers D_NoNumber D_NoDealing D_NoLot D_Stuck D_NoRing D_NoTie D_NoStanding D_NoTurn D_NoCustom D_NoFraction D_NoBook D_NoHistory D_NoTickets D_NoSteps D_NoChances D_NoPrices D_Empty D_NoSizes D_NoLooks D_NoOutcome D_NoComer D_NotOpen D_NothingDone D_NoLine D_BadTable D_BadText D_TooMany D_BadKinds D_NoName : Addr) : Sp := fun vs H Q _ => ∃ (v : Addr) (us : List V) (x0 x1 x2 x3 x4 x5 : V), vs = [.ref v] ∧ SqL K H v us ∧ ErsV H us ((csX D_NoPerson D_NoThing D_NoNumbers D_NoNumber D_NoDealing D_NoLot D_Stuck D_NoRing D_NoTie D_NoStanding D_NoTurn D_NoCustom D_NoFraction D_NoBook D_NoHistory D_NoTickets D_NoSteps D_NoChances D_NoPrices D_Empty D_NoSizes D_NoLooks D_NoOutcome D_NoComer D_NotOpen D_NothingDone D_NoLine D_BadTable D_BadText D_TooMany D_BadKinds D_NoName).drop 27) (fsX [x0, x1, x2, x3, x4, x5]) ∧ ∀ (p : Addr) (H' : Hp), Same H H' → H' p = some (.lst [x0, x1, x2, x3, x4, x5]) → Q (.ref p) H'
theorem ok_fields (A : At K mg "_law_fields" s_law_fields ["errors"]) (T : Tx mg) (x_BadTable : XfC K D_BadTable) (x_BadText : XfC K D_BadText) (x_TooMany : XfC K D_TooMany) (x_BadKinds : XfC K D_BadKinds) (x_NoName : XfC K D_NoName) (n_BadTable_part : PySem.W.findIn K (.ref D_BadTable) "part" = some none) (n_BadTable_at : PySem.W.findIn K (.ref D_BadTable) "at" = some none) (n_BadText_line : PySem.W.findIn K (.ref D_BadText) "line" = some none) (n_TooMany_most : PySem.W.findIn K (.ref D_TooMany) "most" = some none) (n_BadKinds_part : PySem.W.findIn K (.ref D_BadKinds) "part" = some none) (n_NoName_name : PySem.W.findIn K (.ref D_NoName) "name" = some none) : Dfn P w K mg base "_law_fields" ["errors"] 1 (spFields K D_NoPerson D_NoThing D_NoNumbers D_NoNumber D_NoDealing D_NoLot D_Stuck D_NoRing D_NoTie D_NoStanding D_NoTurn D_NoCustom D_NoFraction D_NoBook D_NoHistory D_NoTickets D_NoSteps D_NoChances D_NoPrices D_Empty D_NoSizes D_NoLooks D_NoOutcome D_NoComer D_NotOpen D_NothingDone D_NoLine D_BadTable D_BadText D_TooMany D_BadKinds D_NoName) := by
  refine A.ok sc_law_fields (fun vs H Q E h => ?_) (fun f cdv A outer s H vs Q E hr h => ?_)
  · obtain ⟨v, us, x0, x1, x2, x3, x4, x5, rfl, _⟩ := h
    rfl
  · obtain ⟨v, us, x0, x1, x2, x3, x4, x5, rfl, hv, er, k⟩ := h
    cases er with
    | cons e0 er => cases er with
      | cons e1 er => cases er with
        | cons e2 er => cases er with
          | cons e3 er => cases er with
            | cons e4 er =>
              cases er
              rename_i a0 a1 a2 a3 a4
              refine ⟨_, (pss_cons (ps_set (i := 1) sc_law_fields.nd rfl (Or.inl rfl) (pe_lst (pa_cons (pe_xv (pe_ix ix_list (pv 0) pe_int (fun _ _ => rfl))) (pa_cons (pe_xv (pe_ix ix_list (pv 0) pe_int (fun _ _ => rfl))) (pa_cons (pe_xv (pe_ix ix_list (pv 0) pe_int (fun _ _ => rfl))) (pa_cons (pe_xv (pe_ix ix_list (pv 0) pe_int (fun _ _ => rfl))) (pa_cons (pe_xv (pe_ix ix_list (pv 0) pe_int (fun _ _ => rfl))) pa_nil)))))))
      (pss_one (ps_ret (pe_op op_cat (pv 1) (pe_lst (pa_cons (pe_xv (pe_ix ix_list (pv 0) pe_int (fun _ _ => rfl))) pa_nil)))))), ?_⟩
              refine ⟨_, rfl, v, _, 0, _, rfl, rfl, hv, rfl, a0, _, _, x0, rfl, e0, x_BadTable, n_BadTable_part, rfl, ?_⟩
              refine ⟨_, rfl, v, _, 0, _, rfl, rfl, hv, rfl, a0, _, _, x1, rfl, e0, x_BadTable, n_BadTable_at, rfl, ?_⟩
              refine ⟨_, rfl, v, _, 1, _, rfl, rfl, hv, rfl, a1, _, _, x2, rfl, e1, x_BadText, n_BadText_line, rfl, ?_⟩
              refine ⟨_, rfl, v, _, 2, _, rfl, rfl, hv, rfl, a2, _, _, x3, rfl, e2, x_TooMany, n_TooMany_most, rfl, ?_⟩
              refine ⟨_, rfl, v, _, 3, _, rfl, rfl, hv, rfl, a3, _, _, x4, rfl, e3, x_BadKinds, n_BadKinds_part, rfl, ?_⟩
              refine ⟨by show 5 ≤ sizeLine; decide, fun L1 h1 => ?_⟩
              have s1 := same_new (o := .lst [x0, x1, x2, x3, x4]) h1
              refine ⟨_, rfl, _, rfl, v, _, 4, _, rfl, rfl, sqL_s s1 hv, rfl, a4, _, _, x5, rfl, e4.same s1, x_NoName, n_NoName_name, rfl, by show 1 ≤ sizeLine; decide, fun L2 h2 => ?_⟩
              have n12 : L1 ≠ L2 := ne_of_none (upd_same (H := H) (a := L1) (o := .lst [x0, x1, x2, x3, x4])) h2
              refine ⟨L1, L2, _, _, rfl, rfl, by rw [upd_ne n12]; exact upd_same, upd_same, by show 6 ≤ sizeLine; decide, fun L3 h3 => ?_⟩
              exact k L3 _ ((s1.trans (same_new h2)).trans (same_new h3)) upd_same
def spKinds (D_NoPerson D_NoThing D_NoNumbers D_NoNumber D_NoDealing D_NoLot D_Stuck D_NoRing D_NoTie D_NoStanding D_NoTurn D_NoCustom D_NoFraction D_NoBook D_NoHistory D_NoTickets D_NoSteps D_NoChances D_NoPrices D_Empty D_NoSizes D_NoLooks D_NoOutcome D_NoComer D_NotOpen D_NothingDone D_NoLine D_BadTable D_BadText D_TooMany D_BadKinds D_NoName : Addr) : Sp := fun vs H Q _ => ∃ (a : Addr) (c : Str × Addr) (fs : Option (List (Str × V))), vs = [.ref a] ∧ c ∈ (csX D_NoPerson D_NoThing D_NoNumbers D_NoNumber D_NoDealing D_NoLot D_Stuck D_NoRing D_NoTie D_NoStanding D_NoTurn D_NoCustom D_NoFraction D_NoBook D_NoHistory D_NoTickets D_NoSteps D_NoChances D_NoPrices D_Empty D_NoSizes D_NoLooks D_NoOutcome D_NoComer D_NotOpen D_NothingDone D_NoLine D_BadTable D_BadText D_TooMany D_BadKinds D_NoName) ∧ ErV H a c.2 fs ∧ ∀ (p : Addr) (H' : Hp), Same H H' → H' p = some (.lst ((csX D_NoPerson D_NoThing D_NoNumbers D_NoNumber D_NoDealing D_NoLot D_Stuck D_NoRing D_NoTie D_NoStanding D_NoTurn D_NoCustom D_NoFraction D_NoBook D_NoHistory D_NoTickets D_NoSteps D_NoChances D_NoPrices D_Empty D_NoSizes D_NoLooks D_NoOutcome D_NoComer D_NotOpen D_NothingDone D_NoLine D_BadTable D_BadText D_TooMany D_BadKinds D_NoName).map fun d => V.bl (decide (c.1 = d.1)))) → Q (.ref p) H'
theorem ok_kinds (A : At K mg "_law_kinds" s_law_kinds ["e"]) (T : Tx mg) (EK : ErK K mg DE (csX D_NoPerson D_NoThing D_NoNumbers D_NoNumber D_NoDealing D_NoLot D_Stuck D_NoRing D_NoTie D_NoStanding D_NoTurn D_NoCustom D_NoFraction D_NoBook D_NoHistory D_NoTickets D_NoSteps D_NoChances D_NoPrices D_Empty D_NoSizes D_NoLooks D_NoOutcome D_NoComer D_NotOpen D_NothingDone D_NoLine D_BadTable D_BadText D_TooMany D_BadKinds D_NoName)) : Dfn P w K mg base "_law_kinds" ["e"] 1 (spKinds D_NoPerson D_NoThing D_NoNumbers D_NoNumber D_NoDealing D_NoLot D_Stuck D_NoRing D_NoTie D_NoStanding D_NoTurn D_NoCustom D_NoFraction D_NoBook D_NoHistory D_NoTickets D_NoSteps D_NoChances D_NoPrices D_Empty D_NoSizes D_NoLooks D_NoOutcome D_NoComer D_NotOpen D_NothingDone D_NoLine D_BadTable D_BadText D_TooMany D_BadKinds D_NoName) := by
  refine A.ok sc_law_kinds (fun vs H Q E h => ?_) (fun f cdv A outer s H vs Q E hr h => ?_)
  · obtain ⟨a, c, fs, rfl, _⟩ := h
    rfl
  · obtain ⟨a, c, fs, rfl, hc, he, k⟩ := h
    refine ⟨_, (pss_cons (ps_set (i := 1) sc_law_kinds.nd rfl (Or.inl rfl) (pe_lst (pa_cons (pe_callB call_isV (by rfl) T.isinstance (by decide +kernel) (pa_cons (pv 0) (pa_cons (pe_glob (v := V.ref D_NoPerson) (by rfl) (EK.g ("NoPerson", D_NoPerson) (List.mem_of_getElem? (i := 0) rfl)) rfl) pa_nil))) (pa_cons (pe_callB call_isV (by rfl) T.isinstance (by decide +kernel) (pa_cons (pv 0) (pa_cons (pe_glob (v := V.ref D_NoThing) (by rfl) (EK.g ("NoThing", D_NoThing) (List.mem_of_getElem? (i := 1) rfl)) rfl) pa_nil))) (pa_cons (pe_callB call_isV (by rfl) T.isinstance (by decide +kernel) (pa_cons (pv 0) (pa_cons (pe_glob (v := V.ref D_NoNumbers) (by rfl) (EK.g ("NoNumbers", D_NoNumbers) (List.mem_of_getElem? (i := 2) rfl)) rfl) pa_nil))) (pa_cons (pe_callB call_isV (by rfl) T.isinstance (by decide +kernel) (pa_cons (pv 0) (pa_cons (pe_glob (v := V.ref D_NoNumber) (by rfl) (EK.g ("NoNumber", D_NoNumber) (List.mem_of_getElem? (i := 3) rfl)) rfl) pa_nil))) (pa_cons (pe_callB call_isV (by rfl) T.isinstance (by decide +kernel) (pa_cons (pv 0) (pa_cons (pe_glob (v := V.ref D_NoDealing) (by rfl) (EK.g ("NoDealing", D_NoDealing) (List.mem_of_getElem? (i := 4) rfl)) rfl) pa_nil))) (pa_cons (pe_callB call_isV (by rfl) T.isinstance (by decide +kernel) (pa_cons (pv 0) (pa_cons (pe_glob (v := V.ref D_NoLot) (by rfl) (EK.g ("NoLot", D_NoLot) (List.mem_of_getElem? (i := 5) rfl)) rfl) pa_nil))) (pa_cons (pe_callB call_isV (by rfl) T.isinstance (by decide +kernel) (pa_cons (pv 0) (pa_cons (pe_glob (v := V.ref D_Stuck) (by rfl) (EK.g ("Stuck", D_Stuck) (List.mem_of_getElem? (i := 6) rfl)) rfl) pa_nil))) (pa_cons (pe_callB call_isV (by rfl) T.isinstance (by decide +kernel) (pa_cons (pv 0) (pa_cons (pe_glob (v := V.ref D_NoRing) (by rfl) (EK.g ("NoRing", D_NoRing) (List.mem_of_getElem? (i := 7) rfl)) rfl) pa_nil))) (pa_cons (pe_callB call_isV (by rfl) T.isinstance (by decide +kernel) (pa_cons (pv 0) (pa_cons (pe_glob (v := V.ref D_NoTie) (by rfl) (EK.g ("NoTie", D_NoTie) (List.mem_of_getElem? (i := 8) rfl)) rfl) pa_nil))) (pa_cons (pe_callB call_isV (by rfl) T.isinstance (by decide +kernel) (pa_cons (pv 0) (pa_cons (pe_glob (v := V.ref D_NoStanding) (by rfl) (EK.g ("NoStanding", D_NoStanding) (List.mem_of_getElem? (i := 9) rfl)) rfl) pa_nil))) (pa_cons (pe_callB call_isV (by rfl) T.isinstance (by decide +kernel) (pa_cons (pv 0) (pa_cons (pe_glob (v := V.ref D_NoTurn) (by rfl) (EK.g ("NoTurn", D_NoTurn) (List.mem_of_getElem? (i := 10) rfl)) rfl) pa_nil))) (pa_cons (pe_callB call_isV (by rfl) T.isinstance (by decide +kernel) (pa_cons (pv 0) (pa_cons (pe_glob (v := V.ref D_NoCustom) (by rfl) (EK.g ("NoCustom", D_NoCustom) (List.mem_of_getElem? (i := 11) rfl)) rfl) pa_nil))) (pa_cons (pe_callB call_isV (by rfl) T.isinstance (by decide +kernel) (pa_cons (pv 0) (pa_cons (pe_glob (v := V.ref D_NoFraction) (by rfl) (EK.g ("NoFraction", D_NoFraction) (List.mem_of_getElem? (i := 12) rfl)) rfl) pa_nil))) (pa_cons (pe_callB call_isV (by rfl) T.isinstance (by decide +kernel) (pa_cons (pv 0) (pa_cons (pe_glob (v := V.ref D_NoBook) (by rfl) (EK.g ("NoBook", D_NoBook) (List.mem_of_getElem? (i := 13) rfl)) rfl) pa_nil))) pa_nil))))))))))))))))
      (pss_cons (ps_set (i := 2) sc_law_kinds.nd rfl (Or.inl rfl) (pe_lst (pa_cons (pe_callB call_isV (by rfl) T.isinstance (by decide +kernel) (pa_cons (pv 0) (pa_cons (pe_glob (v := V.ref D_NoHistory) (by rfl) (EK.g ("NoHistory", D_NoHistory) (List.mem_of_getElem? (i := 14) rfl)) rfl) pa_nil))) (pa_cons (pe_callB call_isV (by rfl) T.isinstance (by decide +kernel) (pa_cons (pv 0) (pa_cons (pe_glob (v := V.ref D_NoTickets) (by rfl) (EK.g ("NoTickets", D_NoTickets) (List.mem_of_getElem? (i := 15) rfl)) rfl) pa_nil))) (pa_cons (pe_callB call_isV (by rfl) T.isinstance (by decide +kernel) (pa_cons (pv 0) (pa_cons (pe_glob (v := V.ref D_NoSteps) (by rfl) (EK.g ("NoSteps", D_NoSteps) (List.mem_of_getElem? (i := 16) rfl)) rfl) pa_nil))) (pa_cons (pe_callB call_isV (by rfl) T.isinstance (by decide +kernel) (pa_cons (pv 0) (pa_cons (pe_glob (v := V.ref D_NoChances) (by rfl) (EK.g ("NoChances", D_NoChances) (List.mem_of_getElem? (i := 17) rfl)) rfl) pa_nil))) (pa_cons (pe_callB call_isV (by rfl) T.isinstance (by decide +kernel) (pa_cons (pv 0) (pa_cons (pe_glob (v := V.ref D_NoPrices) (by rfl) (EK.g ("NoPrices", D_NoPrices) (List.mem_of_getElem? (i := 18) rfl)) rfl) pa_nil))) (pa_cons (pe_callB call_isV (by rfl) T.isinstance (by decide +kernel) (pa_cons (pv 0) (pa_cons (pe_glob (v := V.ref D_Empty) (by rfl) (EK.g ("Empty", D_Empty) (List.mem_of_getElem? (i := 19) rfl)) rfl) pa_nil))) (pa_cons (pe_callB call_isV (by rfl) T.isinstance (by decide +kernel) (pa_cons (pv 0) (pa_cons (pe_glob (v := V.ref D_NoSizes) (by rfl) (EK.g ("NoSizes", D_NoSizes) (List.mem_of_getElem? (i := 20) rfl)) rfl) pa_nil))) (pa_cons (pe_callB call_isV (by rfl) T.isinstance (by decide +kernel) (pa_cons (pv 0) (pa_cons (pe_glob (v := V.ref D_NoLooks) (by rfl) (EK.g ("NoLooks", D_NoLooks) (List.mem_of_getElem? (i := 21) rfl)) rfl) pa_nil))) (pa_cons (pe_callB call_isV (by rfl) T.isinstance (by decide +kernel) (pa_cons (pv 0) (pa_cons (pe_glob (v := V.ref D_NoOutcome) (by rfl) (EK.g ("NoOutcome", D_NoOutcome) (List.mem_of_getElem? (i := 22) rfl)) rfl) pa_nil))) (pa_cons (pe_callB call_isV (by rfl) T.isinstance (by decide +kernel) (pa_cons (pv 0) (pa_cons (pe_glob (v := V.ref D_NoComer) (by rfl) (EK.g ("NoComer", D_NoComer) (List.mem_of_getElem? (i := 23) rfl)) rfl) pa_nil))) (pa_cons (pe_callB call_isV (by rfl) T.isinstance (by decide +kernel) (pa_cons (pv 0) (pa_cons (pe_glob (v := V.ref D_NotOpen) (by rfl) (EK.g ("NotOpen", D_NotOpen) (List.mem_of_getElem? (i := 24) rfl)) rfl) pa_nil))) (pa_cons (pe_callB call_isV (by rfl) T.isinstance (by decide +kernel) (pa_cons (pv 0) (pa_cons (pe_glob (v := V.ref D_NothingDone) (by rfl) (EK.g ("NothingDone", D_NothingDone) (List.mem_of_getElem? (i := 25) rfl)) rfl) pa_nil))) (pa_cons (pe_callB call_isV (by rfl) T.isinstance (by decide +kernel) (pa_cons (pv 0) (pa_cons (pe_glob (v := V.ref D_NoLine) (by rfl) (EK.g ("NoLine", D_NoLine) (List.mem_of_getElem? (i := 26) rfl)) rfl) pa_nil))) pa_nil)))))))))))))))
      (pss_cons (ps_set (i := 3) sc_law_kinds.nd rfl (Or.inl rfl) (pe_lst (pa_cons (pe_callB call_isV (by rfl) T.isinstance (by decide +kernel) (pa_cons (pv 0) (pa_cons (pe_glob (v := V.ref D_BadTable) (by rfl) (EK.g ("BadTable", D_BadTable) (List.mem_of_getElem? (i := 27) rfl)) rfl) pa_nil))) (pa_cons (pe_callB call_isV (by rfl) T.isinstance (by decide +kernel) (pa_cons (pv 0) (pa_cons (pe_glob (v := V.ref D_BadText) (by rfl) (EK.g ("BadText", D_BadText) (List.mem_of_getElem? (i := 28) rfl)) rfl) pa_nil))) (pa_cons (pe_callB call_isV (by rfl) T.isinstance (by decide +kernel) (pa_cons (pv 0) (pa_cons (pe_glob (v := V.ref D_TooMany) (by rfl) (EK.g ("TooMany", D_TooMany) (List.mem_of_getElem? (i := 29) rfl)) rfl) pa_nil))) (pa_cons (pe_callB call_isV (by rfl) T.isinstance (by decide +kernel) (pa_cons (pv 0) (pa_cons (pe_glob (v := V.ref D_BadKinds) (by rfl) (EK.g ("BadKinds", D_BadKinds) (List.mem_of_getElem? (i := 30) rfl)) rfl) pa_nil))) (pa_cons (pe_callB call_isV (by rfl) T.isinstance (by decide +kernel) (pa_cons (pv 0) (pa_cons (pe_glob (v := V.ref D_NoName) (by rfl) (EK.g ("NoName", D_NoName) (List.mem_of_getElem? (i := 31) rfl)) rfl) pa_nil))) pa_nil)))))))
      (pss_one (ps_ret (pe_op op_cat (pe_op op_cat (pv 1) (pv 2)) (pv 3))))))), ?_⟩
    refine ⟨_, rfl, a, c.2, fs, _, _, _, rfl, he, fun _ h => h, EK.xc _ hc, EK.kk _ hc _ (List.mem_of_getElem? (i := 0) rfl), ?_⟩
    refine ⟨_, rfl, a, c.2, fs, _, _, _, rfl, he, fun _ h => h, EK.xc _ hc, EK.kk _ hc _ (List.mem_of_getElem? (i := 1) rfl), ?_⟩
    refine ⟨_, rfl, a, c.2, fs, _, _, _, rfl, he, fun _ h => h, EK.xc _ hc, EK.kk _ hc _ (List.mem_of_getElem? (i := 2) rfl), ?_⟩
    refine ⟨_, rfl, a, c.2, fs, _, _, _, rfl, he, fun _ h => h, EK.xc _ hc, EK.kk _ hc _ (List.mem_of_getElem? (i := 3) rfl), ?_⟩
    refine ⟨_, rfl, a, c.2, fs, _, _, _, rfl, he, fun _ h => h, EK.xc _ hc, EK.kk _ hc _ (List.mem_of_getElem? (i := 4) rfl), ?_⟩
    refine ⟨_, rfl, a, c.2, fs, _, _, _, rfl, he, fun _ h => h, EK.xc _ hc, EK.kk _ hc _ (List.mem_of_getElem? (i := 5) rfl), ?_⟩
    refine ⟨_, rfl, a, c.2, fs, _, _, _, rfl, he, fun _ h => h, EK.xc _ hc, EK.kk _ hc _ (List.mem_of_getElem? (i := 6) rfl), ?_⟩
    refine ⟨_, rfl, a, c.2, fs, _, _, _, rfl, he, fun _ h => h, EK.xc _ hc, EK.kk _ hc _ (List.mem_of_getElem? (i := 7) rfl), ?_⟩
    refine ⟨_, rfl, a, c.2, fs, _, _, _, rfl, he, fun _ h => h, EK.xc _ hc, EK.kk _ hc _ (List.mem_of_getElem? (i := 8) rfl), ?_⟩
    refine ⟨_, rfl, a, c.2, fs, _, _, _, rfl, he, fun _ h => h, EK.xc _ hc, EK.kk _ hc _ (List.mem_of_getElem? (i := 9) rfl), ?_⟩
    refine ⟨_, rfl, a, c.2, fs, _, _, _, rfl, he, fun _ h => h, EK.xc _ hc, EK.kk _ hc _ (List.mem_of_getElem? (i := 10) rfl), ?_⟩
    refine ⟨_, rfl, a, c.2, fs, _, _, _, rfl, he, fun _ h => h, EK.xc _ hc, EK.kk _ hc _ (List.mem_of_getElem? (i := 11) rfl), ?_⟩
    refine ⟨_, rfl, a, c.2, fs, _, _, _, rfl, he, fun _ h => h, EK.xc _ hc, EK.kk _ hc _ (List.mem_of_getElem? (i := 12) rfl), ?_⟩
    refine ⟨_, rfl, a, c.2, fs, _, _, _, rfl, he, fun _ h => h, EK.xc _ hc, EK.kk _ hc _ (List.mem_of_getElem? (i := 13) rfl), ?_⟩
    refine ⟨by show 14 ≤ sizeLine; decide, fun L1 h1 => ?_⟩
    have s1 := same_new (o := .lst (((csX D_NoPerson D_NoThing D_NoNumbers D_NoNumber D_NoDealing D_NoLot D_Stuck D_NoRing D_NoTie D_NoStanding D_NoTurn D_NoCustom D_NoFraction D_NoBook D_NoHistory D_NoTickets D_NoSteps D_NoChances D_NoPrices D_Empty D_NoSizes D_NoLooks D_NoOutcome D_NoComer D_NotOpen D_NothingDone D_NoLine D_BadTable D_BadText D_TooMany D_BadKinds D_NoName).take 14).map fun d => V.bl (decide (c.1 = d.1)))) h1
    have he1 := he.same s1
    refine ⟨_, rfl, a, c.2, fs, _, _, _, rfl, he1, fun _ h => h, EK.xc _ hc, EK.kk _ hc _ (List.mem_of_getElem? (i := 14) rfl), ?_⟩
    refine ⟨_, rfl, a, c.2, fs, _, _, _, rfl, he1, fun _ h => h, EK.xc _ hc, EK.kk _ hc _ (List.mem_of_getElem? (i := 15) rfl), ?_⟩
    refine ⟨_, rfl, a, c.2, fs, _, _, _, rfl, he1, fun _ h => h, EK.xc _ hc, EK.kk _ hc _ (List.mem_of_getElem? (i := 16) rfl), ?_⟩
    refine ⟨_, rfl, a, c.2, fs, _, _, _, rfl, he1, fun _ h => h, EK.xc _ hc, EK.kk _ hc _ (List.mem_of_getElem? (i := 17) rfl), ?_⟩
    refine ⟨_, rfl, a, c.2, fs, _, _, _, rfl, he1, fun _ h => h, EK.xc _ hc, EK.kk _ hc _ (List.mem_of_getElem? (i := 18) rfl), ?_⟩
    refine ⟨_, rfl, a, c.2, fs, _, _, _, rfl, he1, fun _ h => h, EK.xc _ hc, EK.kk _ hc _ (List.mem_of_getElem? (i := 19) rfl), ?_⟩
    refine ⟨_, rfl, a, c.2, fs, _, _, _, rfl, he1, fun _ h => h, EK.xc _ hc, EK.kk _ hc _ (List.mem_of_getElem? (i := 20) rfl), ?_⟩
    refine ⟨_, rfl, a, c.2, fs, _, _, _, rfl, he1, fun _ h => h, EK.xc _ hc, EK.kk _ hc _ (List.mem_of_getElem? (i := 21) rfl), ?_⟩
    refine ⟨_, rfl, a, c.2, fs, _, _, _, rfl, he1, fun _ h => h, EK.xc _ hc, EK.kk _ hc _ (List.mem_of_getElem? (i := 22) rfl), ?_⟩
    refine ⟨_, rfl, a, c.2, fs, _, _, _, rfl, he1, fun _ h => h, EK.xc _ hc, EK.kk _ hc _ (List.mem_of_getElem? (i := 23) rfl), ?_⟩
    refine ⟨_, rfl, a, c.2, fs, _, _, _, rfl, he1, fun _ h => h, EK.xc _ hc, EK.kk _ hc _ (List.mem_of_getElem? (i := 24) rfl), ?_⟩
    refine ⟨_, rfl, a, c.2, fs, _, _, _, rfl, he1, fun _ h => h, EK.xc _ hc, EK.kk _ hc _ (List.mem_of_getElem? (i := 25) rfl), ?_⟩
    refine ⟨_, rfl, a, c.2, fs, _, _, _, rfl, he1, fun _ h => h, EK.xc _ hc, EK.kk _ hc _ (List.mem_of_getElem? (i := 26) rfl), ?_⟩
    refine ⟨by show 13 ≤ sizeLine; decide, fun L2 h2 => ?_⟩
    have s2 := same_new (o := .lst ((((csX D_NoPerson D_NoThing D_NoNumbers D_NoNumber D_NoDealing D_NoLot D_Stuck D_NoRing D_NoTie D_NoStanding D_NoTurn D_NoCustom D_NoFraction D_NoBook D_NoHistory D_NoTickets D_NoSteps D_NoChances D_NoPrices D_Empty D_NoSizes D_NoLooks D_NoOutcome D_NoComer D_NotOpen D_NothingDone D_NoLine D_BadTable D_BadText D_TooMany D_BadKinds D_NoName).drop 14).take 13).map fun d => V.bl (decide (c.1 = d.1)))) h2
    have he2 := he1.same s2
    refine ⟨_, rfl, a, c.2, fs, _, _, _, rfl, he2, fun _ h => h, EK.xc _ hc, EK.kk _ hc _ (List.mem_of_getElem? (i := 27) rfl), ?_⟩
    refine ⟨_, rfl, a, c.2, fs, _, _, _, rfl, he2, fun _ h => h, EK.xc _ hc, EK.kk _ hc _ (List.mem_of_getElem? (i := 28) rfl), ?_⟩
    refine ⟨_, rfl, a, c.2, fs, _, _, _, rfl, he2, fun _ h => h, EK.xc _ hc, EK.kk _ hc _ (List.mem_of_getElem? (i := 29) rfl), ?_⟩
    refine ⟨_, rfl, a, c.2, fs, _, _, _, rfl, he2, fun _ h => h, EK.xc _ hc, EK.kk _ hc _ (List.mem_of_getElem? (i := 30) rfl), ?_⟩
    refine ⟨_, rfl, a, c.2, fs, _, _, _, rfl, he2, fun _ h => h, EK.xc _ hc, EK.kk _ hc _ (List.mem_of_getElem? (i := 31) rfl), ?_⟩
    refine ⟨by show 5 ≤ sizeLine; decide, fun L3 h3 => ?_⟩
    have n12 : L1 ≠ L2 := ne_of_none upd_same h2
    have n13 : L1 ≠ L3 := ne_of_none (Eq.trans (upd_ne n12) upd_same) h3
    have n23 : L2 ≠ L3 := ne_of_none upd_same h3
    refine ⟨_, rfl, _, rfl, L1, L2, _, _, rfl, rfl, Eq.trans (upd_ne n13) (Eq.trans (upd_ne n12) upd_same), Eq.trans (upd_ne n23) upd_same, by show 27 ≤ sizeLine; decide, fun L4 h4 => ?_⟩
    have n34 : L3 ≠ L4 := ne_of_none upd_same h4
    refine ⟨_, rfl, L4, L3, _, _, rfl, rfl, upd_same, Eq.trans (upd_ne n34) upd_same, by show 32 ≤ sizeLine; decide, fun L5 h5 => ?_⟩
    exact k L5 _ ((((s1.trans s2).trans (same_new h3)).trans (same_new h4)).trans (same_new h5)) upd_same
def spAlone (D_NoPerson D_NoThing D_NoNumbers D_NoNumber D_NoDealing D_NoLot D_Stuck D_NoRing D_NoTie D_NoStanding D_NoTurn D_NoCustom D_NoFraction D_NoBook D_NoHistory D_NoTickets D_NoSteps D_NoChances D_NoPrices D_Empty D_NoSizes D_NoLooks D_NoOutcome D_NoComer D_NotOpen D_NothingDone D_NoLine D_BadTable D_BadText D_TooMany D_BadKinds D_NoName : Addr) : Sp := fun vs H Q _ => ∃ (a : Addr) (i : Nat) (c : Str × Addr) (fs : Option (List (Str × V))), vs = [.ref a, .int (i : Int)] ∧ (csX D_NoPerson D_NoThing D_NoNumbers D_NoNumber D_NoDealing D_NoLot D_Stuck D_NoRing D_NoTie D_NoStanding D_NoTurn D_NoCustom D_NoFraction D_NoBook D_NoHistory D_NoTickets D_NoSteps D_NoChances D_NoPrices D_Empty D_NoSizes D_NoLooks D_NoOutcome D_NoComer D_NotOpen D_NothingDone D_NoLine D_BadTable D_BadText D_TooMany D_BadKinds D_NoName)[i]? = some c ∧ ErV H a c.2 fs ∧ ∀ H' : Hp, Same H H' → Q (.bl true) H'
theorem ok_alone (A : At K mg "_law_alone" s_law_alone ["error", "at"]) (T : Tx mg) (EK : ErK K mg DE (csX D_NoPerson D_NoThing D_NoNumbers D_NoNumber D_NoDealing D_NoLot D_Stuck D_NoRing D_NoTie D_NoStanding D_NoTurn D_NoCustom D_NoFraction D_NoBook D_NoHistory D_NoTickets D_NoSteps D_NoChances D_NoPrices D_Empty D_NoSizes D_NoLooks D_NoOutcome D_NoComer D_NotOpen D_NothingDone D_NoLine D_BadTable D_BadText D_TooMany D_BadKinds D_NoName)) (ED : ErD K DE (csX D_NoPerson D_NoThing D_NoNumbers D_NoNumber D_NoDealing D_NoLot D_Stuck D_NoRing D_NoTie D_NoStanding D_NoTurn D_NoCustom D_NoFraction D_NoBook D_NoHistory D_NoTickets D_NoSteps D_NoChances D_NoPrices D_Empty D_NoSizes D_NoLooks D_NoOutcome D_NoComer D_NotOpen D_NothingDone D_NoLine D_BadTable D_BadText D_TooMany D_BadKinds D_NoName)) (G_law_kinds : Dfn P w K mg base "_law_kinds" ["e"] 1 (spKinds D_NoPerson D_NoThing D_NoNumbers D_NoNumber D_NoDealing D_NoLot D_Stuck D_NoRing D_NoTie D_NoStanding D_NoTurn D_NoCustom D_NoFraction D_NoBook D_NoHistory D_NoTickets D_NoSteps D_NoChances D_NoPrices D_Empty D_NoSizes D_NoLooks D_NoOutcome D_NoComer D_NotOpen D_NothingDone D_NoLine D_BadTable D_BadText D_TooMany D_BadKinds D_NoName)) : Dfn P w K mg base "_law_alone" ["error", "at"] 2 (spAlone D_NoPerson D_NoThing D_NoNumbers D_NoNumber D_NoDealing D_NoLot D_Stuck D_NoRing D_NoTie D_NoStanding D_NoTurn D_NoCustom D_NoFraction D_NoBook D_NoHistory D_NoTickets D_NoSteps D_NoChances D_NoPrices D_Empty D_NoSizes D_NoLooks D_NoOutcome D_NoComer D_NotOpen D_NothingDone D_NoLine D_BadTable D_BadText D_TooMany D_BadKinds D_NoName) := by
  refine A.ok sc_law_alone (fun vs H Q E h => ?_) (fun f cdv A outer s H vs Q E hr h => ?_)
  · obtain ⟨a, i, c, fs, rfl, _⟩ := h
    rfl
  · obtain ⟨a, i, c, fs, rfl, hi, he, k⟩ := h
    have hc : c ∈ (csX D_NoPerson D_NoThing D_NoNumbers D_NoNumber D_NoDealing D_NoLot D_Stuck D_NoRing D_NoTie D_NoStanding D_NoTurn D_NoCustom D_NoFraction D_NoBook D_NoHistory D_NoTickets D_NoSteps D_NoChances D_NoPrices D_Empty D_NoSizes D_NoLooks D_NoOutcome D_NoComer D_NotOpen D_NothingDone D_NoLine D_BadTable D_BadText D_TooMany D_BadKinds D_NoName) := List.mem_of_getElem? hi
    refine ⟨_, (pss_cons (ps_if (PW.pt (pw_or (pt_not (pt_val (pe_callB call_isV (by rfl) T.isinstance (by decide +kernel) (pa_cons (pv 0) (pa_cons (pe_glob (v := V.ref DE) (by rfl) EK.gDE rfl) pa_nil))))) (pw_or1 (pt_not (pt_val (pe_callB call_isV (by rfl) T.isinstance (by decide +kernel) (pa_cons (pv 0) (pa_cons (pe_bltn (v := V.ty "ValueError") (by rfl) EK.gVE (by decide +kernel) rfl) pa_nil)))))))) (pss_one (ps_ret pe_bl)) pss_nil)
      (pss_one (ps_ret (pe_cmpR (op_eqD hr.units) (pe_d G_law_kinds (hr.mono (by decide)) (pa_cons (pv 0) pa_nil)) (pe_lc (own := [("index", 2)]) (g := (gName 2)) (tt := tYes) (te := (tOp rEq (tVar 2) (tVar 1))) (by rfl) sc_law_alone.nd (pi_range1 rfl T.range (pa_cons pe_int pa_nil)) (blkOk_by (own := [("index", 2)]) (N := n_law_alone) (sc := (defScope s_law_alone)) (by decide +kernel)) (fun _ _ _ _ _ => (pg_name (i := 2) sc_law_alone.nd rfl (Or.inl rfl))) (fun _ _ _ _ _ => pts_nil) (fun _ _ _ _ _ => (pe_cmpR op_eq (pv 2) (pv 1) (nomark _)))) (nomark _))))), ?_⟩
    refine ⟨_, rfl, a, c.2, fs, _, _, true, rfl, he, fun _ h => h, EK.xc _ hc, ED.kd _ hc, _, rfl, ?_⟩
    refine ite2 (fun q => absurd q (by decide)) (fun _ => ?_)
    refine ⟨_, rfl, a, c.2, fs, _, _, true, rfl, he, fun _ h => h, EK.xc _ hc, EK.kv _ hc, _, rfl, ?_⟩
    refine ite2 (fun q => absurd q (by decide)) (fun _ => ?_)
    refine ⟨_, rfl, a, c, fs, rfl, hc, he, fun p H1 s1 h1 => ?_⟩
    refine ⟨32, rfl, by omega, by omega, fun D hD => ?_⟩
    have pD : p ≠ D := ne_of_none h1 hD
    refine lc_range (lo := 0) (n := 32) (fun j H' => H' D = some (.lst (((List.range j).map fun m : Nat => decide ((m : Int) = (i : Int))).map V.bl)) ∧ Same H1 H')
      ⟨upd_same, same_new hD⟩ ?_ ?_
    · rintro j H2 hj ⟨h2, s2⟩
      refine ⟨rfl, _, rfl, _, rfl, rfl, _, h2, by rw [List.length_map, List.length_map, List.length_range]; exact Nat.lt_of_lt_of_le (show j < 32 from hj) (by decide), ?_, same_mut s2 hD⟩
      have e : decide (V.int (0 + (j : Int)) = V.int (i : Int)) = decide ((j : Int) = (i : Int)) := by
        rw [Int.zero_add]
        exact decide_eq_decide.mpr ⟨fun h => V.int.inj h, fun h => by rw [h]⟩
      rw [upd_same, e, List.range_succ, List.map_append, List.map_append]
      rfl
    · rintro H2 ⟨h2, s2⟩
      have e1 := s2 _ _ h1
      rw [kinds_due hi] at e1
      have lay := bl_lay ((List.range 32).map fun m : Nat => decide ((m : Int) = (i : Int)))
      refine ⟨_, _, .lst (SqL.of e1) (bl_dp _), .lst (SqL.of h2) (bl_dp _), lay.lst.shaped (by decide), lay.lst.shaped (by decide), ?_⟩
      rw [lay.lst.refl]
      exact k _ (s1.trans s2)
def spCaught : Sp := fun vs H Q _ => ∃ (x y : V), vs = [x, y] ∧ ∀ (p : Addr) (H' : Hp), Same H H' → H' p = some (.lst [x, y, .str "caught"]) → Q (.ref p) H'
theorem ok_caught (A : At K mg "_law_caught" s_law_caught ["value", "other"]) (T : Tx mg) (EK : ErK K mg DE (csX D_NoPerson D_NoThing D_NoNumbers D_NoNumber D_NoDealing D_NoLot D_Stuck D_NoRing D_NoTie D_NoStanding D_NoTurn D_NoCustom D_NoFraction D_NoBook D_NoHistory D_NoTickets D_NoSteps D_NoChances D_NoPrices D_Empty D_NoSizes D_NoLooks D_NoOutcome D_NoComer D_NotOpen D_NothingDone D_NoLine D_BadTable D_BadText D_TooMany D_BadKinds D_NoName)) (er_BadTable : Er2 P w K mg base "BadTable" "part" "at" D_BadTable) (er_Stuck : Er0 P w K mg base "Stuck" D_Stuck) (x_BadTable : XfC K D_BadTable) (n_BadTable_part : PySem.W.findIn K (.ref D_BadTable) "part" = some none) (n_BadTable_at : PySem.W.findIn K (.ref D_BadTable) "at" = some none) (xs_BadTable : PySem.W.exmOne K (.ref D_BadTable) (.ref D_BadTable) = some true) : Dfn P w K mg base "_law_caught" ["value", "other"] 3 spCaught := by
  refine A.ok sc_law_caught (fun vs H Q E h => ?_) (fun f cdv A outer s H vs Q E hr h => ?_)
  · obtain ⟨x, y, rfl, _⟩ := h
    rfl
  · obtain ⟨x, y, rfl, k⟩ := h
    refine ⟨_, (pss_cons (ps_set (i := 2) sc_law_caught.nd rfl (Or.inl rfl) (pe_lst pa_nil))
      (pss_cons (ps_try_as (i := 3) rfl rfl sc_law_caught.nd rfl rfl ⟨rfl, by decide, .inl er_BadTable.gC⟩ takes0 (fun W pn xe tk po => pss_one (ps_raise rfl tk (pmk_er2 er_BadTable (hr.mono (by decide)) rfl (pa_cons (pv 0) (pa_cons (pv 1) pa_nil)) (fun σ H A B f h => by obtain ⟨u, e1, v, e2, h⟩ := h; exact ⟨u, e1, v, e2, f _ _ h⟩))))
        (fun a oe cls d pn hz hf => pss_one (ps_set (i := 2) sc_law_caught.nd rfl (Or.inl rfl) (pe_lst (pa_cons (pe_xf x_BadTable n_BadTable_part hz hf (pv 3)) (pa_cons (pe_xf x_BadTable n_BadTable_at hz hf (pv 3)) pa_nil))))))
      (pss_cons (ps_try_only rfl rfl ⟨rfl, by decide, .inl EK.gDE⟩ takes0 (fun W pn xe tk po => pss_one (ps_raise rfl tk (pmk_er0 er_Stuck (hr.mono (by decide)) rfl)))
        (fun a oe cls d pn hz hf => pss_one (ps_expr (show PE _ _ (tBM K "list" rAppend (tVar 2) (tCons (tC (V.str "caught")) tNil)) from pe_bm PySem.F.plainAttrs_list PySem.F.slot_list_append PySem.F.type_list_append mt_append (pv 2) (pa_cons pe_str pa_nil)))))
      (pss_one (ps_ret (pv 2)))))), ?_⟩
    refine ⟨by show 0 ≤ sizeLine; decide, fun L0 h0 => ?_⟩
    refine ⟨_, rfl, _, rfl, x, y, rfl, fun d H1 s1 hd e1 => ?_⟩
    refine ⟨true, xs_BadTable, fun _ a ha => ?_, fun q => Bool.noConfusion q⟩
    refine ⟨_, rfl, rfl, rfl, d, _, x, rfl, e1, rfl, _, rfl, rfl, rfl, d, _, y, rfl, e1, rfl, by show 2 ≤ sizeLine; decide, fun L1 h1 => ?_⟩
    have s2 : Same H H1 := (same_new h0).trans s1
    refine ⟨true, EK.xm _ (List.mem_of_getElem? (i := 6) rfl), fun _ b hb => ?_, fun q => Bool.noConfusion q⟩
    have n1 : H L1 = none := by
      cases q : H L1 with
      | none => rfl
      | some o => rw [s2 _ _ q] at h1; cases h1
    exact ⟨_, rfl, .inl ⟨rfl, _, SqL.of upd_same⟩, L1, _, _, rfl, rfl, upd_same, by show 2 < sizeLine; decide, _, rfl, k L1 _ (same_mut (s2.trans (same_new h1)) n1) upd_same⟩
end
end Fo
set_option maxRecDepth 100000
set_option maxHeartbeats 4000000
namespace Fo
open PySem PySem.Spec PyProof.Rows L2
abbrev s_law : Stmt := top 44
abbrev n_law : List Str := ["script", "tape", "values", "others", "errors", "more", "turn", "at"]
theorem sc_law : FnScope n_law ["script"] (defScope s_law) := ⟨rfl, rfl, rfl, by decide +kernel, rfl, by decide +kernel, by decide +kernel⟩
theorem six {vs : List V} (h : vs.length = 6) : ∃ x0 x1 x2 x3 x4 x5, vs = [x0, x1, x2, x3, x4, x5] := by
  match vs, h with
  | [x0, x1, x2, x3, x4, x5], _ => exact ⟨x0, x1, x2, x3, x4, x5, rfl⟩
section
variable {P : Program} {w : World} {K : PySem.W.Frag} {mg : Str → Option Value} {base : Heap} {DE D_NoPerson D_NoThing D_NoNumbers D_NoNumber D_NoDealing D_NoLot D_Stuck D_NoRing D_NoTie D_NoStanding D_NoTurn D_NoCustom D_NoFraction D_NoBook D_NoHistory D_NoTickets D_NoSteps D_NoChances D_NoPrices D_Empty D_NoSizes D_NoLooks D_NoOutcome D_NoComer D_NotOpen D_NothingDone D_NoLine D_BadTable D_BadText D_TooMany D_BadKinds D_NoName : Addr}
def spLaw (K : PySem.W.Frag) : Sp := fun vs H Q _ => ∃ (a : Addr) (ns : List Int), vs = [.ref a] ∧ SqL K H a (ns.map V.int) ∧ ns.length ≤ 63 ∧ ∀ H', Q (.bl true) H'
theorem ok_law {f : Addr} {fd : FuncData} (F : Fun K "law" "law" s_law f fd) (T : Tx mg) (G_law_tape : Dfn P w K mg base "_law_tape" ["script"] 1 (spTape K)) (G_law_value : Dfn P w K mg base "_law_value" ["tape"] 2 (spValue K))
    (G_law_plain : Dfn P w K mg base "_law_plain" [] 3 (spPlain D_NoPerson D_NoThing D_NoNumbers D_NoNumber D_NoDealing D_NoLot D_Stuck D_NoRing D_NoTie D_NoStanding D_NoTurn D_NoCustom D_NoFraction D_NoBook D_NoHistory D_NoTickets D_NoSteps D_NoChances D_NoPrices D_Empty D_NoSizes D_NoLooks D_NoOutcome D_NoComer D_NotOpen D_NothingDone D_NoLine D_BadTable D_BadText D_TooMany D_BadKinds D_NoName)) (G_law_with : Dfn P w K mg base "_law_with" ["values"] 3 (spWith K D_NoPerson D_NoThing D_NoNumbers D_NoNumber D_NoDealing D_NoLot D_Stuck D_NoRing D_NoTie D_NoStanding D_NoTurn D_NoCustom D_NoFraction D_NoBook D_NoHistory D_NoTickets D_NoSteps D_NoChances D_NoPrices D_Empty D_NoSizes D_NoLooks D_NoOutcome D_NoComer D_NotOpen D_NothingDone D_NoLine D_BadTable D_BadText D_TooMany D_BadKinds D_NoName)) (G_law_fields : Dfn P w K mg base "_law_fields" ["errors"] 1 (spFields K D_NoPerson D_NoThing D_NoNumbers D_NoNumber D_NoDealing D_NoLot D_Stuck D_NoRing D_NoTie D_NoStanding D_NoTurn D_NoCustom D_NoFraction D_NoBook D_NoHistory D_NoTickets D_NoSteps D_NoChances D_NoPrices D_Empty D_NoSizes D_NoLooks D_NoOutcome D_NoComer D_NotOpen D_NothingDone D_NoLine D_BadTable D_BadText D_TooMany D_BadKinds D_NoName))
    (G_law_alone : Dfn P w K mg base "_law_alone" ["error", "at"] 2 (spAlone D_NoPerson D_NoThing D_NoNumbers D_NoNumber D_NoDealing D_NoLot D_Stuck D_NoRing D_NoTie D_NoStanding D_NoTurn D_NoCustom D_NoFraction D_NoBook D_NoHistory D_NoTickets D_NoSteps D_NoChances D_NoPrices D_Empty D_NoSizes D_NoLooks D_NoOutcome D_NoComer D_NotOpen D_NothingDone D_NoLine D_BadTable D_BadText D_TooMany D_BadKinds D_NoName)) (G_law_caught : Dfn P w K mg base "_law_caught" ["value", "other"] 3 spCaught) : FnG P w K mg base 4 f fd ["script"] (spLaw K) := by
  refine fun_okG F sc_law (fun vs H Q E h => ?_) (fun cdv A outer s H vs Q E hr hg h => ?_)
  · obtain ⟨a, ns, rfl, _⟩ := h
    rfl
  · obtain ⟨sa, ns, rfl, hS, hlen, k⟩ := h
    refine ⟨_, (pss_cons (ps_set (i := 1) sc_law.nd rfl (Or.inr rfl) (pe_d G_law_tape (hr.mono (by decide)) (pa_cons (pv 0) pa_nil)))
      (pss_cons (ps_setLc (i := 2) (own := [("turn", 6)]) (g := (gName 6)) (tt := tYes) (te := (tCall (spValue K) [] E0 (tCons (tVar 1) tNil))) (by rfl) sc_law.nd rfl rfl (sw_true rfl rfl rfl (by decide +kernel)) (pi_range1 rfl T.range (pa_cons pe_int pa_nil)) (blkOk_by (own := [("turn", 6)]) (N := n_law) (sc := (defScope s_law)) (by decide +kernel)) (fun _ _ _ _ _ => (pg_name (i := 6) sc_law.nd rfl (Or.inl rfl))) (fun _ _ _ _ _ => pts_nil) (fun _ _ _ _ _ => (pe_d G_law_value (hr.mono (by decide)) (pa_cons (pv 1) pa_nil))))
      (pss_cons (ps_setLc (i := 3) (own := [("turn", 6)]) (g := (gName 6)) (tt := tYes) (te := (tCall (spValue K) [] E0 (tCons (tVar 1) tNil))) (by rfl) sc_law.nd rfl rfl (sw_true rfl rfl rfl (by decide +kernel)) (pi_range1 rfl T.range (pa_cons pe_int pa_nil)) (blkOk_by (own := [("turn", 6)]) (N := n_law) (sc := (defScope s_law)) (by decide +kernel)) (fun _ _ _ _ _ => (pg_name (i := 6) sc_law.nd rfl (Or.inl rfl))) (fun _ _ _ _ _ => pts_nil) (fun _ _ _ _ _ => (pe_d G_law_value (hr.mono (by decide)) (pa_cons (pv 1) pa_nil))))
      (pss_cons (ps_set (i := 4) sc_law.nd rfl (Or.inr rfl) (pe_op op_cat (pe_d0 G_law_plain (hr.mono (by decide))) (pe_d G_law_with (hr.mono (by decide)) (pa_cons (pv 2) pa_nil))))
      (pss_cons (ps_set (i := 5) sc_law.nd rfl (Or.inr rfl) (pe_d G_law_with (hr.mono (by decide)) (pa_cons (pv 3) pa_nil)))
      (pss_cons (ps_if (pt_not (pt_val (pe_callB (cr_all rfl) (by rfl) T.all (by decide +kernel) (pa_cons (pe_lc (own := [("at", 7)]) (g := (gName 7)) (tt := tYes) (te := (tCall (spAlone D_NoPerson D_NoThing D_NoNumbers D_NoNumber D_NoDealing D_NoLot D_Stuck D_NoRing D_NoTie D_NoStanding D_NoTurn D_NoCustom D_NoFraction D_NoBook D_NoHistory D_NoTickets D_NoSteps D_NoChances D_NoPrices D_Empty D_NoSizes D_NoLooks D_NoOutcome D_NoComer D_NotOpen D_NothingDone D_NoLine D_BadTable D_BadText D_TooMany D_BadKinds D_NoName) [] E0 (tCons (tOp (rIxL K) (tVar 4) (tVar 7)) (tCons (tVar 7) tNil)))) (by rfl) sc_law.nd (pi_range1 rfl T.range (pa_cons pe_int pa_nil)) (blkOk_by (own := [("at", 7)]) (N := n_law) (sc := (defScope s_law)) (by decide +kernel)) (fun _ _ _ _ _ => (pg_name (i := 7) sc_law.nd rfl (Or.inl rfl))) (fun _ _ _ _ _ => pts_nil) (fun _ _ _ _ _ => (pe_d G_law_alone (hr.mono (by decide)) (pa_cons (pe_ix ix_list (pv 4) (pv 7) (fun _ _ => rfl)) (pa_cons (pv 7) pa_nil))))) pa_nil)))) (pss_one (ps_ret pe_bl)) pss_nil)
      (pss_cons (ps_if (pt_not (pt_val (pe_callB (cr_all rfl) (by rfl) T.all (by decide +kernel) (pa_cons (pe_lc (own := [("at", 7)]) (g := (gName 7)) (tt := tYes) (te := (tCall (spAlone D_NoPerson D_NoThing D_NoNumbers D_NoNumber D_NoDealing D_NoLot D_Stuck D_NoRing D_NoTie D_NoStanding D_NoTurn D_NoCustom D_NoFraction D_NoBook D_NoHistory D_NoTickets D_NoSteps D_NoChances D_NoPrices D_Empty D_NoSizes D_NoLooks D_NoOutcome D_NoComer D_NotOpen D_NothingDone D_NoLine D_BadTable D_BadText D_TooMany D_BadKinds D_NoName) [] E0 (tCons (tOp (rIxL K) (tVar 5) (tVar 7)) (tCons (tOp (rI0 fun i j => V.int (i + j)) (tC (V.int 27)) (tVar 7)) tNil)))) (by rfl) sc_law.nd (pi_range1 rfl T.range (pa_cons pe_int pa_nil)) (blkOk_by (own := [("at", 7)]) (N := n_law) (sc := (defScope s_law)) (by decide +kernel)) (fun _ _ _ _ _ => (pg_name (i := 7) sc_law.nd rfl (Or.inl rfl))) (fun _ _ _ _ _ => pts_nil) (fun _ _ _ _ _ => (pe_d G_law_alone (hr.mono (by decide)) (pa_cons (pe_ix ix_list (pv 5) (pv 7) (fun _ _ => rfl)) (pa_cons (pe_op op_add pe_int (pv 7)) pa_nil))))) pa_nil)))) (pss_one (ps_ret pe_bl)) pss_nil)
      (pss_cons (ps_if (PW.pt (pw_or (pt_cmpR op_ne (pe_callB (cr_repr (B := 8) hg (room_repr hr)) (by rfl) T.repr (by decide +kernel) (pa_cons (pe_d G_law_fields (hr.mono (by decide)) (pa_cons (pe_slice sl_list (pv 4) (po_some pe_int) po_none) pa_nil)) pa_nil)) (pe_callB (cr_repr (B := 8) hg (room_repr hr)) (by rfl) T.repr (by decide +kernel) (pa_cons (pv 2) pa_nil)) (nomark _)) (pw_or1 (pt_cmpR op_ne (pe_callB (cr_repr (B := 8) hg (room_repr hr)) (by rfl) T.repr (by decide +kernel) (pa_cons (pe_d G_law_fields (hr.mono (by decide)) (pa_cons (pv 5) pa_nil)) pa_nil)) (pe_callB (cr_repr (B := 8) hg (room_repr hr)) (by rfl) T.repr (by decide +kernel) (pa_cons (pv 3) pa_nil)) (nomark _))))) (pss_one (ps_ret pe_bl)) pss_nil)
      (pss_one (ps_ret (pe_cmpR op_eq (pe_callB (cr_repr (B := 8) hg (room_repr hr)) (by rfl) T.repr (by decide +kernel) (pa_cons (pe_d G_law_caught (hr.mono (by decide)) (pa_cons (pe_ix ix_list (pv 2) pe_int (fun _ _ => rfl)) (pa_cons (pe_ix ix_list (pv 3) pe_int (fun _ _ => rfl)) pa_nil))) pa_nil)) (pe_callB (cr_repr (B := 8) hg (room_repr hr)) (by rfl) T.repr (by decide +kernel) (pa_cons (pe_lst (pa_cons (pe_ix ix_list (pv 2) pe_int (fun _ _ => rfl)) (pa_cons (pe_ix ix_list (pv 3) pe_int (fun _ _ => rfl)) (pa_cons pe_str pa_nil)))) pa_nil)) (nomark _)))))))))))), ?_⟩
    refine ⟨_, rfl, sa, ns, rfl, hS, fun t l H1 s1 _ _ T1 => ?_⟩
    -- values
    refine ⟨6, rfl, by omega, by omega, fun D1 hD1 => ?_⟩
    have nD1 := T1.free hD1
    refine lc_range (lo := 0) (n := 6) (fun i H' => ∃ (vs : List V) (ds : List PyData), vs.length = i ∧ H' D1 = some (.lst vs) ∧ VlAll K H' vs ds ∧ (∀ a, V.ref a ∈ vs → a ≠ D1) ∧ Gr t H1 H' ∧ Tape H' t l)
      ⟨[], [], rfl, upd_same, .nil, fun _ h => (by cases h), Gr.new hD1, T1.new hD1⟩ ?_ ?_
    · rintro i H2 hi ⟨vs, ds, hl, h2, hv, hn, g2, T2⟩
      refine ⟨rfl, _, rfl, t, l, rfl, T2, fun v d H3 fr g3 T3 hvd => ?_⟩
      have h3 := g3 _ _ nD1.1 h2
      have nv : ∀ a, v = .ref a → a ≠ D1 := fun a e q => by
        have := fr a e
        rw [q, h2] at this
        cases this
      refine ⟨vs, h3, Nat.lt_of_lt_of_le (show vs.length < 6 by rw [hl]; exact hi) (by decide), vs ++ [v], ds ++ [d], by rw [List.length_append, hl]; rfl, upd_same, (VlAll.put h3 hn (hv.gr T2 g3)).snoc (hvd.put h3 nv), fun a ha => ?_, gr_mut (g2.trans g3) hD1, T3.mut nD1⟩
      rcases List.mem_append.mp ha with h | h
      · exact hn a h
      · exact nv a (List.mem_singleton.mp h).symm
    rintro H2 ⟨vs, ds, hl, h2, hv, _, g2, T2⟩
    obtain ⟨x0, x1, x2, x3, x4, x5, rfl⟩ := six hl
    -- others
    refine ⟨6, rfl, by omega, by omega, fun D2 hD2 => ?_⟩
    have nD2 := T2.free hD2
    have n12 : D1 ≠ D2 := ne_of_none h2 hD2
    refine lc_range (lo := 0) (n := 6) (fun i H' => ∃ (ws : List V) (es : List PyData), ws.length = i ∧ H' D2 = some (.lst ws) ∧ VlAll K H' ws es ∧ (∀ a, V.ref a ∈ ws → a ≠ D2) ∧ Gr t H2 H' ∧ Tape H' t l)
      ⟨[], [], rfl, upd_same, .nil, fun _ h => (by cases h), Gr.new hD2, T2.new hD2⟩ ?_ ?_
    · rintro i H3 hi ⟨ws, es, hl, h3, hw, hn, g3, T3⟩
      refine ⟨rfl, _, rfl, t, l, rfl, T3, fun v d H4 fr g4 T4 hvd => ?_⟩
      have h4 := g4 _ _ nD2.1 h3
      have nv : ∀ a, v = .ref a → a ≠ D2 := fun a e q => by
        have := fr a e
        rw [q, h3] at this
        cases this
      refine ⟨ws, h4, Nat.lt_of_lt_of_le (show ws.length < 6 by rw [hl]; exact hi) (by decide), ws ++ [v], es ++ [d], by rw [List.length_append, hl]; rfl, upd_same, (VlAll.put h4 hn (hw.gr T3 g4)).snoc (hvd.put h4 nv), fun a ha => ?_, gr_mut (g3.trans g4) hD2, T4.mut nD2⟩
      rcases List.mem_append.mp ha with h | h
      · exact hn a h
      · exact nv a (List.mem_singleton.mp h).symm
    rintro H3 ⟨ws, es, hl2, h3, hw, _, g3, T3⟩
    obtain ⟨y0, y1, y2, y3, y4, y5, rfl⟩ := six hl2
    have hv3 := hv.gr T2 g3
    have h23 : H3 D1 = some (.lst [x0, x1, x2, x3, x4, x5]) := g3 _ _ nD1.1 h2
    -- errors
    refine ⟨rfl, fun p us H4 s4 h4 e4 => ?_⟩
    refine ⟨_, rfl, D1, x0, x1, x2, x3, x4, x5, rfl, SqL.of (s4 _ _ h23), fun q zs H5 s5 h5 e5 => ?_⟩
    have l4 := e4.len
    have l5 := e5.len
    refine ⟨p, q, us, zs, rfl, rfl, s5 _ _ h4, h5, by rw [l4, l5]; show 32 ≤ sizeLine; decide, fun L1 hL1 => ?_⟩
    have s15 := same_new (o := .lst (us ++ zs)) hL1
    have E1 : ErsV (upd H5 L1 (.lst (us ++ zs))) (us ++ zs) (csX D_NoPerson D_NoThing D_NoNumbers D_NoNumber D_NoDealing D_NoLot D_Stuck D_NoRing D_NoTie D_NoStanding D_NoTurn D_NoCustom D_NoFraction D_NoBook D_NoHistory D_NoTickets D_NoSteps D_NoChances D_NoPrices D_Empty D_NoSizes D_NoLooks D_NoOutcome D_NoComer D_NotOpen D_NothingDone D_NoLine D_BadTable D_BadText D_TooMany D_BadKinds D_NoName) _ := (e5.append (e4.same s5)).same s15
    have E5 := e5.same s15
    have s35 := (s4.trans s5).trans s15
    have hL : (upd H5 L1 (.lst (us ++ zs))) L1 = some (.lst (us ++ zs)) := upd_same
    have h36 := s35 _ _ h3
    have h16 := s35 _ _ h23
    have hv6 := hv3.same s35
    have hw6 := hw.same s35
    generalize upd H5 L1 (.lst (us ++ zs)) = H6 at s15 E1 E5 s35 hL h36 h16 hv6 hw6 ⊢
    refine ⟨_, rfl, D2, y0, y1, y2, y3, y4, y5, rfl, SqL.of h36, fun q2 zs2 H7 s7 h7 e7 => ?_⟩
    have hL7 := s7 _ _ hL
    have E7 := E1.same s7
    have l7 : (us ++ zs).length = 32 := E7.len
    -- the first test
    refine ⟨32, rfl, by omega, by omega, fun D3 hD3 => ?_⟩
    refine lc_range (lo := 0) (n := 32) (fun j H' => H' D3 = some (.lst ((List.replicate j true).map V.bl)) ∧ Same H7 H')
      ⟨upd_same, same_new hD3⟩ ?_ ?_
    · rintro j H8 hj ⟨h8, s8⟩
      obtain ⟨a, c, fs, ea, ec, ev⟩ := (E7.same s8).get (i := j) (by rw [l7]; exact hj)
      refine ⟨rfl, _, rfl, _, rfl, L1, us ++ zs, _, .ref a, rfl, rfl, SqL.of (s8 _ _ hL7), (by rw [Int.zero_add]; exact atI_nat ea), _, rfl, a, j, c, fs, (by rw [Int.zero_add]; rfl), ec, ev, fun H9 s9 => ⟨_, s9 _ _ h8, ?_, ?_, same_mut (s8.trans s9) hD3⟩⟩
      · rw [List.length_map, List.length_replicate]
        exact Nat.lt_of_lt_of_le (show j < 32 from hj) (by decide)
      · rw [upd_same, List.replicate_succ', List.map_append]
        rfl
    rintro H8 ⟨h8, s8⟩
    refine ⟨D3, List.replicate 32 true, rfl, SqL.of h8, _, rfl, ?_⟩
    refine ite2 (fun q => absurd q (by decide)) (fun _ => ?_)
    -- the second
    have E8 := e7.same s8
    have l8 : zs2.length = 5 := E8.len
    have h78 := s8 _ _ h7
    refine ⟨5, rfl, by omega, by omega, fun D4 hD4 => ?_⟩
    refine lc_range (lo := 0) (n := 5) (fun j H' => H' D4 = some (.lst ((List.replicate j true).map V.bl)) ∧ Same H8 H')
      ⟨upd_same, same_new hD4⟩ ?_ ?_
    · rintro j H9 hj ⟨h9, s9⟩
      obtain ⟨a, c, fs, ea, ec, ev⟩ := (E8.same s9).get (i := j) (by rw [l8]; exact hj)
      rw [List.getElem?_drop] at ec
      refine ⟨rfl, _, rfl, _, rfl, q2, zs2, _, .ref a, rfl, rfl, SqL.of (s9 _ _ h78), (by rw [Int.zero_add]; exact atI_nat ea), _, rfl, _, _, rfl, rfl, a, 27 + j, c, fs, (by rw [Int.zero_add, Int.natCast_add]; rfl), ec, ev, fun H10 s10 => ⟨_, s10 _ _ h9, ?_, ?_, same_mut (s9.trans s10) hD4⟩⟩
      · rw [List.length_map, List.length_replicate]
        exact Nat.lt_of_lt_of_le (show j < 5 from hj) (by decide)
      · rw [upd_same, List.replicate_succ', List.map_append]
        rfl
    rintro H9 ⟨h9, s9⟩
    refine ⟨D4, List.replicate 5 true, rfl, SqL.of h9, _, rfl, ?_⟩
    refine ite2 (fun q => absurd q (by decide)) (fun _ => ?_)
    -- the texts
    have s79 := s8.trans s9
    have s69 := s7.trans s79
    have hL9 := s69 _ _ hL
    have E9 := E5.same s69
    have F9 := E8.same s9
    have h19 := s69 _ _ h16
    have h29 := s69 _ _ h36
    have hv9 := hv6.same s69
    have hw9 := hw6.same s69
    have h79 := s9 _ _ h78
    obtain ⟨d0, hd0⟩ : ∃ d0, Vl K H9 x0 d0 := by cases hv9 with | cons a _ => exact ⟨_, a⟩
    obtain ⟨b1, hb1⟩ : ∃ b1, Vl K H9 y1 b1 := by cases hw9 with | cons _ r => cases r with | cons a _ => exact ⟨_, a⟩
    have tv := hv9.text (Nat.le_refl 6)
    have tw := hw9.text (Nat.le_refl 6)
    have h3c : ∀ {H' : Hp}, Same H9 H' → VlAll K H' [x0, y1, .str "caught"] [d0, b1, .str "caught"] := fun s => .cons (hd0.same s) (.cons (hb1.same s) (.cons (.str (by decide +kernel) (by decide +kernel)) .nil))
    have tc := (h3c (Same.refl H9)).text (show 3 ≤ 6 by decide)
    have hc : cutV (us ++ zs) (some 27) none = zs := by
      have lu : us.length = 27 := l4
      have lz : zs.length = 5 := l5
      show ((us ++ zs).drop (HT.sIx (us ++ zs).length 0 (some ((27 : Nat) : Int)))).take (HT.sIx (us ++ zs).length (us ++ zs).length none - HT.sIx (us ++ zs).length 0 (some ((27 : Nat) : Int))) = zs
      rw [HT.sIx_nat, HT.sIx_none, l7]
      show ((us ++ zs).drop 27).take 5 = zs
      rw [List.drop_left' lu, List.take_of_length_le (by omega)]
    refine ⟨_, rfl, _, rfl, L1, _, rfl, SqL.of hL9, fun p5 hp5 => ?_⟩
    rw [hc]
    have s5' := same_new (o := .lst zs) hp5
    refine ⟨p5, zs, x0, x1, x2, x3, x4, x5, rfl, SqL.of upd_same, E9.same s5', fun p6 H10 s10 h10 => ?_⟩
    have t10 := s5'.trans s10
    refine ⟨p6, .list ds, rfl, .lst (SqL.of h10) (hv9.same t10).dp, tv.1, tv.2.1, tv.2.2.1, tv.2.2.2, ?_⟩
    refine ⟨_, rfl, D1, .list ds, rfl, .lst (SqL.of (t10 _ _ h19)) (hv9.same t10).dp, tv.1, tv.2.1, tv.2.2.1, tv.2.2.2, ?_⟩
    refine ⟨rfl, _, rfl, ?_⟩
    refine ite2 (fun q => absurd q (by simp [eqV])) (fun _ => ?_)
    refine ⟨_, rfl, q2, zs2, y0, y1, y2, y3, y4, y5, rfl, SqL.of (t10 _ _ h79), F9.same t10, fun p7 H11 s11 h11 => ?_⟩
    have t11 := t10.trans s11
    refine ⟨p7, .list es, rfl, .lst (SqL.of h11) (hw9.same t11).dp, tw.1, tw.2.1, tw.2.2.1, tw.2.2.2, ?_⟩
    refine ⟨_, rfl, D2, .list es, rfl, .lst (SqL.of (t11 _ _ h29)) (hw9.same t11).dp, tw.1, tw.2.1, tw.2.2.1, tw.2.2.2, ?_⟩
    refine ⟨rfl, _, rfl, ?_⟩
    refine ite2 (fun q => absurd q (by simp [eqV])) (fun _ => ?_)
    refine ⟨_, rfl, D1, _, _, x0, rfl, rfl, SqL.of (t11 _ _ h19), rfl, _, rfl, D2, _, _, y1, rfl, rfl, SqL.of (t11 _ _ h29), rfl, x0, y1, rfl, fun p8 H12 s12 h12 => ?_⟩
    have t12 := t11.trans s12
    refine ⟨p8, .list [d0, b1, .str "caught"], rfl, .lst (SqL.of h12) (h3c t12).dp, tc.1, tc.2.1, tc.2.2.1, tc.2.2.2, ?_⟩
    refine ⟨_, rfl, D1, _, _, x0, rfl, rfl, SqL.of (t12 _ _ h19), rfl, _, rfl, D2, _, _, y1, rfl, rfl, SqL.of (t12 _ _ h29), rfl, by show 3 ≤ sizeLine; decide, fun p9 hp9 => ?_⟩
    have t13 := t12.trans (same_new (o := .lst [x0, y1, .str "caught"]) hp9)
    refine ⟨p9, .list [d0, b1, .str "caught"], rfl, .lst (SqL.of upd_same) (h3c t13).dp, tc.1, tc.2.1, tc.2.2.1, tc.2.2.2, ?_⟩
    refine ⟨rfl, ?_⟩
    show Q (.bl (decide _)) _
    rw [decide_eq_true rfl]
    exact k _
theorem compose {fa : Addr} {fd : FuncData} {DE : Addr} {D_NoPerson D_NoThing D_NoNumbers D_NoNumber D_NoDealing D_NoLot D_Stuck D_NoRing D_NoTie D_NoStanding D_NoTurn D_NoCustom D_NoFraction D_NoBook D_NoHistory D_NoTickets D_NoSteps D_NoChances D_NoPrices D_Empty D_NoSizes D_NoLooks D_NoOutcome D_NoComer D_NotOpen D_NothingDone D_NoLine D_BadTable D_BadText D_TooMany D_BadKinds D_NoName : Addr} {f_NoPerson f_NoThing f_NoNumbers f_NoNumber f_NoDealing f_NoLot f_Stuck f_NoRing f_NoTie f_NoStanding f_NoTurn f_NoCustom f_NoFraction f_NoBook f_NoHistory f_NoTickets f_NoSteps f_NoChances f_NoPrices f_Empty f_NoSizes f_NoLooks f_NoOutcome f_NoComer f_NotOpen f_NothingDone f_NoLine f_BadTable f_BadText f_TooMany f_BadKinds f_NoName : Addr} {fd_NoPerson fd_NoThing fd_NoNumbers fd_NoNumber fd_NoDealing fd_NoLot fd_Stuck fd_NoRing fd_NoTie fd_NoStanding fd_NoTurn fd_NoCustom fd_NoFraction fd_NoBook fd_NoHistory fd_NoTickets fd_NoSteps fd_NoChances fd_NoPrices fd_Empty fd_NoSizes fd_NoLooks fd_NoOutcome fd_NoComer fd_NotOpen fd_NothingDone fd_NoLine fd_BadTable fd_BadText fd_TooMany fd_BadKinds fd_NoName : FuncData} (T : Tx mg)  (EK : ErK K mg DE (csX D_NoPerson D_NoThing D_NoNumbers D_NoNumber D_NoDealing D_NoLot D_Stuck D_NoRing D_NoTie D_NoStanding D_NoTurn D_NoCustom D_NoFraction D_NoBook D_NoHistory D_NoTickets D_NoSteps D_NoChances D_NoPrices D_Empty D_NoSizes D_NoLooks D_NoOutcome D_NoComer D_NotOpen D_NothingDone D_NoLine D_BadTable D_BadText D_TooMany D_BadKinds D_NoName)) (ED : ErD K DE (csX D_NoPerson D_NoThing D_NoNumbers D_NoNumber D_NoDealing D_NoLot D_Stuck D_NoRing D_NoTie D_NoStanding D_NoTurn D_NoCustom D_NoFraction D_NoBook D_NoHistory D_NoTickets D_NoSteps D_NoChances D_NoPrices D_Empty D_NoSizes D_NoLooks D_NoOutcome D_NoComer D_NotOpen D_NothingDone D_NoLine D_BadTable D_BadText D_TooMany D_BadKinds D_NoName)) (xs_BadTable : PySem.W.exmOne K (.ref D_BadTable) (.ref D_BadTable) = some true) (o_NoPerson : OexC K D_NoPerson) (g_NoPerson : mg "NoPerson" = some (.ref D_NoPerson)) (j_NoPerson : PySem.W.findIn K (.ref D_NoPerson) "__init__" = some (some (.ref f_NoPerson))) (y_NoPerson : PySem.W.typeIn K (.ref f_NoPerson) = some (.type "function")) (F_NoPerson : Fun K "__init__" "NoPerson.__init__" s_NoPerson___init f_NoPerson fd_NoPerson) (o_NoThing : OexC K D_NoThing) (g_NoThing : mg "NoThing" = some (.ref D_NoThing)) (j_NoThing : PySem.W.findIn K (.ref D_NoThing) "__init__" = some (some (.ref f_NoThing))) (y_NoThing : PySem.W.typeIn K (.ref f_NoThing) = some (.type "function")) (F_NoThing : Fun K "__init__" "NoThing.__init__" s_NoThing___init f_NoThing fd_NoThing) (o_NoNumbers : OexC K D_NoNumbers) (g_NoNumbers : mg "NoNumbers" = some (.ref D_NoNumbers)) (j_NoNumbers : PySem.W.findIn K (.ref D_NoNumbers) "__init__" = some (some (.ref f_NoNumbers))) (y_NoNumbers : PySem.W.typeIn K (.ref f_NoNumbers) = some (.type "function")) (F_NoNumbers : Fun K "__init__" "NoNumbers.__init__" s_NoNumbers___init f_NoNumbers fd_NoNumbers) (o_NoNumber : OexC K D_NoNumber) (g_NoNumber : mg "NoNumber" = some (.ref D_NoNumber)) (j_NoNumber : PySem.W.findIn K (.ref D_NoNumber) "__init__" = some (some (.ref f_NoNumber))) (y_NoNumber : PySem.W.typeIn K (.ref f_NoNumber) = some (.type "function")) (F_NoNumber : Fun K "__init__" "NoNumber.__init__" s_NoNumber___init f_NoNumber fd_NoNumber) (o_NoDealing : OexC K D_NoDealing) (g_NoDealing : mg "NoDealing" = some (.ref D_NoDealing)) (j_NoDealing : PySem.W.findIn K (.ref D_NoDealing) "__init__" = some (some (.ref f_NoDealing))) (y_NoDealing : PySem.W.typeIn K (.ref f_NoDealing) = some (.type "function")) (F_NoDealing : Fun K "__init__" "NoDealing.__init__" s_NoDealing___init f_NoDealing fd_NoDealing) (o_NoLot : OexC K D_NoLot) (g_NoLot : mg "NoLot" = some (.ref D_NoLot)) (j_NoLot : PySem.W.findIn K (.ref D_NoLot) "__init__" = some (some (.ref f_NoLot))) (y_NoLot : PySem.W.typeIn K (.ref f_NoLot) = some (.type "function")) (F_NoLot : Fun K "__init__" "NoLot.__init__" s_NoLot___init f_NoLot fd_NoLot) (o_Stuck : OexC K D_Stuck) (g_Stuck : mg "Stuck" = some (.ref D_Stuck)) (j_Stuck : PySem.W.findIn K (.ref D_Stuck) "__init__" = some (some (.ref f_Stuck))) (y_Stuck : PySem.W.typeIn K (.ref f_Stuck) = some (.type "function")) (F_Stuck : Fun K "__init__" "Stuck.__init__" s_Stuck___init f_Stuck fd_Stuck) (o_NoRing : OexC K D_NoRing) (g_NoRing : mg "NoRing" = some (.ref D_NoRing)) (j_NoRing : PySem.W.findIn K (.ref D_NoRing) "__init__" = some (some (.ref f_NoRing))) (y_NoRing : PySem.W.typeIn K (.ref f_NoRing) = some (.type "function")) (F_NoRing : Fun K "__init__" "NoRing.__init__" s_NoRing___init f_NoRing fd_NoRing) (o_NoTie : OexC K D_NoTie) (g_NoTie : mg "NoTie" = some (.ref D_NoTie)) (j_NoTie : PySem.W.findIn K (.ref D_NoTie) "__init__" = some (some (.ref f_NoTie))) (y_NoTie : PySem.W.typeIn K (.ref f_NoTie) = some (.type "function")) (F_NoTie : Fun K "__init__" "NoTie.__init__" s_NoTie___init f_NoTie fd_NoTie) (o_NoStanding : OexC K D_NoStanding) (g_NoStanding : mg "NoStanding" = some (.ref D_NoStanding)) (j_NoStanding : PySem.W.findIn K (.ref D_NoStanding) "__init__" = some (some (.ref f_NoStanding))) (y_NoStanding : PySem.W.typeIn K (.ref f_NoStanding) = some (.type "function")) (F_NoStanding : Fun K "__init__" "NoStanding.__init__" s_NoStanding___init f_NoStanding fd_NoStanding) (o_NoTurn : OexC K D_NoTurn) (g_NoTurn : mg "NoTurn" = some (.ref D_NoTurn)) (j_NoTurn : PySem.W.findIn K (.ref D_NoTurn) "__init__" = some (some (.ref f_NoTurn))) (y_NoTurn : PySem.W.typeIn K (.ref f_NoTurn) = some (.type "function")) (F_NoTurn : Fun K "__init__" "NoTurn.__init__" s_NoTurn___init f_NoTurn fd_NoTurn) (o_NoCustom : OexC K D_NoCustom) (g_NoCustom : mg "NoCustom" = some (.ref D_NoCustom)) (j_NoCustom : PySem.W.findIn K (.ref D_NoCustom) "__init__" = some (some (.ref f_NoCustom))) (y_NoCustom : PySem.W.typeIn K (.ref f_NoCustom) = some (.type "function")) (F_NoCustom : Fun K "__init__" "NoCustom.__init__" s_NoCustom___init f_NoCustom fd_NoCustom) (o_NoFraction : OexC K D_NoFraction) (g_NoFraction : mg "NoFraction" = some (.ref D_NoFraction)) (j_NoFraction : PySem.W.findIn K (.ref D_NoFraction) "__init__" = some (some (.ref f_NoFraction))) (y_NoFraction : PySem.W.typeIn K (.ref f_NoFraction) = some (.type "function")) (F_NoFraction : Fun K "__init__" "NoFraction.__init__" s_NoFraction___init f_NoFraction fd_NoFraction) (o_NoBook : OexC K D_NoBook) (g_NoBook : mg "NoBook" = some (.ref D_NoBook)) (j_NoBook : PySem.W.findIn K (.ref D_NoBook) "__init__" = some (some (.ref f_NoBook))) (y_NoBook : PySem.W.typeIn K (.ref f_NoBook) = some (.type "function")) (F_NoBook : Fun K "__init__" "NoBook.__init__" s_NoBook___init f_NoBook fd_NoBook) (o_NoHistory : OexC K D_NoHistory) (g_NoHistory : mg "NoHistory" = some (.ref D_NoHistory)) (j_NoHistory : PySem.W.findIn K (.ref D_NoHistory) "__init__" = some (some (.ref f_NoHistory))) (y_NoHistory : PySem.W.typeIn K (.ref f_NoHistory) = some (.type "function")) (F_NoHistory : Fun K "__init__" "NoHistory.__init__" s_NoHistory___init f_NoHistory fd_NoHistory) (o_NoTickets : OexC K D_NoTickets) (g_NoTickets : mg "NoTickets" = some (.ref D_NoTickets)) (j_NoTickets : PySem.W.findIn K (.ref D_NoTickets) "__init__" = some (some (.ref f_NoTickets))) (y_NoTickets : PySem.W.typeIn K (.ref f_NoTickets) = some (.type "function")) (F_NoTickets : Fun K "__init__" "NoTickets.__init__" s_NoTickets___init f_NoTickets fd_NoTickets) (o_NoSteps : OexC K D_NoSteps) (g_NoSteps : mg "NoSteps" = some (.ref D_NoSteps)) (j_NoSteps : PySem.W.findIn K (.ref D_NoSteps) "__init__" = some (some (.ref f_NoSteps))) (y_NoSteps : PySem.W.typeIn K (.ref f_NoSteps) = some (.type "function")) (F_NoSteps : Fun K "__init__" "NoSteps.__init__" s_NoSteps___init f_NoSteps fd_NoSteps) (o_NoChances : OexC K D_NoChances) (g_NoChances : mg "NoChances" = some (.ref D_NoChances)) (j_NoChances : PySem.W.findIn K (.ref D_NoChances) "__init__" = some (some (.ref f_NoChances))) (y_NoChances : PySem.W.typeIn K (.ref f_NoChances) = some (.type "function")) (F_NoChances : Fun K "__init__" "NoChances.__init__" s_NoChances___init f_NoChances fd_NoChances) (o_NoPrices : OexC K D_NoPrices) (g_NoPrices : mg "NoPrices" = some (.ref D_NoPrices)) (j_NoPrices : PySem.W.findIn K (.ref D_NoPrices) "__init__" = some (some (.ref f_NoPrices))) (y_NoPrices : PySem.W.typeIn K (.ref f_NoPrices) = some (.type "function")) (F_NoPrices : Fun K "__init__" "NoPrices.__init__" s_NoPrices___init f_NoPrices fd_NoPrices) (o_Empty : OexC K D_Empty) (g_Empty : mg "Empty" = some (.ref D_Empty)) (j_Empty : PySem.W.findIn K (.ref D_Empty) "__init__" = some (some (.ref f_Empty))) (y_Empty : PySem.W.typeIn K (.ref f_Empty) = some (.type "function")) (F_Empty : Fun K "__init__" "Empty.__init__" s_Empty___init f_Empty fd_Empty) (o_NoSizes : OexC K D_NoSizes) (g_NoSizes : mg "NoSizes" = some (.ref D_NoSizes)) (j_NoSizes : PySem.W.findIn K (.ref D_NoSizes) "__init__" = some (some (.ref f_NoSizes))) (y_NoSizes : PySem.W.typeIn K (.ref f_NoSizes) = some (.type "function")) (F_NoSizes : Fun K "__init__" "NoSizes.__init__" s_NoSizes___init f_NoSizes fd_NoSizes) (o_NoLooks : OexC K D_NoLooks) (g_NoLooks : mg "NoLooks" = some (.ref D_NoLooks)) (j_NoLooks : PySem.W.findIn K (.ref D_NoLooks) "__init__" = some (some (.ref f_NoLooks))) (y_NoLooks : PySem.W.typeIn K (.ref f_NoLooks) = some (.type "function")) (F_NoLooks : Fun K "__init__" "NoLooks.__init__" s_NoLooks___init f_NoLooks fd_NoLooks) (o_NoOutcome : OexC K D_NoOutcome) (g_NoOutcome : mg "NoOutcome" = some (.ref D_NoOutcome)) (j_NoOutcome : PySem.W.findIn K (.ref D_NoOutcome) "__init__" = some (some (.ref f_NoOutcome))) (y_NoOutcome : PySem.W.typeIn K (.ref f_NoOutcome) = some (.type "function")) (F_NoOutcome : Fun K "__init__" "NoOutcome.__init__" s_NoOutcome___init f_NoOutcome fd_NoOutcome) (o_NoComer : OexC K D_NoComer) (g_NoComer : mg "NoComer" = some (.ref D_NoComer)) (j_NoComer : PySem.W.findIn K (.ref D_NoComer) "__init__" = some (some (.ref f_NoComer))) (y_NoComer : PySem.W.typeIn K (.ref f_NoComer) = some (.type "function")) (F_NoComer : Fun K "__init__" "NoComer.__init__" s_NoComer___init f_NoComer fd_NoComer) (o_NotOpen : OexC K D_NotOpen) (g_NotOpen : mg "NotOpen" = some (.ref D_NotOpen)) (j_NotOpen : PySem.W.findIn K (.ref D_NotOpen) "__init__" = some (some (.ref f_NotOpen))) (y_NotOpen : PySem.W.typeIn K (.ref f_NotOpen) = some (.type "function")) (F_NotOpen : Fun K "__init__" "NotOpen.__init__" s_NotOpen___init f_NotOpen fd_NotOpen) (o_NothingDone : OexC K D_NothingDone) (g_NothingDone : mg "NothingDone" = some (.ref D_NothingDone)) (j_NothingDone : PySem.W.findIn K (.ref D_NothingDone) "__init__" = some (some (.ref f_NothingDone))) (y_NothingDone : PySem.W.typeIn K (.ref f_NothingDone) = some (.type "function")) (F_NothingDone : Fun K "__init__" "NothingDone.__init__" s_NothingDone___init f_NothingDone fd_NothingDone) (o_NoLine : OexC K D_NoLine) (g_NoLine : mg "NoLine" = some (.ref D_NoLine)) (j_NoLine : PySem.W.findIn K (.ref D_NoLine) "__init__" = some (some (.ref f_NoLine))) (y_NoLine : PySem.W.typeIn K (.ref f_NoLine) = some (.type "function")) (F_NoLine : Fun K "__init__" "NoLine.__init__" s_NoLine___init f_NoLine fd_NoLine) (o_BadTable : OexC K D_BadTable) (g_BadTable : mg "BadTable" = some (.ref D_BadTable)) (j_BadTable : PySem.W.findIn K (.ref D_BadTable) "__init__" = some (some (.ref f_BadTable))) (y_BadTable : PySem.W.typeIn K (.ref f_BadTable) = some (.type "function")) (F_BadTable : Fun K "__init__" "BadTable.__init__" s_BadTable___init f_BadTable fd_BadTable) (n_BadTable_part : PySem.W.findIn K (.ref D_BadTable) "part" = some none) (n_BadTable_at : PySem.W.findIn K (.ref D_BadTable) "at" = some none) (x_BadTable : XfC K D_BadTable) (o_BadText : OexC K D_BadText) (g_BadText : mg "BadText" = some (.ref D_BadText)) (j_BadText : PySem.W.findIn K (.ref D_BadText) "__init__" = some (some (.ref f_BadText))) (y_BadText : PySem.W.typeIn K (.ref f_BadText) = some (.type "function")) (F_BadText : Fun K "__init__" "BadText.__init__" s_BadText___init f_BadText fd_BadText) (n_BadText : PySem.W.findIn K (.ref D_BadText) "line" = some none) (x_BadText : XfC K D_BadText) (o_TooMany : OexC K D_TooMany) (g_TooMany : mg "TooMany" = some (.ref D_TooMany)) (j_TooMany : PySem.W.findIn K (.ref D_TooMany) "__init__" = some (some (.ref f_TooMany))) (y_TooMany : PySem.W.typeIn K (.ref f_TooMany) = some (.type "function")) (F_TooMany : Fun K "__init__" "TooMany.__init__" s_TooMany___init f_TooMany fd_TooMany) (n_TooMany : PySem.W.findIn K (.ref D_TooMany) "most" = some none) (x_TooMany : XfC K D_TooMany) (o_BadKinds : OexC K D_BadKinds) (g_BadKinds : mg "BadKinds" = some (.ref D_BadKinds)) (j_BadKinds : PySem.W.findIn K (.ref D_BadKinds) "__init__" = some (some (.ref f_BadKinds))) (y_BadKinds : PySem.W.typeIn K (.ref f_BadKinds) = some (.type "function")) (F_BadKinds : Fun K "__init__" "BadKinds.__init__" s_BadKinds___init f_BadKinds fd_BadKinds) (n_BadKinds : PySem.W.findIn K (.ref D_BadKinds) "part" = some none) (x_BadKinds : XfC K D_BadKinds) (o_NoName : OexC K D_NoName) (g_NoName : mg "NoName" = some (.ref D_NoName)) (j_NoName : PySem.W.findIn K (.ref D_NoName) "__init__" = some (some (.ref f_NoName))) (y_NoName : PySem.W.typeIn K (.ref f_NoName) = some (.type "function")) (F_NoName : Fun K "__init__" "NoName.__init__" s_NoName___init f_NoName fd_NoName) (n_NoName : PySem.W.findIn K (.ref D_NoName) "name" = some none) (x_NoName : XfC K D_NoName)
    (A_law_tape : At K mg "_law_tape" s_law_tape ["script"]) (A_law_pick : At K mg "_law_pick" s_law_pick ["tape", "size"]) (A_law_value : At K mg "_law_value" s_law_value ["tape"]) (A_law_plain : At K mg "_law_plain" s_law_plain []) (A_law_with : At K mg "_law_with" s_law_with ["values"]) (A_law_fields : At K mg "_law_fields" s_law_fields ["errors"]) (A_law_kinds : At K mg "_law_kinds" s_law_kinds ["e"]) (A_law_alone : At K mg "_law_alone" s_law_alone ["error", "at"]) (A_law_caught : At K mg "_law_caught" s_law_caught ["value", "other"])
    (F : Fun K "law" "law" s_law fa fd) : FnG P w K mg base 4 fa fd ["script"] (spLaw K) := by
  have e_BadText : Er1 P w K mg base "BadText" "line" D_BadText := ⟨o_BadText, g_BadText, f_BadText, fd_BadText, j_BadText, y_BadText, fld_BadText F_BadText o_BadText n_BadText, F_BadText.binds fun _ _ _ _ _ _ us hl => match us, hl with | [_, _], _ => rfl⟩
  have e_TooMany : Er1 P w K mg base "TooMany" "most" D_TooMany := ⟨o_TooMany, g_TooMany, f_TooMany, fd_TooMany, j_TooMany, y_TooMany, fld_TooMany F_TooMany o_TooMany n_TooMany, F_TooMany.binds fun _ _ _ _ _ _ us hl => match us, hl with | [_, _], _ => rfl⟩
  have e_BadKinds : Er1 P w K mg base "BadKinds" "part" D_BadKinds := ⟨o_BadKinds, g_BadKinds, f_BadKinds, fd_BadKinds, j_BadKinds, y_BadKinds, fld_BadKinds F_BadKinds o_BadKinds n_BadKinds, F_BadKinds.binds fun _ _ _ _ _ _ us hl => match us, hl with | [_, _], _ => rfl⟩
  have e_NoName : Er1 P w K mg base "NoName" "name" D_NoName := ⟨o_NoName, g_NoName, f_NoName, fd_NoName, j_NoName, y_NoName, fld_NoName F_NoName o_NoName n_NoName, F_NoName.binds fun _ _ _ _ _ _ us hl => match us, hl with | [_, _], _ => rfl⟩
  have e_BadTable : Er2 P w K mg base "BadTable" "part" "at" D_BadTable := ⟨o_BadTable, g_BadTable, f_BadTable, fd_BadTable, j_BadTable, y_BadTable, fld_BadTable F_BadTable o_BadTable n_BadTable_part n_BadTable_at, F_BadTable.binds fun _ _ _ _ _ _ us hl => match us, hl with | [_, _, _], _ => rfl⟩
  have e_NoPerson : Er0 P w K mg base "NoPerson" D_NoPerson := ⟨o_NoPerson, g_NoPerson, f_NoPerson, fd_NoPerson, j_NoPerson, y_NoPerson, pass_NoPerson F_NoPerson, F_NoPerson.binds fun _ _ _ _ _ _ us hl => match us, hl with | [_], _ => rfl⟩
  have e_NoThing : Er0 P w K mg base "NoThing" D_NoThing := ⟨o_NoThing, g_NoThing, f_NoThing, fd_NoThing, j_NoThing, y_NoThing, pass_NoThing F_NoThing, F_NoThing.binds fun _ _ _ _ _ _ us hl => match us, hl with | [_], _ => rfl⟩
  have e_NoNumbers : Er0 P w K mg base "NoNumbers" D_NoNumbers := ⟨o_NoNumbers, g_NoNumbers, f_NoNumbers, fd_NoNumbers, j_NoNumbers, y_NoNumbers, pass_NoNumbers F_NoNumbers, F_NoNumbers.binds fun _ _ _ _ _ _ us hl => match us, hl with | [_], _ => rfl⟩
  have e_NoNumber : Er0 P w K mg base "NoNumber" D_NoNumber := ⟨o_NoNumber, g_NoNumber, f_NoNumber, fd_NoNumber, j_NoNumber, y_NoNumber, pass_NoNumber F_NoNumber, F_NoNumber.binds fun _ _ _ _ _ _ us hl => match us, hl with | [_], _ => rfl⟩
  have e_NoDealing : Er0 P w K mg base "NoDealing" D_NoDealing := ⟨o_NoDealing, g_NoDealing, f_NoDealing, fd_NoDealing, j_NoDealing, y_NoDealing, pass_NoDealing F_NoDealing, F_NoDealing.binds fun _ _ _ _ _ _ us hl => match us, hl with | [_], _ => rfl⟩
  have e_NoLot : Er0 P w K mg base "NoLot" D_NoLot := ⟨o_NoLot, g_NoLot, f_NoLot, fd_NoLot, j_NoLot, y_NoLot, pass_NoLot F_NoLot, F_NoLot.binds fun _ _ _ _ _ _ us hl => match us, hl with | [_], _ => rfl⟩
  have e_Stuck : Er0 P w K mg base "Stuck" D_Stuck := ⟨o_Stuck, g_Stuck, f_Stuck, fd_Stuck, j_Stuck, y_Stuck, pass_Stuck F_Stuck, F_Stuck.binds fun _ _ _ _ _ _ us hl => match us, hl with | [_], _ => rfl⟩
  have e_NoRing : Er0 P w K mg base "NoRing" D_NoRing := ⟨o_NoRing, g_NoRing, f_NoRing, fd_NoRing, j_NoRing, y_NoRing, pass_NoRing F_NoRing, F_NoRing.binds fun _ _ _ _ _ _ us hl => match us, hl with | [_], _ => rfl⟩
  have e_NoTie : Er0 P w K mg base "NoTie" D_NoTie := ⟨o_NoTie, g_NoTie, f_NoTie, fd_NoTie, j_NoTie, y_NoTie, pass_NoTie F_NoTie, F_NoTie.binds fun _ _ _ _ _ _ us hl => match us, hl with | [_], _ => rfl⟩
  have e_NoStanding : Er0 P w K mg base "NoStanding" D_NoStanding := ⟨o_NoStanding, g_NoStanding, f_NoStanding, fd_NoStanding, j_NoStanding, y_NoStanding, pass_NoStanding F_NoStanding, F_NoStanding.binds fun _ _ _ _ _ _ us hl => match us, hl with | [_], _ => rfl⟩
  have e_NoTurn : Er0 P w K mg base "NoTurn" D_NoTurn := ⟨o_NoTurn, g_NoTurn, f_NoTurn, fd_NoTurn, j_NoTurn, y_NoTurn, pass_NoTurn F_NoTurn, F_NoTurn.binds fun _ _ _ _ _ _ us hl => match us, hl with | [_], _ => rfl⟩
  have e_NoCustom : Er0 P w K mg base "NoCustom" D_NoCustom := ⟨o_NoCustom, g_NoCustom, f_NoCustom, fd_NoCustom, j_NoCustom, y_NoCustom, pass_NoCustom F_NoCustom, F_NoCustom.binds fun _ _ _ _ _ _ us hl => match us, hl with | [_], _ => rfl⟩
  have e_NoFraction : Er0 P w K mg base "NoFraction" D_NoFraction := ⟨o_NoFraction, g_NoFraction, f_NoFraction, fd_NoFraction, j_NoFraction, y_NoFraction, pass_NoFraction F_NoFraction, F_NoFraction.binds fun _ _ _ _ _ _ us hl => match us, hl with | [_], _ => rfl⟩
  have e_NoBook : Er0 P w K mg base "NoBook" D_NoBook := ⟨o_NoBook, g_NoBook, f_NoBook, fd_NoBook, j_NoBook, y_NoBook, pass_NoBook F_NoBook, F_NoBook.binds fun _ _ _ _ _ _ us hl => match us, hl with | [_], _ => rfl⟩
  have e_NoHistory : Er0 P w K mg base "NoHistory" D_NoHistory := ⟨o_NoHistory, g_NoHistory, f_NoHistory, fd_NoHistory, j_NoHistory, y_NoHistory, pass_NoHistory F_NoHistory, F_NoHistory.binds fun _ _ _ _ _ _ us hl => match us, hl with | [_], _ => rfl⟩
  have e_NoTickets : Er0 P w K mg base "NoTickets" D_NoTickets := ⟨o_NoTickets, g_NoTickets, f_NoTickets, fd_NoTickets, j_NoTickets, y_NoTickets, pass_NoTickets F_NoTickets, F_NoTickets.binds fun _ _ _ _ _ _ us hl => match us, hl with | [_], _ => rfl⟩
  have e_NoSteps : Er0 P w K mg base "NoSteps" D_NoSteps := ⟨o_NoSteps, g_NoSteps, f_NoSteps, fd_NoSteps, j_NoSteps, y_NoSteps, pass_NoSteps F_NoSteps, F_NoSteps.binds fun _ _ _ _ _ _ us hl => match us, hl with | [_], _ => rfl⟩
  have e_NoChances : Er0 P w K mg base "NoChances" D_NoChances := ⟨o_NoChances, g_NoChances, f_NoChances, fd_NoChances, j_NoChances, y_NoChances, pass_NoChances F_NoChances, F_NoChances.binds fun _ _ _ _ _ _ us hl => match us, hl with | [_], _ => rfl⟩
  have e_NoPrices : Er0 P w K mg base "NoPrices" D_NoPrices := ⟨o_NoPrices, g_NoPrices, f_NoPrices, fd_NoPrices, j_NoPrices, y_NoPrices, pass_NoPrices F_NoPrices, F_NoPrices.binds fun _ _ _ _ _ _ us hl => match us, hl with | [_], _ => rfl⟩
  have e_Empty : Er0 P w K mg base "Empty" D_Empty := ⟨o_Empty, g_Empty, f_Empty, fd_Empty, j_Empty, y_Empty, pass_Empty F_Empty, F_Empty.binds fun _ _ _ _ _ _ us hl => match us, hl with | [_], _ => rfl⟩
  have e_NoSizes : Er0 P w K mg base "NoSizes" D_NoSizes := ⟨o_NoSizes, g_NoSizes, f_NoSizes, fd_NoSizes, j_NoSizes, y_NoSizes, pass_NoSizes F_NoSizes, F_NoSizes.binds fun _ _ _ _ _ _ us hl => match us, hl with | [_], _ => rfl⟩
  have e_NoLooks : Er0 P w K mg base "NoLooks" D_NoLooks := ⟨o_NoLooks, g_NoLooks, f_NoLooks, fd_NoLooks, j_NoLooks, y_NoLooks, pass_NoLooks F_NoLooks, F_NoLooks.binds fun _ _ _ _ _ _ us hl => match us, hl with | [_], _ => rfl⟩
  have e_NoOutcome : Er0 P w K mg base "NoOutcome" D_NoOutcome := ⟨o_NoOutcome, g_NoOutcome, f_NoOutcome, fd_NoOutcome, j_NoOutcome, y_NoOutcome, pass_NoOutcome F_NoOutcome, F_NoOutcome.binds fun _ _ _ _ _ _ us hl => match us, hl with | [_], _ => rfl⟩
  have e_NoComer : Er0 P w K mg base "NoComer" D_NoComer := ⟨o_NoComer, g_NoComer, f_NoComer, fd_NoComer, j_NoComer, y_NoComer, pass_NoComer F_NoComer, F_NoComer.binds fun _ _ _ _ _ _ us hl => match us, hl with | [_], _ => rfl⟩
  have e_NotOpen : Er0 P w K mg base "NotOpen" D_NotOpen := ⟨o_NotOpen, g_NotOpen, f_NotOpen, fd_NotOpen, j_NotOpen, y_NotOpen, pass_NotOpen F_NotOpen, F_NotOpen.binds fun _ _ _ _ _ _ us hl => match us, hl with | [_], _ => rfl⟩
  have e_NothingDone : Er0 P w K mg base "NothingDone" D_NothingDone := ⟨o_NothingDone, g_NothingDone, f_NothingDone, fd_NothingDone, j_NothingDone, y_NothingDone, pass_NothingDone F_NothingDone, F_NothingDone.binds fun _ _ _ _ _ _ us hl => match us, hl with | [_], _ => rfl⟩
  have e_NoLine : Er0 P w K mg base "NoLine" D_NoLine := ⟨o_NoLine, g_NoLine, f_NoLine, fd_NoLine, j_NoLine, y_NoLine, pass_NoLine F_NoLine, F_NoLine.binds fun _ _ _ _ _ _ us hl => match us, hl with | [_], _ => rfl⟩
  have R_law_tape : Dfn P w K mg base _ _ 1 (spTape K) := ok_tape A_law_tape T
  have R_law_pick : Dfn P w K mg base _ _ 1 (spPick) := ok_pick A_law_pick T
  have R_law_value : Dfn P w K mg base _ _ 2 (spValue K) := ok_value A_law_value T R_law_pick
  have R_law_plain : Dfn P w K mg base _ _ 3 (spPlain D_NoPerson D_NoThing D_NoNumbers D_NoNumber D_NoDealing D_NoLot D_Stuck D_NoRing D_NoTie D_NoStanding D_NoTurn D_NoCustom D_NoFraction D_NoBook D_NoHistory D_NoTickets D_NoSteps D_NoChances D_NoPrices D_Empty D_NoSizes D_NoLooks D_NoOutcome D_NoComer D_NotOpen D_NothingDone D_NoLine D_BadTable D_BadText D_TooMany D_BadKinds D_NoName) := ok_plain A_law_plain T e_NoPerson e_NoThing e_NoNumbers e_NoNumber e_NoDealing e_NoLot e_Stuck e_NoRing e_NoTie e_NoStanding e_NoTurn e_NoCustom e_NoFraction e_NoBook e_NoHistory e_NoTickets e_NoSteps e_NoChances e_NoPrices e_Empty e_NoSizes e_NoLooks e_NoOutcome e_NoComer e_NotOpen e_NothingDone e_NoLine
  have R_law_with : Dfn P w K mg base _ _ 3 (spWith K D_NoPerson D_NoThing D_NoNumbers D_NoNumber D_NoDealing D_NoLot D_Stuck D_NoRing D_NoTie D_NoStanding D_NoTurn D_NoCustom D_NoFraction D_NoBook D_NoHistory D_NoTickets D_NoSteps D_NoChances D_NoPrices D_Empty D_NoSizes D_NoLooks D_NoOutcome D_NoComer D_NotOpen D_NothingDone D_NoLine D_BadTable D_BadText D_TooMany D_BadKinds D_NoName) := ok_with A_law_with T e_BadTable e_BadText e_TooMany e_BadKinds e_NoName
  have R_law_fields : Dfn P w K mg base _ _ 1 (spFields K D_NoPerson D_NoThing D_NoNumbers D_NoNumber D_NoDealing D_NoLot D_Stuck D_NoRing D_NoTie D_NoStanding D_NoTurn D_NoCustom D_NoFraction D_NoBook D_NoHistory D_NoTickets D_NoSteps D_NoChances D_NoPrices D_Empty D_NoSizes D_NoLooks D_NoOutcome D_NoComer D_NotOpen D_NothingDone D_NoLine D_BadTable D_BadText D_TooMany D_BadKinds D_NoName) := ok_fields A_law_fields T x_BadTable x_BadText x_TooMany x_BadKinds x_NoName n_BadTable_part n_BadTable_at n_BadText n_TooMany n_BadKinds n_NoName
  have R_law_kinds : Dfn P w K mg base _ _ 1 (spKinds D_NoPerson D_NoThing D_NoNumbers D_NoNumber D_NoDealing D_NoLot D_Stuck D_NoRing D_NoTie D_NoStanding D_NoTurn D_NoCustom D_NoFraction D_NoBook D_NoHistory D_NoTickets D_NoSteps D_NoChances D_NoPrices D_Empty D_NoSizes D_NoLooks D_NoOutcome D_NoComer D_NotOpen D_NothingDone D_NoLine D_BadTable D_BadText D_TooMany D_BadKinds D_NoName) := ok_kinds A_law_kinds T EK
  have R_law_alone : Dfn P w K mg base _ _ 2 (spAlone D_NoPerson D_NoThing D_NoNumbers D_NoNumber D_NoDealing D_NoLot D_Stuck D_NoRing D_NoTie D_NoStanding D_NoTurn D_NoCustom D_NoFraction D_NoBook D_NoHistory D_NoTickets D_NoSteps D_NoChances D_NoPrices D_Empty D_NoSizes D_NoLooks D_NoOutcome D_NoComer D_NotOpen D_NothingDone D_NoLine D_BadTable D_BadText D_TooMany D_BadKinds D_NoName) := ok_alone A_law_alone T EK ED R_law_kinds
  have R_law_caught : Dfn P w K mg base _ _ 3 (spCaught) := ok_caught A_law_caught T EK e_BadTable e_Stuck x_BadTable n_BadTable_part n_BadTable_at xs_BadTable
  exact ok_law F T R_law_tape R_law_value R_law_plain R_law_with R_law_fields R_law_alone R_law_caught
end
end Fo
set_option maxRecDepth 100000
set_option maxHeartbeats 4000000
namespace Fo
open PySem PySem.Spec PyProof.Rows L2
theorem kit_own {K : PySem.W.Frag} {C : Addr} {T : String} {b : Bool} (hm : PySem.W.kitMeta T = true) (h : PySem.W.mroIn K C (.type T) = some b) : PySem.W.kitOne K (.ref C) (.type T) = some b := by
  have e : (Value.ref C == Value.type T) = false := by
    rw [beq_eq_false_iff_ne]
    intro q
    cases q
  show (if (Value.ref C == Value.type T) = true then some true else if PySem.W.kitMeta T = true then PySem.W.mroIn K C (.type T) else none) = some b
  rw [e, if_neg (by decide), if_pos hm, h]
theorem at_mk {K : PySem.W.Frag} {h : Heap} {mg : Str → Option Value} (X : K.In h) (G : h.Ns mainGlobals mg) {x : Str} {st : Stmt} {ps : List Str} {f : Addr} {oc : Value} {od an : Option Addr} {sl : Array (Option Value)} {kV dc pm cd ct : Value}
    (a : PySem.W.nsIn K mainGlobals x = some (some (.ref f))) (l : K.lookup f = some ⟨oc, od, .func (PySem.W.fnOf x x (defArgs st) (defBody st) (defScope st) .none kV dc pm an cd ct), sl⟩) (c : PySem.W.codeIn K cd x = true) (k : PySem.W.keepIn K (.ref f) = true)
    (b : ∀ (kV doc pm : Value) (an : Option Addr) (cdv ct : Value) (us : List Value), us.length = ps.length → bindArgs (PySem.W.fnOf x x (defArgs st) (defBody st) (defScope st) Value.none kV doc pm an cdv ct) { pos := us } = pure (ps.zip us)) : At K mg x st ps :=
  ⟨f, _, PySem.W.mg_of X G a, fun_mk (st := st) l c k, (fun_mk (st := st) l c k).binds b⟩
theorem all_mk {l : PySem.W.OpenLaw} {w : World} {K : PySem.W.Frag} {h : Heap} {mg : Str → Option Value} {fa : Addr} (X : K.In h) (G : h.Ns mainGlobals mg) (hfa : mg "law" = some (.ref fa))
    {f3 : Addr} {od3 an3 : Option Addr} {sl3 : Array (Option Value)} {oc3 kV3 dc3 pm3 cd3 ct3 : Value}
    {f4 : Addr} {od4 an4 : Option Addr} {sl4 : Array (Option Value)} {oc4 kV4 dc4 pm4 cd4 ct4 : Value}
    {f5 : Addr} {od5 an5 : Option Addr} {sl5 : Array (Option Value)} {oc5 kV5 dc5 pm5 cd5 ct5 : Value}
    {f6 : Addr} {od6 an6 : Option Addr} {sl6 : Array (Option Value)} {oc6 kV6 dc6 pm6 cd6 ct6 : Value}
    {f7 : Addr} {od7 an7 : Option Addr} {sl7 : Array (Option Value)} {oc7 kV7 dc7 pm7 cd7 ct7 : Value}
    {f8 : Addr} {od8 an8 : Option Addr} {sl8 : Array (Option Value)} {oc8 kV8 dc8 pm8 cd8 ct8 : Value}
    {f9 : Addr} {od9 an9 : Option Addr} {sl9 : Array (Option Value)} {oc9 kV9 dc9 pm9 cd9 ct9 : Value}
    {f10 : Addr} {od10 an10 : Option Addr} {sl10 : Array (Option Value)} {oc10 kV10 dc10 pm10 cd10 ct10 : Value}
    {f11 : Addr} {od11 an11 : Option Addr} {sl11 : Array (Option Value)} {oc11 kV11 dc11 pm11 cd11 ct11 : Value}
    {f12 : Addr} {od12 an12 : Option Addr} {sl12 : Array (Option Value)} {oc12 kV12 dc12 pm12 cd12 ct12 : Value}
    {DE : Addr}
    {B0 N0 : Addr} {nm0 q0 : Str} {bs0 : List Value} {sn0 : List Str} {sub0 : List Value} {ab0 : Bool} {col0 : Option Bool} {dd0 : Option Addr} {m00 m10 m20 m30 m50 : Option Value}
    {fX0 : Addr} {odX0 anX0 : Option Addr} {slX0 : Array (Option Value)} {ocX0 kVX0 dcX0 pmX0 cdX0 ctX0 : Value}
    {B1 N1 : Addr} {nm1 q1 : Str} {bs1 : List Value} {sn1 : List Str} {sub1 : List Value} {ab1 : Bool} {col1 : Option Bool} {dd1 : Option Addr} {m01 m11 m21 m31 m51 : Option Value}
    {fX1 : Addr} {odX1 anX1 : Option Addr} {slX1 : Array (Option Value)} {ocX1 kVX1 dcX1 pmX1 cdX1 ctX1 : Value}
    {B2 N2 : Addr} {nm2 q2 : Str} {bs2 : List Value} {sn2 : List Str} {sub2 : List Value} {ab2 : Bool} {col2 : Option Bool} {dd2 : Option Addr} {m02 m12 m22 m32 m52 : Option Value}
    {fX2 : Addr} {odX2 anX2 : Option Addr} {slX2 : Array (Option Value)} {ocX2 kVX2 dcX2 pmX2 cdX2 ctX2 : Value}
    {B3 N3 : Addr} {nm3 q3 : Str} {bs3 : List Value} {sn3 : List Str} {sub3 : List Value} {ab3 : Bool} {col3 : Option Bool} {dd3 : Option Addr} {m03 m13 m23 m33 m53 : Option Value}
    {fX3 : Addr} {odX3 anX3 : Option Addr} {slX3 : Array (Option Value)} {ocX3 kVX3 dcX3 pmX3 cdX3 ctX3 : Value}
    {B4 N4 : Addr} {nm4 q4 : Str} {bs4 : List Value} {sn4 : List Str} {sub4 : List Value} {ab4 : Bool} {col4 : Option Bool} {dd4 : Option Addr} {m04 m14 m24 m34 m54 : Option Value}
    {fX4 : Addr} {odX4 anX4 : Option Addr} {slX4 : Array (Option Value)} {ocX4 kVX4 dcX4 pmX4 cdX4 ctX4 : Value}
    {B5 N5 : Addr} {nm5 q5 : Str} {bs5 : List Value} {sn5 : List Str} {sub5 : List Value} {ab5 : Bool} {col5 : Option Bool} {dd5 : Option Addr} {m05 m15 m25 m35 m55 : Option Value}
    {fX5 : Addr} {odX5 anX5 : Option Addr} {slX5 : Array (Option Value)} {ocX5 kVX5 dcX5 pmX5 cdX5 ctX5 : Value}
    {B6 N6 : Addr} {nm6 q6 : Str} {bs6 : List Value} {sn6 : List Str} {sub6 : List Value} {ab6 : Bool} {col6 : Option Bool} {dd6 : Option Addr} {m06 m16 m26 m36 m56 : Option Value}
    {fX6 : Addr} {odX6 anX6 : Option Addr} {slX6 : Array (Option Value)} {ocX6 kVX6 dcX6 pmX6 cdX6 ctX6 : Value}
    {B7 N7 : Addr} {nm7 q7 : Str} {bs7 : List Value} {sn7 : List Str} {sub7 : List Value} {ab7 : Bool} {col7 : Option Bool} {dd7 : Option Addr} {m07 m17 m27 m37 m57 : Option Value}
    {fX7 : Addr} {odX7 anX7 : Option Addr} {slX7 : Array (Option Value)} {ocX7 kVX7 dcX7 pmX7 cdX7 ctX7 : Value}
    {B8 N8 : Addr} {nm8 q8 : Str} {bs8 : List Value} {sn8 : List Str} {sub8 : List Value} {ab8 : Bool} {col8 : Option Bool} {dd8 : Option Addr} {m08 m18 m28 m38 m58 : Option Value}
    {fX8 : Addr} {odX8 anX8 : Option Addr} {slX8 : Array (Option Value)} {ocX8 kVX8 dcX8 pmX8 cdX8 ctX8 : Value}
    {B9 N9 : Addr} {nm9 q9 : Str} {bs9 : List Value} {sn9 : List Str} {sub9 : List Value} {ab9 : Bool} {col9 : Option Bool} {dd9 : Option Addr} {m09 m19 m29 m39 m59 : Option Value}
    {fX9 : Addr} {odX9 anX9 : Option Addr} {slX9 : Array (Option Value)} {ocX9 kVX9 dcX9 pmX9 cdX9 ctX9 : Value}
    {B10 N10 : Addr} {nm10 q10 : Str} {bs10 : List Value} {sn10 : List Str} {sub10 : List Value} {ab10 : Bool} {col10 : Option Bool} {dd10 : Option Addr} {m010 m110 m210 m310 m510 : Option Value}
    {fX10 : Addr} {odX10 anX10 : Option Addr} {slX10 : Array (Option Value)} {ocX10 kVX10 dcX10 pmX10 cdX10 ctX10 : Value}
    {B11 N11 : Addr} {nm11 q11 : Str} {bs11 : List Value} {sn11 : List Str} {sub11 : List Value} {ab11 : Bool} {col11 : Option Bool} {dd11 : Option Addr} {m011 m111 m211 m311 m511 : Option Value}
    {fX11 : Addr} {odX11 anX11 : Option Addr} {slX11 : Array (Option Value)} {ocX11 kVX11 dcX11 pmX11 cdX11 ctX11 : Value}
    {B12 N12 : Addr} {nm12 q12 : Str} {bs12 : List Value} {sn12 : List Str} {sub12 : List Value} {ab12 : Bool} {col12 : Option Bool} {dd12 : Option Addr} {m012 m112 m212 m312 m512 : Option Value}
    {fX12 : Addr} {odX12 anX12 : Option Addr} {slX12 : Array (Option Value)} {ocX12 kVX12 dcX12 pmX12 cdX12 ctX12 : Value}
    {B13 N13 : Addr} {nm13 q13 : Str} {bs13 : List Value} {sn13 : List Str} {sub13 : List Value} {ab13 : Bool} {col13 : Option Bool} {dd13 : Option Addr} {m013 m113 m213 m313 m513 : Option Value}
    {fX13 : Addr} {odX13 anX13 : Option Addr} {slX13 : Array (Option Value)} {ocX13 kVX13 dcX13 pmX13 cdX13 ctX13 : Value}
    {B14 N14 : Addr} {nm14 q14 : Str} {bs14 : List Value} {sn14 : List Str} {sub14 : List Value} {ab14 : Bool} {col14 : Option Bool} {dd14 : Option Addr} {m014 m114 m214 m314 m514 : Option Value}
    {fX14 : Addr} {odX14 anX14 : Option Addr} {slX14 : Array (Option Value)} {ocX14 kVX14 dcX14 pmX14 cdX14 ctX14 : Value}
    {B15 N15 : Addr} {nm15 q15 : Str} {bs15 : List Value} {sn15 : List Str} {sub15 : List Value} {ab15 : Bool} {col15 : Option Bool} {dd15 : Option Addr} {m015 m115 m215 m315 m515 : Option Value}
    {fX15 : Addr} {odX15 anX15 : Option Addr} {slX15 : Array (Option Value)} {ocX15 kVX15 dcX15 pmX15 cdX15 ctX15 : Value}
    {B16 N16 : Addr} {nm16 q16 : Str} {bs16 : List Value} {sn16 : List Str} {sub16 : List Value} {ab16 : Bool} {col16 : Option Bool} {dd16 : Option Addr} {m016 m116 m216 m316 m516 : Option Value}
    {fX16 : Addr} {odX16 anX16 : Option Addr} {slX16 : Array (Option Value)} {ocX16 kVX16 dcX16 pmX16 cdX16 ctX16 : Value}
    {B17 N17 : Addr} {nm17 q17 : Str} {bs17 : List Value} {sn17 : List Str} {sub17 : List Value} {ab17 : Bool} {col17 : Option Bool} {dd17 : Option Addr} {m017 m117 m217 m317 m517 : Option Value}
    {fX17 : Addr} {odX17 anX17 : Option Addr} {slX17 : Array (Option Value)} {ocX17 kVX17 dcX17 pmX17 cdX17 ctX17 : Value}
    {B18 N18 : Addr} {nm18 q18 : Str} {bs18 : List Value} {sn18 : List Str} {sub18 : List Value} {ab18 : Bool} {col18 : Option Bool} {dd18 : Option Addr} {m018 m118 m218 m318 m518 : Option Value}
    {fX18 : Addr} {odX18 anX18 : Option Addr} {slX18 : Array (Option Value)} {ocX18 kVX18 dcX18 pmX18 cdX18 ctX18 : Value}
    {B19 N19 : Addr} {nm19 q19 : Str} {bs19 : List Value} {sn19 : List Str} {sub19 : List Value} {ab19 : Bool} {col19 : Option Bool} {dd19 : Option Addr} {m019 m119 m219 m319 m519 : Option Value}
    {fX19 : Addr} {odX19 anX19 : Option Addr} {slX19 : Array (Option Value)} {ocX19 kVX19 dcX19 pmX19 cdX19 ctX19 : Value}
    {B20 N20 : Addr} {nm20 q20 : Str} {bs20 : List Value} {sn20 : List Str} {sub20 : List Value} {ab20 : Bool} {col20 : Option Bool} {dd20 : Option Addr} {m020 m120 m220 m320 m520 : Option Value}
    {fX20 : Addr} {odX20 anX20 : Option Addr} {slX20 : Array (Option Value)} {ocX20 kVX20 dcX20 pmX20 cdX20 ctX20 : Value}
    {B21 N21 : Addr} {nm21 q21 : Str} {bs21 : List Value} {sn21 : List Str} {sub21 : List Value} {ab21 : Bool} {col21 : Option Bool} {dd21 : Option Addr} {m021 m121 m221 m321 m521 : Option Value}
    {fX21 : Addr} {odX21 anX21 : Option Addr} {slX21 : Array (Option Value)} {ocX21 kVX21 dcX21 pmX21 cdX21 ctX21 : Value}
    {B22 N22 : Addr} {nm22 q22 : Str} {bs22 : List Value} {sn22 : List Str} {sub22 : List Value} {ab22 : Bool} {col22 : Option Bool} {dd22 : Option Addr} {m022 m122 m222 m322 m522 : Option Value}
    {fX22 : Addr} {odX22 anX22 : Option Addr} {slX22 : Array (Option Value)} {ocX22 kVX22 dcX22 pmX22 cdX22 ctX22 : Value}
    {B23 N23 : Addr} {nm23 q23 : Str} {bs23 : List Value} {sn23 : List Str} {sub23 : List Value} {ab23 : Bool} {col23 : Option Bool} {dd23 : Option Addr} {m023 m123 m223 m323 m523 : Option Value}
    {fX23 : Addr} {odX23 anX23 : Option Addr} {slX23 : Array (Option Value)} {ocX23 kVX23 dcX23 pmX23 cdX23 ctX23 : Value}
    {B24 N24 : Addr} {nm24 q24 : Str} {bs24 : List Value} {sn24 : List Str} {sub24 : List Value} {ab24 : Bool} {col24 : Option Bool} {dd24 : Option Addr} {m024 m124 m224 m324 m524 : Option Value}
    {fX24 : Addr} {odX24 anX24 : Option Addr} {slX24 : Array (Option Value)} {ocX24 kVX24 dcX24 pmX24 cdX24 ctX24 : Value}
    {B25 N25 : Addr} {nm25 q25 : Str} {bs25 : List Value} {sn25 : List Str} {sub25 : List Value} {ab25 : Bool} {col25 : Option Bool} {dd25 : Option Addr} {m025 m125 m225 m325 m525 : Option Value}
    {fX25 : Addr} {odX25 anX25 : Option Addr} {slX25 : Array (Option Value)} {ocX25 kVX25 dcX25 pmX25 cdX25 ctX25 : Value}
    {B26 N26 : Addr} {nm26 q26 : Str} {bs26 : List Value} {sn26 : List Str} {sub26 : List Value} {ab26 : Bool} {col26 : Option Bool} {dd26 : Option Addr} {m026 m126 m226 m326 m526 : Option Value}
    {fX26 : Addr} {odX26 anX26 : Option Addr} {slX26 : Array (Option Value)} {ocX26 kVX26 dcX26 pmX26 cdX26 ctX26 : Value}
    {B27 N27 : Addr} {nm27 q27 : Str} {bs27 : List Value} {sn27 : List Str} {sub27 : List Value} {ab27 : Bool} {col27 : Option Bool} {dd27 : Option Addr} {m027 m127 m227 m327 m527 : Option Value}
    {fX27 : Addr} {odX27 anX27 : Option Addr} {slX27 : Array (Option Value)} {ocX27 kVX27 dcX27 pmX27 cdX27 ctX27 : Value}
    {B28 N28 : Addr} {nm28 q28 : Str} {bs28 : List Value} {sn28 : List Str} {sub28 : List Value} {ab28 : Bool} {col28 : Option Bool} {dd28 : Option Addr} {m028 m128 m228 m328 m528 : Option Value}
    {fX28 : Addr} {odX28 anX28 : Option Addr} {slX28 : Array (Option Value)} {ocX28 kVX28 dcX28 pmX28 cdX28 ctX28 : Value}
    {B29 N29 : Addr} {nm29 q29 : Str} {bs29 : List Value} {sn29 : List Str} {sub29 : List Value} {ab29 : Bool} {col29 : Option Bool} {dd29 : Option Addr} {m029 m129 m229 m329 m529 : Option Value}
    {fX29 : Addr} {odX29 anX29 : Option Addr} {slX29 : Array (Option Value)} {ocX29 kVX29 dcX29 pmX29 cdX29 ctX29 : Value}
    {B30 N30 : Addr} {nm30 q30 : Str} {bs30 : List Value} {sn30 : List Str} {sub30 : List Value} {ab30 : Bool} {col30 : Option Bool} {dd30 : Option Addr} {m030 m130 m230 m330 m530 : Option Value}
    {fX30 : Addr} {odX30 anX30 : Option Addr} {slX30 : Array (Option Value)} {ocX30 kVX30 dcX30 pmX30 cdX30 ctX30 : Value}
    {B31 N31 : Addr} {nm31 q31 : Str} {bs31 : List Value} {sn31 : List Str} {sub31 : List Value} {ab31 : Bool} {col31 : Option Bool} {dd31 : Option Addr} {m031 m131 m231 m331 m531 : Option Value}
    {fX31 : Addr} {odX31 anX31 : Option Addr} {slX31 : Array (Option Value)} {ocX31 kVX31 dcX31 pmX31 cdX31 ctX31 : Value}
    (aL : PySem.W.nsIn K mainGlobals "law" = some (some (.ref f3)))
    (l3 : K.lookup f3 = some ⟨oc3, od3, .func (PySem.W.fnOf "law" "law" (defArgs s_law) (defBody s_law) (defScope s_law) .none kV3 dc3 pm3 an3 cd3 ct3), sl3⟩)
    (c3 : PySem.W.codeIn K cd3 "law" = true)
    (k3 : PySem.W.keepIn K (.ref f3) = true)
    (a4 : PySem.W.nsIn K mainGlobals "_law_tape" = some (some (.ref f4)))
    (l4 : K.lookup f4 = some ⟨oc4, od4, .func (PySem.W.fnOf "_law_tape" "_law_tape" (defArgs s_law_tape) (defBody s_law_tape) (defScope s_law_tape) .none kV4 dc4 pm4 an4 cd4 ct4), sl4⟩)
    (c4 : PySem.W.codeIn K cd4 "_law_tape" = true)
    (k4 : PySem.W.keepIn K (.ref f4) = true)
    (a5 : PySem.W.nsIn K mainGlobals "_law_pick" = some (some (.ref f5)))
    (l5 : K.lookup f5 = some ⟨oc5, od5, .func (PySem.W.fnOf "_law_pick" "_law_pick" (defArgs s_law_pick) (defBody s_law_pick) (defScope s_law_pick) .none kV5 dc5 pm5 an5 cd5 ct5), sl5⟩)
    (c5 : PySem.W.codeIn K cd5 "_law_pick" = true)
    (k5 : PySem.W.keepIn K (.ref f5) = true)
    (a6 : PySem.W.nsIn K mainGlobals "_law_value" = some (some (.ref f6)))
    (l6 : K.lookup f6 = some ⟨oc6, od6, .func (PySem.W.fnOf "_law_value" "_law_value" (defArgs s_law_value) (defBody s_law_value) (defScope s_law_value) .none kV6 dc6 pm6 an6 cd6 ct6), sl6⟩)
    (c6 : PySem.W.codeIn K cd6 "_law_value" = true)
    (k6 : PySem.W.keepIn K (.ref f6) = true)
    (a7 : PySem.W.nsIn K mainGlobals "_law_plain" = some (some (.ref f7)))
    (l7 : K.lookup f7 = some ⟨oc7, od7, .func (PySem.W.fnOf "_law_plain" "_law_plain" (defArgs s_law_plain) (defBody s_law_plain) (defScope s_law_plain) .none kV7 dc7 pm7 an7 cd7 ct7), sl7⟩)
    (c7 : PySem.W.codeIn K cd7 "_law_plain" = true)
    (k7 : PySem.W.keepIn K (.ref f7) = true)
    (a8 : PySem.W.nsIn K mainGlobals "_law_with" = some (some (.ref f8)))
    (l8 : K.lookup f8 = some ⟨oc8, od8, .func (PySem.W.fnOf "_law_with" "_law_with" (defArgs s_law_with) (defBody s_law_with) (defScope s_law_with) .none kV8 dc8 pm8 an8 cd8 ct8), sl8⟩)
    (c8 : PySem.W.codeIn K cd8 "_law_with" = true)
    (k8 : PySem.W.keepIn K (.ref f8) = true)
    (a9 : PySem.W.nsIn K mainGlobals "_law_fields" = some (some (.ref f9)))
    (l9 : K.lookup f9 = some ⟨oc9, od9, .func (PySem.W.fnOf "_law_fields" "_law_fields" (defArgs s_law_fields) (defBody s_law_fields) (defScope s_law_fields) .none kV9 dc9 pm9 an9 cd9 ct9), sl9⟩)
    (c9 : PySem.W.codeIn K cd9 "_law_fields" = true)
    (k9 : PySem.W.keepIn K (.ref f9) = true)
    (a10 : PySem.W.nsIn K mainGlobals "_law_kinds" = some (some (.ref f10)))
    (l10 : K.lookup f10 = some ⟨oc10, od10, .func (PySem.W.fnOf "_law_kinds" "_law_kinds" (defArgs s_law_kinds) (defBody s_law_kinds) (defScope s_law_kinds) .none kV10 dc10 pm10 an10 cd10 ct10), sl10⟩)
    (c10 : PySem.W.codeIn K cd10 "_law_kinds" = true)
    (k10 : PySem.W.keepIn K (.ref f10) = true)
    (a11 : PySem.W.nsIn K mainGlobals "_law_alone" = some (some (.ref f11)))
    (l11 : K.lookup f11 = some ⟨oc11, od11, .func (PySem.W.fnOf "_law_alone" "_law_alone" (defArgs s_law_alone) (defBody s_law_alone) (defScope s_law_alone) .none kV11 dc11 pm11 an11 cd11 ct11), sl11⟩)
    (c11 : PySem.W.codeIn K cd11 "_law_alone" = true)
    (k11 : PySem.W.keepIn K (.ref f11) = true)
    (a12 : PySem.W.nsIn K mainGlobals "_law_caught" = some (some (.ref f12)))
    (l12 : K.lookup f12 = some ⟨oc12, od12, .func (PySem.W.fnOf "_law_caught" "_law_caught" (defArgs s_law_caught) (defBody s_law_caught) (defScope s_law_caught) .none kV12 dc12 pm12 an12 cd12 ct12), sl12⟩)
    (c12 : PySem.W.codeIn K cd12 "_law_caught" = true)
    (k12 : PySem.W.keepIn K (.ref f12) = true)
    (aDE : PySem.W.nsIn K mainGlobals "DrawError" = some (some (.ref DE)))
    (aVE : PySem.W.nsIn K mainGlobals "ValueError" = some none)
    (deC : PySem.W.subIn K (.ref DE) (.type "BaseException") = some true)
    (dsC : PySem.W.isClsIn K DE = true)
    (dtC : PySem.W.typeIn K (.ref DE) = some (.type "type"))
    (aB0 : PySem.W.nsIn K mainGlobals "NoPerson" = some (some (.ref B0)))
    (xL0 : K.lookup B0 = some (excClassObj nm0 q0 B0 N0 bs0 [.ref DE, .type "ValueError", .type "Exception", .type "BaseException", .type "object"] true sn0 sub0 ab0 col0 dd0 m00 m10 m20 m30 m50 "ValueError.__new__"))
    (xsa0 : PySem.W.findIn K (.ref B0) "__setattr__" = some (some (.builtin "object.__setattr__")))
    (xga0 : PySem.W.findIn K (.ref B0) "__getattribute__" = some (some (.builtin "BaseException.__getattribute__")))
    (xgg0 : PySem.W.findIn K (.ref B0) "__getattr__" = some none)
    (xca0 : PySem.W.findIn K (.ref B0) "__class__" = some (some (.builtin "object.__class__")))
    (xmo0 : PySem.W.mroIn K B0 (.type "object") = some true)
    (xmv0 : PySem.W.mroIn K B0 (.type "ValueError") = some true)
    (xis0 : PySem.W.isClsIn K B0 = true)
    (xiB0 : PySem.W.findIn K (.ref B0) "__init__" = some (some (.ref fX0)))
    (xtf0 : PySem.W.typeIn K (.ref fX0) = some (.type "function"))
    (lX0 : K.lookup fX0 = some ⟨ocX0, odX0, .func (PySem.W.fnOf "__init__" "NoPerson.__init__" (defArgs s_NoPerson___init) (defBody s_NoPerson___init) (defScope s_NoPerson___init) .none kVX0 dcX0 pmX0 anX0 cdX0 ctX0), slX0⟩)
    (cX0 : PySem.W.codeIn K cdX0 "NoPerson.__init__" = true)
    (kX0 : PySem.W.keepIn K (.ref fX0) = true)
    (xkC0 : PySem.W.keepIn K (.ref B0) = true)
    (xeC0 : PySem.W.subIn K (.ref B0) (.type "BaseException") = some true)
    (xtC0 : PySem.W.typeIn K (.ref B0) = some (.type "type"))
    (dbC0 : PySem.W.subIn K (.ref B0) (.ref DE) = some true)
    (aB1 : PySem.W.nsIn K mainGlobals "NoThing" = some (some (.ref B1)))
    (xL1 : K.lookup B1 = some (excClassObj nm1 q1 B1 N1 bs1 [.ref DE, .type "ValueError", .type "Exception", .type "BaseException", .type "object"] true sn1 sub1 ab1 col1 dd1 m01 m11 m21 m31 m51 "ValueError.__new__"))
    (xsa1 : PySem.W.findIn K (.ref B1) "__setattr__" = some (some (.builtin "object.__setattr__")))
    (xga1 : PySem.W.findIn K (.ref B1) "__getattribute__" = some (some (.builtin "BaseException.__getattribute__")))
    (xgg1 : PySem.W.findIn K (.ref B1) "__getattr__" = some none)
    (xca1 : PySem.W.findIn K (.ref B1) "__class__" = some (some (.builtin "object.__class__")))
    (xmo1 : PySem.W.mroIn K B1 (.type "object") = some true)
    (xmv1 : PySem.W.mroIn K B1 (.type "ValueError") = some true)
    (xis1 : PySem.W.isClsIn K B1 = true)
    (xiB1 : PySem.W.findIn K (.ref B1) "__init__" = some (some (.ref fX1)))
    (xtf1 : PySem.W.typeIn K (.ref fX1) = some (.type "function"))
    (lX1 : K.lookup fX1 = some ⟨ocX1, odX1, .func (PySem.W.fnOf "__init__" "NoThing.__init__" (defArgs s_NoThing___init) (defBody s_NoThing___init) (defScope s_NoThing___init) .none kVX1 dcX1 pmX1 anX1 cdX1 ctX1), slX1⟩)
    (cX1 : PySem.W.codeIn K cdX1 "NoThing.__init__" = true)
    (kX1 : PySem.W.keepIn K (.ref fX1) = true)
    (xkC1 : PySem.W.keepIn K (.ref B1) = true)
    (xeC1 : PySem.W.subIn K (.ref B1) (.type "BaseException") = some true)
    (xtC1 : PySem.W.typeIn K (.ref B1) = some (.type "type"))
    (dbC1 : PySem.W.subIn K (.ref B1) (.ref DE) = some true)
    (aB2 : PySem.W.nsIn K mainGlobals "NoNumbers" = some (some (.ref B2)))
    (xL2 : K.lookup B2 = some (excClassObj nm2 q2 B2 N2 bs2 [.ref DE, .type "ValueError", .type "Exception", .type "BaseException", .type "object"] true sn2 sub2 ab2 col2 dd2 m02 m12 m22 m32 m52 "ValueError.__new__"))
    (xsa2 : PySem.W.findIn K (.ref B2) "__setattr__" = some (some (.builtin "object.__setattr__")))
    (xga2 : PySem.W.findIn K (.ref B2) "__getattribute__" = some (some (.builtin "BaseException.__getattribute__")))
    (xgg2 : PySem.W.findIn K (.ref B2) "__getattr__" = some none)
    (xca2 : PySem.W.findIn K (.ref B2) "__class__" = some (some (.builtin "object.__class__")))
    (xmo2 : PySem.W.mroIn K B2 (.type "object") = some true)
    (xmv2 : PySem.W.mroIn K B2 (.type "ValueError") = some true)
    (xis2 : PySem.W.isClsIn K B2 = true)
    (xiB2 : PySem.W.findIn K (.ref B2) "__init__" = some (some (.ref fX2)))
    (xtf2 : PySem.W.typeIn K (.ref fX2) = some (.type "function"))
    (lX2 : K.lookup fX2 = some ⟨ocX2, odX2, .func (PySem.W.fnOf "__init__" "NoNumbers.__init__" (defArgs s_NoNumbers___init) (defBody s_NoNumbers___init) (defScope s_NoNumbers___init) .none kVX2 dcX2 pmX2 anX2 cdX2 ctX2), slX2⟩)
    (cX2 : PySem.W.codeIn K cdX2 "NoNumbers.__init__" = true)
    (kX2 : PySem.W.keepIn K (.ref fX2) = true)
    (xkC2 : PySem.W.keepIn K (.ref B2) = true)
    (xeC2 : PySem.W.subIn K (.ref B2) (.type "BaseException") = some true)
    (xtC2 : PySem.W.typeIn K (.ref B2) = some (.type "type"))
    (dbC2 : PySem.W.subIn K (.ref B2) (.ref DE) = some true)
    (aB3 : PySem.W.nsIn K mainGlobals "NoNumber" = some (some (.ref B3)))
    (xL3 : K.lookup B3 = some (excClassObj nm3 q3 B3 N3 bs3 [.ref DE, .type "ValueError", .type "Exception", .type "BaseException", .type "object"] true sn3 sub3 ab3 col3 dd3 m03 m13 m23 m33 m53 "ValueError.__new__"))
    (xsa3 : PySem.W.findIn K (.ref B3) "__setattr__" = some (some (.builtin "object.__setattr__")))
    (xga3 : PySem.W.findIn K (.ref B3) "__getattribute__" = some (some (.builtin "BaseException.__getattribute__")))
    (xgg3 : PySem.W.findIn K (.ref B3) "__getattr__" = some none)
    (xca3 : PySem.W.findIn K (.ref B3) "__class__" = some (some (.builtin "object.__class__")))
    (xmo3 : PySem.W.mroIn K B3 (.type "object") = some true)
    (xmv3 : PySem.W.mroIn K B3 (.type "ValueError") = some true)
    (xis3 : PySem.W.isClsIn K B3 = true)
    (xiB3 : PySem.W.findIn K (.ref B3) "__init__" = some (some (.ref fX3)))
    (xtf3 : PySem.W.typeIn K (.ref fX3) = some (.type "function"))
    (lX3 : K.lookup fX3 = some ⟨ocX3, odX3, .func (PySem.W.fnOf "__init__" "NoNumber.__init__" (defArgs s_NoNumber___init) (defBody s_NoNumber___init) (defScope s_NoNumber___init) .none kVX3 dcX3 pmX3 anX3 cdX3 ctX3), slX3⟩)
    (cX3 : PySem.W.codeIn K cdX3 "NoNumber.__init__" = true)
    (kX3 : PySem.W.keepIn K (.ref fX3) = true)
    (xkC3 : PySem.W.keepIn K (.ref B3) = true)
    (xeC3 : PySem.W.subIn K (.ref B3) (.type "BaseException") = some true)
    (xtC3 : PySem.W.typeIn K (.ref B3) = some (.type "type"))
    (dbC3 : PySem.W.subIn K (.ref B3) (.ref DE) = some true)
    (aB4 : PySem.W.nsIn K mainGlobals "NoDealing" = some (some (.ref B4)))
    (xL4 : K.lookup B4 = some (excClassObj nm4 q4 B4 N4 bs4 [.ref DE, .type "ValueError", .type "Exception", .type "BaseException", .type "object"] true sn4 sub4 ab4 col4 dd4 m04 m14 m24 m34 m54 "ValueError.__new__"))
    (xsa4 : PySem.W.findIn K (.ref B4) "__setattr__" = some (some (.builtin "object.__setattr__")))
    (xga4 : PySem.W.findIn K (.ref B4) "__getattribute__" = some (some (.builtin "BaseException.__getattribute__")))
    (xgg4 : PySem.W.findIn K (.ref B4) "__getattr__" = some none)
    (xca4 : PySem.W.findIn K (.ref B4) "__class__" = some (some (.builtin "object.__class__")))
    (xmo4 : PySem.W.mroIn K B4 (.type "object") = some true)
    (xmv4 : PySem.W.mroIn K B4 (.type "ValueError") = some true)
    (xis4 : PySem.W.isClsIn K B4 = true)
    (xiB4 : PySem.W.findIn K (.ref B4) "__init__" = some (some (.ref fX4)))
    (xtf4 : PySem.W.typeIn K (.ref fX4) = some (.type "function"))
    (lX4 : K.lookup fX4 = some ⟨ocX4, odX4, .func (PySem.W.fnOf "__init__" "NoDealing.__init__" (defArgs s_NoDealing___init) (defBody s_NoDealing___init) (defScope s_NoDealing___init) .none kVX4 dcX4 pmX4 anX4 cdX4 ctX4), slX4⟩)
    (cX4 : PySem.W.codeIn K cdX4 "NoDealing.__init__" = true)
    (kX4 : PySem.W.keepIn K (.ref fX4) = true)
    (xkC4 : PySem.W.keepIn K (.ref B4) = true)
    (xeC4 : PySem.W.subIn K (.ref B4) (.type "BaseException") = some true)
    (xtC4 : PySem.W.typeIn K (.ref B4) = some (.type "type"))
    (dbC4 : PySem.W.subIn K (.ref B4) (.ref DE) = some true)
    (aB5 : PySem.W.nsIn K mainGlobals "NoLot" = some (some (.ref B5)))
    (xL5 : K.lookup B5 = some (excClassObj nm5 q5 B5 N5 bs5 [.ref DE, .type "ValueError", .type "Exception", .type "BaseException", .type "object"] true sn5 sub5 ab5 col5 dd5 m05 m15 m25 m35 m55 "ValueError.__new__"))
    (xsa5 : PySem.W.findIn K (.ref B5) "__setattr__" = some (some (.builtin "object.__setattr__")))
    (xga5 : PySem.W.findIn K (.ref B5) "__getattribute__" = some (some (.builtin "BaseException.__getattribute__")))
    (xgg5 : PySem.W.findIn K (.ref B5) "__getattr__" = some none)
    (xca5 : PySem.W.findIn K (.ref B5) "__class__" = some (some (.builtin "object.__class__")))
    (xmo5 : PySem.W.mroIn K B5 (.type "object") = some true)
    (xmv5 : PySem.W.mroIn K B5 (.type "ValueError") = some true)
    (xis5 : PySem.W.isClsIn K B5 = true)
    (xiB5 : PySem.W.findIn K (.ref B5) "__init__" = some (some (.ref fX5)))
    (xtf5 : PySem.W.typeIn K (.ref fX5) = some (.type "function"))
    (lX5 : K.lookup fX5 = some ⟨ocX5, odX5, .func (PySem.W.fnOf "__init__" "NoLot.__init__" (defArgs s_NoLot___init) (defBody s_NoLot___init) (defScope s_NoLot___init) .none kVX5 dcX5 pmX5 anX5 cdX5 ctX5), slX5⟩)
    (cX5 : PySem.W.codeIn K cdX5 "NoLot.__init__" = true)
    (kX5 : PySem.W.keepIn K (.ref fX5) = true)
    (xkC5 : PySem.W.keepIn K (.ref B5) = true)
    (xeC5 : PySem.W.subIn K (.ref B5) (.type "BaseException") = some true)
    (xtC5 : PySem.W.typeIn K (.ref B5) = some (.type "type"))
    (dbC5 : PySem.W.subIn K (.ref B5) (.ref DE) = some true)
    (aB6 : PySem.W.nsIn K mainGlobals "Stuck" = some (some (.ref B6)))
    (xL6 : K.lookup B6 = some (excClassObj nm6 q6 B6 N6 bs6 [.ref DE, .type "ValueError", .type "Exception", .type "BaseException", .type "object"] true sn6 sub6 ab6 col6 dd6 m06 m16 m26 m36 m56 "ValueError.__new__"))
    (xsa6 : PySem.W.findIn K (.ref B6) "__setattr__" = some (some (.builtin "object.__setattr__")))
    (xga6 : PySem.W.findIn K (.ref B6) "__getattribute__" = some (some (.builtin "BaseException.__getattribute__")))
    (xgg6 : PySem.W.findIn K (.ref B6) "__getattr__" = some none)
    (xca6 : PySem.W.findIn K (.ref B6) "__class__" = some (some (.builtin "object.__class__")))
    (xmo6 : PySem.W.mroIn K B6 (.type "object") = some true)
    (xmv6 : PySem.W.mroIn K B6 (.type "ValueError") = some true)
    (xis6 : PySem.W.isClsIn K B6 = true)
    (xiB6 : PySem.W.findIn K (.ref B6) "__init__" = some (some (.ref fX6)))
    (xtf6 : PySem.W.typeIn K (.ref fX6) = some (.type "function"))
    (lX6 : K.lookup fX6 = some ⟨ocX6, odX6, .func (PySem.W.fnOf "__init__" "Stuck.__init__" (defArgs s_Stuck___init) (defBody s_Stuck___init) (defScope s_Stuck___init) .none kVX6 dcX6 pmX6 anX6 cdX6 ctX6), slX6⟩)
    (cX6 : PySem.W.codeIn K cdX6 "Stuck.__init__" = true)
    (kX6 : PySem.W.keepIn K (.ref fX6) = true)
    (xkC6 : PySem.W.keepIn K (.ref B6) = true)
    (xeC6 : PySem.W.subIn K (.ref B6) (.type "BaseException") = some true)
    (xtC6 : PySem.W.typeIn K (.ref B6) = some (.type "type"))
    (dbC6 : PySem.W.subIn K (.ref B6) (.ref DE) = some true)
    (aB7 : PySem.W.nsIn K mainGlobals "NoRing" = some (some (.ref B7)))
    (xL7 : K.lookup B7 = some (excClassObj nm7 q7 B7 N7 bs7 [.ref DE, .type "ValueError", .type "Exception", .type "BaseException", .type "object"] true sn7 sub7 ab7 col7 dd7 m07 m17 m27 m37 m57 "ValueError.__new__"))
    (xsa7 : PySem.W.findIn K (.ref B7) "__setattr__" = some (some (.builtin "object.__setattr__")))
    (xga7 : PySem.W.findIn K (.ref B7) "__getattribute__" = some (some (.builtin "BaseException.__getattribute__")))
    (xgg7 : PySem.W.findIn K (.ref B7) "__getattr__" = some none)
    (xca7 : PySem.W.findIn K (.ref B7) "__class__" = some (some (.builtin "object.__class__")))
    (xmo7 : PySem.W.mroIn K B7 (.type "object") = some true)
    (xmv7 : PySem.W.mroIn K B7 (.type "ValueError") = some true)
    (xis7 : PySem.W.isClsIn K B7 = true)
    (xiB7 : PySem.W.findIn K (.ref B7) "__init__" = some (some (.ref fX7)))
    (xtf7 : PySem.W.typeIn K (.ref fX7) = some (.type "function"))
    (lX7 : K.lookup fX7 = some ⟨ocX7, odX7, .func (PySem.W.fnOf "__init__" "NoRing.__init__" (defArgs s_NoRing___init) (defBody s_NoRing___init) (defScope s_NoRing___init) .none kVX7 dcX7 pmX7 anX7 cdX7 ctX7), slX7⟩)
    (cX7 : PySem.W.codeIn K cdX7 "NoRing.__init__" = true)
    (kX7 : PySem.W.keepIn K (.ref fX7) = true)
    (xkC7 : PySem.W.keepIn K (.ref B7) = true)
    (xeC7 : PySem.W.subIn K (.ref B7) (.type "BaseException") = some true)
    (xtC7 : PySem.W.typeIn K (.ref B7) = some (.type "type"))
    (dbC7 : PySem.W.subIn K (.ref B7) (.ref DE) = some true)
    (aB8 : PySem.W.nsIn K mainGlobals "NoTie" = some (some (.ref B8)))
    (xL8 : K.lookup B8 = some (excClassObj nm8 q8 B8 N8 bs8 [.ref DE, .type "ValueError", .type "Exception", .type "BaseException", .type "object"] true sn8 sub8 ab8 col8 dd8 m08 m18 m28 m38 m58 "ValueError.__new__"))
    (xsa8 : PySem.W.findIn K (.ref B8) "__setattr__" = some (some (.builtin "object.__setattr__")))
    (xga8 : PySem.W.findIn K (.ref B8) "__getattribute__" = some (some (.builtin "BaseException.__getattribute__")))
    (xgg8 : PySem.W.findIn K (.ref B8) "__getattr__" = some none)
    (xca8 : PySem.W.findIn K (.ref B8) "__class__" = some (some (.builtin "object.__class__")))
    (xmo8 : PySem.W.mroIn K B8 (.type "object") = some true)
    (xmv8 : PySem.W.mroIn K B8 (.type "ValueError") = some true)
    (xis8 : PySem.W.isClsIn K B8 = true)
    (xiB8 : PySem.W.findIn K (.ref B8) "__init__" = some (some (.ref fX8)))
    (xtf8 : PySem.W.typeIn K (.ref fX8) = some (.type "function"))
    (lX8 : K.lookup fX8 = some ⟨ocX8, odX8, .func (PySem.W.fnOf "__init__" "NoTie.__init__" (defArgs s_NoTie___init) (defBody s_NoTie___init) (defScope s_NoTie___init) .none kVX8 dcX8 pmX8 anX8 cdX8 ctX8), slX8⟩)
    (cX8 : PySem.W.codeIn K cdX8 "NoTie.__init__" = true)
    (kX8 : PySem.W.keepIn K (.ref fX8) = true)
    (xkC8 : PySem.W.keepIn K (.ref B8) = true)
    (xeC8 : PySem.W.subIn K (.ref B8) (.type "BaseException") = some true)
    (xtC8 : PySem.W.typeIn K (.ref B8) = some (.type "type"))
    (dbC8 : PySem.W.subIn K (.ref B8) (.ref DE) = some true)
    (aB9 : PySem.W.nsIn K mainGlobals "NoStanding" = some (some (.ref B9)))
    (xL9 : K.lookup B9 = some (excClassObj nm9 q9 B9 N9 bs9 [.ref DE, .type "ValueError", .type "Exception", .type "BaseException", .type "object"] true sn9 sub9 ab9 col9 dd9 m09 m19 m29 m39 m59 "ValueError.__new__"))
    (xsa9 : PySem.W.findIn K (.ref B9) "__setattr__" = some (some (.builtin "object.__setattr__")))
    (xga9 : PySem.W.findIn K (.ref B9) "__getattribute__" = some (some (.builtin "BaseException.__getattribute__")))
    (xgg9 : PySem.W.findIn K (.ref B9) "__getattr__" = some none)
    (xca9 : PySem.W.findIn K (.ref B9) "__class__" = some (some (.builtin "object.__class__")))
    (xmo9 : PySem.W.mroIn K B9 (.type "object") = some true)
    (xmv9 : PySem.W.mroIn K B9 (.type "ValueError") = some true)
    (xis9 : PySem.W.isClsIn K B9 = true)
    (xiB9 : PySem.W.findIn K (.ref B9) "__init__" = some (some (.ref fX9)))
    (xtf9 : PySem.W.typeIn K (.ref fX9) = some (.type "function"))
    (lX9 : K.lookup fX9 = some ⟨ocX9, odX9, .func (PySem.W.fnOf "__init__" "NoStanding.__init__" (defArgs s_NoStanding___init) (defBody s_NoStanding___init) (defScope s_NoStanding___init) .none kVX9 dcX9 pmX9 anX9 cdX9 ctX9), slX9⟩)
    (cX9 : PySem.W.codeIn K cdX9 "NoStanding.__init__" = true)
    (kX9 : PySem.W.keepIn K (.ref fX9) = true)
    (xkC9 : PySem.W.keepIn K (.ref B9) = true)
    (xeC9 : PySem.W.subIn K (.ref B9) (.type "BaseException") = some true)
    (xtC9 : PySem.W.typeIn K (.ref B9) = some (.type "type"))
    (dbC9 : PySem.W.subIn K (.ref B9) (.ref DE) = some true)
    (aB10 : PySem.W.nsIn K mainGlobals "NoTurn" = some (some (.ref B10)))
    (xL10 : K.lookup B10 = some (excClassObj nm10 q10 B10 N10 bs10 [.ref DE, .type "ValueError", .type "Exception", .type "BaseException", .type "object"] true sn10 sub10 ab10 col10 dd10 m010 m110 m210 m310 m510 "ValueError.__new__"))
    (xsa10 : PySem.W.findIn K (.ref B10) "__setattr__" = some (some (.builtin "object.__setattr__")))
    (xga10 : PySem.W.findIn K (.ref B10) "__getattribute__" = some (some (.builtin "BaseException.__getattribute__")))
    (xgg10 : PySem.W.findIn K (.ref B10) "__getattr__" = some none)
    (xca10 : PySem.W.findIn K (.ref B10) "__class__" = some (some (.builtin "object.__class__")))
    (xmo10 : PySem.W.mroIn K B10 (.type "object") = some true)
    (xmv10 : PySem.W.mroIn K B10 (.type "ValueError") = some true)
    (xis10 : PySem.W.isClsIn K B10 = true)
    (xiB10 : PySem.W.findIn K (.ref B10) "__init__" = some (some (.ref fX10)))
    (xtf10 : PySem.W.typeIn K (.ref fX10) = some (.type "function"))
    (lX10 : K.lookup fX10 = some ⟨ocX10, odX10, .func (PySem.W.fnOf "__init__" "NoTurn.__init__" (defArgs s_NoTurn___init) (defBody s_NoTurn___init) (defScope s_NoTurn___init) .none kVX10 dcX10 pmX10 anX10 cdX10 ctX10), slX10⟩)
    (cX10 : PySem.W.codeIn K cdX10 "NoTurn.__init__" = true)
    (kX10 : PySem.W.keepIn K (.ref fX10) = true)
    (xkC10 : PySem.W.keepIn K (.ref B10) = true)
    (xeC10 : PySem.W.subIn K (.ref B10) (.type "BaseException") = some true)
    (xtC10 : PySem.W.typeIn K (.ref B10) = some (.type "type"))
    (dbC10 : PySem.W.subIn K (.ref B10) (.ref DE) = some true)
    (aB11 : PySem.W.nsIn K mainGlobals "NoCustom" = some (some (.ref B11)))
    (xL11 : K.lookup B11 = some (excClassObj nm11 q11 B11 N11 bs11 [.ref DE, .type "ValueError", .type "Exception", .type "BaseException", .type "object"] true sn11 sub11 ab11 col11 dd11 m011 m111 m211 m311 m511 "ValueError.__new__"))
    (xsa11 : PySem.W.findIn K (.ref B11) "__setattr__" = some (some (.builtin "object.__setattr__")))
    (xga11 : PySem.W.findIn K (.ref B11) "__getattribute__" = some (some (.builtin "BaseException.__getattribute__")))
    (xgg11 : PySem.W.findIn K (.ref B11) "__getattr__" = some none)
    (xca11 : PySem.W.findIn K (.ref B11) "__class__" = some (some (.builtin "object.__class__")))
    (xmo11 : PySem.W.mroIn K B11 (.type "object") = some true)
    (xmv11 : PySem.W.mroIn K B11 (.type "ValueError") = some true)
    (xis11 : PySem.W.isClsIn K B11 = true)
    (xiB11 : PySem.W.findIn K (.ref B11) "__init__" = some (some (.ref fX11)))
    (xtf11 : PySem.W.typeIn K (.ref fX11) = some (.type "function"))
    (lX11 : K.lookup fX11 = some ⟨ocX11, odX11, .func (PySem.W.fnOf "__init__" "NoCustom.__init__" (defArgs s_NoCustom___init) (defBody s_NoCustom___init) (defScope s_NoCustom___init) .none kVX11 dcX11 pmX11 anX11 cdX11 ctX11), slX11⟩)
    (cX11 : PySem.W.codeIn K cdX11 "NoCustom.__init__" = true)
    (kX11 : PySem.W.keepIn K (.ref fX11) = true)
    (xkC11 : PySem.W.keepIn K (.ref B11) = true)
    (xeC11 : PySem.W.subIn K (.ref B11) (.type "BaseException") = some true)
    (xtC11 : PySem.W.typeIn K (.ref B11) = some (.type "type"))
    (dbC11 : PySem.W.subIn K (.ref B11) (.ref DE) = some true)
    (aB12 : PySem.W.nsIn K mainGlobals "NoFraction" = some (some (.ref B12)))
    (xL12 : K.lookup B12 = some (excClassObj nm12 q12 B12 N12 bs12 [.ref DE, .type "ValueError", .type "Exception", .type "BaseException", .type "object"] true sn12 sub12 ab12 col12 dd12 m012 m112 m212 m312 m512 "ValueError.__new__"))
    (xsa12 : PySem.W.findIn K (.ref B12) "__setattr__" = some (some (.builtin "object.__setattr__")))
    (xga12 : PySem.W.findIn K (.ref B12) "__getattribute__" = some (some (.builtin "BaseException.__getattribute__")))
    (xgg12 : PySem.W.findIn K (.ref B12) "__getattr__" = some none)
    (xca12 : PySem.W.findIn K (.ref B12) "__class__" = some (some (.builtin "object.__class__")))
    (xmo12 : PySem.W.mroIn K B12 (.type "object") = some true)
    (xmv12 : PySem.W.mroIn K B12 (.type "ValueError") = some true)
    (xis12 : PySem.W.isClsIn K B12 = true)
    (xiB12 : PySem.W.findIn K (.ref B12) "__init__" = some (some (.ref fX12)))
    (xtf12 : PySem.W.typeIn K (.ref fX12) = some (.type "function"))
    (lX12 : K.lookup fX12 = some ⟨ocX12, odX12, .func (PySem.W.fnOf "__init__" "NoFraction.__init__" (defArgs s_NoFraction___init) (defBody s_NoFraction___init) (defScope s_NoFraction___init) .none kVX12 dcX12 pmX12 anX12 cdX12 ctX12), slX12⟩)
    (cX12 : PySem.W.codeIn K cdX12 "NoFraction.__init__" = true)
    (kX12 : PySem.W.keepIn K (.ref fX12) = true)
    (xkC12 : PySem.W.keepIn K (.ref B12) = true)
    (xeC12 : PySem.W.subIn K (.ref B12) (.type "BaseException") = some true)
    (xtC12 : PySem.W.typeIn K (.ref B12) = some (.type "type"))
    (dbC12 : PySem.W.subIn K (.ref B12) (.ref DE) = some true)
    (aB13 : PySem.W.nsIn K mainGlobals "NoBook" = some (some (.ref B13)))
    (xL13 : K.lookup B13 = some (excClassObj nm13 q13 B13 N13 bs13 [.ref DE, .type "ValueError", .type "Exception", .type "BaseException", .type "object"] true sn13 sub13 ab13 col13 dd13 m013 m113 m213 m313 m513 "ValueError.__new__"))
    (xsa13 : PySem.W.findIn K (.ref B13) "__setattr__" = some (some (.builtin "object.__setattr__")))
    (xga13 : PySem.W.findIn K (.ref B13) "__getattribute__" = some (some (.builtin "BaseException.__getattribute__")))
    (xgg13 : PySem.W.findIn K (.ref B13) "__getattr__" = some none)
    (xca13 : PySem.W.findIn K (.ref B13) "__class__" = some (some (.builtin "object.__class__")))
    (xmo13 : PySem.W.mroIn K B13 (.type "object") = some true)
    (xmv13 : PySem.W.mroIn K B13 (.type "ValueError") = some true)
    (xis13 : PySem.W.isClsIn K B13 = true)
    (xiB13 : PySem.W.findIn K (.ref B13) "__init__" = some (some (.ref fX13)))
    (xtf13 : PySem.W.typeIn K (.ref fX13) = some (.type "function"))
    (lX13 : K.lookup fX13 = some ⟨ocX13, odX13, .func (PySem.W.fnOf "__init__" "NoBook.__init__" (defArgs s_NoBook___init) (defBody s_NoBook___init) (defScope s_NoBook___init) .none kVX13 dcX13 pmX13 anX13 cdX13 ctX13), slX13⟩)
    (cX13 : PySem.W.codeIn K cdX13 "NoBook.__init__" = true)
    (kX13 : PySem.W.keepIn K (.ref fX13) = true)
    (xkC13 : PySem.W.keepIn K (.ref B13) = true)
    (xeC13 : PySem.W.subIn K (.ref B13) (.type "BaseException") = some true)
    (xtC13 : PySem.W.typeIn K (.ref B13) = some (.type "type"))
    (dbC13 : PySem.W.subIn K (.ref B13) (.ref DE) = some true)
    (aB14 : PySem.W.nsIn K mainGlobals "NoHistory" = some (some (.ref B14)))
    (xL14 : K.lookup B14 = some (excClassObj nm14 q14 B14 N14 bs14 [.ref DE, .type "ValueError", .type "Exception", .type "BaseException", .type "object"] true sn14 sub14 ab14 col14 dd14 m014 m114 m214 m314 m514 "ValueError.__new__"))
    (xsa14 : PySem.W.findIn K (.ref B14) "__setattr__" = some (some (.builtin "object.__setattr__")))
    (xga14 : PySem.W.findIn K (.ref B14) "__getattribute__" = some (some (.builtin "BaseException.__getattribute__")))
    (xgg14 : PySem.W.findIn K (.ref B14) "__getattr__" = some none)
    (xca14 : PySem.W.findIn K (.ref B14) "__class__" = some (some (.builtin "object.__class__")))
    (xmo14 : PySem.W.mroIn K B14 (.type "object") = some true)
    (xmv14 : PySem.W.mroIn K B14 (.type "ValueError") = some true)
    (xis14 : PySem.W.isClsIn K B14 = true)
    (xiB14 : PySem.W.findIn K (.ref B14) "__init__" = some (some (.ref fX14)))
    (xtf14 : PySem.W.typeIn K (.ref fX14) = some (.type "function"))
    (lX14 : K.lookup fX14 = some ⟨ocX14, odX14, .func (PySem.W.fnOf "__init__" "NoHistory.__init__" (defArgs s_NoHistory___init) (defBody s_NoHistory___init) (defScope s_NoHistory___init) .none kVX14 dcX14 pmX14 anX14 cdX14 ctX14), slX14⟩)
    (cX14 : PySem.W.codeIn K cdX14 "NoHistory.__init__" = true)
    (kX14 : PySem.W.keepIn K (.ref fX14) = true)
    (xkC14 : PySem.W.keepIn K (.ref B14) = true)
    (xeC14 : PySem.W.subIn K (.ref B14) (.type "BaseException") = some true)
    (xtC14 : PySem.W.typeIn K (.ref B14) = some (.type "type"))
    (dbC14 : PySem.W.subIn K (.ref B14) (.ref DE) = some true)
    (aB15 : PySem.W.nsIn K mainGlobals "NoTickets" = some (some (.ref B15)))
    (xL15 : K.lookup B15 = some (excClassObj nm15 q15 B15 N15 bs15 [.ref DE, .type "ValueError", .type "Exception", .type "BaseException", .type "object"] true sn15 sub15 ab15 col15 dd15 m015 m115 m215 m315 m515 "ValueError.__new__"))
    (xsa15 : PySem.W.findIn K (.ref B15) "__setattr__" = some (some (.builtin "object.__setattr__")))
    (xga15 : PySem.W.findIn K (.ref B15) "__getattribute__" = some (some (.builtin "BaseException.__getattribute__")))
    (xgg15 : PySem.W.findIn K (.ref B15) "__getattr__" = some none)
    (xca15 : PySem.W.findIn K (.ref B15) "__class__" = some (some (.builtin "object.__class__")))
    (xmo15 : PySem.W.mroIn K B15 (.type "object") = some true)
    (xmv15 : PySem.W.mroIn K B15 (.type "ValueError") = some true)
    (xis15 : PySem.W.isClsIn K B15 = true)
    (xiB15 : PySem.W.findIn K (.ref B15) "__init__" = some (some (.ref fX15)))
    (xtf15 : PySem.W.typeIn K (.ref fX15) = some (.type "function"))
    (lX15 : K.lookup fX15 = some ⟨ocX15, odX15, .func (PySem.W.fnOf "__init__" "NoTickets.__init__" (defArgs s_NoTickets___init) (defBody s_NoTickets___init) (defScope s_NoTickets___init) .none kVX15 dcX15 pmX15 anX15 cdX15 ctX15), slX15⟩)
    (cX15 : PySem.W.codeIn K cdX15 "NoTickets.__init__" = true)
    (kX15 : PySem.W.keepIn K (.ref fX15) = true)
    (xkC15 : PySem.W.keepIn K (.ref B15) = true)
    (xeC15 : PySem.W.subIn K (.ref B15) (.type "BaseException") = some true)
    (xtC15 : PySem.W.typeIn K (.ref B15) = some (.type "type"))
    (dbC15 : PySem.W.subIn K (.ref B15) (.ref DE) = some true)
    (aB16 : PySem.W.nsIn K mainGlobals "NoSteps" = some (some (.ref B16)))
    (xL16 : K.lookup B16 = some (excClassObj nm16 q16 B16 N16 bs16 [.ref DE, .type "ValueError", .type "Exception", .type "BaseException", .type "object"] true sn16 sub16 ab16 col16 dd16 m016 m116 m216 m316 m516 "ValueError.__new__"))
    (xsa16 : PySem.W.findIn K (.ref B16) "__setattr__" = some (some (.builtin "object.__setattr__")))
    (xga16 : PySem.W.findIn K (.ref B16) "__getattribute__" = some (some (.builtin "BaseException.__getattribute__")))
    (xgg16 : PySem.W.findIn K (.ref B16) "__getattr__" = some none)
    (xca16 : PySem.W.findIn K (.ref B16) "__class__" = some (some (.builtin "object.__class__")))
    (xmo16 : PySem.W.mroIn K B16 (.type "object") = some true)
    (xmv16 : PySem.W.mroIn K B16 (.type "ValueError") = some true)
    (xis16 : PySem.W.isClsIn K B16 = true)
    (xiB16 : PySem.W.findIn K (.ref B16) "__init__" = some (some (.ref fX16)))
    (xtf16 : PySem.W.typeIn K (.ref fX16) = some (.type "function"))
    (lX16 : K.lookup fX16 = some ⟨ocX16, odX16, .func (PySem.W.fnOf "__init__" "NoSteps.__init__" (defArgs s_NoSteps___init) (defBody s_NoSteps___init) (defScope s_NoSteps___init) .none kVX16 dcX16 pmX16 anX16 cdX16 ctX16), slX16⟩)
    (cX16 : PySem.W.codeIn K cdX16 "NoSteps.__init__" = true)
    (kX16 : PySem.W.keepIn K (.ref fX16) = true)
    (xkC16 : PySem.W.keepIn K (.ref B16) = true)
    (xeC16 : PySem.W.subIn K (.ref B16) (.type "BaseException") = some true)
    (xtC16 : PySem.W.typeIn K (.ref B16) = some (.type "type"))
    (dbC16 : PySem.W.subIn K (.ref B16) (.ref DE) = some true)
    (aB17 : PySem.W.nsIn K mainGlobals "NoChances" = some (some (.ref B17)))
    (xL17 : K.lookup B17 = some (excClassObj nm17 q17 B17 N17 bs17 [.ref DE, .type "ValueError", .type "Exception", .type "BaseException", .type "object"] true sn17 sub17 ab17 col17 dd17 m017 m117 m217 m317 m517 "ValueError.__new__"))
    (xsa17 : PySem.W.findIn K (.ref B17) "__setattr__" = some (some (.builtin "object.__setattr__")))
    (xga17 : PySem.W.findIn K (.ref B17) "__getattribute__" = some (some (.builtin "BaseException.__getattribute__")))
    (xgg17 : PySem.W.findIn K (.ref B17) "__getattr__" = some none)
    (xca17 : PySem.W.findIn K (.ref B17) "__class__" = some (some (.builtin "object.__class__")))
    (xmo17 : PySem.W.mroIn K B17 (.type "object") = some true)
    (xmv17 : PySem.W.mroIn K B17 (.type "ValueError") = some true)
    (xis17 : PySem.W.isClsIn K B17 = true)
    (xiB17 : PySem.W.findIn K (.ref B17) "__init__" = some (some (.ref fX17)))
    (xtf17 : PySem.W.typeIn K (.ref fX17) = some (.type "function"))
    (lX17 : K.lookup fX17 = some ⟨ocX17, odX17, .func (PySem.W.fnOf "__init__" "NoChances.__init__" (defArgs s_NoChances___init) (defBody s_NoChances___init) (defScope s_NoChances___init) .none kVX17 dcX17 pmX17 anX17 cdX17 ctX17), slX17⟩)
    (cX17 : PySem.W.codeIn K cdX17 "NoChances.__init__" = true)
    (kX17 : PySem.W.keepIn K (.ref fX17) = true)
    (xkC17 : PySem.W.keepIn K (.ref B17) = true)
    (xeC17 : PySem.W.subIn K (.ref B17) (.type "BaseException") = some true)
    (xtC17 : PySem.W.typeIn K (.ref B17) = some (.type "type"))
    (dbC17 : PySem.W.subIn K (.ref B17) (.ref DE) = some true)
    (aB18 : PySem.W.nsIn K mainGlobals "NoPrices" = some (some (.ref B18)))
    (xL18 : K.lookup B18 = some (excClassObj nm18 q18 B18 N18 bs18 [.ref DE, .type "ValueError", .type "Exception", .type "BaseException", .type "object"] true sn18 sub18 ab18 col18 dd18 m018 m118 m218 m318 m518 "ValueError.__new__"))
    (xsa18 : PySem.W.findIn K (.ref B18) "__setattr__" = some (some (.builtin "object.__setattr__")))
    (xga18 : PySem.W.findIn K (.ref B18) "__getattribute__" = some (some (.builtin "BaseException.__getattribute__")))
    (xgg18 : PySem.W.findIn K (.ref B18) "__getattr__" = some none)
    (xca18 : PySem.W.findIn K (.ref B18) "__class__" = some (some (.builtin "object.__class__")))
    (xmo18 : PySem.W.mroIn K B18 (.type "object") = some true)
    (xmv18 : PySem.W.mroIn K B18 (.type "ValueError") = some true)
    (xis18 : PySem.W.isClsIn K B18 = true)
    (xiB18 : PySem.W.findIn K (.ref B18) "__init__" = some (some (.ref fX18)))
    (xtf18 : PySem.W.typeIn K (.ref fX18) = some (.type "function"))
    (lX18 : K.lookup fX18 = some ⟨ocX18, odX18, .func (PySem.W.fnOf "__init__" "NoPrices.__init__" (defArgs s_NoPrices___init) (defBody s_NoPrices___init) (defScope s_NoPrices___init) .none kVX18 dcX18 pmX18 anX18 cdX18 ctX18), slX18⟩)
    (cX18 : PySem.W.codeIn K cdX18 "NoPrices.__init__" = true)
    (kX18 : PySem.W.keepIn K (.ref fX18) = true)
    (xkC18 : PySem.W.keepIn K (.ref B18) = true)
    (xeC18 : PySem.W.subIn K (.ref B18) (.type "BaseException") = some true)
    (xtC18 : PySem.W.typeIn K (.ref B18) = some (.type "type"))
    (dbC18 : PySem.W.subIn K (.ref B18) (.ref DE) = some true)
    (aB19 : PySem.W.nsIn K mainGlobals "Empty" = some (some (.ref B19)))
    (xL19 : K.lookup B19 = some (excClassObj nm19 q19 B19 N19 bs19 [.ref DE, .type "ValueError", .type "Exception", .type "BaseException", .type "object"] true sn19 sub19 ab19 col19 dd19 m019 m119 m219 m319 m519 "ValueError.__new__"))
    (xsa19 : PySem.W.findIn K (.ref B19) "__setattr__" = some (some (.builtin "object.__setattr__")))
    (xga19 : PySem.W.findIn K (.ref B19) "__getattribute__" = some (some (.builtin "BaseException.__getattribute__")))
    (xgg19 : PySem.W.findIn K (.ref B19) "__getattr__" = some none)
    (xca19 : PySem.W.findIn K (.ref B19) "__class__" = some (some (.builtin "object.__class__")))
    (xmo19 : PySem.W.mroIn K B19 (.type "object") = some true)
    (xmv19 : PySem.W.mroIn K B19 (.type "ValueError") = some true)
    (xis19 : PySem.W.isClsIn K B19 = true)
    (xiB19 : PySem.W.findIn K (.ref B19) "__init__" = some (some (.ref fX19)))
    (xtf19 : PySem.W.typeIn K (.ref fX19) = some (.type "function"))
    (lX19 : K.lookup fX19 = some ⟨ocX19, odX19, .func (PySem.W.fnOf "__init__" "Empty.__init__" (defArgs s_Empty___init) (defBody s_Empty___init) (defScope s_Empty___init) .none kVX19 dcX19 pmX19 anX19 cdX19 ctX19), slX19⟩)
    (cX19 : PySem.W.codeIn K cdX19 "Empty.__init__" = true)
    (kX19 : PySem.W.keepIn K (.ref fX19) = true)
    (xkC19 : PySem.W.keepIn K (.ref B19) = true)
    (xeC19 : PySem.W.subIn K (.ref B19) (.type "BaseException") = some true)
    (xtC19 : PySem.W.typeIn K (.ref B19) = some (.type "type"))
    (dbC19 : PySem.W.subIn K (.ref B19) (.ref DE) = some true)
    (aB20 : PySem.W.nsIn K mainGlobals "NoSizes" = some (some (.ref B20)))
    (xL20 : K.lookup B20 = some (excClassObj nm20 q20 B20 N20 bs20 [.ref DE, .type "ValueError", .type "Exception", .type "BaseException", .type "object"] true sn20 sub20 ab20 col20 dd20 m020 m120 m220 m320 m520 "ValueError.__new__"))
    (xsa20 : PySem.W.findIn K (.ref B20) "__setattr__" = some (some (.builtin "object.__setattr__")))
    (xga20 : PySem.W.findIn K (.ref B20) "__getattribute__" = some (some (.builtin "BaseException.__getattribute__")))
    (xgg20 : PySem.W.findIn K (.ref B20) "__getattr__" = some none)
    (xca20 : PySem.W.findIn K (.ref B20) "__class__" = some (some (.builtin "object.__class__")))
    (xmo20 : PySem.W.mroIn K B20 (.type "object") = some true)
    (xmv20 : PySem.W.mroIn K B20 (.type "ValueError") = some true)
    (xis20 : PySem.W.isClsIn K B20 = true)
    (xiB20 : PySem.W.findIn K (.ref B20) "__init__" = some (some (.ref fX20)))
    (xtf20 : PySem.W.typeIn K (.ref fX20) = some (.type "function"))
    (lX20 : K.lookup fX20 = some ⟨ocX20, odX20, .func (PySem.W.fnOf "__init__" "NoSizes.__init__" (defArgs s_NoSizes___init) (defBody s_NoSizes___init) (defScope s_NoSizes___init) .none kVX20 dcX20 pmX20 anX20 cdX20 ctX20), slX20⟩)
    (cX20 : PySem.W.codeIn K cdX20 "NoSizes.__init__" = true)
    (kX20 : PySem.W.keepIn K (.ref fX20) = true)
    (xkC20 : PySem.W.keepIn K (.ref B20) = true)
    (xeC20 : PySem.W.subIn K (.ref B20) (.type "BaseException") = some true)
    (xtC20 : PySem.W.typeIn K (.ref B20) = some (.type "type"))
    (dbC20 : PySem.W.subIn K (.ref B20) (.ref DE) = some true)
    (aB21 : PySem.W.nsIn K mainGlobals "NoLooks" = some (some (.ref B21)))
    (xL21 : K.lookup B21 = some (excClassObj nm21 q21 B21 N21 bs21 [.ref DE, .type "ValueError", .type "Exception", .type "BaseException", .type "object"] true sn21 sub21 ab21 col21 dd21 m021 m121 m221 m321 m521 "ValueError.__new__"))
    (xsa21 : PySem.W.findIn K (.ref B21) "__setattr__" = some (some (.builtin "object.__setattr__")))
    (xga21 : PySem.W.findIn K (.ref B21) "__getattribute__" = some (some (.builtin "BaseException.__getattribute__")))
    (xgg21 : PySem.W.findIn K (.ref B21) "__getattr__" = some none)
    (xca21 : PySem.W.findIn K (.ref B21) "__class__" = some (some (.builtin "object.__class__")))
    (xmo21 : PySem.W.mroIn K B21 (.type "object") = some true)
    (xmv21 : PySem.W.mroIn K B21 (.type "ValueError") = some true)
    (xis21 : PySem.W.isClsIn K B21 = true)
    (xiB21 : PySem.W.findIn K (.ref B21) "__init__" = some (some (.ref fX21)))
    (xtf21 : PySem.W.typeIn K (.ref fX21) = some (.type "function"))
    (lX21 : K.lookup fX21 = some ⟨ocX21, odX21, .func (PySem.W.fnOf "__init__" "NoLooks.__init__" (defArgs s_NoLooks___init) (defBody s_NoLooks___init) (defScope s_NoLooks___init) .none kVX21 dcX21 pmX21 anX21 cdX21 ctX21), slX21⟩)
    (cX21 : PySem.W.codeIn K cdX21 "NoLooks.__init__" = true)
    (kX21 : PySem.W.keepIn K (.ref fX21) = true)
    (xkC21 : PySem.W.keepIn K (.ref B21) = true)
    (xeC21 : PySem.W.subIn K (.ref B21) (.type "BaseException") = some true)
    (xtC21 : PySem.W.typeIn K (.ref B21) = some (.type "type"))
    (dbC21 : PySem.W.subIn K (.ref B21) (.ref DE) = some true)
    (aB22 : PySem.W.nsIn K mainGlobals "NoOutcome" = some (some (.ref B22)))
    (xL22 : K.lookup B22 = some (excClassObj nm22 q22 B22 N22 bs22 [.ref DE, .type "ValueError", .type "Exception", .type "BaseException", .type "object"] true sn22 sub22 ab22 col22 dd22 m022 m122 m222 m322 m522 "ValueError.__new__"))
    (xsa22 : PySem.W.findIn K (.ref B22) "__setattr__" = some (some (.builtin "object.__setattr__")))
    (xga22 : PySem.W.findIn K (.ref B22) "__getattribute__" = some (some (.builtin "BaseException.__getattribute__")))
    (xgg22 : PySem.W.findIn K (.ref B22) "__getattr__" = some none)
    (xca22 : PySem.W.findIn K (.ref B22) "__class__" = some (some (.builtin "object.__class__")))
    (xmo22 : PySem.W.mroIn K B22 (.type "object") = some true)
    (xmv22 : PySem.W.mroIn K B22 (.type "ValueError") = some true)
    (xis22 : PySem.W.isClsIn K B22 = true)
    (xiB22 : PySem.W.findIn K (.ref B22) "__init__" = some (some (.ref fX22)))
    (xtf22 : PySem.W.typeIn K (.ref fX22) = some (.type "function"))
    (lX22 : K.lookup fX22 = some ⟨ocX22, odX22, .func (PySem.W.fnOf "__init__" "NoOutcome.__init__" (defArgs s_NoOutcome___init) (defBody s_NoOutcome___init) (defScope s_NoOutcome___init) .none kVX22 dcX22 pmX22 anX22 cdX22 ctX22), slX22⟩)
    (cX22 : PySem.W.codeIn K cdX22 "NoOutcome.__init__" = true)
    (kX22 : PySem.W.keepIn K (.ref fX22) = true)
    (xkC22 : PySem.W.keepIn K (.ref B22) = true)
    (xeC22 : PySem.W.subIn K (.ref B22) (.type "BaseException") = some true)
    (xtC22 : PySem.W.typeIn K (.ref B22) = some (.type "type"))
    (dbC22 : PySem.W.subIn K (.ref B22) (.ref DE) = some true)
    (aB23 : PySem.W.nsIn K mainGlobals "NoComer" = some (some (.ref B23)))
    (xL23 : K.lookup B23 = some (excClassObj nm23 q23 B23 N23 bs23 [.ref DE, .type "ValueError", .type "Exception", .type "BaseException", .type "object"] true sn23 sub23 ab23 col23 dd23 m023 m123 m223 m323 m523 "ValueError.__new__"))
    (xsa23 : PySem.W.findIn K (.ref B23) "__setattr__" = some (some (.builtin "object.__setattr__")))
    (xga23 : PySem.W.findIn K (.ref B23) "__getattribute__" = some (some (.builtin "BaseException.__getattribute__")))
    (xgg23 : PySem.W.findIn K (.ref B23) "__getattr__" = some none)
    (xca23 : PySem.W.findIn K (.ref B23) "__class__" = some (some (.builtin "object.__class__")))
    (xmo23 : PySem.W.mroIn K B23 (.type "object") = some true)
    (xmv23 : PySem.W.mroIn K B23 (.type "ValueError") = some true)
    (xis23 : PySem.W.isClsIn K B23 = true)
    (xiB23 : PySem.W.findIn K (.ref B23) "__init__" = some (some (.ref fX23)))
    (xtf23 : PySem.W.typeIn K (.ref fX23) = some (.type "function"))
    (lX23 : K.lookup fX23 = some ⟨ocX23, odX23, .func (PySem.W.fnOf "__init__" "NoComer.__init__" (defArgs s_NoComer___init) (defBody s_NoComer___init) (defScope s_NoComer___init) .none kVX23 dcX23 pmX23 anX23 cdX23 ctX23), slX23⟩)
    (cX23 : PySem.W.codeIn K cdX23 "NoComer.__init__" = true)
    (kX23 : PySem.W.keepIn K (.ref fX23) = true)
    (xkC23 : PySem.W.keepIn K (.ref B23) = true)
    (xeC23 : PySem.W.subIn K (.ref B23) (.type "BaseException") = some true)
    (xtC23 : PySem.W.typeIn K (.ref B23) = some (.type "type"))
    (dbC23 : PySem.W.subIn K (.ref B23) (.ref DE) = some true)
    (aB24 : PySem.W.nsIn K mainGlobals "NotOpen" = some (some (.ref B24)))
    (xL24 : K.lookup B24 = some (excClassObj nm24 q24 B24 N24 bs24 [.ref DE, .type "ValueError", .type "Exception", .type "BaseException", .type "object"] true sn24 sub24 ab24 col24 dd24 m024 m124 m224 m324 m524 "ValueError.__new__"))
    (xsa24 : PySem.W.findIn K (.ref B24) "__setattr__" = some (some (.builtin "object.__setattr__")))
    (xga24 : PySem.W.findIn K (.ref B24) "__getattribute__" = some (some (.builtin "BaseException.__getattribute__")))
    (xgg24 : PySem.W.findIn K (.ref B24) "__getattr__" = some none)
    (xca24 : PySem.W.findIn K (.ref B24) "__class__" = some (some (.builtin "object.__class__")))
    (xmo24 : PySem.W.mroIn K B24 (.type "object") = some true)
    (xmv24 : PySem.W.mroIn K B24 (.type "ValueError") = some true)
    (xis24 : PySem.W.isClsIn K B24 = true)
    (xiB24 : PySem.W.findIn K (.ref B24) "__init__" = some (some (.ref fX24)))
    (xtf24 : PySem.W.typeIn K (.ref fX24) = some (.type "function"))
    (lX24 : K.lookup fX24 = some ⟨ocX24, odX24, .func (PySem.W.fnOf "__init__" "NotOpen.__init__" (defArgs s_NotOpen___init) (defBody s_NotOpen___init) (defScope s_NotOpen___init) .none kVX24 dcX24 pmX24 anX24 cdX24 ctX24), slX24⟩)
    (cX24 : PySem.W.codeIn K cdX24 "NotOpen.__init__" = true)
    (kX24 : PySem.W.keepIn K (.ref fX24) = true)
    (xkC24 : PySem.W.keepIn K (.ref B24) = true)
    (xeC24 : PySem.W.subIn K (.ref B24) (.type "BaseException") = some true)
    (xtC24 : PySem.W.typeIn K (.ref B24) = some (.type "type"))
    (dbC24 : PySem.W.subIn K (.ref B24) (.ref DE) = some true)
    (aB25 : PySem.W.nsIn K mainGlobals "NothingDone" = some (some (.ref B25)))
    (xL25 : K.lookup B25 = some (excClassObj nm25 q25 B25 N25 bs25 [.ref DE, .type "ValueError", .type "Exception", .type "BaseException", .type "object"] true sn25 sub25 ab25 col25 dd25 m025 m125 m225 m325 m525 "ValueError.__new__"))
    (xsa25 : PySem.W.findIn K (.ref B25) "__setattr__" = some (some (.builtin "object.__setattr__")))
    (xga25 : PySem.W.findIn K (.ref B25) "__getattribute__" = some (some (.builtin "BaseException.__getattribute__")))
    (xgg25 : PySem.W.findIn K (.ref B25) "__getattr__" = some none)
    (xca25 : PySem.W.findIn K (.ref B25) "__class__" = some (some (.builtin "object.__class__")))
    (xmo25 : PySem.W.mroIn K B25 (.type "object") = some true)
    (xmv25 : PySem.W.mroIn K B25 (.type "ValueError") = some true)
    (xis25 : PySem.W.isClsIn K B25 = true)
    (xiB25 : PySem.W.findIn K (.ref B25) "__init__" = some (some (.ref fX25)))
    (xtf25 : PySem.W.typeIn K (.ref fX25) = some (.type "function"))
    (lX25 : K.lookup fX25 = some ⟨ocX25, odX25, .func (PySem.W.fnOf "__init__" "NothingDone.__init__" (defArgs s_NothingDone___init) (defBody s_NothingDone___init) (defScope s_NothingDone___init) .none kVX25 dcX25 pmX25 anX25 cdX25 ctX25), slX25⟩)
    (cX25 : PySem.W.codeIn K cdX25 "NothingDone.__init__" = true)
    (kX25 : PySem.W.keepIn K (.ref fX25) = true)
    (xkC25 : PySem.W.keepIn K (.ref B25) = true)
    (xeC25 : PySem.W.subIn K (.ref B25) (.type "BaseException") = some true)
    (xtC25 : PySem.W.typeIn K (.ref B25) = some (.type "type"))
    (dbC25 : PySem.W.subIn K (.ref B25) (.ref DE) = some true)
    (aB26 : PySem.W.nsIn K mainGlobals "NoLine" = some (some (.ref B26)))
    (xL26 : K.lookup B26 = some (excClassObj nm26 q26 B26 N26 bs26 [.ref DE, .type "ValueError", .type "Exception", .type "BaseException", .type "object"] true sn26 sub26 ab26 col26 dd26 m026 m126 m226 m326 m526 "ValueError.__new__"))
    (xsa26 : PySem.W.findIn K (.ref B26) "__setattr__" = some (some (.builtin "object.__setattr__")))
    (xga26 : PySem.W.findIn K (.ref B26) "__getattribute__" = some (some (.builtin "BaseException.__getattribute__")))
    (xgg26 : PySem.W.findIn K (.ref B26) "__getattr__" = some none)
    (xca26 : PySem.W.findIn K (.ref B26) "__class__" = some (some (.builtin "object.__class__")))
    (xmo26 : PySem.W.mroIn K B26 (.type "object") = some true)
    (xmv26 : PySem.W.mroIn K B26 (.type "ValueError") = some true)
    (xis26 : PySem.W.isClsIn K B26 = true)
    (xiB26 : PySem.W.findIn K (.ref B26) "__init__" = some (some (.ref fX26)))
    (xtf26 : PySem.W.typeIn K (.ref fX26) = some (.type "function"))
    (lX26 : K.lookup fX26 = some ⟨ocX26, odX26, .func (PySem.W.fnOf "__init__" "NoLine.__init__" (defArgs s_NoLine___init) (defBody s_NoLine___init) (defScope s_NoLine___init) .none kVX26 dcX26 pmX26 anX26 cdX26 ctX26), slX26⟩)
    (cX26 : PySem.W.codeIn K cdX26 "NoLine.__init__" = true)
    (kX26 : PySem.W.keepIn K (.ref fX26) = true)
    (xkC26 : PySem.W.keepIn K (.ref B26) = true)
    (xeC26 : PySem.W.subIn K (.ref B26) (.type "BaseException") = some true)
    (xtC26 : PySem.W.typeIn K (.ref B26) = some (.type "type"))
    (dbC26 : PySem.W.subIn K (.ref B26) (.ref DE) = some true)
    (aB27 : PySem.W.nsIn K mainGlobals "BadTable" = some (some (.ref B27)))
    (xL27 : K.lookup B27 = some (excClassObj nm27 q27 B27 N27 bs27 [.ref DE, .type "ValueError", .type "Exception", .type "BaseException", .type "object"] true sn27 sub27 ab27 col27 dd27 m027 m127 m227 m327 m527 "ValueError.__new__"))
    (xsa27 : PySem.W.findIn K (.ref B27) "__setattr__" = some (some (.builtin "object.__setattr__")))
    (xga27 : PySem.W.findIn K (.ref B27) "__getattribute__" = some (some (.builtin "BaseException.__getattribute__")))
    (xgg27 : PySem.W.findIn K (.ref B27) "__getattr__" = some none)
    (xca27 : PySem.W.findIn K (.ref B27) "__class__" = some (some (.builtin "object.__class__")))
    (xmo27 : PySem.W.mroIn K B27 (.type "object") = some true)
    (xmv27 : PySem.W.mroIn K B27 (.type "ValueError") = some true)
    (xis27 : PySem.W.isClsIn K B27 = true)
    (xiB27 : PySem.W.findIn K (.ref B27) "__init__" = some (some (.ref fX27)))
    (xtf27 : PySem.W.typeIn K (.ref fX27) = some (.type "function"))
    (lX27 : K.lookup fX27 = some ⟨ocX27, odX27, .func (PySem.W.fnOf "__init__" "BadTable.__init__" (defArgs s_BadTable___init) (defBody s_BadTable___init) (defScope s_BadTable___init) .none kVX27 dcX27 pmX27 anX27 cdX27 ctX27), slX27⟩)
    (cX27 : PySem.W.codeIn K cdX27 "BadTable.__init__" = true)
    (kX27 : PySem.W.keepIn K (.ref fX27) = true)
    (xkC27 : PySem.W.keepIn K (.ref B27) = true)
    (xfn27_part : PySem.W.findIn K (.ref B27) "part" = some none)
    (xfn27_at : PySem.W.findIn K (.ref B27) "at" = some none)
    (xhd27 : PySem.W.hasDictIn K B27 = true)
    (xeC27 : PySem.W.subIn K (.ref B27) (.type "BaseException") = some true)
    (xtC27 : PySem.W.typeIn K (.ref B27) = some (.type "type"))
    (dbC27 : PySem.W.subIn K (.ref B27) (.ref DE) = some true)
    (dss27 : PySem.W.subIn K (.ref B27) (.ref B27) = some true)
    (aB28 : PySem.W.nsIn K mainGlobals "BadText" = some (some (.ref B28)))
    (xL28 : K.lookup B28 = some (excClassObj nm28 q28 B28 N28 bs28 [.ref DE, .type "ValueError", .type "Exception", .type "BaseException", .type "object"] true sn28 sub28 ab28 col28 dd28 m028 m128 m228 m328 m528 "ValueError.__new__"))
    (xsa28 : PySem.W.findIn K (.ref B28) "__setattr__" = some (some (.builtin "object.__setattr__")))
    (xga28 : PySem.W.findIn K (.ref B28) "__getattribute__" = some (some (.builtin "BaseException.__getattribute__")))
    (xgg28 : PySem.W.findIn K (.ref B28) "__getattr__" = some none)
    (xca28 : PySem.W.findIn K (.ref B28) "__class__" = some (some (.builtin "object.__class__")))
    (xmo28 : PySem.W.mroIn K B28 (.type "object") = some true)
    (xmv28 : PySem.W.mroIn K B28 (.type "ValueError") = some true)
    (xis28 : PySem.W.isClsIn K B28 = true)
    (xiB28 : PySem.W.findIn K (.ref B28) "__init__" = some (some (.ref fX28)))
    (xtf28 : PySem.W.typeIn K (.ref fX28) = some (.type "function"))
    (lX28 : K.lookup fX28 = some ⟨ocX28, odX28, .func (PySem.W.fnOf "__init__" "BadText.__init__" (defArgs s_BadText___init) (defBody s_BadText___init) (defScope s_BadText___init) .none kVX28 dcX28 pmX28 anX28 cdX28 ctX28), slX28⟩)
    (cX28 : PySem.W.codeIn K cdX28 "BadText.__init__" = true)
    (kX28 : PySem.W.keepIn K (.ref fX28) = true)
    (xkC28 : PySem.W.keepIn K (.ref B28) = true)
    (xfn28 : PySem.W.findIn K (.ref B28) "line" = some none)
    (xhd28 : PySem.W.hasDictIn K B28 = true)
    (xeC28 : PySem.W.subIn K (.ref B28) (.type "BaseException") = some true)
    (xtC28 : PySem.W.typeIn K (.ref B28) = some (.type "type"))
    (dbC28 : PySem.W.subIn K (.ref B28) (.ref DE) = some true)
    (aB29 : PySem.W.nsIn K mainGlobals "TooMany" = some (some (.ref B29)))
    (xL29 : K.lookup B29 = some (excClassObj nm29 q29 B29 N29 bs29 [.ref DE, .type "ValueError", .type "Exception", .type "BaseException", .type "object"] true sn29 sub29 ab29 col29 dd29 m029 m129 m229 m329 m529 "ValueError.__new__"))
    (xsa29 : PySem.W.findIn K (.ref B29) "__setattr__" = some (some (.builtin "object.__setattr__")))
    (xga29 : PySem.W.findIn K (.ref B29) "__getattribute__" = some (some (.builtin "BaseException.__getattribute__")))
    (xgg29 : PySem.W.findIn K (.ref B29) "__getattr__" = some none)
    (xca29 : PySem.W.findIn K (.ref B29) "__class__" = some (some (.builtin "object.__class__")))
    (xmo29 : PySem.W.mroIn K B29 (.type "object") = some true)
    (xmv29 : PySem.W.mroIn K B29 (.type "ValueError") = some true)
    (xis29 : PySem.W.isClsIn K B29 = true)
    (xiB29 : PySem.W.findIn K (.ref B29) "__init__" = some (some (.ref fX29)))
    (xtf29 : PySem.W.typeIn K (.ref fX29) = some (.type "function"))
    (lX29 : K.lookup fX29 = some ⟨ocX29, odX29, .func (PySem.W.fnOf "__init__" "TooMany.__init__" (defArgs s_TooMany___init) (defBody s_TooMany___init) (defScope s_TooMany___init) .none kVX29 dcX29 pmX29 anX29 cdX29 ctX29), slX29⟩)
    (cX29 : PySem.W.codeIn K cdX29 "TooMany.__init__" = true)
    (kX29 : PySem.W.keepIn K (.ref fX29) = true)
    (xkC29 : PySem.W.keepIn K (.ref B29) = true)
    (xfn29 : PySem.W.findIn K (.ref B29) "most" = some none)
    (xhd29 : PySem.W.hasDictIn K B29 = true)
    (xeC29 : PySem.W.subIn K (.ref B29) (.type "BaseException") = some true)
    (xtC29 : PySem.W.typeIn K (.ref B29) = some (.type "type"))
    (dbC29 : PySem.W.subIn K (.ref B29) (.ref DE) = some true)
    (aB30 : PySem.W.nsIn K mainGlobals "BadKinds" = some (some (.ref B30)))
    (xL30 : K.lookup B30 = some (excClassObj nm30 q30 B30 N30 bs30 [.ref DE, .type "ValueError", .type "Exception", .type "BaseException", .type "object"] true sn30 sub30 ab30 col30 dd30 m030 m130 m230 m330 m530 "ValueError.__new__"))
    (xsa30 : PySem.W.findIn K (.ref B30) "__setattr__" = some (some (.builtin "object.__setattr__")))
    (xga30 : PySem.W.findIn K (.ref B30) "__getattribute__" = some (some (.builtin "BaseException.__getattribute__")))
    (xgg30 : PySem.W.findIn K (.ref B30) "__getattr__" = some none)
    (xca30 : PySem.W.findIn K (.ref B30) "__class__" = some (some (.builtin "object.__class__")))
    (xmo30 : PySem.W.mroIn K B30 (.type "object") = some true)
    (xmv30 : PySem.W.mroIn K B30 (.type "ValueError") = some true)
    (xis30 : PySem.W.isClsIn K B30 = true)
    (xiB30 : PySem.W.findIn K (.ref B30) "__init__" = some (some (.ref fX30)))
    (xtf30 : PySem.W.typeIn K (.ref fX30) = some (.type "function"))
    (lX30 : K.lookup fX30 = some ⟨ocX30, odX30, .func (PySem.W.fnOf "__init__" "BadKinds.__init__" (defArgs s_BadKinds___init) (defBody s_BadKinds___init) (defScope s_BadKinds___init) .none kVX30 dcX30 pmX30 anX30 cdX30 ctX30), slX30⟩)
    (cX30 : PySem.W.codeIn K cdX30 "BadKinds.__init__" = true)
    (kX30 : PySem.W.keepIn K (.ref fX30) = true)
    (xkC30 : PySem.W.keepIn K (.ref B30) = true)
    (xfn30 : PySem.W.findIn K (.ref B30) "part" = some none)
    (xhd30 : PySem.W.hasDictIn K B30 = true)
    (xeC30 : PySem.W.subIn K (.ref B30) (.type "BaseException") = some true)
    (xtC30 : PySem.W.typeIn K (.ref B30) = some (.type "type"))
    (dbC30 : PySem.W.subIn K (.ref B30) (.ref DE) = some true)
    (aB31 : PySem.W.nsIn K mainGlobals "NoName" = some (some (.ref B31)))
    (xL31 : K.lookup B31 = some (excClassObj nm31 q31 B31 N31 bs31 [.ref DE, .type "ValueError", .type "Exception", .type "BaseException", .type "object"] true sn31 sub31 ab31 col31 dd31 m031 m131 m231 m331 m531 "ValueError.__new__"))
    (xsa31 : PySem.W.findIn K (.ref B31) "__setattr__" = some (some (.builtin "object.__setattr__")))
    (xga31 : PySem.W.findIn K (.ref B31) "__getattribute__" = some (some (.builtin "BaseException.__getattribute__")))
    (xgg31 : PySem.W.findIn K (.ref B31) "__getattr__" = some none)
    (xca31 : PySem.W.findIn K (.ref B31) "__class__" = some (some (.builtin "object.__class__")))
    (xmo31 : PySem.W.mroIn K B31 (.type "object") = some true)
    (xmv31 : PySem.W.mroIn K B31 (.type "ValueError") = some true)
    (xis31 : PySem.W.isClsIn K B31 = true)
    (xiB31 : PySem.W.findIn K (.ref B31) "__init__" = some (some (.ref fX31)))
    (xtf31 : PySem.W.typeIn K (.ref fX31) = some (.type "function"))
    (lX31 : K.lookup fX31 = some ⟨ocX31, odX31, .func (PySem.W.fnOf "__init__" "NoName.__init__" (defArgs s_NoName___init) (defBody s_NoName___init) (defScope s_NoName___init) .none kVX31 dcX31 pmX31 anX31 cdX31 ctX31), slX31⟩)
    (cX31 : PySem.W.codeIn K cdX31 "NoName.__init__" = true)
    (kX31 : PySem.W.keepIn K (.ref fX31) = true)
    (xkC31 : PySem.W.keepIn K (.ref B31) = true)
    (xfn31 : PySem.W.findIn K (.ref B31) "name" = some none)
    (xhd31 : PySem.W.hasDictIn K B31 = true)
    (xeC31 : PySem.W.subIn K (.ref B31) (.type "BaseException") = some true)
    (xtC31 : PySem.W.typeIn K (.ref B31) = some (.type "type"))
    (dbC31 : PySem.W.subIn K (.ref B31) (.ref DE) = some true)
    (ndD : ([DE, B0, B1, B2, B3, B4, B5, B6, B7, B8, B9, B10, B11, B12, B13, B14, B15, B16, B17, B18, B19, B20, B21, B22, B23, B24, B25, B26, B27, B28, B29, B30, B31] : List Addr).Nodup)
    (thn : PySem.W.specialIn K (.builtin "object.__class__") "__get__" = some (some (.builtin "getset_descriptor.__get__")))
    (thk : PySem.W.takesIn K (.builtin "object.__class__") = some true)
    (z_len : PySem.W.nsIn K mainGlobals "len" = some none)
    (z_list : PySem.W.nsIn K mainGlobals "list" = some none)
    (z_range : PySem.W.nsIn K mainGlobals "range" = some none)
    (z_tuple : PySem.W.nsIn K mainGlobals "tuple" = some none)
    (z_sorted : PySem.W.nsIn K mainGlobals "sorted" = some none)
    (z_int : PySem.W.nsIn K mainGlobals "int" = some none)
    (z_min : PySem.W.nsIn K mainGlobals "min" = some none)
    (z_isinstance : PySem.W.nsIn K mainGlobals "isinstance" = some none)
    (z_all : PySem.W.nsIn K mainGlobals "all" = some none)
    (z_enumerate : PySem.W.nsIn K mainGlobals "enumerate" = some none)
    (z_zip : PySem.W.nsIn K mainGlobals "zip" = some none)
    (z_set : PySem.W.nsIn K mainGlobals "set" = some none)
    (z_repr : PySem.W.nsIn K mainGlobals "repr" = some none)
    (z_str : PySem.W.nsIn K mainGlobals "str" = some none)
    (z_bool : PySem.W.nsIn K mainGlobals "bool" = some none) :
    ∃ fd : FuncData, (∀ (s : Shared) (v : Value), BindsTo s fd ⟨[v], []⟩ [("script", v)]) ∧ ∀ base : Heap, K.In base → base.Ns mainGlobals mg → FnG l.prog w K mg base 4 fa fd ["script"] (spLaw K) := by
  have e := hfa.symm.trans (PySem.W.mg_of X G aL)
  cases e
  have T : Tx mg := ⟨PySem.W.mg_none_of X G z_len, PySem.W.mg_none_of X G z_list, PySem.W.mg_none_of X G z_range, PySem.W.mg_none_of X G z_tuple, PySem.W.mg_none_of X G z_sorted, PySem.W.mg_none_of X G z_int, PySem.W.mg_none_of X G z_min, PySem.W.mg_none_of X G z_isinstance, PySem.W.mg_none_of X G z_all, PySem.W.mg_none_of X G z_enumerate, PySem.W.mg_none_of X G z_zip, PySem.W.mg_none_of X G z_set, PySem.W.mg_none_of X G z_repr, PySem.W.mg_none_of X G z_str, PySem.W.mg_none_of X G z_bool⟩
  exact ⟨PySem.W.fnOf "law" "law" (defArgs s_law) (defBody s_law) (defScope s_law) .none kV3 dc3 pm3 an3 cd3 ct3, fun s v => .of_eq rfl, fun base _ _ =>
    compose T  ⟨PySem.W.mg_of X G aDE, PySem.W.mg_none_of X G aVE, (all_cons (PySem.W.mg_of X G aB0) (all_cons (PySem.W.mg_of X G aB1) (all_cons (PySem.W.mg_of X G aB2) (all_cons (PySem.W.mg_of X G aB3) (all_cons (PySem.W.mg_of X G aB4) (all_cons (PySem.W.mg_of X G aB5) (all_cons (PySem.W.mg_of X G aB6) (all_cons (PySem.W.mg_of X G aB7) (all_cons (PySem.W.mg_of X G aB8) (all_cons (PySem.W.mg_of X G aB9) (all_cons (PySem.W.mg_of X G aB10) (all_cons (PySem.W.mg_of X G aB11) (all_cons (PySem.W.mg_of X G aB12) (all_cons (PySem.W.mg_of X G aB13) (all_cons (PySem.W.mg_of X G aB14) (all_cons (PySem.W.mg_of X G aB15) (all_cons (PySem.W.mg_of X G aB16) (all_cons (PySem.W.mg_of X G aB17) (all_cons (PySem.W.mg_of X G aB18) (all_cons (PySem.W.mg_of X G aB19) (all_cons (PySem.W.mg_of X G aB20) (all_cons (PySem.W.mg_of X G aB21) (all_cons (PySem.W.mg_of X G aB22) (all_cons (PySem.W.mg_of X G aB23) (all_cons (PySem.W.mg_of X G aB24) (all_cons (PySem.W.mg_of X G aB25) (all_cons (PySem.W.mg_of X G aB26) (all_cons (PySem.W.mg_of X G aB27) (all_cons (PySem.W.mg_of X G aB28) (all_cons (PySem.W.mg_of X G aB29) (all_cons (PySem.W.mg_of X G aB30) (all_cons (PySem.W.mg_of X G aB31) all_nil)))))))))))))))))))))))))))))))), (all_cons (exm_own deC dsC dtC dbC0) (all_cons (exm_own deC dsC dtC dbC1) (all_cons (exm_own deC dsC dtC dbC2) (all_cons (exm_own deC dsC dtC dbC3) (all_cons (exm_own deC dsC dtC dbC4) (all_cons (exm_own deC dsC dtC dbC5) (all_cons (exm_own deC dsC dtC dbC6) (all_cons (exm_own deC dsC dtC dbC7) (all_cons (exm_own deC dsC dtC dbC8) (all_cons (exm_own deC dsC dtC dbC9) (all_cons (exm_own deC dsC dtC dbC10) (all_cons (exm_own deC dsC dtC dbC11) (all_cons (exm_own deC dsC dtC dbC12) (all_cons (exm_own deC dsC dtC dbC13) (all_cons (exm_own deC dsC dtC dbC14) (all_cons (exm_own deC dsC dtC dbC15) (all_cons (exm_own deC dsC dtC dbC16) (all_cons (exm_own deC dsC dtC dbC17) (all_cons (exm_own deC dsC dtC dbC18) (all_cons (exm_own deC dsC dtC dbC19) (all_cons (exm_own deC dsC dtC dbC20) (all_cons (exm_own deC dsC dtC dbC21) (all_cons (exm_own deC dsC dtC dbC22) (all_cons (exm_own deC dsC dtC dbC23) (all_cons (exm_own deC dsC dtC dbC24) (all_cons (exm_own deC dsC dtC dbC25) (all_cons (exm_own deC dsC dtC dbC26) (all_cons (exm_own deC dsC dtC dbC27) (all_cons (exm_own deC dsC dtC dbC28) (all_cons (exm_own deC dsC dtC dbC29) (all_cons (exm_own deC dsC dtC dbC30) (all_cons (exm_own deC dsC dtC dbC31) all_nil)))))))))))))))))))))))))))))))), (all_cons ⟨xis0, xga0, xgg0, xeC0, xca0, thn, thk, xmo0⟩ (all_cons ⟨xis1, xga1, xgg1, xeC1, xca1, thn, thk, xmo1⟩ (all_cons ⟨xis2, xga2, xgg2, xeC2, xca2, thn, thk, xmo2⟩ (all_cons ⟨xis3, xga3, xgg3, xeC3, xca3, thn, thk, xmo3⟩ (all_cons ⟨xis4, xga4, xgg4, xeC4, xca4, thn, thk, xmo4⟩ (all_cons ⟨xis5, xga5, xgg5, xeC5, xca5, thn, thk, xmo5⟩ (all_cons ⟨xis6, xga6, xgg6, xeC6, xca6, thn, thk, xmo6⟩ (all_cons ⟨xis7, xga7, xgg7, xeC7, xca7, thn, thk, xmo7⟩ (all_cons ⟨xis8, xga8, xgg8, xeC8, xca8, thn, thk, xmo8⟩ (all_cons ⟨xis9, xga9, xgg9, xeC9, xca9, thn, thk, xmo9⟩ (all_cons ⟨xis10, xga10, xgg10, xeC10, xca10, thn, thk, xmo10⟩ (all_cons ⟨xis11, xga11, xgg11, xeC11, xca11, thn, thk, xmo11⟩ (all_cons ⟨xis12, xga12, xgg12, xeC12, xca12, thn, thk, xmo12⟩ (all_cons ⟨xis13, xga13, xgg13, xeC13, xca13, thn, thk, xmo13⟩ (all_cons ⟨xis14, xga14, xgg14, xeC14, xca14, thn, thk, xmo14⟩ (all_cons ⟨xis15, xga15, xgg15, xeC15, xca15, thn, thk, xmo15⟩ (all_cons ⟨xis16, xga16, xgg16, xeC16, xca16, thn, thk, xmo16⟩ (all_cons ⟨xis17, xga17, xgg17, xeC17, xca17, thn, thk, xmo17⟩ (all_cons ⟨xis18, xga18, xgg18, xeC18, xca18, thn, thk, xmo18⟩ (all_cons ⟨xis19, xga19, xgg19, xeC19, xca19, thn, thk, xmo19⟩ (all_cons ⟨xis20, xga20, xgg20, xeC20, xca20, thn, thk, xmo20⟩ (all_cons ⟨xis21, xga21, xgg21, xeC21, xca21, thn, thk, xmo21⟩ (all_cons ⟨xis22, xga22, xgg22, xeC22, xca22, thn, thk, xmo22⟩ (all_cons ⟨xis23, xga23, xgg23, xeC23, xca23, thn, thk, xmo23⟩ (all_cons ⟨xis24, xga24, xgg24, xeC24, xca24, thn, thk, xmo24⟩ (all_cons ⟨xis25, xga25, xgg25, xeC25, xca25, thn, thk, xmo25⟩ (all_cons ⟨xis26, xga26, xgg26, xeC26, xca26, thn, thk, xmo26⟩ (all_cons ⟨xis27, xga27, xgg27, xeC27, xca27, thn, thk, xmo27⟩ (all_cons ⟨xis28, xga28, xgg28, xeC28, xca28, thn, thk, xmo28⟩ (all_cons ⟨xis29, xga29, xgg29, xeC29, xca29, thn, thk, xmo29⟩ (all_cons ⟨xis30, xga30, xgg30, xeC30, xca30, thn, thk, xmo30⟩ (all_cons ⟨xis31, xga31, xgg31, xeC31, xca31, thn, thk, xmo31⟩ all_nil)))))))))))))))))))))))))))))))), kk_all (all_cons (mrox_of xL0) (all_cons (mrox_of xL1) (all_cons (mrox_of xL2) (all_cons (mrox_of xL3) (all_cons (mrox_of xL4) (all_cons (mrox_of xL5) (all_cons (mrox_of xL6) (all_cons (mrox_of xL7) (all_cons (mrox_of xL8) (all_cons (mrox_of xL9) (all_cons (mrox_of xL10) (all_cons (mrox_of xL11) (all_cons (mrox_of xL12) (all_cons (mrox_of xL13) (all_cons (mrox_of xL14) (all_cons (mrox_of xL15) (all_cons (mrox_of xL16) (all_cons (mrox_of xL17) (all_cons (mrox_of xL18) (all_cons (mrox_of xL19) (all_cons (mrox_of xL20) (all_cons (mrox_of xL21) (all_cons (mrox_of xL22) (all_cons (mrox_of xL23) (all_cons (mrox_of xL24) (all_cons (mrox_of xL25) (all_cons (mrox_of xL26) (all_cons (mrox_of xL27) (all_cons (mrox_of xL28) (all_cons (mrox_of xL29) (all_cons (mrox_of xL30) (all_cons (mrox_of xL31) all_nil)))))))))))))))))))))))))))))))) (all_cons xis0 (all_cons xis1 (all_cons xis2 (all_cons xis3 (all_cons xis4 (all_cons xis5 (all_cons xis6 (all_cons xis7 (all_cons xis8 (all_cons xis9 (all_cons xis10 (all_cons xis11 (all_cons xis12 (all_cons xis13 (all_cons xis14 (all_cons xis15 (all_cons xis16 (all_cons xis17 (all_cons xis18 (all_cons xis19 (all_cons xis20 (all_cons xis21 (all_cons xis22 (all_cons xis23 (all_cons xis24 (all_cons xis25 (all_cons xis26 (all_cons xis27 (all_cons xis28 (all_cons xis29 (all_cons xis30 (all_cons xis31 all_nil)))))))))))))))))))))))))))))))) (all_cons xtC0 (all_cons xtC1 (all_cons xtC2 (all_cons xtC3 (all_cons xtC4 (all_cons xtC5 (all_cons xtC6 (all_cons xtC7 (all_cons xtC8 (all_cons xtC9 (all_cons xtC10 (all_cons xtC11 (all_cons xtC12 (all_cons xtC13 (all_cons xtC14 (all_cons xtC15 (all_cons xtC16 (all_cons xtC17 (all_cons xtC18 (all_cons xtC19 (all_cons xtC20 (all_cons xtC21 (all_cons xtC22 (all_cons xtC23 (all_cons xtC24 (all_cons xtC25 (all_cons xtC26 (all_cons xtC27 (all_cons xtC28 (all_cons xtC29 (all_cons xtC30 (all_cons xtC31 all_nil)))))))))))))))))))))))))))))))) (show nmX.Nodup by decide +kernel) ndD, (all_cons (kit_own (by decide +kernel) xmv0) (all_cons (kit_own (by decide +kernel) xmv1) (all_cons (kit_own (by decide +kernel) xmv2) (all_cons (kit_own (by decide +kernel) xmv3) (all_cons (kit_own (by decide +kernel) xmv4) (all_cons (kit_own (by decide +kernel) xmv5) (all_cons (kit_own (by decide +kernel) xmv6) (all_cons (kit_own (by decide +kernel) xmv7) (all_cons (kit_own (by decide +kernel) xmv8) (all_cons (kit_own (by decide +kernel) xmv9) (all_cons (kit_own (by decide +kernel) xmv10) (all_cons (kit_own (by decide +kernel) xmv11) (all_cons (kit_own (by decide +kernel) xmv12) (all_cons (kit_own (by decide +kernel) xmv13) (all_cons (kit_own (by decide +kernel) xmv14) (all_cons (kit_own (by decide +kernel) xmv15) (all_cons (kit_own (by decide +kernel) xmv16) (all_cons (kit_own (by decide +kernel) xmv17) (all_cons (kit_own (by decide +kernel) xmv18) (all_cons (kit_own (by decide +kernel) xmv19) (all_cons (kit_own (by decide +kernel) xmv20) (all_cons (kit_own (by decide +kernel) xmv21) (all_cons (kit_own (by decide +kernel) xmv22) (all_cons (kit_own (by decide +kernel) xmv23) (all_cons (kit_own (by decide +kernel) xmv24) (all_cons (kit_own (by decide +kernel) xmv25) (all_cons (kit_own (by decide +kernel) xmv26) (all_cons (kit_own (by decide +kernel) xmv27) (all_cons (kit_own (by decide +kernel) xmv28) (all_cons (kit_own (by decide +kernel) xmv29) (all_cons (kit_own (by decide +kernel) xmv30) (all_cons (kit_own (by decide +kernel) xmv31) all_nil))))))))))))))))))))))))))))))))⟩ ⟨(all_cons (kit_de dsC dtC dbC0) (all_cons (kit_de dsC dtC dbC1) (all_cons (kit_de dsC dtC dbC2) (all_cons (kit_de dsC dtC dbC3) (all_cons (kit_de dsC dtC dbC4) (all_cons (kit_de dsC dtC dbC5) (all_cons (kit_de dsC dtC dbC6) (all_cons (kit_de dsC dtC dbC7) (all_cons (kit_de dsC dtC dbC8) (all_cons (kit_de dsC dtC dbC9) (all_cons (kit_de dsC dtC dbC10) (all_cons (kit_de dsC dtC dbC11) (all_cons (kit_de dsC dtC dbC12) (all_cons (kit_de dsC dtC dbC13) (all_cons (kit_de dsC dtC dbC14) (all_cons (kit_de dsC dtC dbC15) (all_cons (kit_de dsC dtC dbC16) (all_cons (kit_de dsC dtC dbC17) (all_cons (kit_de dsC dtC dbC18) (all_cons (kit_de dsC dtC dbC19) (all_cons (kit_de dsC dtC dbC20) (all_cons (kit_de dsC dtC dbC21) (all_cons (kit_de dsC dtC dbC22) (all_cons (kit_de dsC dtC dbC23) (all_cons (kit_de dsC dtC dbC24) (all_cons (kit_de dsC dtC dbC25) (all_cons (kit_de dsC dtC dbC26) (all_cons (kit_de dsC dtC dbC27) (all_cons (kit_de dsC dtC dbC28) (all_cons (kit_de dsC dtC dbC29) (all_cons (kit_de dsC dtC dbC30) (all_cons (kit_de dsC dtC dbC31) all_nil))))))))))))))))))))))))))))))))⟩ (exm_gen xeC27 xis27 xtC27 dss27) ⟨⟨nm0, q0, N0, bs0, _, sn0, sub0, ab0, col0, dd0, m00, m10, m20, m30, m50, xL0, (show PySem.HandSPX.refsVE [.type "ValueError", .type "Exception", .type "BaseException", .type "object"] = true by decide +kernel)⟩, xsa0, xeC0, xtC0, xkC0⟩ (PySem.W.mg_of X G aB0) xiB0 xtf0 (fun_mk (st := s_NoPerson___init) lX0 cX0 kX0) ⟨⟨nm1, q1, N1, bs1, _, sn1, sub1, ab1, col1, dd1, m01, m11, m21, m31, m51, xL1, (show PySem.HandSPX.refsVE [.type "ValueError", .type "Exception", .type "BaseException", .type "object"] = true by decide +kernel)⟩, xsa1, xeC1, xtC1, xkC1⟩ (PySem.W.mg_of X G aB1) xiB1 xtf1 (fun_mk (st := s_NoThing___init) lX1 cX1 kX1) ⟨⟨nm2, q2, N2, bs2, _, sn2, sub2, ab2, col2, dd2, m02, m12, m22, m32, m52, xL2, (show PySem.HandSPX.refsVE [.type "ValueError", .type "Exception", .type "BaseException", .type "object"] = true by decide +kernel)⟩, xsa2, xeC2, xtC2, xkC2⟩ (PySem.W.mg_of X G aB2) xiB2 xtf2 (fun_mk (st := s_NoNumbers___init) lX2 cX2 kX2) ⟨⟨nm3, q3, N3, bs3, _, sn3, sub3, ab3, col3, dd3, m03, m13, m23, m33, m53, xL3, (show PySem.HandSPX.refsVE [.type "ValueError", .type "Exception", .type "BaseException", .type "object"] = true by decide +kernel)⟩, xsa3, xeC3, xtC3, xkC3⟩ (PySem.W.mg_of X G aB3) xiB3 xtf3 (fun_mk (st := s_NoNumber___init) lX3 cX3 kX3) ⟨⟨nm4, q4, N4, bs4, _, sn4, sub4, ab4, col4, dd4, m04, m14, m24, m34, m54, xL4, (show PySem.HandSPX.refsVE [.type "ValueError", .type "Exception", .type "BaseException", .type "object"] = true by decide +kernel)⟩, xsa4, xeC4, xtC4, xkC4⟩ (PySem.W.mg_of X G aB4) xiB4 xtf4 (fun_mk (st := s_NoDealing___init) lX4 cX4 kX4) ⟨⟨nm5, q5, N5, bs5, _, sn5, sub5, ab5, col5, dd5, m05, m15, m25, m35, m55, xL5, (show PySem.HandSPX.refsVE [.type "ValueError", .type "Exception", .type "BaseException", .type "object"] = true by decide +kernel)⟩, xsa5, xeC5, xtC5, xkC5⟩ (PySem.W.mg_of X G aB5) xiB5 xtf5 (fun_mk (st := s_NoLot___init) lX5 cX5 kX5) ⟨⟨nm6, q6, N6, bs6, _, sn6, sub6, ab6, col6, dd6, m06, m16, m26, m36, m56, xL6, (show PySem.HandSPX.refsVE [.type "ValueError", .type "Exception", .type "BaseException", .type "object"] = true by decide +kernel)⟩, xsa6, xeC6, xtC6, xkC6⟩ (PySem.W.mg_of X G aB6) xiB6 xtf6 (fun_mk (st := s_Stuck___init) lX6 cX6 kX6) ⟨⟨nm7, q7, N7, bs7, _, sn7, sub7, ab7, col7, dd7, m07, m17, m27, m37, m57, xL7, (show PySem.HandSPX.refsVE [.type "ValueError", .type "Exception", .type "BaseException", .type "object"] = true by decide +kernel)⟩, xsa7, xeC7, xtC7, xkC7⟩ (PySem.W.mg_of X G aB7) xiB7 xtf7 (fun_mk (st := s_NoRing___init) lX7 cX7 kX7) ⟨⟨nm8, q8, N8, bs8, _, sn8, sub8, ab8, col8, dd8, m08, m18, m28, m38, m58, xL8, (show PySem.HandSPX.refsVE [.type "ValueError", .type "Exception", .type "BaseException", .type "object"] = true by decide +kernel)⟩, xsa8, xeC8, xtC8, xkC8⟩ (PySem.W.mg_of X G aB8) xiB8 xtf8 (fun_mk (st := s_NoTie___init) lX8 cX8 kX8) ⟨⟨nm9, q9, N9, bs9, _, sn9, sub9, ab9, col9, dd9, m09, m19, m29, m39, m59, xL9, (show PySem.HandSPX.refsVE [.type "ValueError", .type "Exception", .type "BaseException", .type "object"] = true by decide +kernel)⟩, xsa9, xeC9, xtC9, xkC9⟩ (PySem.W.mg_of X G aB9) xiB9 xtf9 (fun_mk (st := s_NoStanding___init) lX9 cX9 kX9) ⟨⟨nm10, q10, N10, bs10, _, sn10, sub10, ab10, col10, dd10, m010, m110, m210, m310, m510, xL10, (show PySem.HandSPX.refsVE [.type "ValueError", .type "Exception", .type "BaseException", .type "object"] = true by decide +kernel)⟩, xsa10, xeC10, xtC10, xkC10⟩ (PySem.W.mg_of X G aB10) xiB10 xtf10 (fun_mk (st := s_NoTurn___init) lX10 cX10 kX10) ⟨⟨nm11, q11, N11, bs11, _, sn11, sub11, ab11, col11, dd11, m011, m111, m211, m311, m511, xL11, (show PySem.HandSPX.refsVE [.type "ValueError", .type "Exception", .type "BaseException", .type "object"] = true by decide +kernel)⟩, xsa11, xeC11, xtC11, xkC11⟩ (PySem.W.mg_of X G aB11) xiB11 xtf11 (fun_mk (st := s_NoCustom___init) lX11 cX11 kX11) ⟨⟨nm12, q12, N12, bs12, _, sn12, sub12, ab12, col12, dd12, m012, m112, m212, m312, m512, xL12, (show PySem.HandSPX.refsVE [.type "ValueError", .type "Exception", .type "BaseException", .type "object"] = true by decide +kernel)⟩, xsa12, xeC12, xtC12, xkC12⟩ (PySem.W.mg_of X G aB12) xiB12 xtf12 (fun_mk (st := s_NoFraction___init) lX12 cX12 kX12) ⟨⟨nm13, q13, N13, bs13, _, sn13, sub13, ab13, col13, dd13, m013, m113, m213, m313, m513, xL13, (show PySem.HandSPX.refsVE [.type "ValueError", .type "Exception", .type "BaseException", .type "object"] = true by decide +kernel)⟩, xsa13, xeC13, xtC13, xkC13⟩ (PySem.W.mg_of X G aB13) xiB13 xtf13 (fun_mk (st := s_NoBook___init) lX13 cX13 kX13) ⟨⟨nm14, q14, N14, bs14, _, sn14, sub14, ab14, col14, dd14, m014, m114, m214, m314, m514, xL14, (show PySem.HandSPX.refsVE [.type "ValueError", .type "Exception", .type "BaseException", .type "object"] = true by decide +kernel)⟩, xsa14, xeC14, xtC14, xkC14⟩ (PySem.W.mg_of X G aB14) xiB14 xtf14 (fun_mk (st := s_NoHistory___init) lX14 cX14 kX14) ⟨⟨nm15, q15, N15, bs15, _, sn15, sub15, ab15, col15, dd15, m015, m115, m215, m315, m515, xL15, (show PySem.HandSPX.refsVE [.type "ValueError", .type "Exception", .type "BaseException", .type "object"] = true by decide +kernel)⟩, xsa15, xeC15, xtC15, xkC15⟩ (PySem.W.mg_of X G aB15) xiB15 xtf15 (fun_mk (st := s_NoTickets___init) lX15 cX15 kX15) ⟨⟨nm16, q16, N16, bs16, _, sn16, sub16, ab16, col16, dd16, m016, m116, m216, m316, m516, xL16, (show PySem.HandSPX.refsVE [.type "ValueError", .type "Exception", .type "BaseException", .type "object"] = true by decide +kernel)⟩, xsa16, xeC16, xtC16, xkC16⟩ (PySem.W.mg_of X G aB16) xiB16 xtf16 (fun_mk (st := s_NoSteps___init) lX16 cX16 kX16) ⟨⟨nm17, q17, N17, bs17, _, sn17, sub17, ab17, col17, dd17, m017, m117, m217, m317, m517, xL17, (show PySem.HandSPX.refsVE [.type "ValueError", .type "Exception", .type "BaseException", .type "object"] = true by decide +kernel)⟩, xsa17, xeC17, xtC17, xkC17⟩ (PySem.W.mg_of X G aB17) xiB17 xtf17 (fun_mk (st := s_NoChances___init) lX17 cX17 kX17) ⟨⟨nm18, q18, N18, bs18, _, sn18, sub18, ab18, col18, dd18, m018, m118, m218, m318, m518, xL18, (show PySem.HandSPX.refsVE [.type "ValueError", .type "Exception", .type "BaseException", .type "object"] = true by decide +kernel)⟩, xsa18, xeC18, xtC18, xkC18⟩ (PySem.W.mg_of X G aB18) xiB18 xtf18 (fun_mk (st := s_NoPrices___init) lX18 cX18 kX18) ⟨⟨nm19, q19, N19, bs19, _, sn19, sub19, ab19, col19, dd19, m019, m119, m219, m319, m519, xL19, (show PySem.HandSPX.refsVE [.type "ValueError", .type "Exception", .type "BaseException", .type "object"] = true by decide +kernel)⟩, xsa19, xeC19, xtC19, xkC19⟩ (PySem.W.mg_of X G aB19) xiB19 xtf19 (fun_mk (st := s_Empty___init) lX19 cX19 kX19) ⟨⟨nm20, q20, N20, bs20, _, sn20, sub20, ab20, col20, dd20, m020, m120, m220, m320, m520, xL20, (show PySem.HandSPX.refsVE [.type "ValueError", .type "Exception", .type "BaseException", .type "object"] = true by decide +kernel)⟩, xsa20, xeC20, xtC20, xkC20⟩ (PySem.W.mg_of X G aB20) xiB20 xtf20 (fun_mk (st := s_NoSizes___init) lX20 cX20 kX20) ⟨⟨nm21, q21, N21, bs21, _, sn21, sub21, ab21, col21, dd21, m021, m121, m221, m321, m521, xL21, (show PySem.HandSPX.refsVE [.type "ValueError", .type "Exception", .type "BaseException", .type "object"] = true by decide +kernel)⟩, xsa21, xeC21, xtC21, xkC21⟩ (PySem.W.mg_of X G aB21) xiB21 xtf21 (fun_mk (st := s_NoLooks___init) lX21 cX21 kX21) ⟨⟨nm22, q22, N22, bs22, _, sn22, sub22, ab22, col22, dd22, m022, m122, m222, m322, m522, xL22, (show PySem.HandSPX.refsVE [.type "ValueError", .type "Exception", .type "BaseException", .type "object"] = true by decide +kernel)⟩, xsa22, xeC22, xtC22, xkC22⟩ (PySem.W.mg_of X G aB22) xiB22 xtf22 (fun_mk (st := s_NoOutcome___init) lX22 cX22 kX22) ⟨⟨nm23, q23, N23, bs23, _, sn23, sub23, ab23, col23, dd23, m023, m123, m223, m323, m523, xL23, (show PySem.HandSPX.refsVE [.type "ValueError", .type "Exception", .type "BaseException", .type "object"] = true by decide +kernel)⟩, xsa23, xeC23, xtC23, xkC23⟩ (PySem.W.mg_of X G aB23) xiB23 xtf23 (fun_mk (st := s_NoComer___init) lX23 cX23 kX23) ⟨⟨nm24, q24, N24, bs24, _, sn24, sub24, ab24, col24, dd24, m024, m124, m224, m324, m524, xL24, (show PySem.HandSPX.refsVE [.type "ValueError", .type "Exception", .type "BaseException", .type "object"] = true by decide +kernel)⟩, xsa24, xeC24, xtC24, xkC24⟩ (PySem.W.mg_of X G aB24) xiB24 xtf24 (fun_mk (st := s_NotOpen___init) lX24 cX24 kX24) ⟨⟨nm25, q25, N25, bs25, _, sn25, sub25, ab25, col25, dd25, m025, m125, m225, m325, m525, xL25, (show PySem.HandSPX.refsVE [.type "ValueError", .type "Exception", .type "BaseException", .type "object"] = true by decide +kernel)⟩, xsa25, xeC25, xtC25, xkC25⟩ (PySem.W.mg_of X G aB25) xiB25 xtf25 (fun_mk (st := s_NothingDone___init) lX25 cX25 kX25) ⟨⟨nm26, q26, N26, bs26, _, sn26, sub26, ab26, col26, dd26, m026, m126, m226, m326, m526, xL26, (show PySem.HandSPX.refsVE [.type "ValueError", .type "Exception", .type "BaseException", .type "object"] = true by decide +kernel)⟩, xsa26, xeC26, xtC26, xkC26⟩ (PySem.W.mg_of X G aB26) xiB26 xtf26 (fun_mk (st := s_NoLine___init) lX26 cX26 kX26) ⟨⟨nm27, q27, N27, bs27, _, sn27, sub27, ab27, col27, dd27, m027, m127, m227, m327, m527, xL27, (show PySem.HandSPX.refsVE [.type "ValueError", .type "Exception", .type "BaseException", .type "object"] = true by decide +kernel)⟩, xsa27, xeC27, xtC27, xkC27⟩ (PySem.W.mg_of X G aB27) xiB27 xtf27 (fun_mk (st := s_BadTable___init) lX27 cX27 kX27) xfn27_part xfn27_at ⟨xga27, xgg27, xeC27, xhd27⟩ ⟨⟨nm28, q28, N28, bs28, _, sn28, sub28, ab28, col28, dd28, m028, m128, m228, m328, m528, xL28, (show PySem.HandSPX.refsVE [.type "ValueError", .type "Exception", .type "BaseException", .type "object"] = true by decide +kernel)⟩, xsa28, xeC28, xtC28, xkC28⟩ (PySem.W.mg_of X G aB28) xiB28 xtf28 (fun_mk (st := s_BadText___init) lX28 cX28 kX28) xfn28 ⟨xga28, xgg28, xeC28, xhd28⟩ ⟨⟨nm29, q29, N29, bs29, _, sn29, sub29, ab29, col29, dd29, m029, m129, m229, m329, m529, xL29, (show PySem.HandSPX.refsVE [.type "ValueError", .type "Exception", .type "BaseException", .type "object"] = true by decide +kernel)⟩, xsa29, xeC29, xtC29, xkC29⟩ (PySem.W.mg_of X G aB29) xiB29 xtf29 (fun_mk (st := s_TooMany___init) lX29 cX29 kX29) xfn29 ⟨xga29, xgg29, xeC29, xhd29⟩ ⟨⟨nm30, q30, N30, bs30, _, sn30, sub30, ab30, col30, dd30, m030, m130, m230, m330, m530, xL30, (show PySem.HandSPX.refsVE [.type "ValueError", .type "Exception", .type "BaseException", .type "object"] = true by decide +kernel)⟩, xsa30, xeC30, xtC30, xkC30⟩ (PySem.W.mg_of X G aB30) xiB30 xtf30 (fun_mk (st := s_BadKinds___init) lX30 cX30 kX30) xfn30 ⟨xga30, xgg30, xeC30, xhd30⟩ ⟨⟨nm31, q31, N31, bs31, _, sn31, sub31, ab31, col31, dd31, m031, m131, m231, m331, m531, xL31, (show PySem.HandSPX.refsVE [.type "ValueError", .type "Exception", .type "BaseException", .type "object"] = true by decide +kernel)⟩, xsa31, xeC31, xtC31, xkC31⟩ (PySem.W.mg_of X G aB31) xiB31 xtf31 (fun_mk (st := s_NoName___init) lX31 cX31 kX31) xfn31 ⟨xga31, xgg31, xeC31, xhd31⟩
      (at_mk (ps := ["script"]) X G a4 l4 c4 k4 fun _ _ _ _ _ _ us hl => match us, hl with | [_], _ => rfl)
      (at_mk (ps := ["tape", "size"]) X G a5 l5 c5 k5 fun _ _ _ _ _ _ us hl => match us, hl with | [_, _], _ => rfl)
      (at_mk (ps := ["tape"]) X G a6 l6 c6 k6 fun _ _ _ _ _ _ us hl => match us, hl with | [_], _ => rfl)
      (at_mk (ps := []) X G a7 l7 c7 k7 fun _ _ _ _ _ _ us hl => match us, hl with | [], _ => rfl)
      (at_mk (ps := ["values"]) X G a8 l8 c8 k8 fun _ _ _ _ _ _ us hl => match us, hl with | [_], _ => rfl)
      (at_mk (ps := ["errors"]) X G a9 l9 c9 k9 fun _ _ _ _ _ _ us hl => match us, hl with | [_], _ => rfl)
      (at_mk (ps := ["e"]) X G a10 l10 c10 k10 fun _ _ _ _ _ _ us hl => match us, hl with | [_], _ => rfl)
      (at_mk (ps := ["error", "at"]) X G a11 l11 c11 k11 fun _ _ _ _ _ _ us hl => match us, hl with | [_, _], _ => rfl)
      (at_mk (ps := ["value", "other"]) X G a12 l12 c12 k12 fun _ _ _ _ _ _ us hl => match us, hl with | [_, _], _ => rfl)
      (fun_mk (st := s_law) l3 c3 k3)⟩
theorem walk {l : PySem.W.OpenLaw} {q : Program} {loose : List Str} {XP : (Str → Option Value) → Heap → Prop} {YP : World → Heap → Prop} {d : DefRec} {K : Params → PySem.W.Frag} (hn : l.most = some 63) (hdf : d.params.defaults = [])
    (hY : ∀ (w : World) (h : Heap), YP w h → (K w.params).In h)
    (F : ∀ (w : World) (mg : Str → Option Value) (fa : Addr) (h : Heap), (K w.params).In h → h.Ns mainGlobals mg → mg d.name = some (.ref fa) →
      ∃ fd : FuncData, (∀ (s : Shared) (u : Value), BindsTo s fd ⟨[u], []⟩ [("script", u)]) ∧ ∀ base : Heap, (K w.params).In base → base.Ns mainGlobals mg → FnG l.prog w (K w.params) mg base 4 fa fd ["script"] (spLaw (K w.params))) :
    PySem.W.WalkO q loose XP YP l.row.toRowW d [] (fun f vs => PySem.call f vs) :=
  walk_ofG (n := 63) (k := 4) (x := "script") (sp := fun w => spLaw (K w.params)) hn (by decide) hdf ⟨rfl, by decide, by decide⟩ hY F fun _ _ a ns hl _ hS => ⟨a, ns, rfl, hS, hl, fun _ => rfl⟩
end Fo
open PySem PySem.W PyProof.Rows in
set_option maxRecDepth 100000 in
set_option maxHeartbeats 0 in
theorem PySem.Challenge.cw_fullorring_k00_errors_and_their_fields_holds : PySem.Challenge.rw_fullorring_k00_errors_and_their_fields.Holds := by
  w_on; o_law; k_head; (case hw => w_witness2)
  k_fill
  refine Fo.walk (l := PySem.Challenge.rw_fullorring_k00_errors_and_their_fields) rfl rfl (fun w h Y => PySem.W.kIn_of Y) ?F
  case F =>
    intro w mg fa h KX G hmg
    refine' Fo.all_mk KX G hmg ?aL ?l3 ?c3 ?k3 ?a4 ?l4 ?c4 ?k4 ?a5 ?l5 ?c5 ?k5 ?a6 ?l6 ?c6 ?k6 ?a7 ?l7 ?c7 ?k7 ?a8 ?l8 ?c8 ?k8 ?a9 ?l9 ?c9 ?k9 ?a10 ?l10 ?c10 ?k10 ?a11 ?l11 ?c11 ?k11 ?a12 ?l12 ?c12 ?k12 ?aDE ?aVE ?deC ?dsC ?dtC ?aB0 ?xL0 ?xsa0 ?xga0 ?xgg0 ?xca0 ?xmo0 ?xmv0 ?xis0 ?xiB0 ?xtf0 ?lX0 ?cX0 ?kX0 ?xkC0 ?xeC0 ?xtC0 ?dbC0 ?aB1 ?xL1 ?xsa1 ?xga1 ?xgg1 ?xca1 ?xmo1 ?xmv1 ?xis1 ?xiB1 ?xtf1 ?lX1 ?cX1 ?kX1 ?xkC1 ?xeC1 ?xtC1 ?dbC1 ?aB2 ?xL2 ?xsa2 ?xga2 ?xgg2 ?xca2 ?xmo2 ?xmv2 ?xis2 ?xiB2 ?xtf2 ?lX2 ?cX2 ?kX2 ?xkC2 ?xeC2 ?xtC2 ?dbC2 ?aB3 ?xL3 ?xsa3 ?xga3 ?xgg3 ?xca3 ?xmo3 ?xmv3 ?xis3 ?xiB3 ?xtf3 ?lX3 ?cX3 ?kX3 ?xkC3 ?xeC3 ?xtC3 ?dbC3 ?aB4 ?xL4 ?xsa4 ?xga4 ?xgg4 ?xca4 ?xmo4 ?xmv4 ?xis4 ?xiB4 ?xtf4 ?lX4 ?cX4 ?kX4 ?xkC4 ?xeC4 ?xtC4 ?dbC4 ?aB5 ?xL5 ?xsa5 ?xga5 ?xgg5 ?xca5 ?xmo5 ?xmv5 ?xis5 ?xiB5 ?xtf5 ?lX5 ?cX5 ?kX5 ?xkC5 ?xeC5 ?xtC5 ?dbC5 ?aB6 ?xL6 ?xsa6 ?xga6 ?xgg6 ?xca6 ?xmo6 ?xmv6 ?xis6 ?xiB6 ?xtf6 ?lX6 ?cX6 ?kX6 ?xkC6 ?xeC6 ?xtC6 ?dbC6 ?aB7 ?xL7 ?xsa7 ?xga7 ?xgg7 ?xca7 ?xmo7 ?xmv7 ?xis7 ?xiB7 ?xtf7 ?lX7 ?cX7 ?kX7 ?xkC7 ?xeC7 ?xtC7 ?dbC7 ?aB8 ?xL8 ?xsa8 ?xga8 ?xgg8 ?xca8 ?xmo8 ?xmv8 ?xis8 ?xiB8 ?xtf8 ?lX8 ?cX8 ?kX8 ?xkC8 ?xeC8 ?xtC8 ?dbC8 ?aB9 ?xL9 ?xsa9 ?xga9 ?xgg9 ?xca9 ?xmo9 ?xmv9 ?xis9 ?xiB9 ?xtf9 ?lX9 ?cX9 ?kX9 ?xkC9 ?xeC9 ?xtC9 ?dbC9 ?aB10 ?xL10 ?xsa10 ?xga10 ?xgg10 ?xca10 ?xmo10 ?xmv10 ?xis10 ?xiB10 ?xtf10 ?lX10 ?cX10 ?kX10 ?xkC10 ?xeC10 ?xtC10 ?dbC10 ?aB11 ?xL11 ?xsa11 ?xga11 ?xgg11 ?xca11 ?xmo11 ?xmv11 ?xis11 ?xiB11 ?xtf11 ?lX11 ?cX11 ?kX11 ?xkC11 ?xeC11 ?xtC11 ?dbC11 ?aB12 ?xL12 ?xsa12 ?xga12 ?xgg12 ?xca12 ?xmo12 ?xmv12 ?xis12 ?xiB12 ?xtf12 ?lX12 ?cX12 ?kX12 ?xkC12 ?xeC12 ?xtC12 ?dbC12 ?aB13 ?xL13 ?xsa13 ?xga13 ?xgg13 ?xca13 ?xmo13 ?xmv13 ?xis13 ?xiB13 ?xtf13 ?lX13 ?cX13 ?kX13 ?xkC13 ?xeC13 ?xtC13 ?dbC13 ?aB14 ?xL14 ?xsa14 ?xga14 ?xgg14 ?xca14 ?xmo14 ?xmv14 ?xis14 ?xiB14 ?xtf14 ?lX14 ?cX14 ?kX14 ?xkC14 ?xeC14 ?xtC14 ?dbC14 ?aB15 ?xL15 ?xsa15 ?xga15 ?xgg15 ?xca15 ?xmo15 ?xmv15 ?xis15 ?xiB15 ?xtf15 ?lX15 ?cX15 ?kX15 ?xkC15 ?xeC15 ?xtC15 ?dbC15 ?aB16 ?xL16 ?xsa16 ?xga16 ?xgg16 ?xca16 ?xmo16 ?xmv16 ?xis16 ?xiB16 ?xtf16 ?lX16 ?cX16 ?kX16 ?xkC16 ?xeC16 ?xtC16 ?dbC16 ?aB17 ?xL17 ?xsa17 ?xga17 ?xgg17 ?xca17 ?xmo17 ?xmv17 ?xis17 ?xiB17 ?xtf17 ?lX17 ?cX17 ?kX17 ?xkC17 ?xeC17 ?xtC17 ?dbC17 ?aB18 ?xL18 ?xsa18 ?xga18 ?xgg18 ?xca18 ?xmo18 ?xmv18 ?xis18 ?xiB18 ?xtf18 ?lX18 ?cX18 ?kX18 ?xkC18 ?xeC18 ?xtC18 ?dbC18 ?aB19 ?xL19 ?xsa19 ?xga19 ?xgg19 ?xca19 ?xmo19 ?xmv19 ?xis19 ?xiB19 ?xtf19 ?lX19 ?cX19 ?kX19 ?xkC19 ?xeC19 ?xtC19 ?dbC19 ?aB20 ?xL20 ?xsa20 ?xga20 ?xgg20 ?xca20 ?xmo20 ?xmv20 ?xis20 ?xiB20 ?xtf20 ?lX20 ?cX20 ?kX20 ?xkC20 ?xeC20 ?xtC20 ?dbC20 ?aB21 ?xL21 ?xsa21 ?xga21 ?xgg21 ?xca21 ?xmo21 ?xmv21 ?xis21 ?xiB21 ?xtf21 ?lX21 ?cX21 ?kX21 ?xkC21 ?xeC21 ?xtC21 ?dbC21 ?aB22 ?xL22 ?xsa22 ?xga22 ?xgg22 ?xca22 ?xmo22 ?xmv22 ?xis22 ?xiB22 ?xtf22 ?lX22 ?cX22 ?kX22 ?xkC22 ?xeC22 ?xtC22 ?dbC22 ?aB23 ?xL23 ?xsa23 ?xga23 ?xgg23 ?xca23 ?xmo23 ?xmv23 ?xis23 ?xiB23 ?xtf23 ?lX23 ?cX23 ?kX23 ?xkC23 ?xeC23 ?xtC23 ?dbC23 ?aB24 ?xL24 ?xsa24 ?xga24 ?xgg24 ?xca24 ?xmo24 ?xmv24 ?xis24 ?xiB24 ?xtf24 ?lX24 ?cX24 ?kX24 ?xkC24 ?xeC24 ?xtC24 ?dbC24 ?aB25 ?xL25 ?xsa25 ?xga25 ?xgg25 ?xca25 ?xmo25 ?xmv25 ?xis25 ?xiB25 ?xtf25 ?lX25 ?cX25 ?kX25 ?xkC25 ?xeC25 ?xtC25 ?dbC25 ?aB26 ?xL26 ?xsa26 ?xga26 ?xgg26 ?xca26 ?xmo26 ?xmv26 ?xis26 ?xiB26 ?xtf26 ?lX26 ?cX26 ?kX26 ?xkC26 ?xeC26 ?xtC26 ?dbC26 ?aB27 ?xL27 ?xsa27 ?xga27 ?xgg27 ?xca27 ?xmo27 ?xmv27 ?xis27 ?xiB27 ?xtf27 ?lX27 ?cX27 ?kX27 ?xkC27 ?xfn27_part ?xfn27_at ?xhd27 ?xeC27 ?xtC27 ?dbC27 ?dss27 ?aB28 ?xL28 ?xsa28 ?xga28 ?xgg28 ?xca28 ?xmo28 ?xmv28 ?xis28 ?xiB28 ?xtf28 ?lX28 ?cX28 ?kX28 ?xkC28 ?xfn28 ?xhd28 ?xeC28 ?xtC28 ?dbC28 ?aB29 ?xL29 ?xsa29 ?xga29 ?xgg29 ?xca29 ?xmo29 ?xmv29 ?xis29 ?xiB29 ?xtf29 ?lX29 ?cX29 ?kX29 ?xkC29 ?xfn29 ?xhd29 ?xeC29 ?xtC29 ?dbC29 ?aB30 ?xL30 ?xsa30 ?xga30 ?xgg30 ?xca30 ?xmo30 ?xmv30 ?xis30 ?xiB30 ?xtf30 ?lX30 ?cX30 ?kX30 ?xkC30 ?xfn30 ?xhd30 ?xeC30 ?xtC30 ?dbC30 ?aB31 ?xL31 ?xsa31 ?xga31 ?xgg31 ?xca31 ?xmo31 ?xmv31 ?xis31 ?xiB31 ?xtf31 ?lX31 ?cX31 ?kX31 ?xkC31 ?xfn31 ?xhd31 ?xeC31 ?xtC31 ?dbC31 ?ndD ?thn ?thk ?z_len ?z_list ?z_range ?z_tuple ?z_sorted ?z_int ?z_min ?z_isinstance ?z_all ?z_enumerate ?z_zip ?z_set ?z_repr ?z_str ?z_bool
    (case aL => k_is)
    (case l3 => k_is)
    (case c3 => k_is)
    (case k3 => k_is)
    (case a4 => k_is)
    (case l4 => k_is)
    (case c4 => k_is)
    (case k4 => k_is)
    (case a5 => k_is)
    (case l5 => k_is)
    (case c5 => k_is)
    (case k5 => k_is)
    (case a6 => k_is)
    (case l6 => k_is)
    (case c6 => k_is)
    (case k6 => k_is)
    (case a7 => k_is)
    (case l7 => k_is)
    (case c7 => k_is)
    (case k7 => k_is)
    (case a8 => k_is)
    (case l8 => k_is)
    (case c8 => k_is)
    (case k8 => k_is)
    (case a9 => k_is)
    (case l9 => k_is)
    (case c9 => k_is)
    (case k9 => k_is)
    (case a10 => k_is)
    (case l10 => k_is)
    (case c10 => k_is)
    (case k10 => k_is)
    (case a11 => k_is)
    (case l11 => k_is)
    (case c11 => k_is)
    (case k11 => k_is)
    (case a12 => k_is)
    (case l12 => k_is)
    (case c12 => k_is)
    (case k12 => k_is)
    (case aDE => k_is)
    (case aVE => k_is)
    (case deC => k_is)
    (case dsC => k_is)
    (case dtC => k_is)
    (case aB0 => k_is)
    (case xL0 => k_is)
    (case xsa0 => k_is)
    (case xga0 => k_is)
    (case xgg0 => k_is)
    (case xca0 => k_is)
    (case xmo0 => k_is)
    (case xmv0 => k_is)
    (case xis0 => k_is)
    (case xiB0 => k_is)
    (case xtf0 => k_is)
    (case lX0 => k_is)
    (case cX0 => k_is)
    (case kX0 => k_is)
    (case xkC0 => k_is)
    (case xeC0 => k_is)
    (case xtC0 => k_is)
    (case dbC0 => k_is)
    (case aB1 => k_is)
    (case xL1 => k_is)
    (case xsa1 => k_is)
    (case xga1 => k_is)
    (case xgg1 => k_is)
    (case xca1 => k_is)
    (case xmo1 => k_is)
    (case xmv1 => k_is)
    (case xis1 => k_is)
    (case xiB1 => k_is)
    (case xtf1 => k_is)
    (case lX1 => k_is)
    (case cX1 => k_is)
    (case kX1 => k_is)
    (case xkC1 => k_is)
    (case xeC1 => k_is)
    (case xtC1 => k_is)
    (case dbC1 => k_is)
    (case aB2 => k_is)
    (case xL2 => k_is)
    (case xsa2 => k_is)
    (case xga2 => k_is)
    (case xgg2 => k_is)
    (case xca2 => k_is)
    (case xmo2 => k_is)
    (case xmv2 => k_is)
    (case xis2 => k_is)
    (case xiB2 => k_is)
    (case xtf2 => k_is)
    (case lX2 => k_is)
    (case cX2 => k_is)
    (case kX2 => k_is)
    (case xkC2 => k_is)
    (case xeC2 => k_is)
    (case xtC2 => k_is)
    (case dbC2 => k_is)
    (case aB3 => k_is)
    (case xL3 => k_is)
    (case xsa3 => k_is)
    (case xga3 => k_is)
    (case xgg3 => k_is)
    (case xca3 => k_is)
    (case xmo3 => k_is)
    (case xmv3 => k_is)
    (case xis3 => k_is)
    (case xiB3 => k_is)
    (case xtf3 => k_is)
    (case lX3 => k_is)
    (case cX3 => k_is)
    (case kX3 => k_is)
    (case xkC3 => k_is)
    (case xeC3 => k_is)
    (case xtC3 => k_is)
    (case dbC3 => k_is)
    (case aB4 => k_is)
    (case xL4 => k_is)
    (case xsa4 => k_is)
    (case xga4 => k_is)
    (case xgg4 => k_is)
    (case xca4 => k_is)
    (case xmo4 => k_is)
    (case xmv4 => k_is)
    (case xis4 => k_is)
    (case xiB4 => k_is)
    (case xtf4 => k_is)
    (case lX4 => k_is)
    (case cX4 => k_is)
    (case kX4 => k_is)
    (case xkC4 => k_is)
    (case xeC4 => k_is)
    (case xtC4 => k_is)
    (case dbC4 => k_is)
    (case aB5 => k_is)
    (case xL5 => k_is)
    (case xsa5 => k_is)
    (case xga5 => k_is)
    (case xgg5 => k_is)
    (case xca5 => k_is)
    (case xmo5 => k_is)
    (case xmv5 => k_is)
    (case xis5 => k_is)
    (case xiB5 => k_is)
    (case xtf5 => k_is)
    (case lX5 => k_is)
    (case cX5 => k_is)
    (case kX5 => k_is)
    (case xkC5 => k_is)
    (case xeC5 => k_is)
    (case xtC5 => k_is)
    (case dbC5 => k_is)
    (case aB6 => k_is)
    (case xL6 => k_is)
    (case xsa6 => k_is)
    (case xga6 => k_is)
    (case xgg6 => k_is)
    (case xca6 => k_is)
    (case xmo6 => k_is)
    (case xmv6 => k_is)
    (case xis6 => k_is)
    (case xiB6 => k_is)
    (case xtf6 => k_is)
    (case lX6 => k_is)
    (case cX6 => k_is)
    (case kX6 => k_is)
    (case xkC6 => k_is)
    (case xeC6 => k_is)
    (case xtC6 => k_is)
    (case dbC6 => k_is)
    (case aB7 => k_is)
    (case xL7 => k_is)
    (case xsa7 => k_is)
    (case xga7 => k_is)
    (case xgg7 => k_is)
    (case xca7 => k_is)
    (case xmo7 => k_is)
    (case xmv7 => k_is)
    (case xis7 => k_is)
    (case xiB7 => k_is)
    (case xtf7 => k_is)
    (case lX7 => k_is)
    (case cX7 => k_is)
    (case kX7 => k_is)
    (case xkC7 => k_is)
    (case xeC7 => k_is)
    (case xtC7 => k_is)
    (case dbC7 => k_is)
    (case aB8 => k_is)
    (case xL8 => k_is)
    (case xsa8 => k_is)
    (case xga8 => k_is)
    (case xgg8 => k_is)
    (case xca8 => k_is)
    (case xmo8 => k_is)
    (case xmv8 => k_is)
    (case xis8 => k_is)
    (case xiB8 => k_is)
    (case xtf8 => k_is)
    (case lX8 => k_is)
    (case cX8 => k_is)
    (case kX8 => k_is)
    (case xkC8 => k_is)
    (case xeC8 => k_is)
    (case xtC8 => k_is)
    (case dbC8 => k_is)
    (case aB9 => k_is)
    (case xL9 => k_is)
    (case xsa9 => k_is)
    (case xga9 => k_is)
    (case xgg9 => k_is)
    (case xca9 => k_is)
    (case xmo9 => k_is)
    (case xmv9 => k_is)
    (case xis9 => k_is)
    (case xiB9 => k_is)
    (case xtf9 => k_is)
    (case lX9 => k_is)
    (case cX9 => k_is)
    (case kX9 => k_is)
    (case xkC9 => k_is)
    (case xeC9 => k_is)
    (case xtC9 => k_is)
    (case dbC9 => k_is)
    (case aB10 => k_is)
    (case xL10 => k_is)
    (case xsa10 => k_is)
    (case xga10 => k_is)
    (case xgg10 => k_is)
    (case xca10 => k_is)
    (case xmo10 => k_is)
    (case xmv10 => k_is)
    (case xis10 => k_is)
    (case xiB10 => k_is)
    (case xtf10 => k_is)
    (case lX10 => k_is)
    (case cX10 => k_is)
    (case kX10 => k_is)
    (case xkC10 => k_is)
    (case xeC10 => k_is)
    (case xtC10 => k_is)
    (case dbC10 => k_is)
    (case aB11 => k_is)
    (case xL11 => k_is)
    (case xsa11 => k_is)
    (case xga11 => k_is)
    (case xgg11 => k_is)
    (case xca11 => k_is)
    (case xmo11 => k_is)
    (case xmv11 => k_is)
    (case xis11 => k_is)
    (case xiB11 => k_is)
    (case xtf11 => k_is)
    (case lX11 => k_is)
    (case cX11 => k_is)
    (case kX11 => k_is)
    (case xkC11 => k_is)
    (case xeC11 => k_is)
    (case xtC11 => k_is)
    (case dbC11 => k_is)
    (case aB12 => k_is)
    (case xL12 => k_is)
    (case xsa12 => k_is)
    (case xga12 => k_is)
    (case xgg12 => k_is)
    (case xca12 => k_is)
    (case xmo12 => k_is)
    (case xmv12 => k_is)
    (case xis12 => k_is)
    (case xiB12 => k_is)
    (case xtf12 => k_is)
    (case lX12 => k_is)
    (case cX12 => k_is)
    (case kX12 => k_is)
    (case xkC12 => k_is)
    (case xeC12 => k_is)
    (case xtC12 => k_is)
    (case dbC12 => k_is)
    (case aB13 => k_is)
    (case xL13 => k_is)
    (case xsa13 => k_is)
    (case xga13 => k_is)
    (case xgg13 => k_is)
    (case xca13 => k_is)
    (case xmo13 => k_is)
    (case xmv13 => k_is)
    (case xis13 => k_is)
    (case xiB13 => k_is)
    (case xtf13 => k_is)
    (case lX13 => k_is)
    (case cX13 => k_is)
    (case kX13 => k_is)
    (case xkC13 => k_is)
    (case xeC13 => k_is)
    (case xtC13 => k_is)
    (case dbC13 => k_is)
    (case aB14 => k_is)
    (case xL14 => k_is)
    (case xsa14 => k_is)
    (case xga14 => k_is)
    (case xgg14 => k_is)
    (case xca14 => k_is)
    (case xmo14 => k_is)
    (case xmv14 => k_is)
    (case xis14 => k_is)
    (case xiB14 => k_is)
    (case xtf14 => k_is)
    (case lX14 => k_is)
    (case cX14 => k_is)
    (case kX14 => k_is)
    (case xkC14 => k_is)
    (case xeC14 => k_is)
    (case xtC14 => k_is)
    (case dbC14 => k_is)
    (case aB15 => k_is)
    (case xL15 => k_is)
    (case xsa15 => k_is)
    (case xga15 => k_is)
    (case xgg15 => k_is)
    (case xca15 => k_is)
    (case xmo15 => k_is)
    (case xmv15 => k_is)
    (case xis15 => k_is)
    (case xiB15 => k_is)
    (case xtf15 => k_is)
    (case lX15 => k_is)
    (case cX15 => k_is)
    (case kX15 => k_is)
    (case xkC15 => k_is)
    (case xeC15 => k_is)
    (case xtC15 => k_is)
    (case dbC15 => k_is)
    (case aB16 => k_is)
    (case xL16 => k_is)
    (case xsa16 => k_is)
    (case xga16 => k_is)
    (case xgg16 => k_is)
    (case xca16 => k_is)
    (case xmo16 => k_is)
    (case xmv16 => k_is)
    (case xis16 => k_is)
    (case xiB16 => k_is)
    (case xtf16 => k_is)
    (case lX16 => k_is)
    (case cX16 => k_is)
    (case kX16 => k_is)
    (case xkC16 => k_is)
    (case xeC16 => k_is)
    (case xtC16 => k_is)
    (case dbC16 => k_is)
    (case aB17 => k_is)
    (case xL17 => k_is)
    (case xsa17 => k_is)
    (case xga17 => k_is)
    (case xgg17 => k_is)
    (case xca17 => k_is)
    (case xmo17 => k_is)
    (case xmv17 => k_is)
    (case xis17 => k_is)
    (case xiB17 => k_is)
    (case xtf17 => k_is)
    (case lX17 => k_is)
    (case cX17 => k_is)
    (case kX17 => k_is)
    (case xkC17 => k_is)
    (case xeC17 => k_is)
    (case xtC17 => k_is)
    (case dbC17 => k_is)
    (case aB18 => k_is)
    (case xL18 => k_is)
    (case xsa18 => k_is)
    (case xga18 => k_is)
    (case xgg18 => k_is)
    (case xca18 => k_is)
    (case xmo18 => k_is)
    (case xmv18 => k_is)
    (case xis18 => k_is)
    (case xiB18 => k_is)
    (case xtf18 => k_is)
    (case lX18 => k_is)
    (case cX18 => k_is)
    (case kX18 => k_is)
    (case xkC18 => k_is)
    (case xeC18 => k_is)
    (case xtC18 => k_is)
    (case dbC18 => k_is)
    (case aB19 => k_is)
    (case xL19 => k_is)
    (case xsa19 => k_is)
    (case xga19 => k_is)
    (case xgg19 => k_is)
    (case xca19 => k_is)
    (case xmo19 => k_is)
    (case xmv19 => k_is)
    (case xis19 => k_is)
    (case xiB19 => k_is)
    (case xtf19 => k_is)
    (case lX19 => k_is)
    (case cX19 => k_is)
    (case kX19 => k_is)
    (case xkC19 => k_is)
    (case xeC19 => k_is)
    (case xtC19 => k_is)
    (case dbC19 => k_is)
    (case aB20 => k_is)
    (case xL20 => k_is)
    (case xsa20 => k_is)
    (case xga20 => k_is)
    (case xgg20 => k_is)
    (case xca20 => k_is)
    (case xmo20 => k_is)
    (case xmv20 => k_is)
    (case xis20 => k_is)
    (case xiB20 => k_is)
    (case xtf20 => k_is)
    (case lX20 => k_is)
    (case cX20 => k_is)
    (case kX20 => k_is)
    (case xkC20 => k_is)
    (case xeC20 => k_is)
    (case xtC20 => k_is)
    (case dbC20 => k_is)
    (case aB21 => k_is)
    (case xL21 => k_is)
    (case xsa21 => k_is)
    (case xga21 => k_is)
    (case xgg21 => k_is)
    (case xca21 => k_is)
    (case xmo21 => k_is)
    (case xmv21 => k_is)
    (case xis21 => k_is)
    (case xiB21 => k_is)
    (case xtf21 => k_is)
    (case lX21 => k_is)
    (case cX21 => k_is)
    (case kX21 => k_is)
    (case xkC21 => k_is)
    (case xeC21 => k_is)
    (case xtC21 => k_is)
    (case dbC21 => k_is)
    (case aB22 => k_is)
    (case xL22 => k_is)
    (case xsa22 => k_is)
    (case xga22 => k_is)
    (case xgg22 => k_is)
    (case xca22 => k_is)
    (case xmo22 => k_is)
    (case xmv22 => k_is)
    (case xis22 => k_is)
    (case xiB22 => k_is)
    (case xtf22 => k_is)
    (case lX22 => k_is)
    (case cX22 => k_is)
    (case kX22 => k_is)
    (case xkC22 => k_is)
    (case xeC22 => k_is)
    (case xtC22 => k_is)
    (case dbC22 => k_is)
    (case aB23 => k_is)
    (case xL23 => k_is)
    (case xsa23 => k_is)
    (case xga23 => k_is)
    (case xgg23 => k_is)
    (case xca23 => k_is)
    (case xmo23 => k_is)
    (case xmv23 => k_is)
    (case xis23 => k_is)
    (case xiB23 => k_is)
    (case xtf23 => k_is)
    (case lX23 => k_is)
    (case cX23 => k_is)
    (case kX23 => k_is)
    (case xkC23 => k_is)
    (case xeC23 => k_is)
    (case xtC23 => k_is)
    (case dbC23 => k_is)
    (case aB24 => k_is)
    (case xL24 => k_is)
    (case xsa24 => k_is)
    (case xga24 => k_is)
    (case xgg24 => k_is)
    (case xca24 => k_is)
    (case xmo24 => k_is)
    (case xmv24 => k_is)
    (case xis24 => k_is)
    (case xiB24 => k_is)
    (case xtf24 => k_is)
    (case lX24 => k_is)
    (case cX24 => k_is)
    (case kX24 => k_is)
    (case xkC24 => k_is)
    (case xeC24 => k_is)
    (case xtC24 => k_is)
    (case dbC24 => k_is)
    (case aB25 => k_is)
    (case xL25 => k_is)
    (case xsa25 => k_is)
    (case xga25 => k_is)
    (case xgg25 => k_is)
    (case xca25 => k_is)
    (case xmo25 => k_is)
    (case xmv25 => k_is)
    (case xis25 => k_is)
    (case xiB25 => k_is)
    (case xtf25 => k_is)
    (case lX25 => k_is)
    (case cX25 => k_is)
    (case kX25 => k_is)
    (case xkC25 => k_is)
    (case xeC25 => k_is)
    (case xtC25 => k_is)
    (case dbC25 => k_is)
    (case aB26 => k_is)
    (case xL26 => k_is)
    (case xsa26 => k_is)
    (case xga26 => k_is)
    (case xgg26 => k_is)
    (case xca26 => k_is)
    (case xmo26 => k_is)
    (case xmv26 => k_is)
    (case xis26 => k_is)
    (case xiB26 => k_is)
    (case xtf26 => k_is)
    (case lX26 => k_is)
    (case cX26 => k_is)
    (case kX26 => k_is)
    (case xkC26 => k_is)
    (case xeC26 => k_is)
    (case xtC26 => k_is)
    (case dbC26 => k_is)
    (case aB27 => k_is)
    (case xL27 => k_is)
    (case xsa27 => k_is)
    (case xga27 => k_is)
    (case xgg27 => k_is)
    (case xca27 => k_is)
    (case xmo27 => k_is)
    (case xmv27 => k_is)
    (case xis27 => k_is)
    (case xiB27 => k_is)
    (case xtf27 => k_is)
    (case lX27 => k_is)
    (case cX27 => k_is)
    (case kX27 => k_is)
    (case xkC27 => k_is)
    (case xfn27_part => k_is)
    (case xfn27_at => k_is)
    (case xhd27 => k_is)
    (case xeC27 => k_is)
    (case xtC27 => k_is)
    (case dbC27 => k_is)
    (case dss27 => k_is)
    (case aB28 => k_is)
    (case xL28 => k_is)
    (case xsa28 => k_is)
    (case xga28 => k_is)
    (case xgg28 => k_is)
    (case xca28 => k_is)
    (case xmo28 => k_is)
    (case xmv28 => k_is)
    (case xis28 => k_is)
    (case xiB28 => k_is)
    (case xtf28 => k_is)
    (case lX28 => k_is)
    (case cX28 => k_is)
    (case kX28 => k_is)
    (case xkC28 => k_is)
    (case xfn28 => k_is)
    (case xhd28 => k_is)
    (case xeC28 => k_is)
    (case xtC28 => k_is)
    (case dbC28 => k_is)
    (case aB29 => k_is)
    (case xL29 => k_is)
    (case xsa29 => k_is)
    (case xga29 => k_is)
    (case xgg29 => k_is)
    (case xca29 => k_is)
    (case xmo29 => k_is)
    (case xmv29 => k_is)
    (case xis29 => k_is)
    (case xiB29 => k_is)
    (case xtf29 => k_is)
    (case lX29 => k_is)
    (case cX29 => k_is)
    (case kX29 => k_is)
    (case xkC29 => k_is)
    (case xfn29 => k_is)
    (case xhd29 => k_is)
    (case xeC29 => k_is)
    (case xtC29 => k_is)
    (case dbC29 => k_is)
    (case aB30 => k_is)
    (case xL30 => k_is)
    (case xsa30 => k_is)
    (case xga30 => k_is)
    (case xgg30 => k_is)
    (case xca30 => k_is)
    (case xmo30 => k_is)
    (case xmv30 => k_is)
    (case xis30 => k_is)
    (case xiB30 => k_is)
    (case xtf30 => k_is)
    (case lX30 => k_is)
    (case cX30 => k_is)
    (case kX30 => k_is)
    (case xkC30 => k_is)
    (case xfn30 => k_is)
    (case xhd30 => k_is)
    (case xeC30 => k_is)
    (case xtC30 => k_is)
    (case dbC30 => k_is)
    (case aB31 => k_is)
    (case xL31 => k_is)
    (case xsa31 => k_is)
    (case xga31 => k_is)
    (case xgg31 => k_is)
    (case xca31 => k_is)
    (case xmo31 => k_is)
    (case xmv31 => k_is)
    (case xis31 => k_is)
    (case xiB31 => k_is)
    (case xtf31 => k_is)
    (case lX31 => k_is)
    (case cX31 => k_is)
    (case kX31 => k_is)
    (case xkC31 => k_is)
    (case xfn31 => k_is)
    (case xhd31 => k_is)
    (case xeC31 => k_is)
    (case xtC31 => k_is)
    (case dbC31 => k_is)
    (case ndD => decide +kernel)
    (case thn => k_is)
    (case thk => k_is)
    (case z_len => k_is)
    (case z_list => k_is)
    (case z_range => k_is)
    (case z_tuple => k_is)
    (case z_sorted => k_is)
    (case z_int => k_is)
    (case z_min => k_is)
    (case z_isinstance => k_is)
    (case z_all => k_is)
    (case z_enumerate => k_is)
    (case z_zip => k_is)
    (case z_set => k_is)
    (case z_repr => k_is)
    (case z_str => k_is)
    (case z_bool => k_is)
