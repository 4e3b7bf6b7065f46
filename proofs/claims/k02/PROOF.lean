import PyProof.Rows.All
import Wide.All
import OpenK.AllK
import Wide.FinOn
import HandS.ForMost
import HandS.OwnEq
import HandS.SortInts
import HandS.TupAny
import HandS.IsInst
import HandS.Flow
import HandS.Zip
import HandS.TupSets
import KE.GoesEnum
import PyProof.InstNe
import HandS.Conv
import HandS.Star
import HandS.Evl
import HandS.RaiseMore
import PySem.Challenge.RW_fullorring_k02_tables_alike
set_option Elab.async false
set_option maxRecDepth 100000
set_option maxHeartbeats 2000000

namespace PySem
open Sem (wp)
theorem meets_enum_newT (v : Value) (o : Obj) (HH : Heap → Prop) (B : Begins v o HH) :
    Meets (Builtin.«enumerate.__new__» ⟨[.type "enumerate", v], []⟩) (fun _ R s => HH s.heap ∧
      R (.ok (.ret (.ref (s.heap.push o).objs.size))) { s with heap := (s.heap.push o).push { cls := .type "enumerate", data := .fields #[.none, .bool false, .ref s.heap.objs.size, rawInt 0, .none, .none] } }) :=
  .of_wp fun prog w A R s h => by
    obtain ⟨hp, g, d, tk, os⟩ := s; obtain ⟨h1, h⟩ := h
    have hsub := sub_enumerate
    have q1 : ∀ {A' : Around} {E : Value → Shared → Prop} {Q : Value → Shared → Prop}, Q (.ref hp.objs.size) ⟨hp.push o, g, d, tk, os⟩ → wpAny (model prog w) A' (pyIter v) Q E ⟨hp, g, d, tk, os⟩ :=
      fun q => B.iter prog w _ _ ⟨hp, g, d, tk, os⟩ _ h1 q
    wp_walk using q1
    refine wpAny_stack_any fun st => wpAny_pure ?_
    split
    · rename_i c _ _ _ _ _
      cases (c == Value.type "enumerate")
      · wp_walk using q1
        exact ⟨_, rfl, h⟩
      · wp_walk using q1
        exact ⟨_, rfl, h⟩
    · wp_walk using q1
      exact ⟨_, rfl, h⟩
section
variable {prog : Program} {w : World} {A : Around} {E : Value → Shared → Prop} {s : Shared}
theorem call_enum_begins {v : Value} {o : Obj} {HH : Heap → Prop} {Q : Value → Shared → Prop} (B : Begins v o HH) (h1 : HH s.heap)
    (h : ∀ h', IsEnum h' (s.heap.objs.size + 1) s.heap.objs.size 0 .none → h'.get? s.heap.objs.size = some o → h'.objs.size = s.heap.objs.size + 2 →
      (∀ b o, s.heap.get? b = some o → h'.get? b = some o) → Q (.ref (s.heap.objs.size + 1)) { s with heap := h' }) :
    wpAny (model prog w) A (call (.type "enumerate") [v]) Q E s := by
  refine callType_new F.called_enumerate (by decide) (F.typeCall_enumerate_1 _) (F.newCall_enumerate_1 _) (fun obj => F.args_object_init_2 obj _) F.entry_enumerate_new
    (meets_enum_newT v o HH B) ⟨h1, ?_⟩
  have hz : (s.heap.push o).objs.size = s.heap.objs.size + 1 := Heap.size_push ..
  show _ ∧ _
  rw [hz]
  have he : IsEnum ((s.heap.push o).push { cls := .type "enumerate", data := .fields #[.none, .bool false, .ref s.heap.objs.size, rawInt 0, .none, .none] }) (s.heap.objs.size + 1) s.heap.objs.size 0 .none := by
    have := Heap.get?_push_size (s.heap.push o) (o := { cls := .type "enumerate", data := .fields #[.none, .bool false, .ref s.heap.objs.size, rawInt 0, .none, .none] }) rfl
    rw [hz] at this; exact this
  refine ⟨⟨_, he, rfl⟩, h _ he (Heap.get?_push_of_some _ (Heap.get?_push_size _ B.free)) (by rw [Heap.size_push, hz]) fun b o x => Heap.get?_push_of_some _ (Heap.get?_push_of_some _ x)⟩
end
end PySem

namespace L2
open PySem PySem.Spec PyProof.Rows
/-! enumerate of a tuple -/
def IteT (K : PySem.W.Frag) (a : Addr) : It :=
  ⟨fun i H => ∃ (xs : List V) (x : V), SqT K H a xs ∧ xs[i]? = some x, fun i H v H' => ∃ T x, v = .ref T ∧ H T = none ∧ H' = upd H T (.tup [.int (i : Nat), x]) ∧ ∀ xs, SqT K H a xs → xs[i]? = some x, fun i H => ∃ xs : List V, SqT K H a xs ∧ xs.length ≤ i⟩
theorem turn_enumT {P : Program} {w : World} {K : PySem.W.Frag} {elts : List Expr} {kk : Nat} {tpos : Pos} (a e it : Addr) :
    Turn P w K (.Tuple elts kk tpos) (IteT K a) [e, it] e (fun i h => (∃ old, IsEnum h e it ((i : Nat) : Int) old) ∧ h.IsTupleIter it a i ∧ e ≠ it ∧ a ≠ it ∧ a ≠ e) where
  mem := by simp
  obj := fun i h st b hb => by
    obtain ⟨⟨old, he⟩, ⟨o, ho, hc, hd⟩, _⟩ := st
    have e' : b = e ∨ b = it := by simpa using hb
    rcases e' with z | z
    · rw [z]; exact ⟨_, he, fun v q => nomatch q⟩
    · rw [z]; exact ⟨o, ho, fun v q => by rw [hd] at q; cases q⟩
  keep := fun i h h' st k => let ⟨⟨old, he⟩, hi, hne⟩ := st; ⟨⟨old, k e (by simp) _ he⟩, hi.at fun o q => k it (by simp) o q, hne⟩
  item := by
    intro X hP hw hK hc i pins s σ H E I hf st hg
    subst hP hw hK
    obtain ⟨⟨old, he⟩, hit, hne, hai, hae⟩ := st
    obtain ⟨xs, x, hq, hx⟩ := hg
    obtain ⟨its, rv, p, hz⟩ := I.tuple hq
    obtain ⟨u, hu, ru⟩ := rv.get hx
    have hel : e < s.heap.objs.size := Heap.lt_size he
    have hil : it < s.heap.objs.size := by obtain ⟨_, q, _⟩ := hit; exact Heap.lt_size q
    have hilt : i < its.toArray.size := by
      have := (List.getElem?_eq_some_iff.mp hu).1
      simpa using this
    refine wpAny_pyNext_enum_itemD (Draws.tuple (A := X.A.in1) (I.ok.hd hc) it a hai its.toArray) he ⟨hit, p⟩ hilt hne (by simp; exact ⟨hne, fun q => hae q.symm⟩) fun x2 h' tk hP ho hst hT hsz hk => ?_
    have ex : x2 = u := by
      have hP' : its[i]? = some x2 := by simpa using hP
      rw [hu] at hP'
      exact (Option.some.inj hP').symm
    subst ex
    refine ⟨_, rfl, wpAny_letOwnedTupleGo_enum (s := { s with heap := h', toks := tk + 1 }) ho fun h'' he' sb => ?_⟩
    have hT2 : h''.get? s.heap.objs.size = some { cls := .type "tuple", data := .seq #[.int i tk, x2] } := (sb.2 _ (Nat.ne_of_gt hel)).trans hT
    have new : ObjOk X.prog X.w (upd H s.heap.objs.size (.tup [.int (i : Nat), x])) h'' s.heap.objs.size (.tup [.int (i : Nat), x]) :=
      ⟨by show 2 ≤ sizeLine; decide, [.int i tk, x2], .cons ⟨_, rfl⟩ (.cons ru .nil), ⟨_, hT2, rfl, _, rfl⟩⟩
    have I1 : Inv X pins σ (upd H s.heap.objs.size (.tup [.int (i : Nat), x])) { s with heap := h'', toks := tk + 1 } :=
      I.turnedNew (ch := [e, it]) (fun b ob hb q => (sb.2 b (fun z => hb (by simp [z]))).trans (hk b ob (fun z => hb (by simp [z])) (fun z => hb (by simp [z])) q)) hf (Nat.le_refl _) new
    refine ⟨.ref s.heap.objs.size, _, I1, rfl, ⟨_, x, rfl, I.hok.fresh (Nat.le_refl _), rfl, fun ys hy => by rw [I.tuple_inj hy hq]; exact hx⟩, ⟨⟨x2, ?_⟩, hst.1.at fun o q => (sb.2 it (Ne.symm hne)).trans q, hne, hai, hae⟩, fun b hb => ?_⟩
    · have e1 : ((i + 1 : Nat) : Int) = (i : Int) + 1 := by omega
      rw [e1]; exact he'
    · have hb' : b < s.heap.objs.size := by
        have e' : b = e ∨ b = it := by simpa using hb
        rcases e' with z | z
        · rw [z]; exact hel
        · rw [z]; exact hil
      rw [upd_ne (Nat.ne_of_lt hb')]
      exact (hf b hb).1
  done := by
    intro X hP hw hK hc i pins s σ H E I hf st hg
    subst hP hw hK
    obtain ⟨⟨old, he⟩, hit, hne, hai, hae⟩ := st
    obtain ⟨xs, hq, hx⟩ := hg
    obtain ⟨its, rv, p, hz⟩ := I.tuple hq
    obtain ⟨f0, f1, f2, f3, f4, f5⟩ := hf it (by simp)
    have hl := rv.length
    have D : Draws X.prog X.w X.A.in1 it [it, a] i (fun _ _ => True) (fun j h => j = i ∧ h.IsTupleIter it a i ∧ h.IsTuple a its.toArray) :=
      ⟨fun _ _ st => (let ⟨o, ho, _⟩ := st.2.1; ⟨o, ho⟩), fun _ _ _ st hk => ⟨st.1, st.2.1.at fun o e => hk it (by simp) o e, st.2.2.at fun o e => hk a (by simp) o e⟩,
        fun j s Q E hj st hQ => absurd st.1 (Nat.ne_of_lt hj), fun s Q E st hE => wpAny_nextOf_tuple_end (I.ok.hd hc) st.2.1 st.2.2 (by simp; omega) hE⟩
    exact wpAny_pyNext_enum_endD D he ⟨rfl, hit, p⟩ fun h' eb => ⟨rfl, I.turned (t' := s.toks) (fun b o hb q => eb b o hb q) f0 f1 f3 f4 f5⟩
  self := fun A i s Q E st h => let ⟨⟨_, he⟩, _⟩ := st; wpAny_pyIter_enum he h
def iEnumT (K : PySem.W.Frag) (ta : TA) : TI := fun σ H R => ta σ H fun vs H1 => ∃ a xs, vs = [.ref a] ∧ SqT K H1 a xs ∧ R (IteT K a) H1
theorem pi_enumT {X : Cx} {e : Expr} {ta : TA} {p pos tpos : Pos} {elts : List Expr} {kk : Nat} (hg : Gl X "enumerate") (hm : X.mg "enumerate" = none) (ha : PA X [e] ta) (hs : starEach [e] X.env = [(false, eval e X.env)] := by rfl) :
    PI X (.Tuple elts kk tpos) (.Call (.Name "enumerate" p) [e] [] pos) (iEnumT X.K ta) := by
  refine ⟨fun pins s σ H R I h => ?_⟩
  refine Call_ (ld_blt I hg hm boot_enumerate (PyProof.Rows.callWith_type1 (thn (ha.run pos pins s σ H _ I h) fun us s1 ⟨vs, H1, I1, r1, q1⟩ => ?_) hs rfl))
  obtain ⟨a, xs, ex, hq, q⟩ := q1
  subst ex
  cases r1 with
  | cons r rr =>
    cases rr
    cases r
    obtain ⟨its, rv, p', hz⟩ := I1.tuple hq
    have halt : a < s1.heap.objs.size := by obtain ⟨_, q, _⟩ := id p'; exact Heap.lt_size q
    refine call_enum_begins (begins_tuple a its.toArray) p' fun h' he hit hsz hk => wpAny_pyIter_enum he ?_
    have I2 : Inv X pins σ H1 { s1 with heap := h' } := I1.kept (t' := s1.toks) hk
    refine ⟨s1.heap.objs.size + 1, [s1.heap.objs.size + 1, s1.heap.objs.size], _, _, H1, rfl, I2, turn_enumT a (s1.heap.objs.size + 1) s1.heap.objs.size, ⟨⟨.none, he⟩, ⟨_, hit, rfl, rfl⟩, Nat.succ_ne_self _, Nat.ne_of_lt halt, Nat.ne_of_lt (Nat.lt_succ_of_lt halt)⟩, fun b hb => ?_, q⟩
    have e' : b = s1.heap.objs.size + 1 ∨ b = s1.heap.objs.size := by simpa using hb
    have hle : s1.heap.objs.size ≤ b := by
      rcases e' with z | z
      · rw [z]; exact Nat.le_add_right _ _
      · rw [z]; exact Nat.le_refl _
    exact I1.fpOk hle (I1.hok.fresh hle)
end L2

set_option maxRecDepth 100000
set_option maxHeartbeats 2000000
namespace Fo
open PySem PySem.Spec PyProof.Rows L2
/-! ### defs by their names -/
structure At (K : PySem.W.Frag) (mg : Str → Option Value) (x : Str) (st : Stmt) (ps : List Str) : Prop where
  ex : ∃ f fd, mg x = some (.ref f) ∧ Fun K x x st f fd ∧ Binds K fd ps []
structure Dfn (P : Program) (w : World) (K : PySem.W.Frag) (mg : Str → Option Value) (base : Heap) (x : Str) (ps : List Str) (k : Nat) (sp : Sp) : Prop where
  ex : ∃ f fd, mg x = some (.ref f) ∧ PySem.W.keepIn K (.ref f) = true ∧ FnOk P w K mg base CX0 k f fd ps sp ∧ Binds K fd ps []
structure Tx (mg : Str → Option Value) : Prop where
  len : mg "len" = none
  list : mg "list" = none
  range : mg "range" = none
  tuple : mg "tuple" = none
  sorted : mg "sorted" = none
  int : mg "int" = none
  min : mg "min" = none
  isinstance : mg "isinstance" = none
  all : mg "all" = none
  enumerate : mg "enumerate" = none
  zip : mg "zip" = none
  set : mg "set" = none
  repr : mg "repr" = none
  str : mg "str" = none
  bool : mg "bool" = none
section
variable {P : Program} {w : World} {K : PySem.W.Frag} {mg : Str → Option Value} {base : Heap}
theorem At.ok {x : Str} {st : Stmt} {N ps : List Str} {k : Nat} {sp : Sp} (a : At K mg x st ps) (S : FnScope N ps (defScope st)) (len : ∀ vs H Q E, sp vs H Q E → vs.length = ps.length)
    (hbody : ∀ (f : Addr) (cdv : Value) (A : Around) (outer : List Env) (s : Shared) (H : Hp) (vs : List V) (Q : VK) (E : XK), Room k (A.deeper (envOfC x (defScope st) s.heap.objs.size f cdv)) → sp vs H Q E →
      ∃ t, PSs (cxOf CX0 P w K mg base N x (defScope st) f cdv A outer s H E).nox (defBody st) t ∧ t { nx := fun _ H' => Q .non H', rt := Q } (start N vs) H) : Dfn P w K mg base x ps (k + 1) sp := by
  obtain ⟨f, fd, hm, F, b⟩ := a.ex
  exact ⟨f, fd, hm, F.kp, F.ok S len (hbody f), b⟩
theorem pe_d {X : Cx} {x : Str} {ps : List Str} {k : Nat} {sp : Sp} {e : Expr} {es : List Expr} {t : TA} {p pos : Pos} (G : Dfn X.prog X.w X.K X.mg X.base x ps k sp) (hr : Room k X.A) (ha : PA X (e :: es) t) (hg : Gl X x := by rfl)
    (hdb : (x == ("__debug__" : Str)) = false := by decide) (he : starEach (e :: es) X.env = (false, eval e X.env) :: starEach es X.env := by rfl) (hpl : (backTo pos (starEach es X.env)).any (·.1) = false := by rfl) :
    PE X (.Call (.Name x p) (e :: es) [] pos) (tCall sp [] E0 t) := by
  obtain ⟨f, fd, hm, kp, F, b⟩ := G.ex
  exact pe_call F hr hg hm kp b .nil pass0 ha hdb he hpl
theorem pe_d0 {X : Cx} {x : Str} {ps : List Str} {k : Nat} {sp : Sp} {p pos : Pos} (G : Dfn X.prog X.w X.K X.mg X.base x ps k sp) (hr : Room k X.A) (hg : Gl X x := by rfl)
    (hdb : (x == ("__debug__" : Str)) = false := by decide) :
    PE X (.Call (.Name x p) [] [] pos) (fun _ H Q => sp [] H Q E0) := by
  obtain ⟨f, fd, hm, kp, F, b⟩ := G.ex
  exact pe_call0 F hr hg hm kp b .nil pass0 hdb
end
/-! ### heaps that grow -/
/-- all but what stands at t is kept -/
def Gr (t : Addr) (H H' : Hp) : Prop := ∀ a o, a ≠ t → H a = some o → H' a = some o
theorem Gr.refl {t : Addr} (H : Hp) : Gr t H H := fun _ _ _ h => h
theorem Gr.trans {t : Addr} {H H1 H2 : Hp} (a : Gr t H H1) (b : Gr t H1 H2) : Gr t H H2 := fun c o n h => b c o n (a c o n h)
theorem Gr.new {t : Addr} {H : Hp} {p : Addr} {o : HO} (h : H p = none) : Gr t H (upd H p o) := fun a u _ e => by
  rw [upd_ne (ne_of_none e h)]
  exact e
theorem Gr.put {t : Addr} {H : Hp} {o : HO} : Gr t H (upd H t o) := fun a u n e => by
  rw [upd_ne n]
  exact e
theorem Gr.of {t : Addr} {H H' : Hp} (e : Same H H') : Gr t H H' := fun a o _ h => e a o h
theorem Gr.free {t : Addr} {H H' : Hp} (g : Gr t H H') (ht : H' t ≠ none) {p : Addr} (h : H' p = none) : H p = none := by
  cases q : H p with
  | none => rfl
  | some o =>
    have hne : p ≠ t := fun z => ht (z ▸ h)
    rw [g p o hne q] at h
    cases h
theorem same_new {H : Hp} {p : Addr} {o : HO} (h : H p = none) : Same H (upd H p o) := fun a u e => by
  rw [upd_ne (ne_of_none e h)]
  exact e
/-- an object that H does not know may change -/
theorem same_mut {H H' : Hp} {p : Addr} {o : HO} (e : Same H H') (h : H p = none) : Same H (upd H' p o) := fun a u ha => by
  rw [upd_ne (ne_of_none ha h)]
  exact e a u ha
theorem gr_mut {t : Addr} {H H' : Hp} {p : Addr} {o : HO} (e : Gr t H H') (h : H p = none) : Gr t H (upd H' p o) := fun a u n ha => by
  rw [upd_ne (ne_of_none ha h)]
  exact e a u n ha
theorem sqT_same {K : PySem.W.Frag} {H H' : Hp} {a : Addr} {xs : List V} (e : Same H H') (h : SqT K H a xs) : SqT K H' a xs := by
  rcases h with (h | ⟨o, h⟩) | h
  · exact .inl (.inl (e _ _ h))
  · exact .inl (.inr ⟨o, e _ _ h⟩)
  · exact .inr h
/-! ### the tape -/
def Tape (H : Hp) (t l : Addr) : Prop := ∃ (ns : List Int) (b c d e : Int), H t = some (.lst [.ref l, .int b, .int c, .int d, .int e]) ∧ H l = some (.lst (ns.map V.int)) ∧ 0 ≤ b
theorem ints_ne (ns : List Int) (l : Addr) (r : List V) : (HO.lst (ns.map V.int)) ≠ .lst (.ref l :: r) := by
  intro q
  cases ns with
  | nil => injection q with q; cases q
  | cons x r => injection q with q; injection q with q; cases q
theorem Tape.ne {H : Hp} {t l : Addr} (T : Tape H t l) : l ≠ t := by
  obtain ⟨ns, b, c, d, e, ht, hl, hb⟩ := T
  exact ne_of hl ht (ints_ne _ _ _)
theorem Tape.there {H : Hp} {t l : Addr} (T : Tape H t l) : H t ≠ none := by
  obtain ⟨ns, b, c, d, e, h, _⟩ := T
  rw [h]
  exact fun z => nomatch z
theorem Tape.keep {H H' : Hp} {t l : Addr} (T : Tape H t l) (g : Same H H') : Tape H' t l := by
  obtain ⟨ns, b, c, d, e, h, hl, hb⟩ := T
  exact ⟨ns, b, c, d, e, g _ _ h, g _ _ hl, hb⟩
/-- what is new is neither of the tape's two -/
theorem Tape.free {H : Hp} {t l a : Addr} (T : Tape H t l) (h : H a = none) : a ≠ t ∧ a ≠ l := by
  obtain ⟨ns, b, c, d, e, ht, hl, hb⟩ := T
  exact ⟨(ne_of_none ht h).symm, (ne_of_none hl h).symm⟩
theorem Tape.new {H : Hp} {t l a : Addr} {o : HO} (T : Tape H t l) (h : H a = none) : Tape (upd H a o) t l := T.keep (same_new h)
/-- other objects than the tape's own may change -/
theorem Tape.mut {H : Hp} {t l a : Addr} {u : HO} (T : Tape H t l) (n : a ≠ t ∧ a ≠ l) : Tape (upd H a u) t l := by
  obtain ⟨ns, b, c, d, e, ht, hl, hb⟩ := T
  exact ⟨ns, b, c, d, e, by rw [upd_ne n.1.symm]; exact ht, by rw [upd_ne n.2.symm]; exact hl, hb⟩
theorem Tape.ne_ints' {H : Hp} {t l a : Addr} {ns : List Int} (T : Tape H t l) (h : H a = some (.lst (ns.map V.int))) : a ≠ t := by
  obtain ⟨ms, b, c, d, e, ht, hl, hb⟩ := T
  exact ne_of h ht (ints_ne _ _ _)
theorem Gr.fresh {t l : Addr} {H H' : Hp} (g : Gr t H H') (T : Tape H' t l) {p : Addr} (h : H' p = none) : H p = none := g.free T.there h
/-! ### data -/
abbrev dI (ns : List Int) : PyData := .tuple (ns.map .int)
abbrev dR (rows : List (List Int)) : PyData := .tuple (rows.map dI)
mutual
theorem dp_same {K : PySem.W.Frag} {H H' : Hp} (e : Same H H') : ∀ {v : V} {d : PyData}, Dp K H v d → Dp K H' v d
  | _, _, .non => .non
  | _, _, .bl b => .bl b
  | _, _, .int i => .int i
  | _, _, .str x => .str x
  | _, _, .lst h r => .lst (e.seq h) (dpAll_same e r)
  | _, _, .tup h r => .tup (sqT_same e h) (dpAll_same e r)
theorem dpAll_same {K : PySem.W.Frag} {H H' : Hp} (e : Same H H') : ∀ {vs : List V} {ds : List PyData}, DpAll K H vs ds → DpAll K H' vs ds
  | _, _, .nil => .nil
  | _, _, .cons h r => .cons (dp_same e h) (dpAll_same e r)
end
theorem dpAll_ints {K : PySem.W.Frag} {H : Hp} : ∀ (ns : List Int), DpAll K H (ns.map V.int) (ns.map .int)
  | [] => .nil
  | n :: r => .cons (.int n) (dpAll_ints r)
theorem ints_dpAll {K : PySem.W.Frag} {H : Hp} : ∀ {ns : List Int} {vs : List V}, DpAll K H vs (ns.map .int) → vs = ns.map V.int
  | [], _, .nil => rfl
  | n :: r, _, .cons (.int _) h => by rw [ints_dpAll h]; rfl
theorem dpAll_len {K : PySem.W.Frag} {H : Hp} : ∀ {vs : List V} {ds : List PyData}, DpAll K H vs ds → vs.length = ds.length
  | _, _, .nil => rfl
  | _, _, .cons _ r => by rw [List.length_cons, List.length_cons, dpAll_len r]
theorem dpAll_get {K : PySem.W.Frag} {H : Hp} : ∀ {vs : List V} {ds : List PyData} {i : Nat} {v : V}, DpAll K H vs ds → vs[i]? = some v → ∃ d, ds[i]? = some d ∧ Dp K H v d
  | _, _, _, _, .nil, e => by simp at e
  | _, _, 0, _, .cons h _, e => by simp at e; subst e; exact ⟨_, rfl, h⟩
  | _, _, i + 1, v, .cons _ r, e => by
    obtain ⟨d, h1, h2⟩ := dpAll_get (i := i) (v := v) r (by simpa using e)
    exact ⟨d, by simpa using h1, h2⟩
theorem dpAll_get' {K : PySem.W.Frag} {H : Hp} {vs : List V} {ds : List PyData} {i : Nat} {d : PyData} (h : DpAll K H vs ds) (e : ds[i]? = some d) : ∃ v, vs[i]? = some v ∧ Dp K H v d := by
  have h1 : i < vs.length := by rw [dpAll_len h]; exact (List.getElem?_eq_some_iff.mp e).1
  obtain ⟨d', e', q⟩ := dpAll_get h (List.getElem?_eq_getElem h1)
  rw [e] at e'
  cases e'
  exact ⟨_, List.getElem?_eq_getElem h1, q⟩
theorem dpAll_append {K : PySem.W.Frag} {H : Hp} : ∀ {vs ws : List V} {ds es : List PyData}, DpAll K H vs ds → DpAll K H ws es → DpAll K H (vs ++ ws) (ds ++ es)
  | _, _, _, _, .nil, s => s
  | _, _, _, _, .cons h r, s => .cons h (dpAll_append r s)
theorem dp_tup {K : PySem.W.Frag} {H : Hp} {v : V} {ds : List PyData} (h : Dp K H v (.tuple ds)) : ∃ a xs, v = .ref a ∧ SqT K H a xs ∧ DpAll K H xs ds := by
  cases h with
  | tup h r => exact ⟨_, _, rfl, h, r⟩
theorem dp_row {K : PySem.W.Frag} {H : Hp} {v : V} {ns : List Int} (h : Dp K H v (dI ns)) : ∃ a, v = .ref a ∧ SqT K H a (ns.map V.int) := by
  obtain ⟨a, xs, e, h, r⟩ := dp_tup h
  rw [ints_dpAll r] at h
  exact ⟨a, e, h⟩
theorem dp_rowI {K : PySem.W.Frag} {H : Hp} {a : Addr} {ns : List Int} (h : SqT K H a (ns.map V.int)) : Dp K H (.ref a) (dI ns) := .tup h (dpAll_ints ns)
/-- tuples are not changed by what changes at t -/
theorem gr_T {t l : Addr} {K : PySem.W.Frag} {H H' : Hp} (g : Gr t H H') (T : Tape H t l) {a : Addr} {xs : List V} (h : SqT K H a xs) : SqT K H' a xs := by
  obtain ⟨ns, b, c, d, e, ht, hl, hb⟩ := T
  rcases h with (h | ⟨o, h⟩) | h
  · exact .inl (.inl (g _ _ (ne_of h ht (by intro z; cases z)) h))
  · exact .inl (.inr ⟨o, g _ _ (ne_of h ht (by intro z; cases z)) h⟩)
  · exact .inr h
/-! rows of a table -/
structure Good (rows : List (List Int)) : Prop where
  pos : 1 ≤ rows.length
  asc : ∀ r ∈ rows, r.Pairwise (· < ·)
  rng : ∀ r ∈ rows, ∀ x ∈ r, 0 ≤ x ∧ x < (rows.length : Int)
inductive RowsT (K : PySem.W.Frag) (H : Hp) : List V → List (List Int) → Prop where
  | nil : RowsT K H [] []
  | cons {a : Addr} {vs : List V} {r : List Int} {rs : List (List Int)} : SqT K H a (r.map V.int) → RowsT K H vs rs → RowsT K H (.ref a :: vs) (r :: rs)
theorem rowsT_dp {K : PySem.W.Frag} {H : Hp} : ∀ {vs : List V} {rs : List (List Int)}, RowsT K H vs rs → DpAll K H vs (rs.map dI)
  | _, _, .nil => .nil
  | _, _, .cons h r => .cons (dp_rowI h) (rowsT_dp r)
theorem dp_rowsT {K : PySem.W.Frag} {H : Hp} : ∀ {rs : List (List Int)} {vs : List V}, DpAll K H vs (rs.map dI) → RowsT K H vs rs
  | [], _, .nil => .nil
  | r :: rs, _, .cons h t => by
    obtain ⟨a, rfl, q⟩ := dp_row h
    exact .cons q (dp_rowsT t)
theorem RowsT.gr {t l : Addr} {K : PySem.W.Frag} {H H' : Hp} (g : Gr t H H') (T : Tape H t l) : ∀ {vs : List V} {rs : List (List Int)}, RowsT K H vs rs → RowsT K H' vs rs
  | _, _, .nil => .nil
  | _, _, .cons h r => .cons (gr_T g T h) (r.gr g T)
theorem RowsT.same {K : PySem.W.Frag} {H H' : Hp} (g : Same H H') : ∀ {vs : List V} {rs : List (List Int)}, RowsT K H vs rs → RowsT K H' vs rs
  | _, _, .nil => .nil
  | _, _, .cons h r => .cons (sqT_same g h) (r.same g)
theorem RowsT.len {K : PySem.W.Frag} {H : Hp} : ∀ {vs : List V} {rs : List (List Int)}, RowsT K H vs rs → vs.length = rs.length
  | _, _, .nil => rfl
  | _, _, .cons _ r => by rw [List.length_cons, List.length_cons, r.len]
theorem RowsT.snoc {K : PySem.W.Frag} {H : Hp} {a : Addr} {r : List Int} (h : SqT K H a (r.map V.int)) : ∀ {vs : List V} {rs : List (List Int)}, RowsT K H vs rs → RowsT K H (vs ++ [.ref a]) (rs ++ [r])
  | _, _, .nil => .cons h .nil
  | _, _, .cons q t => .cons q (t.snoc h)
theorem RowsT.get {K : PySem.W.Frag} {H : Hp} : ∀ {vs : List V} {rs : List (List Int)} {i : Nat} {r : List Int}, RowsT K H vs rs → rs[i]? = some r → ∃ a, vs[i]? = some (.ref a) ∧ SqT K H a (r.map V.int)
  | _, _, _, _, .nil, e => by simp at e
  | _, _, 0, _, .cons h _, e => by simp at e; subst e; exact ⟨_, rfl, h⟩
  | _, _, i + 1, r, .cons _ t, e => by
    obtain ⟨a, h1, h2⟩ := t.get (i := i) (r := r) (by simpa using e)
    exact ⟨a, by simpa using h1, h2⟩
/-- rows that stand as a tuple at a -/
def RowsAt (K : PySem.W.Frag) (H : Hp) (v : V) (rows : List (List Int)) : Prop := ∃ a vs, v = .ref a ∧ SqT K H a vs ∧ RowsT K H vs rows
theorem RowsAt.gr {t l : Addr} {K : PySem.W.Frag} {H H' : Hp} {v : V} {rows : List (List Int)} (h : RowsAt K H v rows) (g : Gr t H H') (T : Tape H t l) : RowsAt K H' v rows := by
  obtain ⟨a, vs, e, h1, h2⟩ := h
  exact ⟨a, vs, e, gr_T g T h1, h2.gr g T⟩
theorem RowsAt.same {K : PySem.W.Frag} {H H' : Hp} {v : V} {rows : List (List Int)} (h : RowsAt K H v rows) (g : Same H H') : RowsAt K H' v rows := by
  obtain ⟨a, vs, e, h1, h2⟩ := h
  exact ⟨a, vs, e, sqT_same g h1, h2.same g⟩
theorem RowsAt.dp {K : PySem.W.Frag} {H : Hp} {v : V} {rows : List (List Int)} (h : RowsAt K H v rows) : Dp K H v (dR rows) := by
  obtain ⟨a, vs, rfl, h1, h2⟩ := h
  exact .tup h1 (rowsT_dp h2)
theorem RowsAt.of {K : PySem.W.Frag} {H : Hp} {v : V} {rows : List (List Int)} (h : Dp K H v (dR rows)) : RowsAt K H v rows := by
  obtain ⟨a, vs, rfl, h1, h2⟩ := dp_tup h
  exact ⟨a, vs, rfl, h1, dp_rowsT h2⟩
/-! ### sorted lists -/
theorem sorted_strict {l : List Int} (h : l.Pairwise (· ≤ ·)) (hn : l.Nodup) : l.Pairwise (· < ·) := by
  have := List.Pairwise.and h hn
  exact this.imp fun {a b} q => by
    have := q.1
    have := q.2
    omega
def rangeI (n : Int) : List Int := (List.range n.toNat).map fun (i : Nat) => (i : Int)
theorem rangeI_len (n : Int) : (rangeI n).length = n.toNat := by unfold rangeI; rw [List.length_map, List.length_range]
theorem rangeI_nodup (n : Int) : (rangeI n).Nodup := by
  unfold rangeI
  exact List.Pairwise.map _ (fun (a b : Nat) (h : a ≠ b) (q : (a : Int) = (b : Int)) => h (by omega)) List.nodup_range
theorem mem_rangeI {n x : Int} : x ∈ rangeI n ↔ 0 ≤ x ∧ x < n := by
  unfold rangeI
  rw [List.mem_map]
  constructor
  · rintro ⟨i, hi, rfl⟩
    have := List.mem_range.mp hi
    omega
  · intro h
    exact ⟨x.toNat, List.mem_range.mpr (by omega), by omega⟩
theorem rgV_rangeI (n : Int) : rgV 0 n = (rangeI n).map V.int := by
  unfold rgV rangeI
  rw [List.map_map, Int.sub_zero]
  apply List.map_congr_left
  intro i _
  show V.int (0 + (i : Int)) = V.int (i : Int)
  rw [Int.zero_add]
theorem atI_lt {α : Type} {xs : List α} {i : Int} (h0 : 0 ≤ i) (h1 : i < xs.length) : ∃ x, atI xs i = some x ∧ xs[i.toNat]? = some x := by
  have h : i.toNat < xs.length := by omega
  refine ⟨xs[i.toNat], ?_, List.getElem?_eq_getElem h⟩
  have q : atI xs ((i.toNat : Nat) : Int) = some xs[i.toNat] := atI_nat (List.getElem?_eq_getElem h)
  rw [← q]
  exact congrArg _ (by omega)
theorem map_atI {i : Int} {ns : List Int} (h0 : 0 ≤ i) (h1 : i < ns.length) : ∃ x, x ∈ ns ∧ atI (ns.map V.int) i = some (.int x) := by
  obtain ⟨x, h, g⟩ := atI_lt (xs := ns.map V.int) h0 (by rw [List.length_map]; exact h1)
  rw [List.getElem?_map] at g
  cases e : ns[i.toNat]? with
  | none => rw [e] at g; cases g
  | some y =>
    rw [e] at g
    have : V.int y = x := Option.some.inj g
    subst this
    exact ⟨y, List.mem_of_getElem? e, h⟩
theorem map_eraseIdx' {α β : Type} (f : α → β) : ∀ (l : List α) (i : Nat), (l.map f).eraseIdx i = (l.eraseIdx i).map f
  | [], _ => rfl
  | _ :: _, 0 => rfl
  | x :: r, i + 1 => by
    show f x :: (r.map f).eraseIdx i = f x :: (r.eraseIdx i).map f
    rw [map_eraseIdx' f r i]
theorem inV_ints (x : Int) (ns : List Int) : inV (.int x) (ns.map V.int) = decide (x ∈ ns) := by
  induction ns with
  | nil => rfl
  | cons y r ih =>
    show (y == x || (r.map V.int).any fun z => eqV z (.int x)) = decide (x ∈ y :: r)
    have ih' : ((r.map V.int).any fun z => eqV z (.int x)) = decide (x ∈ r) := ih
    rw [ih']
    by_cases h : y = x
    · subst h
      simp
    · have h' : ¬ x = y := fun q => h q.symm
      simp [h, h']
theorem all_flat_ints (ns : List Int) : (ns.map V.int).all flatV = true := by
  rw [List.all_eq_true]
  intro x hx
  obtain ⟨n, _, rfl⟩ := List.mem_map.mp hx
  rfl
theorem seq_at {n : Nat} {k : Int} (h0 : 0 ≤ k) (h1 : k < n) : seqIndex? k n = some k.toNat := by
  have h : ixN n k = some k.toNat := by
    unfold ixN
    rw [if_pos h0, if_pos h1]
  exact (ixN_seq h).1
theorem nodup_of_lt {l : List Int} (h : l.Pairwise (· < ·)) : l.Nodup := h.imp fun {a b} q z => by omega
/-! built-ins' readings by name -/
def rLenS (K : PySem.W.Frag) : List V → Hp → VK → Prop := fun xs H Q => ∃ p ys, xs = [.ref p] ∧ (SqL K H p ys ∨ SqT K H p ys) ∧ Q (.int ys.length) H
theorem c_len {X : Cx} : CallR X (.builtin "len") (rLenS X.K) := call_len_seq
def rListOf (K : PySem.W.Frag) : List V → Hp → VK → Prop := fun xs H Q => ∃ p ys, xs = [.ref p] ∧ (SqL K H p ys ∨ SqT K H p ys) ∧ ∀ l, H l = none → Q (.ref l) (upd H l (.lst ys))
theorem c_list {X : Cx} : CallR X (.type "list") (rListOf X.K) := call_list_of
def rTupOf (K : PySem.W.Frag) : List V → Hp → VK → Prop := fun xs H Q => ∃ p ys, xs = [.ref p] ∧ ((SqL K H p ys ∧ ∀ l, H l = none → Q (.ref l) (upd H l (.tup ys))) ∨ (SqT K H p ys ∧ Q (.ref p) H))
theorem c_tuple {X : Cx} : CallR X (.type "tuple") (rTupOf X.K) := call_tuple_of
def rIntOf : List V → Hp → VK → Prop := fun xs H Q => (∃ i, xs = [.int i] ∧ Q (.int i) H) ∨ ∃ k, xs = [.bl k] ∧ Q (.int (if k then 1 else 0)) H
theorem c_int {X : Cx} : CallR X (.type "int") rIntOf := call_int1
def rMin2 : List V → Hp → VK → Prop := fun xs H Q => ∃ i j, xs = [.int i, .int j] ∧ Q (.int (if j < i then j else i)) H
theorem c_min {X : Cx} (hc : X.calm = true) : CallR X (.builtin "min") rMin2 := call_min2 hc
theorem perm_erase {α : Type} : ∀ (l : List α) (i : Nat) (h : i < l.length), (l[i] :: l.eraseIdx i).Perm l
  | _ :: _, 0, _ => List.Perm.refl _
  | x :: r, i + 1, h => by
    have h' : i < r.length := by simpa using h
    show (r[i] :: x :: r.eraseIdx i).Perm (x :: r)
    exact (List.Perm.swap x r[i] _).trans ((perm_erase r i h').cons x)
theorem small_lt {n : Nat} (h : n ≤ 100000) : n < sizeLine := Nat.lt_of_le_of_lt h (by decide)
theorem small_le {n : Nat} (h : n ≤ 100000) : n ≤ sizeLine := Nat.le_trans h (by decide)
theorem Gr.upd2 {t : Addr} {H H' : Hp} {a : Addr} {o : HO} (g : Gr t H H') (h : H a = none) : Gr t H (upd H' a o) := gr_mut g h
/-- ascending rows -/
theorem asc_of {row l : List Int} (hp : row.Perm l) (hs : row.Pairwise (· ≤ ·)) (hn : l.Nodup) : row.Pairwise (· < ·) := sorted_strict hs (hp.symm.nodup hn)
theorem asc_snoc {row : List Int} {j : Int} (hp : row.Pairwise (· < ·)) (h : ∀ x ∈ row, x < j) : (row ++ [j]).Pairwise (· < ·) := by
  rw [List.pairwise_append]
  exact ⟨hp, List.pairwise_singleton _ _, fun a ha b hb => by rw [List.mem_singleton.mp hb]; exact h a ha⟩
theorem nodup_snoc {row : List Int} {j : Int} (hp : row.Nodup) (h : j ∉ row) : (row ++ [j]).Nodup := by
  show (row ++ [j]).Pairwise (· ≠ ·)
  rw [List.pairwise_append]
  exact ⟨hp, List.pairwise_singleton _ _, fun a ha b hb q => by rw [List.mem_singleton.mp hb] at q; exact h (q ▸ ha)⟩
theorem map_snoc (row : List Int) (j : Int) : row.map V.int ++ [V.int j] = (row ++ [j]).map V.int := by rw [List.map_append]; rfl
/-- a list that changes is no row -/
theorem sqT_put {K : PySem.W.Frag} {H : Hp} {a f : Addr} {xs vs ws : List V} (h : SqT K H a xs) (e : H f = some (.lst vs)) : SqT K (upd H f (.lst ws)) a xs := by
  rcases h with (h | ⟨o, h⟩) | h
  · exact .inl (.inl (by rw [upd_ne (ne_of h e (by intro z; cases z))]; exact h))
  · exact .inl (.inr ⟨o, by rw [upd_ne (ne_of h e (by intro z; cases z))]; exact h⟩)
  · exact .inr h
theorem RowsT.put {K : PySem.W.Frag} {H : Hp} {f : Addr} {us ws : List V} (e : H f = some (.lst us)) : ∀ {vs : List V} {rs : List (List Int)}, RowsT K H vs rs → RowsT K (upd H f (.lst ws)) vs rs
  | _, _, .nil => .nil
  | _, _, .cons h r => .cons (sqT_put h e) (r.put e)
theorem row_len : ∀ {r : List Int} {lo hi : Int}, r.Pairwise (· < ·) → (∀ x ∈ r, lo ≤ x ∧ x < hi) → (r.length : Int) ≤ (hi - lo).toNat
  | [], lo, hi, _, _ => Int.natCast_nonneg _
  | x :: r, lo, hi, h, hb => by
    have h1 := hb x List.mem_cons_self
    have h2 := row_len (r := r) (lo := x + 1) (hi := hi) (List.pairwise_cons.mp h).2 fun y hy => by
      have := (List.pairwise_cons.mp h).1 y hy
      have := (hb y (List.mem_cons_of_mem _ hy)).2
      omega
    rw [List.length_cons]
    omega
end Fo

set_option maxRecDepth 100000
set_option maxHeartbeats 2000000
namespace PySem.W
open PySem PySem.Spec PyProof.Rows Builtin
section
variable {prog : Program} {w : World} {A : Around} {E : Value → Shared → Prop} {s : Shared} {K : Frag} {x C f : Addr} {ox : Obj} {od : Option Obj} {b tb : Value}
/-- != of an instance whose class has its own == alone -/
theorem fo_callNe {Q : Option Value → Shared → Prop} (X : K.In s.heap) (I : InstAt s.heap x ox C od) (hn : findIn K (.ref C) (Str.ofString "__ne__") = some (some (.builtin "object.__ne__")))
    (h : wpAny (model prog w) A (call (.builtin "object.__ne__") [.ref x, b]) (fun v => Q (some v)) E s) : wpAny (model prog w) A (callSpecialIfBound? (.ref x) (Str.ofString "__ne__") [b]) Q E s := by
  simp only [callSpecialIfBound?, bindSpecialIfBound?]
  refine wpAny_holding (wpAny_bind (wpAny_bind (wpAny_bind (I.type.here ((looks_findIn X hn).here ?_)))))
  simp only [PySem.F.cmp_object.ne.bind]
  refine wpAny_bind (wpAny_askSetting (wpAny_ite ?_))
  have fin : wpAny (model prog w) A (call (.builtin "object.__ne__") ([.ref x] ++ [b]) >>= fun v => pure (some v)) Q E s := wpAny_bind (wpAny_mono h (fun v s' h' => wpAny_pure h') fun _ _ h' => h')
  split
  · exact wpAny_bind (wpAny_pure (wpAny_pure fin))
  · exact wpAny_tryCatch (wpAny_bind (wpAny_pure (wpAny_pure fin)))
theorem fo_checkNe {Q : Unit → Shared → Prop} {A : Around} (X : K.In s.heap) (I : InstAt s.heap x ox C od) (hm : mroIn K C (.type "object") = some true) (hq : Q () s) :
    wpAny (model prog w) A (checkBuiltinCall "object.__ne__" ⟨[.ref x, b], []⟩) Q E s := by
  simp only [checkBuiltinCall, PySem.F.cmpKind_ne, PySem.F.cmpSplit_ne]
  refine wpAny_bind ?_
  unfold isInstance
  refine wpAny_bind (I.type.here ((looks_mroIn X hm).here ?_))
  simp only [Bool.not_true, Bool.false_eq_true, if_false]
  exact wpAny_pure hq
theorem fo_bodyNe {Q : Fin → Shared → Prop} {A : Around} (hu : A.units < cLine) (X : K.In s.heap) (I : InstAt s.heap x ox C od) (hs : findIn K (.ref C) (Str.ofString "__eq__") = some (some (.ref f))) (hf : isFn K (.ref f) = true)
    (h : wpAny (model prog w) A (call (.ref f) [.ref x, b]) (fun v s' => ∃ c, v = .bool c ∧ Q (.done (.ret (.bool (!c)))) s') E s) :
    wpAny (model prog w) A (Builtin.«object.__ne__» ⟨[.ref x, b], []⟩) Q E s := by
  unfold Builtin.«object.__ne__»
  repeat' (first
    | with_reducible refine wpAny_cRoomFor hu ?_
    | refine wpAny_bind (m := callSpecialIfBound? (.ref x) (Str.ofString "__eq__") [b]) (ifBound_K X I hs hf (wpAny_mono h ?_ fun _ _ e => e))
    | wp_step)
  intro r s' hr
  obtain ⟨c, rfl, hq⟩ := hr
  refine wpAny_bind (wpAny_truthy_bool ?_)
  exact wpAny_pure hq
theorem fo_ne {h₀ : Heap} {L : Addr} {m : Str → Option Value} {Q : Value → Shared → Prop} (hu : A.units + 1 < cLine) (F : Fr h₀ L s.heap m) (X₀ : K.In h₀) (I : InstAt s.heap x ox C od) (hb : Looks (model prog w) s.heap (typeOf b) tb) (hnf : notFirst K C tb = true)
    (hm : mroIn K C (.type "object") = some true) (hn : findIn K (.ref C) (Str.ofString "__ne__") = some (some (.builtin "object.__ne__"))) (hs : findIn K (.ref C) (Str.ofString "__eq__") = some (some (.ref f))) (hf : isFn K (.ref f) = true)
    (h : wpAny (model prog w) A.in1 (call (.ref f) [.ref x, b]) (fun v s' => ∃ c, v = .bool c ∧ Q (.bool (!c)) s') E s) : wpAny (model prog w) A (richCompare .NotEq (.ref x) b) Q E s := by
  have X := X₀.keeps F.keep
  have one : wpAny (model prog w) A (tryCompare (.ref x) (cmpInfo .NotEq).2.1 b) (fun r s' => ∃ v, r = some v ∧ Q v s') E s := by
    unfold tryCompare
    refine wpAny_bind (fo_callNe X I hn (wpAny_call (codeAny_call_builtin PySem.F.cmp_object.ne.plain PySem.F.cmpEntry_ne (fo_checkNe (A := A.in1) X I hm (fo_bodyNe (A := A.in1) (by simpa using hu) X I hs hf (wpAny_mono h (fun v s' hv => ?_) fun _ _ e => e))))))
    obtain ⟨c, rfl, hq⟩ := hv
    first | exact ⟨c, rfl, wpAny_pure ⟨_, rfl, hq⟩⟩ | exact ⟨c, rfl, _, rfl, hq⟩
  unfold richCompare
  simp only [oneThing_ref]
  refine wpAny_holding (wpAny_bind (wpAny_cRoomFor (Nat.lt_of_succ_lt hu) ?_))
  refine wpAny_bind (I.type.here (wpAny_bind (hb.here ?_)))
  split
  · rename_i q
    have e : subIn K tb (.ref C) = some false := by
      rcases Bool.or_eq_true_iff.mp hnf with e | e
      · rw [beq_iff_eq.mp e] at q; simp at q
      · exact beq_iff_eq.mp e
    refine wpAny_bind ((looks_subIn X e).here ?_)
    simp only [Bool.false_eq_true, if_false]
    refine wpAny_bind (wpAny_mono one (fun r s' z => ?_) fun _ _ e => e)
    obtain ⟨v, rfl, hq⟩ := z
    exact wpAny_pure hq
  · refine wpAny_bind (wpAny_pure ?_)
    simp only [Bool.false_eq_true, if_false]
    refine wpAny_bind (wpAny_mono one (fun r s' z => ?_) fun _ _ e => e)
    obtain ⟨v, rfl, hq⟩ := z
    exact wpAny_pure hq
end
end PySem.W

namespace Fo
open PySem PySem.Spec PyProof.Rows L2
/-- the class of the tables, by what the text's top leaves of it -/
structure TC (K : PySem.W.Frag) (C : Addr) : Prop where
  cl : Cls K C
  ha : PySem.W.findIn K (.ref C) "__class__" = some (some (.builtin "object.__class__"))
  hn : PySem.W.specialIn K (.builtin "object.__class__") "__get__" = some (some (.builtin "getset_descriptor.__get__"))
  htk : PySem.W.takesIn K (.builtin "object.__class__") = some true
  hm : PySem.W.mroIn K C (.type "object") = some true
  ne : PySem.W.findIn K (.ref C) "__ne__" = some (some (.builtin "object.__ne__"))
  nR : NoAttr K C "rows"
  nS : NoAttr K C "size"
  kI : PySem.W.kitOne K (.ref C) (.type "int") = some false
  kB : PySem.W.kitOne K (.ref C) (.type "bool") = some false
  kT : PySem.W.kitOne K (.ref C) (.type "tuple") = some false
  kS : PySem.W.kitOne K (.ref C) (.type "str") = some false
  kL : PySem.W.kitOne K (.ref C) (.type "list") = some false
theorem TC.ty {K : PySem.W.Frag} {C : Addr} (c : TC K C) {H : Hp} {a dx : Addr} {fs : List (Str × V)} (h : H a = some (.ins C dx fs)) : TyX K H (.ref a) (.ref C) := .base (.ins h c.cl c.ha c.hn c.htk c.hm)
def rEqI (K : PySem.W.Frag) (C : Addr) (sp : Sp) : R2 := fun x y H Q => ∃ (a dx : Addr) (fs : List (Str × V)) (t : Value), x = .ref a ∧ H a = some (.ins C dx fs) ∧ TyX K H y t ∧ PySem.W.notFirst K C t = true ∧ sp [x, y] H (fun v H' => ∃ b, v = .bl b ∧ Q (.bl b) H') E0
def rNeI (K : PySem.W.Frag) (C : Addr) (sp : Sp) : R2 := fun x y H Q => ∃ (a dx : Addr) (fs : List (Str × V)) (t : Value), x = .ref a ∧ H a = some (.ins C dx fs) ∧ TyX K H y t ∧ PySem.W.notFirst K C t = true ∧ sp [x, y] H (fun v H' => ∃ b, v = .bl b ∧ Q (.bl (!b)) H') E0
section
variable {X : Cx} {C f : Addr} {fd : FuncData} {ps : List Str} {n : Nat} {sp : Sp}
theorem run_eqI {A : Around} {pins : List (Addr × Obj)} {s : Shared} {σ : L2.St} {H : Hp} {x y : V} {a : Addr} {v : Value} {Q : VK} (F : FnOk X.prog X.w X.K X.mg X.base CX0 n f fd ps sp) (hb : Binds X.K fd ps []) (sb : Sub X n A) (I : Inv X pins σ H s) (rx : RelV x (.ref a)) (ry : RelV y v)
    (h : sp [x, y] H Q E0) : wpAny (model X.prog X.w) A (call (.ref f) [.ref a, v]) (EP X pins σ Q) X.xe s := by
  have e0 : Env0 X.prog X.w X.K X.mg X.base A X.stack s H := by
    have e := I.env0
    exact ⟨by rw [sb.fr]; exact e.frames, e.mod, e.bs, e.bsz, e.funs, e.frf, e.hok, e.bare⟩
  have hl := F.len _ _ _ _ h
  have r2 : Vals [x, y] [Value.ref a, v] := .cons rx (.cons ry .nil)
  refine wpAny_call (codeAny_mono (F.run A X.stack s H ⟨[.ref a, v], []⟩ [.ref a, v] [x, y] _ E0 sb.room e0 (by
    have := hb s [.ref a, v] I.kIn (by simpa using hl)
    simpa using this) r2 h) fun r s' hq => ?_)
  cases r with
  | error e => exact pass0 pins σ H s e s' I hq
  | ok fl =>
    cases fl with
    | ret w => exact I.after hq
    | next => exact False.elim hq
    | brk => exact False.elim hq
    | cont => exact False.elim hq
theorem op_eqI (F : FnOk X.prog X.w X.K X.mg X.base CX0 n f fd ps sp) (hb : Binds X.K fd ps []) (hs : PySem.W.findIn X.K (.ref C) "__eq__" = some (some (.ref f))) (hf : PySem.W.isFn X.K (.ref f) = true) (hr : Room n X.A) :
    OpR X (compareOp .Eq) (rEqI X.K C sp) := by
  intro pins s σ H x y v u Q I rx ry h
  obtain ⟨a, dx, fs, t, rfl, ha, ty, nf, q⟩ := h
  cases rx
  obtain ⟨mA, J, _⟩ := ins_get I.hok ha
  obtain ⟨od, J, _⟩ := J.look
  obtain ⟨P, Z, p, hx⟩ := kit_of I ry ty
  obtain ⟨m, hF⟩ := I.fr
  refine PySem.W.cmp_K (op := .Eq) (tb := t) hr.units0 hF I.ok.mod.kin J (Z.ty _ _ I.kIn p) nf hs hf ?_
  refine wpAny_mono (run_eqI F hb ⟨hr, rfl⟩ I (show L2.RelV (.ref a) (.ref a) from rfl) ry q) (fun w s' e => ?_) fun _ _ z => z
  obtain ⟨z, H', I', rz, b, ez, qz⟩ := e
  subst ez
  cases rz
  exact ⟨.bl b, H', I', rfl, qz⟩
theorem op_neI (F : FnOk X.prog X.w X.K X.mg X.base CX0 n f fd ps sp) (hb : Binds X.K fd ps []) (c : TC X.K C) (hs : PySem.W.findIn X.K (.ref C) "__eq__" = some (some (.ref f))) (hf : PySem.W.isFn X.K (.ref f) = true) (hr : Room (n + 1) X.A) :
    OpR X (compareOp .NotEq) (rNeI X.K C sp) := by
  intro pins s σ H x y v u Q I rx ry h
  obtain ⟨a, dx, fs, t, rfl, ha, ty, nf, q⟩ := h
  cases rx
  obtain ⟨mA, J, _⟩ := ins_get I.hok ha
  obtain ⟨od, J, _⟩ := J.look
  obtain ⟨P, Z, p, hx⟩ := kit_of I ry ty
  obtain ⟨m, hF⟩ := I.fr
  refine PySem.W.fo_ne (tb := t) (Nat.lt_of_le_of_lt (Nat.add_le_add_left (by decide : 1 ≤ 64) _) hr.units) hF I.ok.mod.kin J (Z.ty _ _ I.kIn p) nf c.hm c.ne hs hf ?_
  refine wpAny_mono (run_eqI (A := X.A.in1) F hb ⟨hr.in1, rfl⟩ I (show L2.RelV (.ref a) (.ref a) from rfl) ry q) (fun w s' e => ?_) fun _ _ z => z
  obtain ⟨z, H', I', rz, b, ez, qz⟩ := e
  subst ez
  cases rz
  exact ⟨b, rfl, .bl (!b), H', I', rfl, qz⟩
end
/-! loops and comprehensions over enumerate and zip of tuples -/
theorem for_enumT {K : PySem.W.Frag} {a : Addr} {xs : List V} {g : TG} {tb : TS} {D : Ends} {σ : L2.St} {H : Hp} (Pv : Nat → L2.St → Hp → Prop) (h0 : Pv 0 σ H) (hl : ∀ i σ H, i ≤ xs.length → Pv i σ H → SqT K H a xs)
    (hs : ∀ i x σ H T, xs[i]? = some x → Pv i σ H → H T = none → g (.ref T) σ (upd H T (.tup [.int (i : Nat), x])) fun σ2 H2 => tb { D with nx := Pv (i + 1), ct := Pv (i + 1), bk := D.nx } σ2 H2) (hd : ∀ σ H, Pv xs.length σ H → D.nx σ H) :
    ∃ W : Nat → Nat → L2.St → Hp → Prop, (∃ m, W 0 m σ H) ∧ ∀ i m σ H, W i m σ H →
      ((IteT K a).stop i H ∧ D.nx σ H) ∨ ((IteT K a).go i H ∧ ∃ N : L2.St → Hp → Prop, (∀ σ' H', N σ' H' → ∃ m', m' < m ∧ W (i + 1) m' σ' H') ∧ ∀ x H', (IteT K a).yld i H x H' → g x σ H' fun σ2 H2 => tb { D with nx := N, ct := N, bk := D.nx } σ2 H2) := by
  refine ⟨fun i m σ H => m = xs.length - i ∧ i ≤ xs.length ∧ Pv i σ H, ⟨xs.length, by simp, Nat.zero_le _, h0⟩, ?_⟩
  rintro i m σ H ⟨rfl, hi, p⟩
  have q := hl i σ H hi p
  by_cases hlt : i < xs.length
  · refine .inr ⟨⟨xs, xs[i], q, by simp [hlt]⟩, Pv (i + 1), fun σ' H' p' => ⟨xs.length - (i + 1), by omega, rfl, hlt, p'⟩, fun x H' y => ?_⟩
    obtain ⟨T, x', rfl, nT, rfl, y⟩ := y
    exact hs i x' σ H T (y xs q) p nT
  · have e : i = xs.length := by omega
    subst e
    exact .inl ⟨⟨xs, q, Nat.le_refl _⟩, hd σ H p⟩
theorem lc_enumT {K : PySem.W.Frag} {a : Addr} {xs : List V} {g : TG} {tt : TT} {te : TE} {vs : List Nat} {σ : L2.St} {H1 : Hp} {D : Addr} {Qd : Hp → Prop} (Pv : Nat → Hp → Prop) (h0 : Pv 0 (upd H1 D (.lst []))) (hl : ∀ i H, i ≤ xs.length → Pv i H → SqT K H a xs)
    (hs : ∀ i x H T, xs[i]? = some x → Pv i H → H T = none → g (.ref T) (wipe σ vs) (upd H T (.tup [.int (i : Nat), x])) fun σ2 H2 => wipe σ2 vs = wipe σ vs ∧ tt σ2 H2 fun b H3 =>
      if b = true then te σ2 H3 fun y H4 => ∃ acc, H4 D = some (.lst acc) ∧ acc.length < sizeLine ∧ Pv (i + 1) (upd H4 D (.lst (acc ++ [y]))) else Pv (i + 1) H3) (hd : ∀ H, Pv xs.length H → Qd H) :
    ∃ W : Nat → Nat → Hp → Prop, (∃ m, W 0 m (upd H1 D (.lst []))) ∧ ∀ i m H, W i m H →
      ((IteT K a).stop i H ∧ Qd H) ∨ ((IteT K a).go i H ∧ ∃ Nx : Hp → Prop, (∀ H', Nx H' → ∃ m', m' < m ∧ W (i + 1) m' H') ∧ ∀ x H', (IteT K a).yld i H x H' → g x (wipe σ vs) H' fun σ2 H2 => wipe σ2 vs = wipe σ vs ∧ tt σ2 H2 fun b H3 =>
        if b = true then te σ2 H3 fun y H4 => ∃ acc, H4 D = some (.lst acc) ∧ acc.length < sizeLine ∧ Nx (upd H4 D (.lst (acc ++ [y]))) else Nx H3) := by
  refine ⟨fun i m H => m = xs.length - i ∧ i ≤ xs.length ∧ Pv i H, ⟨xs.length, by simp, Nat.zero_le _, h0⟩, ?_⟩
  rintro i m H ⟨rfl, hi, p⟩
  have q := hl i H hi p
  by_cases hlt : i < xs.length
  · refine .inr ⟨⟨xs, xs[i], q, by simp [hlt]⟩, Pv (i + 1), fun H' p' => ⟨xs.length - (i + 1), by omega, rfl, hlt, p'⟩, fun x H' y => ?_⟩
    obtain ⟨T, x', rfl, nT, rfl, y⟩ := y
    exact hs i x' H T (y xs q) p nT
  · have e : i = xs.length := by omega
    subst e
    exact .inl ⟨⟨xs, q, Nat.le_refl _⟩, hd H p⟩
theorem lc_zipT {K : PySem.W.Frag} {a b : Addr} {xs ys : List V} {g : TG} {tt : TT} {te : TE} {vs : List Nat} {σ : L2.St} {H1 : Hp} {D : Addr} {Qd : Hp → Prop} (hle : ys.length ≤ xs.length) (Pv : Nat → Hp → Prop) (h0 : Pv 0 (upd H1 D (.lst []))) (hl : ∀ i H, i ≤ ys.length → Pv i H → SqT K H a xs ∧ SqT K H b ys)
    (hs : ∀ i x y H T, xs[i]? = some x → ys[i]? = some y → Pv i H → H T = none → g (.ref T) (wipe σ vs) (upd H T (.tup [x, y])) fun σ2 H2 => wipe σ2 vs = wipe σ vs ∧ tt σ2 H2 fun c H3 =>
      if c = true then te σ2 H3 fun y H4 => ∃ acc, H4 D = some (.lst acc) ∧ acc.length < sizeLine ∧ Pv (i + 1) (upd H4 D (.lst (acc ++ [y]))) else Pv (i + 1) H3) (hd : ∀ H, Pv ys.length H → Qd H) :
    ∃ W : Nat → Nat → Hp → Prop, (∃ m, W 0 m (upd H1 D (.lst []))) ∧ ∀ i m H, W i m H →
      ((RZ.ItzT K a b).stop i H ∧ Qd H) ∨ ((RZ.ItzT K a b).go i H ∧ ∃ Nx : Hp → Prop, (∀ H', Nx H' → ∃ m', m' < m ∧ W (i + 1) m' H') ∧ ∀ x H', (RZ.ItzT K a b).yld i H x H' → g x (wipe σ vs) H' fun σ2 H2 => wipe σ2 vs = wipe σ vs ∧ tt σ2 H2 fun c H3 =>
        if c = true then te σ2 H3 fun y H4 => ∃ acc, H4 D = some (.lst acc) ∧ acc.length < sizeLine ∧ Nx (upd H4 D (.lst (acc ++ [y]))) else Nx H3) := by
  refine ⟨fun i m H => m = ys.length - i ∧ i ≤ ys.length ∧ Pv i H, ⟨ys.length, by simp, Nat.zero_le _, h0⟩, ?_⟩
  rintro i m H ⟨rfl, hi, p⟩
  obtain ⟨q1, q2⟩ := hl i H hi p
  by_cases hlt : i < ys.length
  · have hlt2 : i < xs.length := Nat.lt_of_lt_of_le hlt hle
    refine .inr ⟨⟨xs, ys, xs[i], ys[i], q1, q2, by simp [hlt2], by simp [hlt]⟩, Pv (i + 1), fun H' p' => ⟨ys.length - (i + 1), by omega, rfl, hlt, p'⟩, fun x H' y => ?_⟩
    obtain ⟨T, x', y', rfl, nT, rfl, z1, z2⟩ := y
    exact hs i x' y' H T (z1 xs q1) (z2 ys q2) p nT
  · have e : i = ys.length := by omega
    subst e
    exact .inl ⟨⟨xs, ys, q1, q2, .inr (Nat.le_refl _)⟩, hd H p⟩
/-! things of any kind -/
def isIntV : V → Bool
  | .int _ => true
  | _ => false
def numV (b : Int) : V → Bool
  | .int i => decide (0 ≤ i) && decide (i < b)
  | _ => false
/-- a thing whose kind is known: of a built-in type, or of the tables' class -/
def Th (K : PySem.W.Frag) (C : Addr) (H : Hp) (x : V) : Prop := ∃ t, TyX K H x t ∧ (∀ c, t = .ref c → c = C)
theorem tyX_same {K : PySem.W.Frag} {H H' : Hp} (e : Same H H') {x : V} {t : Value} (h : TyX K H x t) : TyX K H' x t := by
  cases h with
  | base b =>
    cases b with
    | non => exact .base .non
    | bl b => exact .base (.bl b)
    | int i => exact .base (.int i)
    | str x => exact .base (.str x)
    | flt x => exact .base (.flt x)
    | lst h => exact .base (.lst (e _ _ h))
    | frz h => exact .base (.frz (e _ _ h))
    | tup h => exact .base (.tup (e _ _ h))
    | dK h => exact .base (.dK (e _ _ h))
    | dT h => exact .base (.dT (e _ _ h))
    | ins h a b c d f => exact .base (.ins (e _ _ h) a b c d f)
  | byt b => exact .byt b
  | set h => exact .set (e _ _ h)
  | kList a b => exact .kList a b
  | kTuple a b => exact .kTuple a b
  | kDict a b => exact .kDict a b
  | fTuple h => exact .fTuple (e _ _ h)
  | fDict h => exact .fDict (e _ _ h)
theorem Th.same {K : PySem.W.Frag} {C : Addr} {H H' : Hp} (e : Same H H') {x : V} (h : Th K C H x) : Th K C H' x := by
  obtain ⟨t, a, b⟩ := h
  exact ⟨t, tyX_same e a, b⟩
theorem th_int {K : PySem.W.Frag} {C : Addr} {H : Hp} {i : Int} : Th K C H (.int i) := ⟨_, .base (.int i), fun _ q => nomatch q⟩
theorem th_kit {K : PySem.W.Frag} {C : Addr} (c : TC K C) {H : Hp} {x : V} (h : Th K C H x) : ∃ t b1 b2, TyX K H x t ∧ PySem.W.kitOne K t (.type "int") = some b1 ∧ PySem.W.kitOne K t (.type "bool") = some b2 ∧ (b1 && !b2) = isIntV x := by
  obtain ⟨t, ty, ht⟩ := h
  have go : ∀ (n : String) (b1 b2 : Bool), t = .type n → kitB n "int" = some b1 → kitB n "bool" = some b2 → (b1 && !b2) = isIntV x → ∃ t b1 b2, TyX K H x t ∧ PySem.W.kitOne K t (.type "int") = some b1 ∧ PySem.W.kitOne K t (.type "bool") = some b2 ∧ (b1 && !b2) = isIntV x :=
    fun n b1 b2 e h1 h2 h3 => ⟨t, b1, b2, ty, by rw [e]; exact kit_ty h1, by rw [e]; exact kit_ty h2, h3⟩
  cases ty with
  | base b =>
    cases b with
    | non => exact go "NoneType" false false rfl (by decide +kernel) (by decide +kernel) rfl
    | bl b => exact go "bool" true true rfl (by decide +kernel) (by decide +kernel) rfl
    | int i => exact go "int" true false rfl (by decide +kernel) (by decide +kernel) rfl
    | str x => exact go "str" false false rfl (by decide +kernel) (by decide +kernel) rfl
    | flt x => exact go "float" false false rfl (by decide +kernel) (by decide +kernel) rfl
    | lst h => exact go "list" false false rfl (by decide +kernel) (by decide +kernel) rfl
    | frz h => exact go "list" false false rfl (by decide +kernel) (by decide +kernel) rfl
    | tup h => exact go "tuple" false false rfl (by decide +kernel) (by decide +kernel) rfl
    | dK h => exact go "dict" false false rfl (by decide +kernel) (by decide +kernel) rfl
    | dT h => exact go "dict" false false rfl (by decide +kernel) (by decide +kernel) rfl
    | @ins a C' dx fs h a1 b1 c1 d1 f1 =>
      have e := ht C' rfl
      subst e
      exact ⟨_, false, false, .base (.ins h a1 b1 c1 d1 f1), c.kI, c.kB, rfl⟩
  | byt b => exact go "bytes" false false rfl (by decide +kernel) (by decide +kernel) rfl
  | set h => exact go "set" false false rfl (by decide +kernel) (by decide +kernel) rfl
  | kList a b => exact go "list" false false rfl (by decide +kernel) (by decide +kernel) rfl
  | kTuple a b => exact go "tuple" false false rfl (by decide +kernel) (by decide +kernel) rfl
  | kDict a b => exact go "dict" false false rfl (by decide +kernel) (by decide +kernel) rfl
  | fTuple h => exact go "tuple" false false rfl (by decide +kernel) (by decide +kernel) rfl
  | fDict h => exact go "dict" false false rfl (by decide +kernel) (by decide +kernel) rfl
theorem tyX_sqT {K : PySem.W.Frag} {H : Hp} {a : Addr} {xs : List V} (h : SqT K H a xs) : TyX K H (.ref a) (.type "tuple") := by
  rcases h with (h | ⟨o, h⟩) | ⟨o, its, n, h, hc, _⟩
  · exact .base (.tup h)
  · exact .fTuple h
  · exact .kTuple h hc
/-- a thing as the judges look at it: a tuple of things, or no tuple -/
inductive Tg (K : PySem.W.Frag) (C : Addr) (H : Hp) : V → Option (List V) → Prop
  | tup {a : Addr} {xs : List V} (h : SqT K H a xs) (hi : ∀ y ∈ xs, Th K C H y) (hz : xs.length ≤ 100000) : Tg K C H (.ref a) (some xs)
  | no {x : V} {t : Value} (ty : TyX K H x t) (hk : PySem.W.kitOne K t (.type "tuple") = some false) : Tg K C H x none
theorem Tg.same {K : PySem.W.Frag} {C : Addr} {H H' : Hp} (e : Same H H') {x : V} {o : Option (List V)} (h : Tg K C H x o) : Tg K C H' x o := by
  cases h with
  | tup h hi hz => exact .tup (sqT_same e h) (fun y hy => (hi y hy).same e) hz
  | no ty hk => exact .no (tyX_same e ty) hk
theorem Tg.ints {K : PySem.W.Frag} {C : Addr} {H : Hp} {a : Addr} {ns : List Int} (h : SqT K H a (ns.map V.int)) (hz : ns.length ≤ 100000) : Tg K C H (.ref a) (some (ns.map V.int)) := .tup h (fun y hy => by
  obtain ⟨n, _, rfl⟩ := List.mem_map.mp hy
  exact th_int) (by rw [List.length_map]; exact hz)
/-- whether it is an ascending tuple of numbers below b -/
def ascV (b : Int) : List V → Bool
  | [] => true
  | [x] => numV b x
  | x :: y :: r => numV b x && (match x, y with | .int i, .int j => decide (i < j) | _, _ => false) && ascV b (y :: r)
def ltV : V → V → Bool
  | .int i, .int j => decide (i < j)
  | _, _ => false
theorem ascV_eq (b : Int) : ∀ xs : List V, ascV b xs = (xs.all (numV b) && ((xs.zip (xs.drop 1)).all fun p => ltV p.1 p.2))
  | [] => rfl
  | [x] => by
    show numV b x = _
    simp [List.all]
  | x :: y :: r => by
    have ih := ascV_eq b (y :: r)
    have e : ascV b (x :: y :: r) = (numV b x && ltV x y && ascV b (y :: r)) := by
      cases x <;> cases y <;> rfl
    rw [e, ih]
    simp only [List.drop_succ_cons, List.drop_zero, List.zip_cons_cons, List.all_cons]
    cases numV b x <;> cases ltV x y <;> cases numV b y <;> cases (List.all r (numV b)) <;> simp
theorem ascV_ints {b : Int} : ∀ {ns : List Int}, ns.Pairwise (· < ·) → (∀ x ∈ ns, 0 ≤ x ∧ x < b) → ascV b (ns.map V.int) = true
  | [], _, _ => rfl
  | [x], _, h => by
    have := h x List.mem_cons_self
    show (decide (0 ≤ x) && decide (x < b)) = true
    simp [this.1, this.2]
  | x :: y :: r, hp, h => by
    have ih := ascV_ints (ns := y :: r) (List.pairwise_cons.mp hp).2 fun z hz => h z (List.mem_cons_of_mem _ hz)
    have h1 := h x List.mem_cons_self
    have h2 := (List.pairwise_cons.mp hp).1 y List.mem_cons_self
    show ((decide (0 ≤ x) && decide (x < b)) && decide (x < y) && ascV b ((y :: r).map V.int)) = true
    rw [ih]
    simp [h1.1, h1.2, h2]
theorem all_num_ints {b : Int} {xs : List V} (h : xs.all (numV b) = true) : ∃ ns : List Int, xs = ns.map V.int ∧ ∀ x ∈ ns, 0 ≤ x ∧ x < b := by
  induction xs with
  | nil => exact ⟨[], rfl, fun _ h => (by cases h)⟩
  | cons x r ih =>
    rw [List.all_cons, Bool.and_eq_true] at h
    obtain ⟨ns, e, hb⟩ := ih h.2
    cases x with
    | int i =>
      have h1 : (decide (0 ≤ i) && decide (i < b)) = true := h.1
      rw [Bool.and_eq_true, decide_eq_true_eq, decide_eq_true_eq] at h1
      refine ⟨i :: ns, by rw [e]; rfl, fun x hx => ?_⟩
      rcases List.mem_cons.mp hx with q | q
      · rw [q]; exact h1
      · exact hb x q
    | _ => exact absurd h.1 (by simp [numV])
/-! tables as objects -/
def tf (v : V) (n : Nat) : List (Str × V) := putF "size" (.int (n : Int)) (putF "rows" v [])
theorem rs_ne : ¬ (("rows" : Str) = "size") := by decide +kernel
theorem sr_ne : ¬ (("size" : Str) = "rows") := by decide +kernel
theorem tf_rows (v : V) (n : Nat) : (tf v n).lookup ("rows" : Str) = some v := by
  unfold tf
  rw [lookup_putF, if_neg rs_ne, lookup_putF, if_pos rfl]
theorem tf_size (v : V) (n : Nat) : (tf v n).lookup ("size" : Str) = some (.int (n : Int)) := by
  unfold tf
  rw [lookup_putF, if_pos rfl]
theorem tf_eq (v : V) (n : Nat) : tf v n = ([("rows", v), ("size", V.int (n : Int))] : List (Str × V)) := by
  show (if ("rows" : Str) = "size" then [(("rows" : Str), V.int (n : Int))] else (("rows" : Str), v) :: putF "size" (V.int (n : Int)) []) = _
  rw [if_neg rs_ne]
  all_goals rfl
theorem tf_put (v u : V) (n m : Nat) : putF "size" (.int (m : Int)) (putF "rows" u (tf v n)) = tf u m := by
  rw [tf_eq, tf_eq]
  have e1 : putF "rows" u [("rows", v), ("size", V.int (n : Int))] = ([("rows", u), ("size", V.int (n : Int))] : List (Str × V)) := by
    show (if ("rows" : Str) = "rows" then (("rows" : Str), u) :: [(("size" : Str), V.int (n : Int))] else _) = _
    rw [if_pos rfl]
  rw [e1]
  show (if ("rows" : Str) = "size" then _ else (("rows" : Str), u) :: (if ("size" : Str) = "size" then [(("size" : Str), V.int (m : Int))] else _)) = _
  rw [if_neg rs_ne, if_pos rfl]
def TableAt (K : PySem.W.Frag) (C : Addr) (H : Hp) (x : V) (rows : List (List Int)) : Prop := ∃ p dx v, x = .ref p ∧ H p = some (.ins C dx (tf v rows.length)) ∧ RowsAt K H v rows
theorem TableAt.same {K : PySem.W.Frag} {C : Addr} {H H' : Hp} {x : V} {rows : List (List Int)} (h : TableAt K C H x rows) (e : Same H H') : TableAt K C H' x rows := by
  obtain ⟨p, dx, v, ex, hp, hr⟩ := h
  exact ⟨p, dx, v, ex, e _ _ hp, hr.same e⟩
theorem TableAt.gr {t l : Addr} {K : PySem.W.Frag} {C : Addr} {H H' : Hp} {x : V} {rows : List (List Int)} (h : TableAt K C H x rows) (g : Gr t H H') (T : Tape H t l) : TableAt K C H' x rows := by
  obtain ⟨p, dx, v, ex, hp, hr⟩ := h
  have hpt : p ≠ t := by
    obtain ⟨ns, b, c, d, e, ht, _⟩ := T
    exact ne_of hp ht (by intro z; cases z)
  exact ⟨p, dx, v, ex, g _ _ hpt hp, hr.gr g T⟩
/-- what changes at an instance is no tuple -/
theorem sqT_ins {K : PySem.W.Frag} {H H' : Hp} {a p C dx : Addr} {fs : List (Str × V)} {xs : List V} (h : SqT K H a xs) (e : H p = some (.ins C dx fs)) (k : ∀ b o, b ≠ p → H b = some o → H' b = some o) : SqT K H' a xs := by
  rcases h with (h | ⟨o, h⟩) | h
  · exact .inl (.inl (k _ _ (ne_of h e (by intro z; cases z)) h))
  · exact .inl (.inr ⟨o, k _ _ (ne_of h e (by intro z; cases z)) h⟩)
  · exact .inr h
theorem RowsT.ins {K : PySem.W.Frag} {H H' : Hp} {p C dx : Addr} {fs : List (Str × V)} (e : H p = some (.ins C dx fs)) (k : ∀ b o, b ≠ p → H b = some o → H' b = some o) : ∀ {vs : List V} {rs : List (List Int)}, RowsT K H vs rs → RowsT K H' vs rs
  | _, _, .nil => .nil
  | _, _, .cons h r => .cons (sqT_ins h e k) (r.ins e k)
theorem RowsAt.ins {K : PySem.W.Frag} {H H' : Hp} {p C dx : Addr} {fs : List (Str × V)} {v : V} {rows : List (List Int)} (h : RowsAt K H v rows) (e : H p = some (.ins C dx fs)) (k : ∀ b o, b ≠ p → H b = some o → H' b = some o) : RowsAt K H' v rows := by
  obtain ⟨a, vs, ev, h1, h2⟩ := h
  exact ⟨a, vs, ev, sqT_ins h1 e k, h2.ins e k⟩
theorem PE.imp {X : Cx} {e : Expr} {t t' : TE} (h : PE X e t) (i : ∀ σ H Q, t' σ H Q → t σ H Q) : PE X e t' := ⟨fun pins s σ H Q I q => h.run pins s σ H Q I (i σ H Q q)⟩
/-- the class, ready to be called and compared -/
structure MkT (P : Program) (w : World) (K : PySem.W.Frag) (mg : Str → Option Value) (base : Heap) (C : Addr) (n m : Nat) (spI spE : Sp) : Prop where
  mgC : mg "Table" = some (.ref C)
  tc : TC K C
  ini : ∃ f fd, Mk K C f ∧ FnOk P w K mg base CX0 n f fd ["self", "rows"] spI ∧ Binds K fd ["self", "rows"] []
  eqm : ∃ f fd, FnOk P w K mg base CX0 m f fd ["self", "other"] spE ∧ Binds K fd ["self", "other"] [] ∧ PySem.W.findIn K (.ref C) "__eq__" = some (some (.ref f)) ∧ PySem.W.isFn K (.ref f) = true
def spInit (K : PySem.W.Frag) (C : Addr) : Sp := fun vs H Q _ => ∃ (p dx : Addr) (v : V) (rows : List (List Int)), vs = [.ref p, v] ∧ H p = some (.ins C dx []) ∧ Good rows ∧ rows.length ≤ 12 ∧ RowsAt K H v rows ∧ ∀ H' : Hp, (∀ b o, b ≠ p → H b = some o → H' b = some o) → H' p = some (.ins C dx (tf v rows.length)) → Q .non H'
def tTable (K : PySem.W.Frag) (C : Addr) (te : TE) : TE := fun σ H Q => te σ H fun v H1 => ∃ rows, Good rows ∧ rows.length ≤ 12 ∧ RowsAt K H1 v rows ∧ ∀ p dx H2, Same H1 H2 → H1 p = none → H2 p = some (.ins C dx (tf v rows.length)) → Q (.ref p) H2
def tUp (te : TE) : TE := fun σ H Q => ∃ Q' : VK, te σ H Q' ∧ ∀ v H1, Q' v H1 → Q v H1
theorem pe_up {X : Cx} {e : Expr} {te : TE} (h : PE X e te) : PE X e (tUp te) := ⟨fun pins s σ H Q I ⟨Q', h1, h2⟩ => thn (h.run pins s σ H Q' I h1) fun u s1 ⟨v, H1, I1, r, q⟩ => ⟨v, H1, I1, r, h2 v H1 q⟩⟩
theorem pe_makeTable {X : Cx} {C : Addr} {n m : Nat} {spE : Sp} {e : Expr} {te : TE} {p pos : Pos} (G : MkT X.prog X.w X.K X.mg X.base C n m (spInit X.K C) spE) (hr : Room (n + 1) X.A) (ha : PE X e te) (hg : Gl X "Table" := by rfl)
    (hst : starEach [e] X.env = (false, eval e X.env) :: starEach [] X.env := by rfl) : PE X (.Call (.Name "Table" p) [e] [] pos) (tTable X.K C te) := by
  obtain ⟨f, fd, M, F, b⟩ := G.ini
  have base := pe_make (X := X) (x := "Table") (p := p) (pos := pos) M F hr hg G.mgC b .nil (pass0 (X := X)) (pa_cons (pe_up ha) pa_nil hst) (by decide) hst rfl
  refine PE.imp base fun σ H Q h => ⟨_, h, fun v H1 ⟨rows, hG, hl, hR, k⟩ x dx nx ndx ne => ?_⟩
  have hdx : (upd (upd H1 dx (.own x)) x (.ins C dx [])) x = some (.ins C dx []) := upd_same
  have s1 : Same H1 (upd (upd H1 dx (.own x)) x (.ins C dx [])) := (same_new ndx).trans (same_new (by rw [upd_ne ne.symm]; exact nx))
  refine ⟨x, dx, v, rows, rfl, hdx, hG, hl, hR.same s1, fun H' k1 k2 => ⟨rfl, k x dx H' (fun b o e => ?_) nx k2⟩⟩
  have nb : b ≠ x := ne_of_none e nx
  exact k1 _ _ nb (s1 _ _ e)
/-- what == promises -/
def spEqT (K : PySem.W.Frag) (C : Addr) : Sp := fun vs H Q _ => ∃ (x y : V) (r1 r2 : List (List Int)), vs = [x, y] ∧ TableAt K C H x r1 ∧ TableAt K C H y r2 ∧ ∀ H', Same H H' → Q (.bl (decide (r1 = r2))) H'
def rEqT (K : PySem.W.Frag) (C : Addr) : R2 := fun x y H Q => ∃ r1 r2, TableAt K C H x r1 ∧ TableAt K C H y r2 ∧ ∀ H', Same H H' → Q (.bl (decide (r1 = r2))) H'
def rNeT (K : PySem.W.Frag) (C : Addr) : R2 := fun x y H Q => ∃ r1 r2, TableAt K C H x r1 ∧ TableAt K C H y r2 ∧ ∀ H', Same H H' → Q (.bl (!decide (r1 = r2))) H'
theorem TableAt.tyx {K : PySem.W.Frag} {C : Addr} (c : TC K C) {H : Hp} {x : V} {rows : List (List Int)} (h : TableAt K C H x rows) : TyX K H x (.ref C) := by
  obtain ⟨p, dx, v, rfl, hp, _⟩ := h
  exact c.ty hp
theorem op_eq_table {X : Cx} {C : Addr} {n m : Nat} {spI : Sp} (G : MkT X.prog X.w X.K X.mg X.base C n m spI (spEqT X.K C)) (hr : Room m X.A) : OpR X (compareOp .Eq) (rEqT X.K C) := by
  obtain ⟨f, fd, F, b, hs, hf⟩ := G.eqm
  intro pins s σ H x y v u Q I rx ry h
  obtain ⟨r1, r2, t1, t2, q⟩ := h
  obtain ⟨p, dx, w', ex, hp, hR⟩ := id t1
  exact op_eqI F b hs hf hr pins s σ H x y v u Q I rx ry ⟨p, dx, _, _, ex, hp, t2.tyx G.tc, by simp [PySem.W.notFirst], x, y, r1, r2, rfl, t1, t2, fun H' e => ⟨_, rfl, q H' e⟩⟩
theorem op_ne_table {X : Cx} {C : Addr} {n m : Nat} {spI : Sp} (G : MkT X.prog X.w X.K X.mg X.base C n m spI (spEqT X.K C)) (hr : Room (m + 1) X.A) : OpR X (compareOp .NotEq) (rNeT X.K C) := by
  obtain ⟨f, fd, F, b, hs, hf⟩ := G.eqm
  intro pins s σ H x y v u Q I rx ry h
  obtain ⟨r1, r2, t1, t2, q⟩ := h
  obtain ⟨p, dx, w', ex, hp, hR⟩ := id t1
  exact op_neI F b G.tc hs hf hr pins s σ H x y v u Q I rx ry ⟨p, dx, _, _, ex, hp, t2.tyx G.tc, by simp [PySem.W.notFirst], x, y, r1, r2, rfl, t1, t2, fun H' e => ⟨_, rfl, q H' e⟩⟩
/-! equality of data -/
theorem eqv_I (a b : List Int) : PyData.eqv (dI a) (dI b) = decide (a = b) := by
  show PyData.eqv (.tuple _) (.tuple _) = _
  rw [PyData.eqv]
  exact PySem.W.ked_eqvAll a b
theorem eqvAll_R : ∀ (r1 r2 : List (List Int)), PyData.eqvAll (r1.map dI) (r2.map dI) = decide (r1 = r2)
  | [], [] => by simp [PyData.eqvAll]
  | [], _ :: _ => by simp [PyData.eqvAll]
  | _ :: _, [] => by simp [PyData.eqvAll]
  | x :: xs, y :: ys => by
    rw [List.map_cons, List.map_cons, PyData.eqvAll, eqv_I, eqvAll_R xs ys, ← Bool.decide_and]
    exact decide_eq_decide.mpr (by rw [List.cons.injEq])
theorem eqv_R (r1 r2 : List (List Int)) : PyData.eqv (dR r1) (dR r2) = decide (r1 = r2) := by
  show PyData.eqv (.tuple _) (.tuple _) = _
  rw [PyData.eqv]
  exact eqvAll_R r1 r2
theorem eqv_L (r1 r2 : List (List Int)) : PyData.eqv (.list (r1.map dI)) (.list (r2.map dI)) = decide (r1 = r2) := by
  rw [PyData.eqv]
  exact eqvAll_R r1 r2
theorem lay_ints : ∀ ns : List Int, PyData.canLayAll0 (ns.map PyData.int) = true
  | [] => by rw [List.map_nil, PyData.canLayAll0]
  | n :: r => by rw [List.map_cons, PyData.canLayAll0, lay_ints r, PyData.canLay0]; rfl
theorem dep_ints : ∀ ns : List Int, PyData.depthAll (ns.map PyData.int) = 0
  | [] => by rw [List.map_nil, PyData.depthAll]
  | n :: r => by rw [List.map_cons, PyData.depthAll, dep_ints r, PyData.depth]; rfl
theorem lay_rows : ∀ rs : List (List Int), PyData.canLayAll0 (rs.map dI) = true
  | [] => by rw [List.map_nil, PyData.canLayAll0]
  | n :: r => by
    rw [List.map_cons, PyData.canLayAll0, lay_rows r]
    show (PyData.canLay0 (.tuple _) && true) = true
    rw [PyData.canLay0, lay_ints]
    rfl
theorem dep_rows : ∀ rs : List (List Int), PyData.depthAll (rs.map dI) ≤ 1
  | [] => by rw [List.map_nil, PyData.depthAll]; decide
  | n :: r => by
    rw [List.map_cons, PyData.depthAll]
    refine Nat.max_le.mpr ⟨?_, dep_rows r⟩
    show PyData.depth (.tuple _) ≤ 1
    rw [PyData.depth, dep_ints]
    decide
theorem sh_I (ns : List Int) : SeqAt.shaped (dI ns) = true := by
  show SeqAt.shaped (.tuple _) = true
  unfold SeqAt.shaped
  rw [PyData.canLay0, PyData.depth, lay_ints, dep_ints]
  rfl
theorem sh_R (rs : List (List Int)) : SeqAt.shaped (dR rs) = true := by
  show SeqAt.shaped (.tuple _) = true
  unfold SeqAt.shaped
  rw [PyData.canLay0, PyData.depth, lay_rows, Bool.true_and]
  exact decide_eq_true (by have := dep_rows rs; omega)
theorem sh_L (rs : List (List Int)) : SeqAt.shaped (.list (rs.map dI)) = true := by
  unfold SeqAt.shaped
  rw [PyData.canLay0, PyData.depth, lay_rows, Bool.true_and]
  exact decide_eq_true (by have := dep_rows rs; omega)
theorem dp_L {K : PySem.W.Frag} {H : Hp} {p : Addr} {vs : List V} {rs : List (List Int)} (h : H p = some (.lst vs)) (r : RowsT K H vs rs) : Dp K H (.ref p) (.list (rs.map dI)) := .lst (SqL.of h) (rowsT_dp r)
end Fo

set_option maxRecDepth 100000
set_option maxHeartbeats 4000000
namespace Fo
open PySem PySem.Spec PyProof.Rows L2
def top (i : Nat) : Stmt := PySem.Challenge.pw_fullorring_k02_tables_alike.main.body.getD i (.Pass ⟨0, 0, 0, 0⟩)
abbrev s_law_tape : Stmt := top 17
abbrev n_law_tape : List Str := ["script"]
theorem sc_law_tape : FnScope n_law_tape ["script"] (defScope s_law_tape) := ⟨rfl, rfl, rfl, by decide +kernel, rfl, by decide +kernel, by decide +kernel⟩
abbrev s_law_pick : Stmt := top 18
abbrev n_law_pick : List Str := ["tape", "size", "digit", "cell", "mixed"]
theorem sc_law_pick : FnScope n_law_pick ["tape", "size"] (defScope s_law_pick) := ⟨rfl, rfl, rfl, by decide +kernel, rfl, by decide +kernel, by decide +kernel⟩
abbrev s_law_order : Stmt := top 19
abbrev n_law_order : List Str := ["tape", "many", "left", "k"]
theorem sc_law_order : FnScope n_law_order ["tape", "many"] (defScope s_law_order) := ⟨rfl, rfl, rfl, by decide +kernel, rfl, by decide +kernel, by decide +kernel⟩
abbrev s_law_loose : Stmt := top 20
abbrev n_law_loose : List Str := ["tape", "many", "order", "thick", "planted", "found", "person", "row", "thing"]
theorem sc_law_loose : FnScope n_law_loose ["tape", "many"] (defScope s_law_loose) := ⟨rfl, rfl, rfl, by decide +kernel, rfl, by decide +kernel, by decide +kernel⟩
abbrev s_law_blocks : Stmt := top 21
abbrev n_law_blocks : List Str := ["tape", "most", "found", "base", "size", "kind", "k", "row", "ahead", "j", "thing"]
theorem sc_law_blocks : FnScope n_law_blocks ["tape", "most"] (defScope s_law_blocks) := ⟨rfl, rfl, rfl, by decide +kernel, rfl, by decide +kernel, by decide +kernel⟩
abbrev s_law_moved : Stmt := top 22
abbrev n_law_moved : List Str := ["tape", "rows", "people", "things", "person", "thing"]
theorem sc_law_moved : FnScope n_law_moved ["tape", "rows"] (defScope s_law_moved) := ⟨rfl, rfl, rfl, by decide +kernel, rfl, by decide +kernel, by decide +kernel⟩
abbrev s_law_rows : Stmt := top 23
abbrev n_law_rows : List Str := ["tape", "most", "kind"]
theorem sc_law_rows : FnScope n_law_rows ["tape", "most"] (defScope s_law_rows) := ⟨rfl, rfl, rfl, by decide +kernel, rfl, by decide +kernel, by decide +kernel⟩
section
variable {P : Program} {w : World} {K : PySem.W.Frag} {mg : Str → Option Value} {base : Heap}
/-! ### the tape -/
def spTape (K : PySem.W.Frag) : Sp := fun vs H Q _ => ∃ (a : Addr) (ns : List Int), vs = [.ref a] ∧ SqL K H a (ns.map V.int) ∧ ∀ t l H', Same H H' → H t = none → H l = none → Tape H' t l → Q (.ref t) H'
theorem ok_tape (A : At K mg "_law_tape" s_law_tape ["script"]) (T : Tx mg) : Dfn P w K mg base "_law_tape" ["script"] 1 (spTape K) := by
  refine A.ok sc_law_tape (fun vs H Q E h => ?_) (fun f cdv A outer s H vs Q E hr h => ?_)
  · obtain ⟨a, ns, rfl, _⟩ := h
    rfl
  · obtain ⟨a, ns, rfl, hS, k⟩ := h
    refine ⟨_, (pss_one (ps_ret (pe_lst (pa_cons (pe_callTy c_list (by rfl) T.list (by decide +kernel) (pa_cons (pv 0) pa_nil)) (pa_cons pe_int (pa_cons pe_int (pa_cons pe_int (pa_cons pe_int pa_nil)))))))), ?_⟩
    refine ⟨_, rfl, a, _, rfl, .inl hS, fun l hl => ⟨by show 5 ≤ sizeLine; decide, fun t ht => ?_⟩⟩
    have nlt : l ≠ t := fun q => by
      rw [← q, upd_same] at ht
      cases ht
    have ht0 : H t = none := by
      rw [upd_ne nlt.symm] at ht
      exact ht
    exact k t l _ (same_mut (same_new hl) ht0) ht0 hl ⟨ns, 0, 0, 1, 0, upd_same, by rw [upd_ne nlt, upd_same], by decide⟩
def spPick : Sp := fun vs H Q _ => ∃ (t l : Addr) (n : Int), vs = [.ref t, .int n] ∧ Tape H t l ∧ 0 < n ∧ n < 1073741824 ∧ ∀ (k : Int) (H' : Hp), 0 ≤ k → k < n → Gr t H H' → Tape H' t l → Q (.int k) H'
theorem ok_pick (A : At K mg "_law_pick" s_law_pick ["tape", "size"]) (T : Tx mg) : Dfn P w K mg base "_law_pick" ["tape", "size"] 1 spPick := by
  refine A.ok sc_law_pick (fun vs H Q E h => ?_) (fun f cdv A outer s H vs Q E hr h => ?_)
  · obtain ⟨t, l, n, rfl, _⟩ := h
    rfl
  · obtain ⟨t, l, n, rfl, ⟨ns, b, c, d, e, hT, hL, hb⟩, hn, hn2, k⟩ := h
    have hlt : l ≠ t := ne_of hL hT (ints_ne _ _ _)
    have fin : ∀ (x b c d e : Int), 0 ≤ b → Q (.int (x % n)) (upd H t (.lst [.ref l, .int b, .int c, .int d, .int e])) := fun x b c d e hb => by
      exact k _ _ (Int.emod_nonneg _ (by omega)) (Int.emod_lt_of_pos _ hn) Gr.put ⟨ns, b, c, d, e, upd_same, by rw [upd_ne hlt]; exact hL, hb⟩
    refine ⟨_, (pss_cons (ps_if (pt_cmpR op_gt (pe_ix ix_list (pv 0) pe_int (fun _ _ => rfl)) pe_int (nomark _)) (pss_cons (ps_set (i := 2) sc_law_pick.nd rfl (Or.inl rfl) (pe_op op_mod (pe_callTy c_int (by rfl) T.int (by decide +kernel) (pa_cons (pe_ix ix_list (pv 0) pe_int (fun _ _ => rfl)) pa_nil)) (pv 1)))
      (pss_cons (ps_asg (pe_op op_fdiv (pe_ix ix_list (pv 0) pe_int (fun _ _ => rfl)) (pv 1)) (pg_sub (pv 0) pe_int set_list))
      (pss_one (ps_ret (pv 2))))) pss_nil)
      (pss_cons (ps_asg (pe_op op_add (pe_ix ix_list (pv 0) pe_int (fun _ _ => rfl)) pe_int) (pg_sub (pv 0) pe_int set_list))
      (pss_cons (ps_set (i := 3) sc_law_pick.nd rfl (Or.inl rfl) pe_int)
      (Evl.pss_cut (ps_if (pt_cmpR op_lt (pe_ix ix_list (pv 0) pe_int (fun _ _ => rfl)) (pe_callB c_len (by rfl) T.len (by decide +kernel) (pa_cons (pe_ix ix_list (pv 0) pe_int (fun _ _ => rfl)) pa_nil)) (nomark _)) (pss_cons (ps_set (i := 3) sc_law_pick.nd rfl (Or.inl rfl) (pe_ix ix_list (pe_ix ix_list (pv 0) pe_int (fun _ _ => rfl)) (pe_ix ix_list (pv 0) pe_int (fun _ _ => rfl)) (fun _ _ => rfl)))
      (pss_one (ps_asg (pe_op op_add (pe_ix ix_list (pv 0) pe_int (fun _ _ => rfl)) pe_int) (pg_sub (pv 0) pe_int set_list)))) pss_nil)
      (pss_cons (ps_if (pt_cmpR op_ge (pv 3) (pe_op op_pow pe_int pe_int) (nomark _)) (pss_cons (ps_asg (pe_op op_fdiv (pv 3) (pv 1)) (pg_sub (pv 0) pe_int set_list))
      (pss_one (ps_ret (pe_op op_mod (pe_callTy c_int (by rfl) T.int (by decide +kernel) (pa_cons (pv 3) pa_nil)) (pv 1))))) pss_nil)
      (pss_cons (ps_set (i := 4) sc_law_pick.nd rfl (Or.inl rfl) (pe_op op_mod (pe_callTy c_int (by rfl) T.int (by decide +kernel) (pa_cons (pe_op op_add (pe_op op_add (pe_op op_mul (pe_ix ix_list (pv 0) pe_int (fun _ _ => rfl)) pe_int) (pe_op op_mod (pe_callTy c_int (by rfl) T.int (by decide +kernel) (pa_cons (pv 3) pa_nil)) pe_int)) (pe_op op_mul (pe_ix ix_list (pv 0) pe_int (fun _ _ => rfl)) pe_int)) pa_nil)) pe_int))
      (pss_cons (ps_set (i := 4) sc_law_pick.nd rfl (Or.inl rfl) (pe_op op_mod (pe_callTy c_int (by rfl) T.int (by decide +kernel) (pa_cons (pe_op op_mul (pv 4) (pe_op op_add (pe_op op_fdiv (pv 4) pe_int) pe_int)) pa_nil)) pe_int))
      (pss_cons (ps_asg (pv 4) (pg_sub (pv 0) pe_int set_list))
      (pss_one (ps_ret (pe_op op_mod (pe_callTy c_int (by rfl) T.int (by decide +kernel) (pa_cons (pe_op op_fdiv (pv 4) pe_int) pa_nil)) (pv 1)))))))))))), ?_⟩
    refine ⟨_, rfl, t, _, _, _, rfl, rfl, SqL.of hT, rfl, _, _, rfl, rfl, _, rfl, ?_⟩
    refine ite2 (fun _ => ?_) (fun _ => ?_)
    · -- digit = int(tape[2]) % size
      refine ⟨_, rfl, t, _, _, _, rfl, rfl, SqL.of hT, rfl, .inl ⟨_, rfl, _, rfl, _, _, rfl, rfl, hn, ?_⟩⟩
      -- tape[2] = tape[2] // size
      refine ⟨_, rfl, t, _, _, _, rfl, rfl, SqL.of hT, rfl, _, rfl, _, _, rfl, rfl, ⟨hn, hn2⟩, _, rfl, t, _, _, 2, rfl, rfl, hT, rfl, ?_⟩
      exact ⟨_, rfl, fin _ _ _ _ _ hb⟩
    · -- tape[4] = tape[4] + 1
      refine ⟨_, rfl, t, _, _, _, rfl, rfl, SqL.of hT, rfl, _, _, rfl, rfl, _, rfl, t, _, _, 4, rfl, rfl, hT, rfl, ?_⟩
      have hT1 : (upd H t (.lst [.ref l, .int b, .int c, .int d, .int (e + 1)])) t = some (.lst [.ref l, .int b, .int c, .int d, .int (e + 1)]) := upd_same
      have hL1 : (upd H t (.lst [.ref l, .int b, .int c, .int d, .int (e + 1)])) l = some (.lst (ns.map V.int)) := by rw [upd_ne hlt]; exact hL
      -- the cell
      refine ⟨fun σ' H' => ∃ z b' : Int, 0 ≤ b' ∧ σ' = [some (.ref t), some (.int n), none, some (.int z), none] ∧ H' = upd H t (.lst [.ref l, .int b', .int c, .int d, .int (e + 1)]), ?_, ?_⟩
      · refine ⟨_, rfl, t, _, _, _, rfl, rfl, SqL.of hT1, rfl, _, rfl, t, _, _, _, rfl, rfl, SqL.of hT1, rfl, l, _, rfl, .inl (SqL.of hL1), _, _, rfl, rfl, _, rfl, ?_⟩
        refine ite2 (fun hc => ?_) (fun _ => ?_)
        · have hbl : b < (ns.length : Int) := by
            have := of_decide_eq_true hc
            rw [List.length_map] at this
            exact this
          obtain ⟨z, hz, hz2⟩ := map_atI hb hbl
          refine ⟨_, rfl, t, _, _, _, rfl, rfl, SqL.of hT1, rfl, _, rfl, t, _, _, _, rfl, rfl, SqL.of hT1, rfl, l, _, _, _, rfl, rfl, SqL.of hL1, hz2, ?_⟩
          refine ⟨_, rfl, t, _, _, _, rfl, rfl, SqL.of hT1, rfl, _, _, rfl, rfl, _, rfl, t, _, _, 1, rfl, rfl, hT1, rfl, ?_⟩
          exact ⟨z, b + 1, by omega, rfl, by rw [upd_upd]; rfl⟩
        · exact ⟨0, b, hb, rfl, rfl⟩
      · rintro σ' H' ⟨z, b', hb', rfl, rfl⟩
        have hT2 : (upd H t (.lst [.ref l, .int b', .int c, .int d, .int (e + 1)])) t = some (.lst [.ref l, .int b', .int c, .int d, .int (e + 1)]) := upd_same
        have fin2 : ∀ (x b c d e : Int) (u : HO), 0 ≤ b → Q (.int (x % n)) (upd (upd H t u) t (.lst [.ref l, .int b, .int c, .int d, .int e])) := fun x b c d e u hb => by
          rw [upd_upd]
          exact fin _ _ _ _ _ hb
        refine ⟨_, rfl, _, _, rfl, rfl, ⟨by decide, by decide, by decide⟩, _, _, rfl, rfl, _, rfl, ?_⟩
        refine ite2 (fun _ => ?_) (fun _ => ?_)
        · refine ⟨_, rfl, _, rfl, _, _, rfl, rfl, ⟨hn, hn2⟩, _, rfl, t, _, _, 2, rfl, rfl, hT2, rfl, ?_⟩
          exact ⟨_, rfl, .inl ⟨_, rfl, _, rfl, _, _, rfl, rfl, hn, fin2 _ _ _ _ _ _ hb'⟩⟩
        · refine ⟨_, rfl, t, _, _, _, rfl, rfl, SqL.of hT2, rfl, _, _, rfl, rfl, .inr (by decide), _, rfl, .inl ⟨_, rfl, _, _, rfl, rfl, (by show (0 : Int) < 2147483629; decide), _, _, rfl, rfl, _, rfl, t, _, _, _, rfl, rfl, SqL.of hT2, rfl, _, _, rfl, rfl, .inr (by decide), _, _, rfl, rfl, .inl ⟨_, rfl, _, _, rfl, rfl, (by show (0 : Int) < 2147483647; decide), ?_⟩⟩⟩
          have m0 := Int.emod_nonneg (d * 48271 + z % 2147483629 + (e + 1) * 69621) (show (2147483647 : Int) ≠ 0 by decide)
          have m1 := Int.emod_lt_of_pos (d * 48271 + z % 2147483629 + (e + 1) * 69621) (show (0 : Int) < 2147483647 by decide)
          generalize (d * 48271 + z % 2147483629 + (e + 1) * 69621) % 2147483647 = m at m0 m1 ⊢
          refine ⟨_, rfl, _, rfl, _, _, rfl, rfl, ⟨by decide, by decide⟩, _, _, rfl, rfl, _, _, rfl, rfl, .inl ⟨by omega, by omega⟩, .inl ⟨_, rfl, _, _, rfl, rfl, (by show (0 : Int) < 2147483399; decide), ?_⟩⟩
          refine ⟨_, rfl, _, rfl, t, _, _, 3, rfl, rfl, hT2, rfl, ?_⟩
          exact ⟨_, rfl, _, _, rfl, rfl, ⟨by decide, by decide⟩, .inl ⟨_, rfl, _, rfl, _, _, rfl, rfl, hn, fin2 _ _ _ _ _ _ hb'⟩⟩
/-! ### an order -/
def spOrder : Sp := fun vs H Q _ => ∃ (t l : Addr) (n : Int), vs = [.ref t, .int n] ∧ Tape H t l ∧ 0 ≤ n ∧ n ≤ 1000 ∧ ∀ (p : Addr) (xs : List Int) (H' : Hp), xs.Perm (rangeI n) → H p = none → H' p = some (.lst (xs.map V.int)) → Gr t H H' → Tape H' t l → Q (.ref p) H'
theorem ok_order (A : At K mg "_law_order" s_law_order ["tape", "many"]) (T : Tx mg) (G_law_pick : Dfn P w K mg base "_law_pick" ["tape", "size"] 1 spPick) : Dfn P w K mg base "_law_order" ["tape", "many"] 2 spOrder := by
  refine A.ok sc_law_order (fun vs H Q E h => ?_) (fun f cdv A outer s H vs Q E hr h => ?_)
  · obtain ⟨t, l, n, rfl, _⟩ := h
    rfl
  · obtain ⟨t, l, n, rfl, hT, hn, hn2, k⟩ := h
    refine ⟨_, (pss_cons (ps_set (i := 2) sc_law_order.nd rfl (Or.inr rfl) (pe_listRg rfl (by rfl) T.list (prg_1 (by rfl) T.range (pv 1))))
      (pss_one (ps_ret (pe_lc (own := [("k", 3)]) (g := (gName 3)) (tt := tYes) (te := (tBM K "list" rPopAt (tVar 2) (tCons (tCall spPick [] E0 (tCons (tVar 0) (tCons (tCB (rLenS K) (tCons (tVar 2) tNil)) tNil))) tNil))) (by rfl) sc_law_order.nd (pi_range1 rfl T.range (pa_cons (pv 1) pa_nil)) (blkOk_by (own := [("k", 3)]) (N := n_law_order) (sc := (defScope s_law_order)) (by decide +kernel)) (fun _ _ _ _ _ => (pg_name (i := 3) sc_law_order.nd rfl (Or.inl rfl))) (fun _ _ _ _ _ => pts_nil) (fun _ _ _ _ _ => (pe_bm PySem.F.plainAttrs_list PySem.F.slot_list_pop PySem.F.type_list_pop mt_popAt (pv 2) (pa_cons (pe_d G_law_pick (hr.mono (by decide)) (pa_cons (pv 0) (pa_cons (pe_callB c_len (by rfl) T.len (by decide +kernel) (pa_cons (pv 2) pa_nil)) pa_nil))) pa_nil))))))), ?_⟩
    refine ⟨_, rfl, n, rfl, RgOk.of_le (by decide) (by omega) (by decide) hn, fun q hq => ?_⟩
    have nq := hT.free hq
    refine ⟨_, rfl, n, rfl, by omega, by omega, fun D hD => ?_⟩
    have nqD : q ≠ D := ne_of_none upd_same hD
    have hD0 : H D = none := by
      rw [upd_ne nqD.symm] at hD
      exact hD
    have nD := hT.free hD0
    refine lc_range (lo := 0) (n := n.toNat) (fun i H' => ∃ acc left : List Int, (acc ++ left).Perm (rangeI n) ∧ acc.length = i ∧ left.length = n.toNat - i ∧ H' D = some (.lst (acc.map V.int)) ∧ H' q = some (.lst (left.map V.int)) ∧ Gr t H H' ∧ Tape H' t l)
      ⟨[], rangeI n, List.Perm.refl _, rfl, rangeI_len n, upd_same, by rw [upd_ne nqD, upd_same, rgV_rangeI], gr_mut (gr_mut (Gr.refl H) hq) hD0, (hT.new hq).new hD⟩ ?_ ?_
    · rintro i H1 hi ⟨acc, left, pm, la, ll, hDa, hqa, g1, T1⟩
      have lp : 0 < left.length := by omega
      refine ⟨rfl, _, rfl, .inl ⟨rfl, _, SqL.of hqa⟩, _, rfl, _, rfl, q, _, rfl, .inl (SqL.of hqa), t, l, _, rfl, T1, by rw [List.length_map]; omega, by rw [List.length_map]; omega, fun x H2 x0 x1 g2 T2 => ?_⟩
      rw [List.length_map] at x1
      have hqb : H2 q = some (.lst (left.map V.int)) := g2 _ _ nq.1 hqa
      have hDb : H2 D = some (.lst (acc.map V.int)) := g2 _ _ nD.1 hDa
      have xl : x.toNat < left.length := by omega
      have hy : (left.map V.int)[x.toNat]? = some (.int left[x.toNat]) := by
        rw [List.getElem?_map, List.getElem?_eq_getElem xl]
        rfl
      refine ⟨q, _, x, x.toNat, _, rfl, rfl, hqb, by omega, by omega, seq_at x0 (by rw [List.length_map]; exact x1), hy, acc.map V.int, by rw [upd_ne nqD.symm]; exact hDb, by rw [List.length_map]; exact Nat.lt_of_le_of_lt (show acc.length ≤ 1000 by omega) (by decide), ?_⟩
      refine ⟨acc ++ [left[x.toNat]], left.eraseIdx x.toNat, ?_, by rw [List.length_append, la]; rfl, by rw [List.length_eraseIdx, if_pos xl]; omega, by rw [upd_same, List.map_append]; rfl, by rw [upd_ne nqD, upd_same, map_eraseIdx'], gr_mut (gr_mut (g1.trans g2) hq) hD0, (T2.mut nq).mut nD⟩
      refine List.Perm.trans ?_ pm
      rw [List.append_assoc]
      exact List.Perm.append_left acc (perm_erase left _ xl)
    · rintro H1 ⟨acc, left, pm, la, ll, hDa, hqa, g1, T1⟩
      have e : left = [] := List.eq_nil_of_length_eq_zero (by omega)
      subst e
      rw [List.append_nil] at pm
      exact k D acc H1 pm hD0 hDa g1 T1
/-! ### rows drawn at will -/
def spLoose (K : PySem.W.Frag) : Sp := fun vs H Q _ => ∃ (t l : Addr) (n : Int), vs = [.ref t, .int n] ∧ Tape H t l ∧ 1 ≤ n ∧ n ≤ 12 ∧ ∀ (v : V) (rows : List (List Int)) (H' : Hp), Good rows → (rows.length : Int) = n → Gr t H H' → Tape H' t l → RowsAt K H' v rows → Q v H'
theorem ok_loose (A : At K mg "_law_loose" s_law_loose ["tape", "many"]) (T : Tx mg) (G_law_pick : Dfn P w K mg base "_law_pick" ["tape", "size"] 1 spPick) (G_law_order : Dfn P w K mg base "_law_order" ["tape", "many"] 2 spOrder) : Dfn P w K mg base "_law_loose" ["tape", "many"] 3 (spLoose K) := by
  refine A.ok sc_law_loose (fun vs H Q E h => ?_) (fun f cdv A outer s H vs Q E hr h => ?_)
  · obtain ⟨t, l, n, rfl, _⟩ := h
    rfl
  · obtain ⟨t, l, n, rfl, hT, hn, hn2, k⟩ := h
    refine ⟨_, (pss_cons (ps_set (i := 2) sc_law_loose.nd rfl (Or.inl rfl) (pe_d G_law_order (hr.mono (by decide)) (pa_cons (pv 0) (pa_cons (pv 1) pa_nil))))
      (pss_cons (ps_set (i := 3) sc_law_loose.nd rfl (Or.inr rfl) (pe_op op_add pe_int (pe_d G_law_pick (hr.mono (by decide)) (pa_cons (pv 0) (pa_cons pe_int pa_nil)))))
      (pss_cons (ps_set (i := 4) sc_law_loose.nd rfl (Or.inl rfl) (pe_cmpR op_gt (pe_d G_law_pick (hr.mono (by decide)) (pa_cons (pv 0) (pa_cons pe_int pa_nil))) pe_int (nomark _)))
      (pss_cons (ps_set (i := 5) sc_law_loose.nd rfl (Or.inl rfl) (pe_lst pa_nil))
      (pss_cons (ps_for PassesOwn.never rfl (pi_range1 rfl T.range (pa_cons (pv 1) pa_nil)) (pg_name (i := 6) sc_law_loose.nd rfl (Or.inl rfl))
      (pss_cons (ps_setLc (i := 7) (own := [("thing", 8)]) (g := (gName 8)) (tt := (tTest (tOp (rI0 fun i j => V.bl (decide (i < j))) (tCall spPick [] E0 (tCons (tVar 0) (tCons (tC (V.int 5)) tNil))) (tVar 3)))) (te := (tVar 8)) (by rfl) sc_law_loose.nd rfl rfl (sw_true rfl rfl rfl (by decide +kernel)) (pi_range1 rfl T.range (pa_cons (pv 1) pa_nil)) (blkOk_by (own := [("thing", 8)]) (N := n_law_loose) (sc := (defScope s_law_loose)) (by decide +kernel)) (fun _ _ _ _ _ => (pg_name (i := 8) sc_law_loose.nd rfl (Or.inl rfl))) (fun _ _ _ _ _ => (pts_one (pt_cmpR op_lt (pe_d G_law_pick (hr.mono (by decide)) (pa_cons (pv 0) (pa_cons pe_int pa_nil))) (pv 3) (nomark _)))) (fun _ _ _ _ _ => (pv 8)))
      (Evl.pss_cut (ps_if (PW.pt (pw_and (pt_val (pv 4)) (pw_and1 (pt_cmpR op_notIn_seq (pe_ix ix_list (pv 2) (pv 6) (fun _ _ => rfl)) (pv 7) rfl)))) (pss_one (ps_expr (pe_bm PySem.F.plainAttrs_list PySem.F.slot_list_append PySem.F.type_list_append mt_append (pv 7) (pa_cons (pe_ix ix_list (pv 2) (pv 6) (fun _ _ => rfl)) pa_nil)))) pss_nil)
      (pss_one (ps_expr (pe_bm PySem.F.plainAttrs_list PySem.F.slot_list_append PySem.F.type_list_append mt_append (pv 5) (pa_cons (pe_callTy c_tuple (by rfl) T.tuple (by decide +kernel) (pa_cons (pe_callB cr_sortedI (by rfl) T.sorted (by decide +kernel) (pa_cons (pv 7) pa_nil)) pa_nil)) pa_nil)))))))
      (pss_one (ps_ret (pe_callTy c_tuple (by rfl) T.tuple (by decide +kernel) (pa_cons (pv 5) pa_nil))))))))), ?_⟩
    refine ⟨_, rfl, _, rfl, t, l, n, rfl, hT, by omega, by omega, fun oa os H1 pm _ ho g1 T1 => ?_⟩
    have hol : os.length = n.toNat := by rw [pm.length_eq, rangeI_len]
    refine ⟨_, rfl, t, l, 4, rfl, T1, by decide, by decide, fun th H2 _ _ g2 T2 => ⟨_, _, rfl, rfl, ?_⟩⟩
    refine ⟨_, rfl, t, l, 4, rfl, T2, by decide, by decide, fun pl H3 _ _ g3 T3 => ⟨_, _, rfl, rfl, ?_⟩⟩
    obtain ⟨planted, hpl⟩ : ∃ b, b = decide (0 < pl) := ⟨_, rfl⟩
    refine ⟨Nat.zero_le _, fun fa hf => ?_⟩
    have hoa : oa ≠ t := T1.ne_ints' ho
    have ho3 : H3 oa = some (.lst (os.map V.int)) := g3 _ _ hoa (g2 _ _ hoa ho)
    have nof : oa ≠ fa := ne_of_none ho3 hf
    have nf := T3.free hf
    have hf0 : H fa = none := ((g1.trans g2).trans g3).fresh T3 hf
    have g13 := (g1.trans g2).trans g3
    refine ⟨_, rfl, n, rfl, by omega, by omega, for_range (lo := 0) (n := n.toNat) (fun i σ' H' => ∃ (vs : List V) (rs : List (List Int)) (x6 x7 x8 : Option V), σ' = [some (.ref t), some (.int n), some (.ref oa), some (.int (1 + th)), some (.bl planted), some (.ref fa), x6, x7, x8] ∧ rs.length = i ∧ H' fa = some (.lst vs) ∧ RowsT K H' vs rs ∧ (∀ r ∈ rs, r.Pairwise (· < ·) ∧ ∀ x ∈ r, 0 ≤ x ∧ x < n) ∧ H' oa = some (.lst (os.map V.int)) ∧ Gr t H H' ∧ Tape H' t l)
      ⟨[], [], none, none, none, by rw [hpl]; rfl, rfl, upd_same, .nil, fun _ h => (by cases h), by rw [upd_ne nof]; exact ho3, gr_mut g13 hf0, T3.new hf⟩ ?_ ?_⟩
    · rintro i σ' H4 hi ⟨vs, rs, x6, x7, x8, rfl, hl, hfa, hrs, hall, hoa4, g4, T4⟩
      -- row = [thing for thing in range(many) if pick(5) < thick]
      refine ⟨_, rfl, n, rfl, by omega, by omega, fun D hD => ?_⟩
      have nD := T4.free hD
      have nDf : fa ≠ D := ne_of_none hfa hD
      have nDo : oa ≠ D := ne_of_none hoa4 hD
      have hD0 : H D = none := g4.fresh T4 hD
      refine lc_range (lo := 0) (n := n.toNat) (fun j H' => ∃ row : List Int, H' D = some (.lst (row.map V.int)) ∧ row.length ≤ j ∧ row.Pairwise (· < ·) ∧ (∀ x ∈ row, 0 ≤ x ∧ x < (j : Int)) ∧ Tape H' t l ∧ Gr t H4 H')
        ⟨[], upd_same, Nat.le_refl _, .nil, fun _ h => (by cases h), T4.new hD, Gr.new hD⟩ ?_ ?_
      · rintro j H5 hj ⟨row, hDr, hrl, hrp, hrr, T5, g45⟩
        refine ⟨rfl, _, rfl, t, l, 5, rfl, T5, by decide, by decide, fun x H6 x0 x1 g6 T6 => ⟨_, rfl, _, _, rfl, rfl, _, rfl, ?_⟩⟩
        have hD6 : H6 D = some (.lst (row.map V.int)) := g6 _ _ nD.1 hDr
        refine ite2 (fun _ => ?_) (fun _ => ?_)
        · refine ⟨_, rfl, row.map V.int, hD6, by rw [List.length_map]; exact small_lt (by omega), row ++ [(j : Int)], ?_, by rw [List.length_append, List.length_singleton]; omega, asc_snoc hrp fun x hx => (hrr x hx).2, fun x hx => ?_, T6.mut nD, gr_mut (g45.trans g6) hD⟩
          · rw [upd_same, ← map_snoc]
            show some (HO.lst (row.map V.int ++ [V.int (0 + (j : Int))])) = _
            rw [Int.zero_add]
          · rcases List.mem_append.mp hx with h | h
            · have := hrr x h
              omega
            · rw [List.mem_singleton.mp h]
              omega
        · exact ⟨row, hD6, by omega, hrp, fun x hx => by have := hrr x hx; omega, T6, g45.trans g6⟩
      · rintro H5 ⟨row, hDr, hrl, hrp, hrr, T5, g45⟩
        have hrr' : ∀ x ∈ row, 0 ≤ x ∧ x < n := fun x hx => by have := hrr x hx; omega
        have hoa5 : H5 oa = some (.lst (os.map V.int)) := g45 _ _ hoa hoa4
        obtain ⟨z, hz, hz2⟩ := map_atI (ns := os) (i := 0 + (i : Int)) (by omega) (by omega)
        have hzr := mem_rangeI.mp (pm.mem_iff.mp hz)
        refine ⟨fun σ' H' => ∃ row' : List Int, σ' = [some (.ref t), some (.int n), some (.ref oa), some (.int (1 + th)), some (.bl planted), some (.ref fa), some (.int (0 + (i : Int))), some (.ref D), x8] ∧ H' D = some (.lst (row'.map V.int)) ∧ row'.Nodup ∧ (∀ x ∈ row', 0 ≤ x ∧ x < n) ∧ row'.length ≤ 13 ∧ Gr t H4 H' ∧ Tape H' t l, ?_, ?_⟩
        · refine ⟨_, rfl, _, rfl, ?_⟩
          cases planted with
          | false => exact ⟨row, rfl, hDr, nodup_of_lt hrp, hrr', by omega, g45, T5⟩
          | true =>
            refine ⟨_, rfl, _, rfl, oa, _, _, _, rfl, rfl, SqL.of hoa5, hz2, _, rfl, D, _, rfl, .inl (SqL.of hDr), rfl, all_flat_ints _, _, rfl, ?_⟩
            show if (!inV (V.int z) (row.map V.int)) = true then _ else _
            rw [inV_ints]
            by_cases hm : z ∈ row
            · rw [decide_eq_true hm]
              exact ⟨row, rfl, hDr, nodup_of_lt hrp, hrr', by omega, g45, T5⟩
            · rw [decide_eq_false hm]
              refine ⟨_, rfl, .inl ⟨rfl, _, SqL.of hDr⟩, _, rfl, _, rfl, oa, _, _, _, rfl, rfl, SqL.of hoa5, hz2, D, _, _, rfl, rfl, hDr, by rw [List.length_map]; exact small_lt (by omega), ?_⟩
              exact ⟨row ++ [z], rfl, by rw [upd_same, map_snoc], nodup_snoc (nodup_of_lt hrp) hm, fun x hx => by
                rcases List.mem_append.mp hx with h | h
                · exact hrr' x h
                · rw [List.mem_singleton.mp h]
                  exact hzr, by rw [List.length_append, List.length_singleton]; omega, gr_mut g45 hD, T5.mut nD⟩
        · rintro σ' H6 ⟨row', rfl, hD6, hnd, hr6, hl6, g46, T6⟩
          have hfa6 : H6 fa = some (.lst vs) := g46 _ _ nf.1 hfa
          refine ⟨_, rfl, .inl ⟨rfl, _, SqL.of hfa6⟩, _, rfl, D, row', rfl, SqL.of hD6, fun ns' p pm2 so hp => ⟨p, _, rfl, .inl ⟨SqL.of upd_same, fun q hq => ?_⟩⟩⟩
          have npf : fa ≠ p := ne_of_none hfa6 hp
          have hq6 : H6 q = none := by
            by_cases e : q = p
            · rw [e, upd_same] at hq
              cases hq
            · rw [upd_ne e] at hq
              exact hq
          have nqf : fa ≠ q := ne_of_none hfa6 hq6
          have e7 : (upd (upd H6 p (.lst (ns'.map V.int))) q (.tup (ns'.map V.int))) fa = some (.lst vs) := by rw [upd_ne nqf, upd_ne npf]; exact hfa6
          refine ⟨fa, vs, .ref q, rfl, rfl, e7, small_lt (by rw [hrs.len]; omega), ?_⟩
          have g67 : Gr t H6 (upd (upd H6 p (.lst (ns'.map V.int))) q (.tup (ns'.map V.int))) := (Gr.new hp).trans (Gr.new hq)
          have T7 := (T6.new (o := .lst (ns'.map V.int)) hp).new (o := .tup (ns'.map V.int)) hq
          have hnf : H4 fa = some (.lst vs) := hfa
          refine ⟨vs ++ [.ref q], rs ++ [ns'], _, _, _, rfl, by rw [List.length_append, hl]; rfl, upd_same, ?_, fun r hr => ?_, ?_, gr_mut (g4.trans (g46.trans g67)) hf0, T7.mut nf⟩
          · have r7 := hrs.gr (g46.trans g67) T4
            have r8 : RowsT K (upd (upd (upd H6 p (.lst (ns'.map V.int))) q (.tup (ns'.map V.int))) fa (.lst (vs ++ [.ref q]))) vs rs := r7.put e7
            exact r8.snoc (SqT.of (by rw [upd_ne nqf.symm, upd_same]))
          · rcases List.mem_append.mp hr with h | h
            · exact hall r h
            · rw [List.mem_singleton.mp h]
              exact ⟨asc_of pm2 so hnd, fun x hx => hr6 x (pm2.mem_iff.mp hx)⟩
          · rw [upd_ne nof, (g46.trans g67) _ _ hoa hoa4]
    · rintro σ' H4 ⟨vs, rs, x6, x7, x8, rfl, hl, hfa, hrs, hall, hoa4, g4, T4⟩
      refine ⟨_, rfl, fa, vs, rfl, .inl ⟨SqL.of hfa, fun z hz => ?_⟩⟩
      have hz0 : H z = none := g4.fresh T4 hz
      have en : (rs.length : Int) = n := by omega
      refine k _ rs _ ⟨by omega, fun r hr => (hall r hr).1, fun r hr x hx => by rw [en]; exact (hall r hr).2 x hx⟩ en (gr_mut g4 hz0) (T4.new hz) ⟨z, vs, rfl, SqT.of upd_same, hrs.same (same_new hz)⟩
/-! ### people and things moved -/
def lcScope (s : Stmt) : Scope := match (defBody s).getLast? with
  | some (.Return (some (.Call _ [.ListComp _ _ sc _] _ _)) _) => sc
  | _ => defScope s
def envS (sc : Scope) : Env := { scope := sc, locals := 0, globals := 0, cells := [], qual := "", func := none, code := .none, frame := none, builtins := 0 }
def spMoved (K : PySem.W.Frag) : Sp := fun vs H Q _ => ∃ (t l : Addr) (v : V) (rows : List (List Int)), vs = [.ref t, v] ∧ Tape H t l ∧ Good rows ∧ rows.length ≤ 12 ∧ RowsAt K H v rows ∧ ∀ (v' : V) (rows' : List (List Int)) (H' : Hp), Good rows' → rows'.length = rows.length → Gr t H H' → Tape H' t l → RowsAt K H' v' rows' → Q v' H'
theorem ok_moved (A : At K mg "_law_moved" s_law_moved ["tape", "rows"]) (T : Tx mg) (G_law_order : Dfn P w K mg base "_law_order" ["tape", "many"] 2 spOrder) : Dfn P w K mg base "_law_moved" ["tape", "rows"] 3 (spMoved K) := by
  refine A.ok sc_law_moved (fun vs H Q E h => ?_) (fun f cdv A outer s H vs Q E hr h => ?_)
  · obtain ⟨t, l, v, rows, rfl, _⟩ := h
    rfl
  · obtain ⟨t, l, v, rows, rfl, hT, hG, hm, ⟨ra, rvs, rfl, hra, hrt⟩, k⟩ := h
    have rl := hrt.len
    refine ⟨_, (pss_cons (ps_set (i := 2) sc_law_moved.nd rfl (Or.inl rfl) (pe_d G_law_order (hr.mono (by decide)) (pa_cons (pv 0) (pa_cons (pe_callB c_len (by rfl) T.len (by decide +kernel) (pa_cons (pv 1) pa_nil)) pa_nil))))
      (pss_cons (ps_set (i := 3) sc_law_moved.nd rfl (Or.inr rfl) (pe_d G_law_order (hr.mono (by decide)) (pa_cons (pv 0) (pa_cons (pe_callB c_len (by rfl) T.len (by decide +kernel) (pa_cons (pv 1) pa_nil)) pa_nil))))
      (pss_one (ps_ret (pe_callTy c_tuple (by rfl) T.tuple (by decide +kernel) (pa_cons (pe_lc (own := [("person", 4)]) (g := (gName 4)) (tt := tYes) (te := (tCB (rTupOf K) (tCons (tCB (rSortedI K) (tCons (tLc (iTup K (tOp (rIxT K) (tVar 1) (tVar 4))) (gName 5) tYes (tOp (rIxL K) (tVar 3) (tVar 5)) [5]) tNil)) tNil))) (by rfl) sc_law_moved.nd (pi_list (pv 2)) (blkOk_by (own := [("person", 4)]) (N := n_law_moved) (sc := (defScope s_law_moved)) (by decide +kernel)) (fun _ _ _ _ _ => (pg_name (i := 4) sc_law_moved.nd rfl (Or.inl rfl))) (fun _ _ _ _ _ => pts_nil) (fun _ _ _ _ _ => (pe_callTy c_tuple (by rfl) T.tuple (by decide +kernel) (pa_cons (pe_callB cr_sortedI (by rfl) T.sorted (by decide +kernel) (pa_cons (pe_lc (own := [("thing", 5)]) (g := (gName 5)) (tt := tYes) (te := (tOp (rIxL K) (tVar 3) (tVar 5))) (by rfl) sc_law_moved.nd (pi_tup (pe_ix ix_tup (pv 1) (pv 4) (fun _ _ => rfl))) (blkOk_by (own := [("thing", 5)]) (N := n_law_moved) (sc := (relabel (lcScope s_law_moved) (envS (defScope s_law_moved)))) (by decide +kernel)) (fun _ _ _ _ _ => (pg_name (i := 5) sc_law_moved.nd rfl (Or.inl rfl))) (fun _ _ _ _ _ => pts_nil) (fun _ _ _ _ _ => (pe_ix ix_list (pv 3) (pv 5) (fun _ _ => rfl)))) pa_nil)) pa_nil)))) pa_nil)))))), ?_⟩
    refine ⟨_, rfl, _, rfl, ra, _, rfl, .inr hra, t, l, _, rfl, hT, by omega, by omega, fun pa ps H1 pm1 _ hp1 g1 T1 => ?_⟩
    have hra1 := gr_T g1 hT hra
    have hrt1 := hrt.gr g1 hT
    refine ⟨_, rfl, _, rfl, ra, _, rfl, .inr hra1, t, l, _, rfl, T1, by omega, by omega, fun ta ts H2 pm2 _ hp2 g2 T2 => ?_⟩
    have hpa : H2 pa = some (.lst (ps.map V.int)) := g2 _ _ (T1.ne_ints' hp1) hp1
    have hra2 := gr_T g2 T1 hra1
    have hrt2 := hrt1.gr g2 T1
    rw [rl] at pm1 pm2
    have psl : ps.length = rows.length := by rw [pm1.length_eq, rangeI_len]; omega
    have tsl : ts.length = rows.length := by rw [pm2.length_eq, rangeI_len]; omega
    have tnd : ts.Nodup := pm2.symm.nodup (rangeI_nodup _)
    -- the outer comprehension
    refine ⟨_, rfl, pa, rfl, ⟨_, SqL.of hpa⟩, fun D hD => ?_⟩
    have g12 := g1.trans g2
    have hD0 : H D = none := g12.fresh T2 hD
    have nD := T2.free hD
    have npD : pa ≠ D := ne_of_none hpa hD
    have ntD : ta ≠ D := ne_of_none hp2 hD
    refine lc_list (xs := ps.map V.int) (fun i H' => ∃ vs rs, H' D = some (.lst vs) ∧ RowsT K H' vs rs ∧ rs.length = i ∧ (∀ r ∈ rs, r.Pairwise (· < ·) ∧ ∀ x ∈ r, 0 ≤ x ∧ x < (rows.length : Int)) ∧ Gr t H2 H' ∧ Tape H' t l)
      ⟨[], [], upd_same, .nil, rfl, fun _ h => (by cases h), Gr.new hD, T2.new hD⟩ (fun i H' _ ⟨_, _, _, _, _, _, g, _⟩ => SqL.of (g _ _ (T2.ne_ints' hpa) hpa)) ?_ ?_
    · rintro i y H3 hy ⟨vs, rs, hDv, hrs, hl, hall, g3, T3⟩
      have hil : i < ps.length := by
        have := (List.getElem?_eq_some_iff.mp hy).1
        rw [List.length_map] at this
        exact this
      obtain ⟨z, hz, hzr⟩ : ∃ z, y = V.int z ∧ 0 ≤ z ∧ z < (rows.length : Int) := by
        rw [List.getElem?_map, List.getElem?_eq_getElem hil] at hy
        refine ⟨ps[i], (Option.some.inj hy).symm, ?_⟩
        exact mem_rangeI.mp (pm1.mem_iff.mp (List.getElem_mem hil))
      subst hz
      have hzl : z.toNat < rows.length := by omega
      obtain ⟨rw_, hrw⟩ : ∃ r, rows[z.toNat]? = some r := ⟨_, List.getElem?_eq_getElem hzl⟩
      obtain ⟨qa, hqa, hqs⟩ := (hrt2.gr g3 T2).get hrw
      have hrmem : rw_ ∈ rows := List.mem_of_getElem? hrw
      have hra3 := gr_T g3 T2 hra2
      have hix : atI rvs z = some (.ref qa) := at_of (j := z.toNat) (by omega) hqa
      have hta3 : H3 ta = some (.lst (ts.map V.int)) := g3 _ _ (T2.ne_ints' hp2) hp2
      refine ⟨rfl, _, rfl, _, rfl, ra, _, z, _, rfl, rfl, hra3, hix, qa, rfl, ⟨_, hqs⟩, fun D2 hD2 => ?_⟩
      have nD2 := T3.free hD2
      have ntD2 : ta ≠ D2 := ne_of_none hta3 hD2
      have nDD2 : D ≠ D2 := ne_of_none hDv hD2
      refine lc_tup (xs := rw_.map V.int) (fun j H' => ∃ out : List Int, H' D2 = some (.lst (out.map V.int)) ∧ out.length = j ∧ (∀ x ∈ out, 0 ≤ x ∧ x < (rows.length : Int)) ∧ (∀ (m : Nat) (x : Int), out[m]? = some x → ∃ u : Int, rw_[m]? = some u ∧ ts[u.toNat]? = some x) ∧ Gr t H3 H' ∧ Tape H' t l)
        ⟨[], upd_same, rfl, fun _ h => (by cases h), fun m x h => (by simp at h), Gr.new hD2, T3.new hD2⟩ (fun j H' _ ⟨_, _, _, _, _, g, _⟩ => gr_T g T3 hqs) ?_ ?_
      · rintro j u H4 hu ⟨out, hDo, hol, hor, hof, g4, T4⟩
        have hjl : j < rw_.length := by
          have := (List.getElem?_eq_some_iff.mp hu).1
          rw [List.length_map] at this
          exact this
        have hu' : rw_[j]? = some rw_[j] := List.getElem?_eq_getElem hjl
        rw [List.getElem?_map, hu'] at hu
        have hu2 : V.int rw_[j] = u := Option.some.inj hu
        subst hu2
        have hrg := hG.rng _ hrmem _ (List.getElem_mem hjl)
        generalize hug : rw_[j] = ug at hu' hrg
        have htl : ug.toNat < ts.length := by omega
        have htx : ts[ug.toNat]? = some ts[ug.toNat] := List.getElem?_eq_getElem htl
        have hti : atI (ts.map V.int) ug = some (.int ts[ug.toNat]) := at_of (j := ug.toNat) (by omega) (by rw [List.getElem?_map, htx]; rfl)
        have hta4 : H4 ta = some (.lst (ts.map V.int)) := g4 _ _ (T2.ne_ints' hp2) hta3
        refine ⟨rfl, _, rfl, _, rfl, ta, _, _, _, rfl, rfl, SqL.of hta4, hti, _, hDo, by rw [List.length_map]; exact small_lt (by have := nodup_of_lt (hG.asc _ hrmem); have := row_len (hG.asc _ hrmem) (hG.rng _ hrmem); omega), ?_⟩
        refine ⟨out ++ [ts[ug.toNat]], by rw [upd_same, map_snoc], by rw [List.length_append, hol]; rfl, fun x hx => ?_, fun m x hx => ?_, gr_mut g4 hD2, T4.mut nD2⟩
        · rcases List.mem_append.mp hx with h | h
          · exact hor x h
          · rw [List.mem_singleton.mp h]
            exact mem_rangeI.mp (pm2.mem_iff.mp (List.getElem_mem htl))
        · by_cases hm : m < out.length
          · rw [List.getElem?_append_left hm] at hx
            exact hof m x hx
          · have hm2 : m = out.length := by
              have h1 := (List.getElem?_eq_some_iff.mp hx).1
              rw [List.length_append, List.length_singleton] at h1
              omega
            subst hm2
            rw [List.getElem?_append_right (Nat.le_refl _), Nat.sub_self] at hx
            have hx' : ts[ug.toNat] = x := Option.some.inj hx
            subst hx'
            exact ⟨ug, by rw [hol]; exact hu', htx⟩
      · rintro H4 ⟨out, hDo, hol, hor, hof, g4, T4⟩
        rw [List.length_map] at hol
        have ond : out.Nodup := by
          refine List.pairwise_iff_getElem.mpr fun a b ha hb hab heq' => ?_
          obtain ⟨u1, h1, k1⟩ := hof a _ (List.getElem?_eq_getElem ha)
          obtain ⟨u2, h2, k2⟩ := hof b _ (List.getElem?_eq_getElem hb)
          rw [heq'] at k1
          have e12 : u1.toNat = u2.toNat := nd_ix tnd k1 k2
          have r1 := hG.rng _ hrmem _ (List.mem_of_getElem? h1)
          have r2 := hG.rng _ hrmem _ (List.mem_of_getElem? h2)
          have e3 : u1 = u2 := by omega
          rw [← e3] at h2
          have := nd_ix (nodup_of_lt (hG.asc _ hrmem)) h1 h2
          omega
        have hDv4 : H4 D = some (.lst vs) := g4 _ _ nD.1 hDv
        refine ⟨D2, out, rfl, SqL.of hDo, fun ns' p pms so hp => ⟨p, _, rfl, .inl ⟨SqL.of upd_same, fun q hq => ?_⟩⟩⟩
        have npD' : D ≠ p := ne_of_none hDv4 hp
        have hq4 : H4 q = none := by
          by_cases e : q = p
          · rw [e, upd_same] at hq
            cases hq
          · rw [upd_ne e] at hq
            exact hq
        have nqD : D ≠ q := ne_of_none hDv4 hq4
        have e7 : (upd (upd H4 p (.lst (ns'.map V.int))) q (.tup (ns'.map V.int))) D = some (.lst vs) := by rw [upd_ne nqD, upd_ne npD']; exact hDv4
        refine ⟨vs, e7, small_lt (by rw [hrs.len]; omega), ?_⟩
        have g47 : Gr t H3 (upd (upd H4 p (.lst (ns'.map V.int))) q (.tup (ns'.map V.int))) := g4.trans ((Gr.new hp).trans (Gr.new hq))
        have T7 := (T4.new (o := .lst (ns'.map V.int)) hp).new (o := .tup (ns'.map V.int)) hq
        refine ⟨vs ++ [.ref q], rs ++ [ns'], upd_same, ?_, by rw [List.length_append, hl]; rfl, fun r hr => ?_, gr_mut (g3.trans g47) hD, T7.mut nD⟩
        · exact RowsT.snoc (SqT.of (by rw [upd_ne nqD.symm, upd_same])) ((hrs.gr g47 T3).put e7)
        · rcases List.mem_append.mp hr with h | h
          · exact hall r h
          · rw [List.mem_singleton.mp h]
            exact ⟨asc_of pms so ond, fun x hx => hor x (pms.mem_iff.mp hx)⟩
    · rintro H3 ⟨vs, rs, hDv, hrs, hl, hall, g3, T3⟩
      rw [List.length_map, psl] at hl
      refine ⟨D, vs, rfl, .inl ⟨SqL.of hDv, fun z hz => ?_⟩⟩
      have hz0 : H z = none := (g12.trans g3).fresh T3 hz
      exact k _ rs _ ⟨by rw [hl]; exact hG.pos, fun r hr => (hall r hr).1, fun r hr x hx => by rw [hl]; exact (hall r hr).2 x hx⟩ hl (gr_mut (g12.trans g3) hz0) (T3.new hz) ⟨z, vs, rfl, SqT.of upd_same, hrs.same (same_new hz)⟩
/-! ### rows drawn in blocks -/
def spBlocks (K : PySem.W.Frag) : Sp := fun vs H Q _ => ∃ (t l : Addr) (n : Int), vs = [.ref t, .int n] ∧ Tape H t l ∧ 1 ≤ n ∧ n ≤ 12 ∧ ∀ (v : V) (rows : List (List Int)) (H' : Hp), Good rows → (rows.length : Int) ≤ n → Gr t H H' → Tape H' t l → RowsAt K H' v rows → Q v H'
structure Blk (m : Int) (rs : List (List Int)) : Prop where
  asc : ∀ r ∈ rs, r.Pairwise (· < ·)
  rng : ∀ r ∈ rs, ∀ x ∈ r, 0 ≤ x ∧ x < m
def WBlk (K : PySem.W.Frag) (t l fa : Addr) (n : Int) (H : Hp) (m : Nat) (σ' : L2.St) (H' : Hp) : Prop :=
  ∃ (vs : List V) (rs : List (List Int)) (x3 x4 x5 x6 x7 x8 x9 x10 : Option V), σ' = [some (.ref t), some (.int n), some (.ref fa), x3, x4, x5, x6, x7, x8, x9, x10] ∧ m + rs.length = n.toNat ∧ H' fa = some (.lst vs) ∧ RowsT K H' vs rs ∧ Blk rs.length rs ∧ Gr t H H' ∧ Tape H' t l
theorem mod_ne {i z : Int} (h0 : 0 ≤ i) (h1 : i < z) (h2 : 2 < z) : i ≠ (i + 1) % z := by
  intro h
  by_cases h3 : i + 1 < z
  · rw [Int.emod_eq_of_lt (by omega) h3] at h
    omega
  · have e : i + 1 = z := by omega
    rw [e, Int.emod_self] at h
    omega
theorem ok_blocks (A : At K mg "_law_blocks" s_law_blocks ["tape", "most"]) (T : Tx mg) (G_law_pick : Dfn P w K mg base "_law_pick" ["tape", "size"] 1 spPick) : Dfn P w K mg base "_law_blocks" ["tape", "most"] 2 (spBlocks K) := by
  refine A.ok sc_law_blocks (fun vs H Q E h => ?_) (fun f cdv A outer s H vs Q E hr h => ?_)
  · obtain ⟨t, l, n, rfl, _⟩ := h
    rfl
  · obtain ⟨t, l, n, rfl, hT, hn, hn2, k⟩ := h
    refine ⟨_, (pss_cons (ps_set (i := 2) sc_law_blocks.nd rfl (Or.inl rfl) (pe_lst pa_nil))
      (pss_cons (ps_while PassesOwn.never (PW.pt (pw_or (pt_cmpR op_eq (pe_callB c_len (by rfl) T.len (by decide +kernel) (pa_cons (pv 2) pa_nil)) pe_int (nomark _)) (pw_or1 (PW.pt (pw_and (pt_cmpR op_lt (pe_callB c_len (by rfl) T.len (by decide +kernel) (pa_cons (pv 2) pa_nil)) (pv 1) (nomark _)) (pw_and1 (pt_cmpR op_gt (pe_d G_law_pick (hr.mono (by decide)) (pa_cons (pv 0) (pa_cons pe_int pa_nil))) pe_int (nomark _)))))))) (pss_cons (ps_set (i := 3) sc_law_blocks.nd rfl (Or.inr rfl) (pe_callB c_len (by rfl) T.len (by decide +kernel) (pa_cons (pv 2) pa_nil)))
      (pss_cons (ps_set (i := 4) sc_law_blocks.nd rfl (Or.inl rfl) (pe_op op_add pe_int (pe_d G_law_pick (hr.mono (by decide)) (pa_cons (pv 0) (pa_cons (pe_callB (c_min rfl) (by rfl) T.min (by decide +kernel) (pa_cons pe_int (pa_cons (pe_op op_sub (pv 1) (pv 3)) pa_nil))) pa_nil)))))
      (pss_cons (ps_set (i := 5) sc_law_blocks.nd rfl (Or.inl rfl) (pe_d G_law_pick (hr.mono (by decide)) (pa_cons (pv 0) (pa_cons pe_int pa_nil))))
      (pss_one (ps_for PassesOwn.never rfl (pi_range1 rfl T.range (pa_cons (pv 4) pa_nil)) (pg_name (i := 6) sc_law_blocks.nd rfl (Or.inr rfl))
      (pss_cons (ps_set (i := 7) sc_law_blocks.nd rfl (Or.inl rfl) (pe_listRg rfl (by rfl) T.list (prg_2 (by rfl) T.range (pv 3) (pe_op op_add (pv 3) (pv 4)))))
      (Evl.pss_cut (ps_if (PW.pt (pw_and (pt_cmpR op_eq (pv 5) pe_int (nomark _)) (pw_and1 (pt_cmpR op_gt (pv 4) pe_int (nomark _))))) (pss_one (ps_set (i := 7) sc_law_blocks.nd rfl (Or.inl rfl) (pe_lst (pa_cons (pe_op op_add (pv 3) (pv 6)) (pa_cons (pe_op op_add (pv 3) (pe_op op_mod (pe_callTy c_int (by rfl) T.int (by decide +kernel) (pa_cons (pe_op op_add (pv 6) pe_int) pa_nil)) (pv 4))) pa_nil))))) pss_nil)
      (Evl.pss_cut (ps_if (PW.pt (pw_and (pt_cmpR op_eq (pv 5) pe_int (nomark _)) (pw_and1 (pt_cmpR op_gt (pv 4) pe_int (nomark _))))) (pss_one (ps_setLc (i := 7) (own := [("j", 9)]) (g := (gName 9)) (tt := (tTest (tOp rNe (tVar 9) (tVar 6)))) (te := (tOp (rI0 fun i j => V.int (i + j)) (tVar 3) (tVar 9))) (by rfl) sc_law_blocks.nd rfl rfl (sw_true rfl rfl rfl (by decide +kernel)) (pi_range1 rfl T.range (pa_cons (pv 4) pa_nil)) (blkOk_by (own := [("j", 9)]) (N := n_law_blocks) (sc := (defScope s_law_blocks)) (by decide +kernel)) (fun _ _ _ _ _ => (pg_name (i := 9) sc_law_blocks.nd rfl (Or.inl rfl))) (fun _ _ _ _ _ => (pts_one (pt_cmpR op_ne (pv 9) (pv 6) (nomark _)))) (fun _ _ _ _ _ => (pe_op op_add (pv 3) (pv 9))))) pss_nil)
      (pss_cons (ps_setLc (i := 8) (own := [("thing", 10)]) (g := (gName 10)) (tt := (tTest (tOp rEq (tCall spPick [] E0 (tCons (tVar 0) (tCons (tC (V.int 4)) tNil))) (tC (V.int 0))))) (te := (tVar 10)) (by rfl) sc_law_blocks.nd rfl rfl (sw_true rfl rfl rfl (by decide +kernel)) (pi_range1 rfl T.range (pa_cons (pv 3) pa_nil)) (blkOk_by (own := [("thing", 10)]) (N := n_law_blocks) (sc := (defScope s_law_blocks)) (by decide +kernel)) (fun _ _ _ _ _ => (pg_name (i := 10) sc_law_blocks.nd rfl (Or.inl rfl))) (fun _ _ _ _ _ => (pts_one (pt_cmpR op_eq (pe_d G_law_pick (hr.mono (by decide)) (pa_cons (pv 0) (pa_cons pe_int pa_nil))) pe_int (nomark _)))) (fun _ _ _ _ _ => (pv 10)))
      (pss_one (ps_expr (pe_bm PySem.F.plainAttrs_list PySem.F.slot_list_append PySem.F.type_list_append mt_append (pv 2) (pa_cons (pe_callTy c_tuple (by rfl) T.tuple (by decide +kernel) (pa_cons (pe_callB cr_sortedI (by rfl) T.sorted (by decide +kernel) (pa_cons (pe_op op_cat (pv 7) (pv 8)) pa_nil)) pa_nil)) pa_nil))))))))))))))
      (pss_one (ps_ret (pe_callTy c_tuple (by rfl) T.tuple (by decide +kernel) (pa_cons (pv 2) pa_nil)))))), ?_⟩
    refine ⟨Nat.zero_le _, fun fa hf => ?_⟩
    have nf := hT.free hf
    refine ⟨WBlk K t l fa n H, ⟨n.toNat, [], [], none, none, none, none, none, none, none, none, rfl, by simp, upd_same, .nil, ⟨fun _ h => (by cases h), fun _ h => (by cases h)⟩, gr_mut (Gr.refl H) hf, hT.new hf⟩, ?_⟩
    rintro m σ' H1 ⟨vs, rs, x3, x4, x5, x6, x7, x8, x9, x10, rfl, hm, hfa, hrs, hB, g1, T1⟩
    have vl := hrs.len
    refine (show ∀ R : Bool → Hp → Prop, (∀ b H2, Gr t H1 H2 → Tape H2 t l → (b = true → 0 < m) → (b = false → 1 ≤ rs.length) → R b H2) → ((tOr (tTest (tOp rEq (tCB (rLenS K) (tCons (tVar 2) tNil)) (tC (V.int 0)))) (tAnd (tTest (tOp (rI0 fun i j => V.bl (decide (i < j))) (tCB (rLenS K) (tCons (tVar 2) tNil)) (tVar 1))) (tTest (tOp (rI0 fun i j => V.bl (decide (j < i))) (tCall spPick [] E0 (tCons (tVar 0) (tCons (tC (V.int 3)) tNil))) (tC (V.int 0)))))) : TT) [some (.ref t), some (.int n), some (.ref fa), x3, x4, x5, x6, x7, x8, x9, x10] H1 R from fun R hR => ?_) _ (fun b H2 g2 T2 hb1 hb2 => ?_)
    · refine ⟨_, rfl, fa, vs, rfl, .inl (SqL.of hfa), rfl, _, rfl, ?_⟩
      refine ite2 (fun hc => ?_) (fun hc => ?_)
      · have h0 := of_decide_eq_true hc
        injection h0 with h0
        exact hR _ _ (Gr.refl _) T1 (fun _ => by omega) (fun h => (by cases h))
      · have h0 : ¬ ((vs.length : Nat) : Int) = 0 := fun q => hc (by rw [q]; exact decide_eq_true rfl)
        refine ⟨_, rfl, fa, vs, rfl, .inl (SqL.of hfa), _, rfl, _, _, rfl, rfl, _, rfl, ?_⟩
        refine ite2 (fun hc => ?_) (fun hc => ?_)
        · have h1 := of_decide_eq_true hc
          refine ⟨_, rfl, t, l, 3, rfl, T1, by decide, by decide, fun x H2 _ _ g2 T2 => ⟨_, _, rfl, rfl, _, rfl, ?_⟩⟩
          exact hR _ _ g2 T2 (fun _ => by omega) (fun _ => by omega)
        · exact hR _ _ (Gr.refl _) T1 (fun h => (by cases h)) (fun _ => by omega)
    · have hfa2 : H2 fa = some (.lst vs) := g2 _ _ nf.1 hfa
      have hrs2 := hrs.gr g2 T1
      cases b with
      | false =>
        refine ⟨_, rfl, fa, vs, rfl, .inl ⟨SqL.of hfa2, fun z hz => ?_⟩⟩
        have g12 := g1.trans g2
        have hz0 : H z = none := g12.fresh T2 hz
        exact k _ rs _ ⟨hb2 rfl, hB.asc, hB.rng⟩ (by omega) (gr_mut g12 hz0) (T2.new hz) ⟨z, vs, rfl, SqT.of upd_same, hrs2.same (same_new hz)⟩
      | true =>
        have hm0 := hb1 rfl
        refine ⟨fun σ' H' => ∃ m', m' < m ∧ WBlk K t l fa n H m' σ' H', fun _ _ h => h, ?_⟩
        refine ⟨_, rfl, fa, vs, rfl, .inl (SqL.of hfa2), ?_⟩
        refine ⟨_, rfl, _, rfl, _, rfl, _, _, rfl, rfl, 4, _, rfl, t, l, _, rfl, T2, by split <;> omega, by split <;> omega, fun sz H3 s0 s1 g3 T3 => ⟨_, _, rfl, rfl, ?_⟩⟩
        have sb : (vs.length : Int) + (1 + sz) ≤ n ∧ sz < 4 := by
          split at s1 <;> omega
        refine ⟨_, rfl, t, l, 3, rfl, T3, by decide, by decide, fun kd H4 _ _ g4 T4 => ?_⟩
        have g24 := (g2.trans g3).trans g4
        have hfa4 : H4 fa = some (.lst vs) := (g3.trans g4) _ _ nf.1 hfa2
        have hrs4 := hrs.gr g24 T1
        refine ⟨_, rfl, _, rfl, by omega, by omega, for_range (lo := 0) (n := (1 + sz).toNat) (fun i σ' H' => ∃ (vs' : List V) (rs' : List (List Int)) (x6 x7 x8 x9 x10 : Option V), σ' = [some (.ref t), some (.int n), some (.ref fa), some (.int (vs.length : Nat)), some (.int (1 + sz)), some (.int kd), x6, x7, x8, x9, x10] ∧ rs'.length = rs.length + i ∧ H' fa = some (.lst vs') ∧ RowsT K H' vs' rs' ∧ Blk (vs.length + (1 + sz)) rs' ∧ Gr t H H' ∧ Tape H' t l)
          ⟨vs, rs, _, _, _, _, _, rfl, rfl, hfa4, hrs4, ⟨hB.asc, fun r hr x hx => by have := hB.rng r hr x hx; omega⟩, g1.trans g24, T4⟩ ?_ ?_⟩
        · rintro i σ' H5 hi ⟨vs', rs', y6, y7, y8, y9, y10, rfl, hl', hfa5, hrs5, hB5, g5, T5⟩
          have hik : ((0 : Int) + (i : Int)) < 1 + sz := by omega
          -- row = list(range(base, base + size))
          refine ⟨_, rfl, _, rfl, _, rfl, _, _, rfl, rfl, _, _, rfl, rfl, RgOk.of_le (by omega) (by omega) (by omega) (by omega), fun ra hra => ?_⟩
          -- if kind == 1
          refine ⟨fun σ' H' => ∃ (ra : Addr) (row : List Int), σ' = [some (.ref t), some (.int n), some (.ref fa), some (.int (vs.length : Nat)), some (.int (1 + sz)), some (.int kd), some (.int (0 + (i : Int))), some (.ref ra), y8, y9, y10] ∧ H' ra = some (.lst (row.map V.int)) ∧ row.Nodup ∧ (∀ x ∈ row, (vs.length : Int) ≤ x ∧ x < vs.length + (1 + sz)) ∧ row.length ≤ 12 ∧ Gr t H5 H' ∧ Tape H' t l, ?_, ?_⟩
          · have rgm : rgV (vs.length : Int) ((vs.length : Int) + (1 + sz)) = ((List.range (1 + sz).toNat).map fun (j : Nat) => (vs.length : Int) + (j : Int)).map V.int := by
              unfold rgV
              rw [List.map_map]
              have e : ((vs.length : Int) + (1 + sz) - vs.length).toNat = (1 + sz).toNat := by omega
              rw [e]
              rfl
            have first : ∃ (ra' : Addr) (row : List Int), ra' = ra ∧ (upd H5 ra (.lst (rgV (vs.length : Int) ((vs.length : Int) + (1 + sz))))) ra' = some (.lst (row.map V.int)) ∧ row.Nodup ∧ (∀ x ∈ row, (vs.length : Int) ≤ x ∧ x < vs.length + (1 + sz)) ∧ row.length ≤ 12 := by
              refine ⟨ra, (List.range (1 + sz).toNat).map fun (j : Nat) => (vs.length : Int) + (j : Int), rfl, by rw [upd_same, rgm], ?_, fun x hx => ?_, by rw [List.length_map, List.length_range]; omega⟩
              · exact List.Pairwise.map _ (fun (a b : Nat) (h : a ≠ b) (q : (vs.length : Int) + (a : Int) = (vs.length : Int) + (b : Int)) => h (by omega)) List.nodup_range
              · obtain ⟨j, hj, rfl⟩ := List.mem_map.mp hx
                have := List.mem_range.mp hj
                omega
            have keep : ∃ (ra' : Addr) (row : List Int), [some (V.ref t), some (V.int n), some (V.ref fa), some (V.int (vs.length : Nat)), some (V.int (1 + sz)), some (V.int kd), some (V.int (0 + (i : Int))), some (V.ref ra), y8, y9, y10] = [some (V.ref t), some (V.int n), some (V.ref fa), some (V.int (vs.length : Nat)), some (V.int (1 + sz)), some (V.int kd), some (V.int (0 + (i : Int))), some (V.ref ra'), y8, y9, y10] ∧ (upd H5 ra (.lst (rgV (vs.length : Int) ((vs.length : Int) + (1 + sz))))) ra' = some (.lst (row.map V.int)) ∧ row.Nodup ∧ (∀ x ∈ row, (vs.length : Int) ≤ x ∧ x < vs.length + (1 + sz)) ∧ row.length ≤ 12 ∧ Gr t H5 (upd H5 ra (.lst (rgV (vs.length : Int) ((vs.length : Int) + (1 + sz))))) ∧ Tape (upd H5 ra (.lst (rgV (vs.length : Int) ((vs.length : Int) + (1 + sz))))) t l := by
              obtain ⟨ra', row, e, h1, h2, h3, h4⟩ := first
              subst e
              exact ⟨ra', row, rfl, h1, h2, h3, h4, Gr.new hra, T5.new hra⟩
            refine ⟨_, rfl, rfl, _, rfl, ?_⟩
            refine ite2 (fun _ => ?_) (fun _ => keep)
            refine ⟨_, rfl, _, _, rfl, rfl, _, rfl, ?_⟩
            refine ite2 (fun hc => ?_) (fun _ => keep)
            have hc2 := of_decide_eq_true hc
            refine ⟨_, rfl, _, rfl, _, _, rfl, rfl, _, rfl, _, rfl, _, _, rfl, rfl, .inl ⟨_, rfl, _, rfl, _, _, rfl, rfl, (by show (0 : Int) < 1 + sz; omega), _, _, rfl, rfl, by show 2 ≤ sizeLine; decide, fun q hq => ?_⟩⟩
            have hq5 : H5 q = none := Gr.fresh (Gr.new hra) (T5.new hra) hq
            have m0 := Int.emod_nonneg (0 + (i : Int) + 1) (show (1 + sz) ≠ 0 by omega)
            have m1 := Int.emod_lt_of_pos (0 + (i : Int) + 1) (show 0 < 1 + sz by omega)
            have mn := mod_ne (show (0 : Int) ≤ 0 + (i : Int) by omega) hik hc2
            refine ⟨q, [(vs.length : Int) + (0 + (i : Int)), (vs.length : Int) + (0 + (i : Int) + 1) % (1 + sz)], rfl, upd_same, ?_, fun x hx => ?_, by show 2 ≤ 12; decide, gr_mut (Gr.new hra) hq5, (T5.new hra).new hq⟩
            · refine List.pairwise_cons.mpr ⟨fun b hb => ?_, List.pairwise_singleton _ _⟩
              rw [List.mem_singleton.mp hb]
              omega
            · rcases List.mem_cons.mp hx with h | h
              · omega
              · rw [List.mem_singleton.mp h]
                omega
          · rintro σ' H6 ⟨rb, row, rfl, hrb, hnd, hrr, hrl, g6, T6⟩
            -- if kind == 2
            refine ⟨fun σ' H' => ∃ (ra : Addr) (row : List Int), σ' = [some (.ref t), some (.int n), some (.ref fa), some (.int (vs.length : Nat)), some (.int (1 + sz)), some (.int kd), some (.int (0 + (i : Int))), some (.ref ra), y8, y9, y10] ∧ H' ra = some (.lst (row.map V.int)) ∧ row.Nodup ∧ (∀ x ∈ row, (vs.length : Int) ≤ x ∧ x < vs.length + (1 + sz)) ∧ row.length ≤ 12 ∧ Gr t H5 H' ∧ Tape H' t l, ?_, ?_⟩
            · refine ⟨_, rfl, rfl, _, rfl, ?_⟩
              refine ite2 (fun _ => ?_) (fun _ => ⟨rb, row, rfl, hrb, hnd, hrr, hrl, g6, T6⟩)
              refine ⟨_, rfl, _, _, rfl, rfl, _, rfl, ?_⟩
              refine ite2 (fun _ => ?_) (fun _ => ⟨rb, row, rfl, hrb, hnd, hrr, hrl, g6, T6⟩)
              refine ⟨_, rfl, _, rfl, by omega, by omega, fun D hD => ?_⟩
              have hD5 : H5 D = none := g6.fresh T6 hD
              refine lc_range (lo := 0) (n := (1 + sz).toNat) (fun j H' => ∃ out : List Int, H' D = some (.lst (out.map V.int)) ∧ out.length ≤ j ∧ out.Pairwise (· < ·) ∧ (∀ x ∈ out, (vs.length : Int) ≤ x ∧ x < vs.length + (j : Int)) ∧ Gr t H6 H' ∧ Tape H' t l)
                ⟨[], upd_same, Nat.le_refl _, .nil, fun _ h => (by cases h), Gr.new hD, T6.new hD⟩ ?_ ?_
              · rintro j H7 hj ⟨out, hDo, hol, hop, hor, g7, T7⟩
                refine ⟨rfl, _, rfl, _, rfl, rfl, _, rfl, ?_⟩
                refine ite2 (fun _ => ?_) (fun _ => ⟨out, hDo, by omega, hop, fun x hx => by have := hor x hx; omega, g7, T7⟩)
                refine ⟨_, rfl, _, rfl, _, _, rfl, rfl, _, hDo, by rw [List.length_map]; exact small_lt (by omega), ?_⟩
                refine ⟨out ++ [(vs.length : Int) + (0 + (j : Int))], by rw [upd_same, map_snoc], by rw [List.length_append, List.length_singleton]; omega, asc_snoc hop fun x hx => by have := hor x hx; omega, fun x hx => ?_, gr_mut g7 hD, T7.mut (T6.free hD)⟩
                rcases List.mem_append.mp hx with h | h
                · have := hor x h
                  omega
                · rw [List.mem_singleton.mp h]
                  omega
              · rintro H7 ⟨out, hDo, hol, hop, hor, g7, T7⟩
                exact ⟨D, out, rfl, hDo, nodup_of_lt hop, fun x hx => by have := hor x hx; omega, by omega, g6.trans g7, T7⟩
            · rintro σ' H7 ⟨rc, row2, rfl, hrc, hnd2, hrr2, hrl2, g7, T7⟩
              -- ahead
              refine ⟨_, rfl, _, rfl, by omega, by omega, fun D hD => ?_⟩
              have nD := T7.free hD
              refine lc_range (lo := 0) (n := ((vs.length : Nat) : Int).toNat) (fun j H' => ∃ out : List Int, H' D = some (.lst (out.map V.int)) ∧ out.length ≤ j ∧ out.Pairwise (· < ·) ∧ (∀ x ∈ out, 0 ≤ x ∧ x < (j : Int)) ∧ Gr t H7 H' ∧ Tape H' t l)
                ⟨[], upd_same, Nat.le_refl _, .nil, fun _ h => (by cases h), Gr.new hD, T7.new hD⟩ ?_ ?_
              · rintro j H8 hj ⟨out, hDo, hol, hop, hor, g8, T8⟩
                refine ⟨rfl, _, rfl, t, l, 4, rfl, T8, by decide, by decide, fun x H9 _ _ g9 T9 => ⟨rfl, _, rfl, ?_⟩⟩
                have hD9 : H9 D = some (.lst (out.map V.int)) := g9 _ _ nD.1 hDo
                refine ite2 (fun _ => ?_) (fun _ => ⟨out, hD9, by omega, hop, fun x hx => by have := hor x hx; omega, g8.trans g9, T9⟩)
                refine ⟨_, rfl, _, hD9, by rw [List.length_map]; exact small_lt (by omega), ?_⟩
                refine ⟨out ++ [0 + (j : Int)], by rw [upd_same, map_snoc], by rw [List.length_append, List.length_singleton]; omega, asc_snoc hop fun x hx => by have := hor x hx; omega, fun x hx => ?_, gr_mut (g8.trans g9) hD, T9.mut nD⟩
                rcases List.mem_append.mp hx with h | h
                · have := hor x h
                  omega
                · rw [List.mem_singleton.mp h]
                  omega
              · rintro H8 ⟨out, hDo, hol, hop, hor, g8, T8⟩
                have g58 := g7.trans g8
                have hfa8 : H8 fa = some (.lst vs') := g58 _ _ nf.1 hfa5
                have hrc8 : H8 rc = some (.lst (row2.map V.int)) := g8 _ _ (T7.ne_ints' hrc) hrc
                have hrs8 := hrs5.gr g58 T5
                refine ⟨_, rfl, .inl ⟨rfl, _, SqL.of hfa8⟩, _, rfl, _, rfl, rc, D, _, _, rfl, rfl, hrc8, hDo, by rw [List.length_map, List.length_map]; exact small_le (by omega), fun ca hca => ?_⟩
                have ncf : fa ≠ ca := ne_of_none hfa8 hca
                refine ⟨ca, row2 ++ out, rfl, SqL.of (by rw [upd_same, List.map_append]), fun ns' p pms so hp => ⟨p, _, rfl, .inl ⟨SqL.of upd_same, fun q hq => ?_⟩⟩⟩
                have npf : fa ≠ p := ne_of_none (show (upd H8 ca (.lst (row2.map V.int ++ out.map V.int))) fa = some (.lst vs') by rw [upd_ne ncf]; exact hfa8) hp
                have nqf : fa ≠ q := ne_of_none (show (upd (upd H8 ca (.lst (row2.map V.int ++ out.map V.int))) p (.lst (ns'.map V.int))) fa = some (.lst vs') by rw [upd_ne npf, upd_ne ncf]; exact hfa8) hq
                have e9 : (upd (upd (upd H8 ca (.lst (row2.map V.int ++ out.map V.int))) p (.lst (ns'.map V.int))) q (.tup (ns'.map V.int))) fa = some (.lst vs') := by rw [upd_ne nqf, upd_ne npf, upd_ne ncf]; exact hfa8
                have g89 : Gr t H8 (upd (upd (upd H8 ca (.lst (row2.map V.int ++ out.map V.int))) p (.lst (ns'.map V.int))) q (.tup (ns'.map V.int))) := ((Gr.new hca).trans (Gr.new hp)).trans (Gr.new hq)
                have T9 := ((T8.new (o := .lst (row2.map V.int ++ out.map V.int)) hca).new (o := .lst (ns'.map V.int)) hp).new (o := .tup (ns'.map V.int)) hq
                refine ⟨fa, vs', .ref q, rfl, rfl, e9, small_lt (by rw [hrs5.len]; omega), ?_⟩
                have nd : (row2 ++ out).Nodup := by
                  show (row2 ++ out).Pairwise (· ≠ ·)
                  rw [List.pairwise_append]
                  exact ⟨hnd2, nodup_of_lt hop, fun a ha b hb q => by
                    have := hrr2 a ha
                    have := hor b hb
                    omega⟩
                refine ⟨vs' ++ [.ref q], rs' ++ [ns'], _, _, _, _, _, rfl, by rw [List.length_append, hl']; rfl, upd_same, ?_, ⟨fun r hr => ?_, fun r hr x hx => ?_⟩, gr_mut (g5.trans (g58.trans g89)) hf, T9.mut nf⟩
                · exact RowsT.snoc (SqT.of (by rw [upd_ne nqf.symm, upd_same])) ((hrs8.gr g89 T8).put e9)
                · rcases List.mem_append.mp hr with h | h
                  · exact hB5.asc r h
                  · rw [List.mem_singleton.mp h]
                    exact asc_of pms so nd
                · rcases List.mem_append.mp hr with h | h
                  · exact hB5.rng r h x hx
                  · rw [List.mem_singleton.mp h] at hx
                    rcases List.mem_append.mp (pms.mem_iff.mp hx) with h2 | h2
                    · have := hrr2 x h2
                      omega
                    · have := hor x h2
                      omega
        · rintro σ' H5 ⟨vs', rs', y6, y7, y8, y9, y10, rfl, hl', hfa5, hrs5, hB5, g5, T5⟩
          refine ⟨n.toNat - rs'.length, by omega, vs', rs', _, _, _, _, _, _, _, _, rfl, by omega, hfa5, hrs5, ⟨hB5.asc, fun r hr x hx => ?_⟩, g5, T5⟩
          have := hB5.rng r hr x hx
          omega
/-! ### rows -/
def spRows (K : PySem.W.Frag) : Sp := fun vs H Q _ => ∃ (t l : Addr) (n : Int), vs = [.ref t, .int n] ∧ Tape H t l ∧ 1 ≤ n ∧ n ≤ 12 ∧ ∀ (v : V) (rows : List (List Int)) (H' : Hp), Good rows → (rows.length : Int) ≤ n → Gr t H H' → Tape H' t l → RowsAt K H' v rows → Q v H'
theorem ok_rows (A : At K mg "_law_rows" s_law_rows ["tape", "most"]) (T : Tx mg) (G_law_pick : Dfn P w K mg base "_law_pick" ["tape", "size"] 1 spPick) (G_law_moved : Dfn P w K mg base "_law_moved" ["tape", "rows"] 3 (spMoved K)) (G_law_blocks : Dfn P w K mg base "_law_blocks" ["tape", "most"] 2 (spBlocks K)) (G_law_loose : Dfn P w K mg base "_law_loose" ["tape", "many"] 3 (spLoose K)) : Dfn P w K mg base "_law_rows" ["tape", "most"] 4 (spRows K) := by
  refine A.ok sc_law_rows (fun vs H Q E h => ?_) (fun f cdv A outer s H vs Q E hr h => ?_)
  · obtain ⟨t, l, n, rfl, _⟩ := h
    rfl
  · obtain ⟨t, l, n, rfl, hT, hn, hn2, k⟩ := h
    refine ⟨_, (pss_cons (ps_set (i := 2) sc_law_rows.nd rfl (Or.inl rfl) (pe_d G_law_pick (hr.mono (by decide)) (pa_cons (pv 0) (pa_cons pe_int pa_nil))))
      (pss_cons (ps_if (pt_cmpR op_eq (pv 2) pe_int (nomark _)) (pss_one (ps_ret (pe_d G_law_moved (hr.mono (by decide)) (pa_cons (pv 0) (pa_cons (pe_d G_law_blocks (hr.mono (by decide)) (pa_cons (pv 0) (pa_cons (pv 1) pa_nil))) pa_nil))))) pss_nil)
      (pss_one (ps_ret (pe_d G_law_loose (hr.mono (by decide)) (pa_cons (pv 0) (pa_cons (pe_op op_add pe_int (pe_d G_law_pick (hr.mono (by decide)) (pa_cons (pv 0) (pa_cons (pv 1) pa_nil)))) pa_nil))))))), ?_⟩
    refine ⟨_, rfl, t, l, 3, rfl, hT, by decide, by decide, fun kd H1 _ _ g1 T1 => ?_⟩
    refine ⟨_, rfl, rfl, _, rfl, ?_⟩
    refine ite2 (fun _ => ?_) (fun _ => ?_)
    · refine ⟨_, rfl, _, rfl, _, rfl, t, l, n, rfl, T1, hn, hn2, fun v rows H2 G hl g2 T2 R2 => ?_⟩
      refine ⟨t, l, v, rows, rfl, T2, G, by omega, R2, fun v' rows' H3 G' hl' g3 T3 R3 => ?_⟩
      exact k v' rows' H3 G' (by omega) ((g1.trans g2).trans g3) T3 R3
    · refine ⟨_, rfl, _, rfl, _, rfl, t, l, n, rfl, T1, by omega, by omega, fun x H2 x0 x1 g2 T2 => ⟨_, _, rfl, rfl, ?_⟩⟩
      refine ⟨t, l, 1 + x, rfl, T2, by omega, by omega, fun v rows H3 G hl g3 T3 R3 => ?_⟩
      exact k v rows H3 G (by omega) ((g1.trans g2).trans g3) T3 R3
end
end Fo

set_option maxRecDepth 100000
set_option maxHeartbeats 4000000
namespace Fo
open PySem PySem.Spec PyProof.Rows L2
abbrev s_is_integer : Stmt := top 4
abbrev n_is_integer : List Str := ["thing"]
theorem sc_is_integer : FnScope n_is_integer ["thing"] (defScope s_is_integer) := ⟨rfl, rfl, rfl, by decide +kernel, rfl, by decide +kernel, by decide +kernel⟩
abbrev s_is_number : Stmt := top 5
abbrev n_is_number : List Str := ["bound", "thing"]
theorem sc_is_number : FnScope n_is_number ["bound", "thing"] (defScope s_is_number) := ⟨rfl, rfl, rfl, by decide +kernel, rfl, by decide +kernel, by decide +kernel⟩
abbrev s_is_numbers : Stmt := top 6
abbrev n_is_numbers : List Str := ["bound", "thing", "one"]
theorem sc_is_numbers : FnScope n_is_numbers ["bound", "thing"] (defScope s_is_numbers) := ⟨rfl, rfl, rfl, by decide +kernel, rfl, by decide +kernel, by decide +kernel⟩
abbrev s_is_ascending : Stmt := top 7
abbrev n_is_ascending : List Str := ["bound", "thing", "low", "high"]
theorem sc_is_ascending : FnScope n_is_ascending ["bound", "thing"] (defScope s_is_ascending) := ⟨rfl, rfl, rfl, by decide +kernel, rfl, by decide +kernel, by decide +kernel⟩
abbrev s_check_rows : Stmt := top 11
abbrev n_check_rows : List Str := ["rows", "person", "row"]
theorem sc_check_rows : FnScope n_check_rows ["rows"] (defScope s_check_rows) := ⟨rfl, rfl, rfl, by decide +kernel, rfl, by decide +kernel, by decide +kernel⟩
abbrev s_Table___init : Stmt := inClass (top 10) 0
abbrev n_Table___init : List Str := ["self", "rows"]
theorem sc_Table___init : FnScope n_Table___init ["self", "rows"] (defScope s_Table___init) := ⟨rfl, rfl, rfl, by decide +kernel, rfl, by decide +kernel, by decide +kernel⟩
abbrev s_Table___eq : Stmt := inClass (top 10) 1
abbrev n_Table___eq : List Str := ["self", "other"]
theorem sc_Table___eq : FnScope n_Table___eq ["self", "other"] (defScope s_Table___eq) := ⟨rfl, rfl, rfl, by decide +kernel, rfl, by decide +kernel, by decide +kernel⟩
section
variable {P : Program} {w : World} {K : PySem.W.Frag} {mg : Str → Option Value} {base : Heap} {C : Addr}
def spInteger (K : PySem.W.Frag) (C : Addr) : Sp := fun vs H Q _ => ∃ x, vs = [x] ∧ Th K C H x ∧ Q (.bl (isIntV x)) H
theorem ok_is_integer (A : At K mg "is_integer" s_is_integer ["thing"]) (T : Tx mg) (tc : TC K C) : Dfn P w K mg base "is_integer" ["thing"] 1 (spInteger K C) := by
  refine A.ok sc_is_integer (fun vs H Q E h => ?_) (fun f cdv A outer s H vs Q E hr h => ?_)
  · obtain ⟨x, rfl, _⟩ := h
    rfl
  · obtain ⟨x, rfl, hx, k⟩ := h
    obtain ⟨t, b1, b2, ty, h1, h2, h3⟩ := th_kit tc hx
    refine ⟨_, (pss_one (ps_ret (pe_and (pe_callB call_isi (by rfl) T.isinstance (by decide +kernel) (pa_cons (pv 0) (pa_cons (pe_bltn (v := V.ty "int") (by rfl) T.int (by decide +kernel) rfl) pa_nil))) (pe_one (pe_not (pe_callB call_isi (by rfl) T.isinstance (by decide +kernel) (pa_cons (pv 0) (pa_cons (pe_bltn (v := V.ty "bool") (by rfl) T.bool (by decide +kernel) rfl) pa_nil)))))))), ?_⟩
    refine ⟨_, rfl, x, .ty "int", t, .type "int", b1, rfl, .ty "int", ty, h1, b1, rfl, ?_⟩
    cases b1 with
    | true =>
      refine ⟨_, rfl, x, .ty "bool", t, .type "bool", b2, rfl, .ty "bool", ty, h2, b2, rfl, ?_⟩
      rw [Bool.true_and] at h3
      rw [h3]
      exact k
    | false =>
      rw [Bool.false_and] at h3
      rw [← h3] at k
      exact k
def spNumber (K : PySem.W.Frag) (C : Addr) : Sp := fun vs H Q _ => ∃ (b : Int) (x : V), vs = [.int b, x] ∧ Th K C H x ∧ Q (.bl (numV b x)) H
theorem ok_is_number (A : At K mg "is_number" s_is_number ["bound", "thing"]) (T : Tx mg) (G_is_integer : Dfn P w K mg base "is_integer" ["thing"] 1 (spInteger K C)) : Dfn P w K mg base "is_number" ["bound", "thing"] 2 (spNumber K C) := by
  refine A.ok sc_is_number (fun vs H Q E h => ?_) (fun f cdv A outer s H vs Q E hr h => ?_)
  · obtain ⟨b, x, rfl, _⟩ := h
    rfl
  · obtain ⟨b, x, rfl, hx, k⟩ := h
    refine ⟨_, (pss_one (ps_ret (pe_and (pe_d G_is_integer (hr.mono (by decide)) (pa_cons (pv 1) pa_nil)) (pe_one (pe_chain op_le op_lt pe_int (pv 1) (pv 0)))))), ?_⟩
    refine ⟨_, rfl, x, rfl, hx, _, rfl, ?_⟩
    cases x with
    | int i =>
      have k : Q (.bl (decide (0 ≤ i) && decide (i < b))) H := k
      refine ⟨_, rfl, 0, i, rfl, rfl, _, rfl, ?_⟩
      refine ite2 (fun h1 => ?_) (fun h1 => ?_)
      · rw [h1, Bool.true_and] at k
        exact ⟨_, rfl, i, b, rfl, rfl, k⟩
      · rw [show decide (0 ≤ i) = false from Bool.eq_false_iff.mpr h1, Bool.false_and] at k
        exact k
    | _ => exact k
def numbersOf (b : Int) : Option (List V) → Bool
  | some xs => xs.all (numV b)
  | none => false
def spNumbers (K : PySem.W.Frag) (C : Addr) : Sp := fun vs H Q _ => ∃ (b : Int) (x : V) (o : Option (List V)), vs = [.int b, x] ∧ Tg K C H x o ∧ ∀ H', Same H H' → Q (.bl (numbersOf b o)) H'
theorem ok_is_numbers (A : At K mg "is_numbers" s_is_numbers ["bound", "thing"]) (T : Tx mg) (G_is_number : Dfn P w K mg base "is_number" ["bound", "thing"] 2 (spNumber K C)) : Dfn P w K mg base "is_numbers" ["bound", "thing"] 3 (spNumbers K C) := by
  refine A.ok sc_is_numbers (fun vs H Q E h => ?_) (fun f cdv A outer s H vs Q E hr h => ?_)
  · obtain ⟨b, x, o, rfl, _⟩ := h
    rfl
  · obtain ⟨b, x, o, rfl, hx, k⟩ := h
    refine ⟨_, (pss_one (ps_ret (pe_and (pe_callB call_isi (by rfl) T.isinstance (by decide +kernel) (pa_cons (pv 1) (pa_cons (pe_bltn (v := V.ty "tuple") (by rfl) T.tuple (by decide +kernel) rfl) pa_nil))) (pe_one (pe_callB (cr_all rfl) (by rfl) T.all (by decide +kernel) (pa_cons (pe_lc (own := [("one", 2)]) (g := (gName 2)) (tt := tYes) (te := (tCall (spNumber K C) [] E0 (tCons (tVar 0) (tCons (tVar 2) tNil)))) (by rfl) sc_is_numbers.nd (pi_tup (pv 1)) (blkOk_by (own := [("one", 2)]) (N := n_is_numbers) (sc := (defScope s_is_numbers)) (by decide +kernel)) (fun _ _ _ _ _ => (pg_name (i := 2) sc_is_numbers.nd rfl (Or.inl rfl))) (fun _ _ _ _ _ => pts_nil) (fun _ _ _ _ _ => (pe_d G_is_number (hr.mono (by decide)) (pa_cons (pv 0) (pa_cons (pv 2) pa_nil))))) pa_nil)))))), ?_⟩
    cases hx with
    | no ty hk => exact ⟨_, rfl, x, .ty "tuple", _, .type "tuple", false, rfl, .ty "tuple", ty, hk, false, rfl, k H (Same.refl H)⟩
    | @tup a xs hq hi hz =>
      refine ⟨_, rfl, .ref a, .ty "tuple", _, .type "tuple", true, rfl, .ty "tuple", tyX_sqT hq, kit_ty (by decide +kernel), true, rfl, ?_⟩
      refine ⟨_, rfl, a, rfl, ⟨xs, hq⟩, fun D hD => lc_tup (xs := xs) (fun i H' => H' D = some (.lst ((xs.take i).map fun x => V.bl (numV b x))) ∧ Same H H') ⟨by rw [upd_same]; rfl, same_new hD⟩ (fun i H' _ p => sqT_same p.2 hq) (fun i y H' hy p => ?_) (fun H' p => ?_)⟩
      · refine ⟨rfl, _, rfl, _, rfl, b, y, rfl, (hi y (List.mem_of_getElem? hy)).same p.2, _, p.1, by rw [List.length_map]; exact small_lt (Nat.le_trans (List.length_take_le _ _) (by have := (List.getElem?_eq_some_iff.mp hy).1; omega)), ?_, same_mut p.2 hD⟩
        rw [upd_same, List.take_add_one, hy, List.map_append]
        rfl
      · obtain ⟨p1, p2⟩ := p
        rw [List.take_length] at p1
        refine ⟨D, xs.map (numV b), rfl, SqL.of (by rw [p1, List.map_map]; rfl), ?_⟩
        have e : (xs.map (numV b)).all id = numbersOf b (some xs) := by
          show _ = xs.all (numV b)
          rw [List.all_map]
          rfl
        rw [e]
        exact k H' p2
def ascOf (b : Int) : Option (List V) → Bool
  | some xs => ascV b xs
  | none => false
def spAsc (K : PySem.W.Frag) (C : Addr) : Sp := fun vs H Q _ => ∃ (b : Int) (x : V) (o : Option (List V)), vs = [.int b, x] ∧ Tg K C H x o ∧ ∀ H', Same H H' → Q (.bl (ascOf b o)) H'
theorem asc_lc {a p D : Addr} {ns : List Int} {H2 : Hp} {b : Int} {Qd : Hp → Prop} (hD : H2 D = none) (hx : SqT K H2 a (ns.map V.int)) (hy : SqT K H2 p ((ns.map V.int).drop 1)) (hz : ns.length ≤ 100000)
    (hd : ∀ H', Same H2 H' → H' D = some (.lst (((ns.map V.int).zip ((ns.map V.int).drop 1)).map fun q => V.bl (ltV q.1 q.2))) → Qd H') :
    ∃ W : Nat → Nat → Hp → Prop, (∃ m, W 0 m (upd H2 D (.lst []))) ∧ ∀ i m H, W i m H →
      ((RZ.ItzT K a p).stop i H ∧ Qd H) ∨ ((RZ.ItzT K a p).go i H ∧ ∃ Nx : Hp → Prop, (∀ H', Nx H' → ∃ m', m' < m ∧ W (i + 1) m' H') ∧ ∀ x H', (RZ.ItzT K a p).yld i H x H' → (gTup K 2 (gCons (gName 2) (gCons (gName 3) gNil))) x (wipe [some (.int b), some (.ref a), none, none] [2, 3]) H' fun σ2 H2 => wipe σ2 [2, 3] = wipe [some (.int b), some (.ref a), none, none] [2, 3] ∧ tYes σ2 H2 fun c H3 =>
        if c = true then (tOp (rI0 fun i j => V.bl (decide (i < j))) (tVar 2) (tVar 3)) σ2 H3 fun y H4 => ∃ acc, H4 D = some (.lst acc) ∧ acc.length < sizeLine ∧ Nx (upd H4 D (.lst (acc ++ [y]))) else Nx H3) := by
  refine lc_zipT (xs := ns.map V.int) (ys := (ns.map V.int).drop 1) (by rw [List.length_drop]; omega) (fun i H' => H' D = some (.lst ((((ns.map V.int).zip ((ns.map V.int).drop 1)).take i).map fun q => V.bl (ltV q.1 q.2))) ∧ Same H2 H') ⟨by rw [upd_same]; rfl, same_new hD⟩ (fun i H' _ q => ⟨sqT_same q.2 hx, sqT_same q.2 hy⟩) ?_ ?_
  · rintro i x y H3 T hxi hyi ⟨q1, q2⟩ hT
    have hDT : D ≠ T := ne_of_none q1 hT
    obtain ⟨u, rfl⟩ : ∃ u, x = V.int u := by
      rw [List.getElem?_map] at hxi
      cases e : ns[i]? with
      | none => rw [e] at hxi; cases hxi
      | some u => rw [e] at hxi; exact ⟨u, (Option.some.inj hxi).symm⟩
    obtain ⟨v, rfl⟩ : ∃ v, y = V.int v := by
      rw [List.getElem?_drop, List.getElem?_map] at hyi
      cases e : ns[1 + i]? with
      | none => rw [e] at hyi; cases hyi
      | some v => rw [e] at hyi; exact ⟨v, (Option.some.inj hyi).symm⟩
    have hzip : ((ns.map V.int).zip ((ns.map V.int).drop 1))[i]? = some (V.int u, V.int v) := List.getElem?_zip_eq_some.mpr ⟨hxi, hyi⟩
    refine ⟨T, [.int u, .int v], rfl, SqT.of upd_same, rfl, .int u, [.int v], rfl, .int v, [], rfl, rfl, rfl, _, rfl, _, rfl, u, v, rfl, rfl, _, by rw [upd_ne hDT]; exact q1, by rw [List.length_map]; exact small_lt (Nat.le_trans (List.length_take_le _ _) (by have := (List.getElem?_eq_some_iff.mp hxi).1; rw [List.length_map] at this; omega)), ?_, same_mut (q2.trans (same_new hT)) hD⟩
    rw [upd_same, List.take_add_one, hzip, List.map_append]
    rfl
  · rintro H3 ⟨q1, q2⟩
    refine hd H3 q2 ?_
    rw [q1, List.take_of_length_le]
    rw [List.length_zip]
    exact Nat.min_le_right _ _
theorem ok_is_ascending (A : At K mg "is_ascending" s_is_ascending ["bound", "thing"]) (T : Tx mg) (G_is_numbers : Dfn P w K mg base "is_numbers" ["bound", "thing"] 3 (spNumbers K C)) : Dfn P w K mg base "is_ascending" ["bound", "thing"] 4 (spAsc K C) := by
  refine A.ok sc_is_ascending (fun vs H Q E h => ?_) (fun f cdv A outer s H vs Q E hr h => ?_)
  · obtain ⟨b, x, o, rfl, _⟩ := h
    rfl
  · obtain ⟨b, x, o, rfl, hx, k⟩ := h
    refine ⟨_, (pss_one (ps_ret (pe_and (pe_d G_is_numbers (hr.mono (by decide)) (pa_cons (pv 0) (pa_cons (pv 1) pa_nil))) (pe_one (pe_callB (cr_all rfl) (by rfl) T.all (by decide +kernel) (pa_cons (pe_lc (own := [("low", 2), ("high", 3)]) (g := (gTup K 2 (gCons (gName 2) (gCons (gName 3) gNil)))) (tt := tYes) (te := (tOp (rI0 fun i j => V.bl (decide (i < j))) (tVar 2) (tVar 3))) (by rfl) sc_is_ascending.nd (RZ.pi_zipA (by rfl) T.zip (pa_cons (pv 1) (pa_cons (pe_slice sl_tupA (pv 1) (po_some pe_int) po_none) pa_nil))) (blkOk_by (own := [("low", 2), ("high", 3)]) (N := n_is_ascending) (sc := (defScope s_is_ascending)) (by decide +kernel)) (fun _ _ _ _ _ => (pg_tup rfl (pgs_cons (pg_name (i := 2) sc_is_ascending.nd rfl (Or.inl rfl)) (pgs_cons (pg_name (i := 3) sc_is_ascending.nd rfl (Or.inl rfl)) pgs_nil)))) (fun _ _ _ _ _ => pts_nil) (fun _ _ _ _ _ => (pe_cmpR op_lt (pv 2) (pv 3) (nomark _)))) pa_nil)))))), ?_⟩
    refine ⟨_, rfl, _, rfl, b, x, o, rfl, hx, fun H1 s1 => ⟨_, rfl, ?_⟩⟩
    cases hx with
    | no ty hk => exact k H1 s1
    | @tup a xs hq hi hz =>
      have kk : ∀ H', Same H H' → Q (.bl (ascV b xs)) H' := k
      show if xs.all (numV b) = true then _ else _
      cases hn : xs.all (numV b) with
      | false =>
        have e : ascV b xs = false := by rw [ascV_eq, hn]; rfl
        rw [e] at kk
        exact kk H1 s1
      | true =>
        obtain ⟨ns, rfl, hb⟩ := all_num_ints hn
        have hq1 := sqT_same s1 hq
        have cut : cutV (ns.map V.int) (some 1) none = (ns.map V.int).drop 1 := by
          unfold cutV
          rw [show HT.sIx (ns.map V.int).length 0 (some 1) = min 1 (ns.map V.int).length from HT.sIx_nat _ 0 1, HT.sIx_none]
          cases ns with
          | nil => rfl
          | cons x r =>
            rw [show min 1 ((x :: r).map V.int).length = 1 by rw [List.map_cons, List.length_cons]; omega]
            show List.take (((x :: r).map V.int).length - 1) (r.map V.int) = r.map V.int
            rw [List.map_cons, List.length_cons, Nat.add_sub_cancel]
            exact List.take_length
        have kk2 : ∀ (D : Addr) (H' : Hp), Same H H' → H' D = some (.lst (((ns.map V.int).zip ((ns.map V.int).drop 1)).map fun q => V.bl (ltV q.1 q.2))) → ∃ (a : Addr) (bs : List Bool), [V.ref D] = [V.ref a] ∧ SqL K H' a (bs.map V.bl) ∧ Q (.bl (bs.all id)) H' := fun D H' s2 hD => by
          refine ⟨D, ((ns.map V.int).zip ((ns.map V.int).drop 1)).map fun q => ltV q.1 q.2, rfl, SqL.of (by rw [hD, List.map_map]; rfl), ?_⟩
          have e : ((((ns.map V.int).zip ((ns.map V.int).drop 1)).map fun q => ltV q.1 q.2).all id) = ascV b (ns.map V.int) := by
            rw [ascV_eq, hn, Bool.true_and, List.all_map]
            rfl
          rw [e]
          exact kk H' s2
        have nz : ns.length ≤ 100000 := by rw [List.length_map] at hz; exact hz
        refine ⟨_, rfl, _, rfl, 1, rfl, a, ns.map V.int, rfl, hq1, fun hw => ?_, fun hw p hp => ?_⟩
        · have e0 : ns = [] := by
            cases ns with
            | nil => rfl
            | cons x r =>
              have h1 := hw.1
              rw [show HT.sIx ((x :: r).map V.int).length 0 (some 1) = min 1 ((x :: r).map V.int).length from HT.sIx_nat _ 0 1, List.map_cons, List.length_cons] at h1
              omega
          have hy : SqT K H1 a ((ns.map V.int).drop 1) := by rw [e0] at hq1 ⊢; exact hq1
          exact ⟨a, a, _, _, rfl, .inr ⟨hq1, hy, fun D hD => asc_lc hD hq1 hy nz fun H' s2 q => kk2 D H' (s1.trans s2) q⟩⟩
        · rw [cut]
          have hx2 := sqT_same (same_new (o := .tup ((ns.map V.int).drop 1)) hp) hq1
          exact ⟨a, p, _, _, rfl, .inr ⟨hx2, SqT.of upd_same, fun D hD => asc_lc hD hx2 (SqT.of upd_same) nz fun H' s2 q => kk2 D H' ((s1.trans (same_new hp)).trans s2) q⟩⟩
/-! ### the class -/
def spCheck (K : PySem.W.Frag) : Sp := fun vs H Q _ => ∃ (v : V) (rows : List (List Int)), vs = [v] ∧ Good rows ∧ rows.length ≤ 12 ∧ RowsAt K H v rows ∧ ∀ H', Same H H' → Q .non H'
theorem ok_check (A : At K mg "_check_rows" s_check_rows ["rows"]) (T : Tx mg) {tk : Tok} (hMR : mg "MOST_ROWS" = some (.int 12 tk)) (G_is_ascending : Dfn P w K mg base "is_ascending" ["bound", "thing"] 4 (spAsc K C)) : Dfn P w K mg base "_check_rows" ["rows"] 5 (spCheck K) := by
  refine A.ok sc_check_rows (fun vs H Q E h => ?_) (fun f cdv A outer s H vs Q E hr h => ?_)
  · obtain ⟨v, rows, rfl, _⟩ := h
    rfl
  · obtain ⟨v, rows, rfl, hG, hl, ⟨a, vs, rfl, ha, hrs⟩, k⟩ := h
    have vl := hrs.len
    have hp := hG.pos
    refine ⟨_, (pss_cons (ps_if (PW.pt (pw_or (pt_not (pt_val (pe_callB call_isi (by rfl) T.isinstance (by decide +kernel) (pa_cons (pv 0) (pa_cons (pe_bltn (v := V.ty "tuple") (by rfl) T.tuple (by decide +kernel) rfl) pa_nil))))) (pw_or1 (pt_not (pt_chain op_le op_le pe_int (pe_callB c_len (by rfl) T.len (by decide +kernel) (pa_cons (pv 0) pa_nil)) (pe_glob (v := V.int 12) (by rfl) hMR ⟨_, rfl⟩)))))) (pss_one ps_never) pss_nil)
      (pss_one (ps_for PassesOwn.never rfl (pi_enumT (by rfl) T.enumerate (pa_cons (pv 0) pa_nil)) (pg_tup rfl (pgs_cons (pg_name (i := 1) sc_check_rows.nd rfl (Or.inl rfl)) (pgs_cons (pg_name (i := 2) sc_check_rows.nd rfl (Or.inl rfl)) pgs_nil)))
      (pss_one (ps_if (pt_not (pt_val (pe_d G_is_ascending (hr.mono (by decide)) (pa_cons (pe_callB c_len (by rfl) T.len (by decide +kernel) (pa_cons (pv 0) pa_nil)) (pa_cons (pv 2) pa_nil))))) (pss_one ps_never) pss_nil))))), ?_⟩
    refine ⟨_, rfl, .ref a, .ty "tuple", _, .type "tuple", true, rfl, .ty "tuple", tyX_sqT ha, kit_ty (by decide +kernel), true, rfl, ?_⟩
    refine ⟨_, rfl, a, vs, rfl, .inr ha, 1, _, rfl, rfl, _, rfl, ?_⟩
    have d1 : decide ((1 : Int) ≤ (vs.length : Nat)) = true := decide_eq_true (by omega)
    have d2 : decide (((vs.length : Nat) : Int) ≤ 12) = true := decide_eq_true (by omega)
    rw [d1]
    refine ⟨_, 12, rfl, rfl, ?_⟩
    refine ⟨_, rfl, ?_⟩
    rw [d2]
    refine ⟨_, rfl, a, vs, rfl, ha, for_enumT (xs := vs) (fun i σ' H' => ∃ x1 x2, σ' = [some (.ref a), x1, x2] ∧ Same H H') ⟨_, _, rfl, Same.refl H⟩ (fun i σ' H' _ ⟨_, _, _, s⟩ => sqT_same s ha) ?_ ?_⟩
    · rintro i x σ' H' T' hx ⟨x1, x2, rfl, s1⟩ hT
      obtain ⟨r, hr1, hr2⟩ : ∃ r, rows[i]? = some r ∧ ∃ q, x = .ref q ∧ SqT K H q (r.map V.int) := by
        have hi : i < rows.length := by rw [← vl]; exact (List.getElem?_eq_some_iff.mp hx).1
        obtain ⟨q, e, h⟩ := hrs.get (List.getElem?_eq_getElem hi)
        rw [hx] at e
        exact ⟨_, List.getElem?_eq_getElem hi, q, Option.some.inj e, h⟩
      obtain ⟨q, rfl, hq⟩ := hr2
      have s2 : Same H (upd H' T' (.tup [.int (i : Nat), .ref q])) := s1.trans (same_new hT)
      have hm := List.mem_of_getElem? hr1
      refine ⟨T', _, rfl, SqT.of upd_same, rfl, _, _, rfl, _, _, rfl, rfl, ?_⟩
      have rl := row_len (hG.asc _ hm) (hG.rng _ hm)
      refine ⟨_, rfl, a, vs, rfl, .inr (sqT_same s2 ha), _, rfl, _, _, _, rfl, Tg.ints (sqT_same s2 hq) (by omega), fun H3 s3 => ⟨_, rfl, ?_⟩⟩
      have e : ascOf ((vs.length : Nat) : Int) (some (r.map V.int)) = true := ascV_ints (hG.asc _ hm) fun x hx => by rw [vl]; exact hG.rng _ hm x hx
      rw [e]
      exact ⟨_, _, rfl, s2.trans s3⟩
    · rintro σ' H' ⟨x1, x2, rfl, s1⟩
      exact k H' s1
theorem ok_init {f : Addr} {fd : FuncData} (F : Fun K "__init__" "Table.__init__" s_Table___init f fd) (T : Tx mg) (tc : TC K C) (G_check_rows : Dfn P w K mg base "_check_rows" ["rows"] 5 (spCheck K)) : FnOk P w K mg base CX0 6 f fd ["self", "rows"] (spInit K C) := by
  refine F.ok sc_Table___init (fun vs H Q E h => ?_) (fun cdv A outer s H vs Q E hr h => ?_)
  · obtain ⟨p, dx, v, rows, rfl, _⟩ := h
    rfl
  · obtain ⟨p, dx, v, rows, rfl, hp, hG, hl, hR, k⟩ := h
    refine ⟨_, (pss_cons (ps_expr (pe_d G_check_rows (hr.mono (by decide)) (pa_cons (pv 1) pa_nil)))
      (pss_cons (ps_fld (pv 0) (pv 1) rfl)
      (pss_one (ps_fld (pv 0) (pe_callB c_len (by rfl) T.len (by decide +kernel) (pa_cons (pv 1) pa_nil)) rfl)))), ?_⟩
    refine ⟨_, rfl, v, rows, rfl, hG, hl, hR, fun H1 s1 => ?_⟩
    obtain ⟨a, vs, rfl, ha, hrs⟩ := hR.same s1
    have hp1 := s1 _ _ hp
    refine ⟨_, rfl, _, rfl, p, C, dx, [], rfl, hp1, tc.cl, tc.nR, by decide, ?_⟩
    have ha2 : SqT K (upd H1 p (.ins C dx (putF "rows" (.ref a) []))) a vs := sqT_ins ha hp1 fun b o n e => by rw [upd_ne n]; exact e
    refine ⟨_, rfl, a, vs, rfl, .inr ha2, _, rfl, p, C, dx, _, rfl, upd_same, tc.cl, tc.nS, by show 1 < 1000; decide, ?_⟩
    refine k _ (fun b o n e => ?_) ?_
    · rw [upd_ne n, upd_ne n]
      exact s1 _ _ e
    · rw [upd_same, hrs.len]
      rfl
theorem ok_eq {f : Addr} {fd : FuncData} (F : Fun K "__eq__" "Table.__eq__" s_Table___eq f fd) (T : Tx mg) (tc : TC K C) (hC : mg "Table" = some (.ref C)) : FnOk P w K mg base CX0 1 f fd ["self", "other"] (spEqT K C) := by
  refine F.ok sc_Table___eq (fun vs H Q E h => ?_) (fun cdv A outer s H vs Q E hr h => ?_)
  · obtain ⟨x, y, r1, r2, rfl, _⟩ := h
    rfl
  · obtain ⟨x, y, r1, r2, rfl, hx, hy, k⟩ := h
    refine ⟨_, (pss_one (ps_ret (pe_and (pe_callB call_isi (by rfl) T.isinstance (by decide +kernel) (pa_cons (pv 1) (pa_cons (pe_glob (v := V.ref C) (by rfl) hC rfl) pa_nil))) (pe_one (pe_cmpR (op_eqD hr.units) (pe_fld (pv 0) rfl) (pe_fld (pv 1) rfl) (nomark _)))))), ?_⟩
    have ty := hy.tyx tc
    obtain ⟨p, dx, v, rfl, hp, hR⟩ := hx
    obtain ⟨q, dy, u, rfl, hq, hS⟩ := hy
    refine ⟨_, rfl, _, .ref C, .ref C, .ref C, true, rfl, .own C, ty, by simp [PySem.W.kitOne], true, rfl, ?_⟩
    refine ⟨_, rfl, p, C, dx, _, v, rfl, hp, tc.cl, tc.nR, tf_rows _ _, _, rfl, q, C, dy, _, u, rfl, hq, tc.cl, tc.nR, tf_rows _ _, dR r1, dR r2, hR.dp, hS.dp, sh_R r1, sh_R r2, ?_⟩
    rw [eqv_R]
    exact k H (Same.refl H)
end
end Fo

set_option maxRecDepth 100000
set_option maxHeartbeats 4000000
namespace Fo
open PySem PySem.Spec PyProof.Rows L2
abbrev s_table_of : Stmt := top 12
abbrev n_table_of : List Str := ["rows", "table"]
theorem sc_table_of : FnScope n_table_of ["rows"] (defScope s_table_of) := ⟨rfl, rfl, rfl, by decide +kernel, rfl, by decide +kernel, by decide +kernel⟩
section
variable {P : Program} {w : World} {K : PySem.W.Frag} {mg : Str → Option Value} {base : Heap} {C : Addr}
def spTableOf (K : PySem.W.Frag) (C : Addr) : Sp := fun vs H Q _ => ∃ (v : V) (rows : List (List Int)), vs = [v] ∧ RowsAt K H v rows ∧ ∀ p H', Same H H' → H p = none → TableAt K C H' (.ref p) rows → Q (.ref p) H'
theorem good1 : Good [[]] := ⟨by decide, fun r h => by rw [List.mem_singleton.mp h]; exact .nil, fun r h x hx => by rw [List.mem_singleton.mp h] at hx; cases hx⟩
theorem ok_table_of (A : At K mg "table_of" s_table_of ["rows"]) (T : Tx mg) {m : Nat} {spE : Sp} (G_Table : MkT P w K mg base C 6 m (spInit K C) spE) : Dfn P w K mg base "table_of" ["rows"] 8 (spTableOf K C) := by
  have tc := G_Table.tc
  refine A.ok sc_table_of (fun vs H Q E h => ?_) (fun f cdv A outer s H vs Q E hr h => ?_)
  · obtain ⟨v, rows, rfl, _⟩ := h
    rfl
  · obtain ⟨v, rows, rfl, hR, k⟩ := h
    refine ⟨_, (pss_cons (ps_set (i := 1) sc_table_of.nd rfl (Or.inl rfl) (pe_makeTable G_Table (hr.mono (by decide)) (pe_tup (pa_cons (pe_tup pa_nil) pa_nil))))
      (pss_cons (ps_fld (pv 1) (pv 0) rfl)
      (pss_cons (ps_fld (pv 1) (pe_callB c_len (by rfl) T.len (by decide +kernel) (pa_cons (pv 0) pa_nil)) rfl)
      (pss_one (ps_ret (pv 1)))))), ?_⟩
    refine ⟨Nat.zero_le _, fun e he => ⟨by show 1 ≤ sizeLine; decide, fun o ho => ?_⟩⟩
    have neo : e ≠ o := ne_of_none upd_same ho
    have s1 : Same H (upd (upd H e (.tup [])) o (.tup [.ref e])) := (same_new he).trans (same_new ho)
    refine ⟨[[]], good1, by decide, ⟨o, [.ref e], rfl, SqT.of upd_same, .cons (r := []) (SqT.of (by rw [upd_ne neo, upd_same]; rfl)) .nil⟩, fun p dx H2 s2 hp0 hp => ?_⟩
    have s12 := s1.trans s2
    have hp00 : H p = none := s1.free hp0
    obtain ⟨a, vs, rfl, ha, hrs⟩ := hR.same s12
    refine ⟨_, rfl, _, rfl, p, C, dx, _, rfl, hp, tc.cl, tc.nR, by rw [tf_eq]; show 2 < 1000; decide, ?_⟩
    have ha2 : SqT K (upd H2 p (.ins C dx (putF "rows" (.ref a) (tf (.ref o) [([] : List Int)].length)))) a vs := sqT_ins ha hp fun b o n e => by rw [upd_ne n]; exact e
    refine ⟨_, rfl, a, vs, rfl, .inr ha2, _, rfl, p, C, dx, _, rfl, upd_same, tc.cl, tc.nS, ?_, ?_⟩
    · rw [tf_eq]
      show (putF "rows" (V.ref a) [("rows", V.ref o), ("size", V.int (([([] : List Int)].length : Nat) : Int))]).length < 1000
      have e1 : putF "rows" (V.ref a) [("rows", V.ref o), ("size", V.int (([([] : List Int)].length : Nat) : Int))] = ([("rows", V.ref a), ("size", V.int (([([] : List Int)].length : Nat) : Int))] : List (Str × V)) := by
        show (if ("rows" : Str) = "rows" then (("rows" : Str), V.ref a) :: [(("size" : Str), V.int (([([] : List Int)].length : Nat) : Int))] else _) = _
        rw [if_pos rfl]
      rw [e1]
      show 2 < 1000
      decide
    · have fin : (upd (upd H2 p (.ins C dx (putF "rows" (.ref a) (tf (.ref o) [([] : List Int)].length)))) p (.ins C dx (putF "size" (.int ((vs.length : Nat) : Int)) (putF "rows" (.ref a) (tf (.ref o) [([] : List Int)].length))))) = upd H2 p (.ins C dx (tf (.ref a) rows.length)) := by
        rw [upd_upd, tf_put, hrs.len]
      refine ⟨_, rfl, ?_⟩
      show Q (.ref p) (upd (upd H2 p (.ins C dx (putF "rows" (.ref a) (tf (.ref o) [([] : List Int)].length)))) p (.ins C dx (putF "size" (.int ((vs.length : Nat) : Int)) (putF "rows" (.ref a) (tf (.ref o) [([] : List Int)].length)))))
      rw [fin]
      refine k p _ (same_mut s12 hp00) hp00 ⟨p, dx, .ref a, rfl, upd_same, RowsAt.ins ⟨a, vs, rfl, ha, hrs⟩ hp fun b o n e => ?_⟩
      rw [upd_ne n]
      exact e
end
end Fo

set_option maxRecDepth 100000
set_option maxHeartbeats 4000000
namespace Fo
open PySem PySem.Spec PyProof.Rows L2
abbrev s_ties : Stmt := top 13
abbrev n_ties : List Str := ["table", "person", "row", "thing"]
theorem sc_ties : FnScope n_ties ["table"] (defScope s_ties) := ⟨rfl, rfl, rfl, by decide +kernel, rfl, by decide +kernel, by decide +kernel⟩
/-! ### ties as rows -/
def tieFrom : Int → List (List Int) → List (List Int)
  | _, [] => []
  | k, r :: rs => (r.map fun x => [k, x]) ++ tieFrom (k + 1) rs
abbrev tieRows (rows : List (List Int)) : List (List Int) := tieFrom 0 rows
theorem tieFrom_append : ∀ (k : Int) (a b : List (List Int)), tieFrom k (a ++ b) = tieFrom k a ++ tieFrom (k + a.length) b
  | k, [], b => by
    show tieFrom k b = tieFrom (k + ((0 : Nat) : Int)) b
    rw [show k + ((0 : Nat) : Int) = k by omega]
  | k, r :: rs, b => by
    show (r.map fun x => [k, x]) ++ tieFrom (k + 1) (rs ++ b) = ((r.map fun x => [k, x]) ++ tieFrom (k + 1) rs) ++ tieFrom (k + ((rs.length + 1 : Nat) : Int)) b
    rw [tieFrom_append (k + 1) rs b, List.append_assoc, show k + 1 + (rs.length : Int) = k + ((rs.length + 1 : Nat) : Int) by omega]
theorem tie_take {rows : List (List Int)} {i : Nat} {r : List Int} (h : rows[i]? = some r) : tieRows (rows.take (i + 1)) = tieRows (rows.take i) ++ r.map fun x => [(i : Int), x] := by
  have hi : i < rows.length := (List.getElem?_eq_some_iff.mp h).1
  rw [List.take_add_one, h]
  show tieFrom 0 (rows.take i ++ [r]) = _
  rw [tieFrom_append, List.length_take, show min i rows.length = i by omega]
  show _ ++ ((r.map fun x => [0 + (i : Int), x]) ++ []) = _
  rw [List.append_nil, Int.zero_add]
theorem tie_len {b : Nat} : ∀ (k : Int) (rows : List (List Int)), (∀ r ∈ rows, r.length ≤ b) → (tieFrom k rows).length ≤ rows.length * b
  | _, [], _ => Nat.zero_le _
  | k, r :: rs, h => by
    show ((r.map fun x => [k, x]) ++ tieFrom (k + 1) rs).length ≤ (rs.length + 1) * b
    rw [List.length_append, List.length_map, Nat.add_mul, Nat.one_mul]
    have h1 := h r List.mem_cons_self
    have h2 := tie_len (k + 1) rs fun q hq => h q (List.mem_cons_of_mem _ hq)
    omega
section
variable {P : Program} {w : World} {K : PySem.W.Frag} {mg : Str → Option Value} {base : Heap} {C : Addr}
def spTies (K : PySem.W.Frag) (C : Addr) : Sp := fun vs H Q _ => ∃ (x : V) (rows : List (List Int)), vs = [x] ∧ TableAt K C H x rows ∧ rows.length ≤ 100 ∧ (∀ r ∈ rows, r.length ≤ 100) ∧ ∀ p vs H', Same H H' → H p = none → H' p = some (.lst vs) → RowsT K H' vs (tieRows rows) → Q (.ref p) H'
theorem ok_ties (A : At K mg "ties" s_ties ["table"]) (T : Tx mg) (tc : TC K C) : Dfn P w K mg base "ties" ["table"] 1 (spTies K C) := by
  refine A.ok sc_ties (fun vs H Q E h => ?_) (fun f cdv A outer s H vs Q E hr h => ?_)
  · obtain ⟨x, rows, rfl, _⟩ := h
    rfl
  · obtain ⟨x, rows, rfl, ⟨p, dx, v, rfl, hp, ⟨a, vs, rfl, ha, hrs⟩⟩, hl, hrl, k⟩ := h
    refine ⟨_, (pss_one (ps_ret (pe_lc2 (own := [("person", 1), ("row", 2), ("thing", 3)]) (vs1 := [3]) (g := (gTup K 2 (gCons (gName 1) (gCons (gName 2) gNil)))) (tt := tYes) (wi1 := (iTup K (tVar 2))) (g1 := (gName 3)) (tt1 := tYes) (te := (tTup (tCons (tVar 1) (tCons (tVar 3) tNil)))) (by rfl) sc_ties.nd (pi_enumT (by rfl) T.enumerate (pa_cons (pe_fld (pv 0) rfl) pa_nil)) (blkOk_by (own := [("person", 1), ("row", 2), ("thing", 3)]) (N := n_ties) (sc := (defScope s_ties)) (by decide +kernel)) (by decide) (fun _ _ _ _ _ => (pg_tup rfl (pgs_cons (pg_name (i := 1) sc_ties.nd rfl (Or.inl rfl)) (pgs_cons (pg_name (i := 2) sc_ties.nd rfl (Or.inl rfl)) pgs_nil)))) (fun _ _ _ _ _ => pts_nil) (fun _ _ _ _ _ => (pi_tup (pv 2))) (fun _ _ _ _ _ => (pg_name (i := 3) sc_ties.nd rfl (Or.inl rfl))) (fun _ _ _ _ _ => pts_nil) (fun _ _ _ _ _ => (pe_tup (pa_cons (pv 1) (pa_cons (pv 3) pa_nil))))))), ?_⟩
    refine ⟨_, rfl, p, C, dx, _, .ref a, rfl, hp, tc.cl, tc.nR, tf_rows _ _, a, vs, rfl, ha, fun D hD => ?_⟩
    have bnd : ∀ i, (tieRows (rows.take i)).length ≤ 10000 := fun i => by
      have h1 := tie_len (b := 100) 0 (rows.take i) fun r hr => hrl r (List.mem_of_mem_take hr)
      have h2 : (rows.take i).length ≤ 100 := Nat.le_trans (List.length_take_le' _ _) hl
      have h3 : (rows.take i).length * 100 ≤ 100 * 100 := Nat.mul_le_mul_right 100 h2
      show (tieFrom 0 (rows.take i)).length ≤ 10000
      omega
    refine ⟨fun i m H' => m = vs.length - i ∧ i ≤ vs.length ∧ ∃ ws, H' D = some (.lst ws) ∧ RowsT K H' ws (tieRows (rows.take i)) ∧ Same H H', ⟨vs.length, by simp, Nat.zero_le _, [], upd_same, .nil, same_new hD⟩, ?_⟩
    rintro i m H1 ⟨rfl, hi, ws, hDw, hws, s1⟩
    by_cases hlt : i < vs.length
    · have hir : i < rows.length := by rw [← hrs.len]; exact hlt
      have hri := List.getElem?_eq_getElem hir
      obtain ⟨q, hq1, hq2⟩ := hrs.get hri
      have hvi : vs[i] = .ref q := by
        rw [List.getElem?_eq_getElem hlt] at hq1
        exact Option.some.inj hq1
      generalize rows[i] = r at hri hq2
      have hrm := List.mem_of_getElem? hri
      refine .inr ⟨⟨vs, vs[i], sqT_same s1 ha, by simp [hlt]⟩, fun H' => ∃ ws, H' D = some (.lst ws) ∧ RowsT K H' ws (tieRows (rows.take (i + 1))) ∧ Same H H', fun H' h => ⟨vs.length - (i + 1), by omega, rfl, hlt, h⟩, fun y H' hy => ?_⟩
      obtain ⟨T', x', rfl, nT, rfl, hx'⟩ := hy
      have ex : x' = .ref q := by
        have := hx' vs (sqT_same s1 ha)
        rw [hq1] at this
        exact (Option.some.inj this).symm
      subst ex
      have hDT : D ≠ T' := ne_of_none hDw nT
      have s2 : Same H (upd H1 T' (.tup [.int (i : Nat), .ref q])) := s1.trans (same_new nT)
      refine ⟨T', _, rfl, SqT.of upd_same, rfl, _, _, rfl, _, _, rfl, rfl, rfl, ?_⟩
      -- the inner loop
      refine ⟨_, rfl, q, rfl, ⟨_, sqT_same s2 hq2⟩, ?_⟩
      refine ⟨fun j m H' => m = r.length - j ∧ j ≤ r.length ∧ ∃ ws, H' D = some (.lst ws) ∧ RowsT K H' ws (tieRows (rows.take i) ++ (r.take j).map fun x => [(i : Int), x]) ∧ Same H H', ⟨r.length, by simp, Nat.zero_le _, ws, by rw [upd_ne hDT]; exact hDw, by
        rw [List.take_zero, List.map_nil, List.append_nil]
        exact hws.same (same_new nT), s2⟩, ?_⟩
      rintro j m H2 ⟨rfl, hj, ws2, hDw2, hws2, s3⟩
      by_cases hjl : j < r.length
      · have hrj := List.getElem?_eq_getElem hjl
        refine .inr ⟨⟨r.map V.int, .int r[j], sqT_same s3 hq2, by rw [List.getElem?_map, hrj]; rfl⟩, fun H' => ∃ ws, H' D = some (.lst ws) ∧ RowsT K H' ws (tieRows (rows.take i) ++ (r.take (j + 1)).map fun x => [(i : Int), x]) ∧ Same H H', fun H' h => ⟨r.length - (j + 1), by omega, rfl, hjl, h⟩, fun y H' hy => ?_⟩
        obtain ⟨rfl, hy⟩ := hy
        have ey : y = .int r[j] := by
          have := hy _ (sqT_same s3 hq2)
          rw [List.getElem?_map, hrj] at this
          exact (Option.some.inj this).symm
        subst ey
        refine ⟨rfl, _, rfl, _, rfl, by show 2 ≤ sizeLine; decide, fun z hz => ?_⟩
        have hDz : D ≠ z := ne_of_none hDw2 hz
        have ln : ws2.length ≤ 100000 := by
          rw [hws2.len, List.length_append, List.length_map]
          have h1 := bnd i
          have h2 := hrl r hrm
          have h3 : (r.take j).length ≤ r.length := List.length_take_le' _ _
          omega
        refine ⟨ws2, by rw [upd_ne hDz]; exact hDw2, small_lt ln, ws2 ++ [.ref z], upd_same, ?_, same_mut (s3.trans (same_new hz)) hD⟩
        have e : (r.take (j + 1)).map (fun x => [(i : Int), x]) = (r.take j).map (fun x => [(i : Int), x]) ++ [[(i : Int), r[j]]] := by
          rw [List.take_add_one, hrj, List.map_append]
          rfl
        rw [e, ← List.append_assoc]
        exact RowsT.snoc (r := [(i : Int), r[j]]) (SqT.of (by rw [upd_ne hDz.symm, upd_same]; rfl)) ((hws2.same (same_new hz)).put (by rw [upd_ne hDz]; exact hDw2))
      · have e : j = r.length := by omega
        subst e
        refine .inl ⟨⟨_, sqT_same s3 hq2, by rw [List.length_map]; exact Nat.le_refl _⟩, ws2, hDw2, ?_, s3⟩
        rw [List.take_length] at hws2
        rw [tie_take hri]
        exact hws2
    · have e : i = vs.length := by omega
      subst e
      refine .inl ⟨⟨vs, sqT_same s1 ha, Nat.le_refl _⟩, ?_⟩
      rw [hrs.len, List.take_length] at hws
      exact k D ws H1 s1 hD hDw hws
/-! ### the checks -/
end
end Fo

set_option maxRecDepth 100000
set_option maxHeartbeats 4000000
namespace Fo
open PySem PySem.Spec PyProof.Rows L2
section
variable {P : Program} {w : World} {K : PySem.W.Frag} {mg : Str → Option Value} {base : Heap} {C : Addr}
theorem catA {a b : Addr} {xs ys : List V} {H : Hp} {Q : VK} (ha : SqT K H a xs) (hb : SqT K H b ys) (hz : xs.length + ys.length ≤ 100000) (k : ∀ p H', Same H H' → SqT K H' p (xs ++ ys) → Q (.ref p) H') : rCatA K (.ref a) (.ref b) H Q := by
  refine ⟨a, b, xs, ys, rfl, rfl, ha, hb, small_le hz, fun h => ?_, fun _ h => ?_, fun _ _ p hp => k p _ (same_new hp) (SqT.of upd_same)⟩
  · subst h
    exact k b H (Same.refl H) hb
  · subst h
    exact k a H (Same.refl H) (by rw [List.append_nil]; exact ha)
theorem slA {a : Addr} {xs : List V} {lo hi : Option Int} {H : Hp} {Q : VK} (ha : SqT K H a xs) (k : ∀ p H', Same H H' → SqT K H' p (cutV xs lo hi) → Q (.ref p) H') : rSlA K (.ref a) lo hi H Q := by
  refine ⟨a, xs, rfl, ha, fun hw => k a H (Same.refl H) ?_, fun _ p hp => k p _ (same_new hp) (SqT.of upd_same)⟩
  have e : cutV xs lo hi = xs := by
    unfold cutV
    rw [hw.1, hw.2]
    simp
  rw [e]
  exact ha
theorem cut_to {xs : List V} {n : Nat} (h : n ≤ xs.length) : cutV xs none (some (n : Int)) = xs.take n := by
  unfold cutV
  rw [HT.sIx_none, HT.sIx_nat, show min n xs.length = n by omega]
  rfl
theorem cut_from {xs : List V} {n : Nat} (h : n ≤ xs.length) : cutV xs (some (n : Int)) none = xs.drop n := by
  unfold cutV
  rw [HT.sIx_none, HT.sIx_nat, show min n xs.length = n by omega]
  rw [List.take_of_length_le]
  rw [List.length_drop]
  omega
theorem RowsT.app {H : Hp} : ∀ {vs ws : List V} {rs ss : List (List Int)}, RowsT K H vs rs → RowsT K H ws ss → RowsT K H (vs ++ ws) (rs ++ ss)
  | _, _, _, _, .nil, s => s
  | _, _, _, _, .cons h r, s => .cons h (r.app s)
theorem RowsT.takeN {H : Hp} : ∀ {vs : List V} {rs : List (List Int)} (n : Nat), RowsT K H vs rs → RowsT K H (vs.take n) (rs.take n)
  | _, _, 0, _ => .nil
  | _, _, _ + 1, .nil => .nil
  | _, _, n + 1, .cons h r => .cons h (r.takeN n)
theorem RowsT.dropN {H : Hp} : ∀ {vs : List V} {rs : List (List Int)} (n : Nat), RowsT K H vs rs → RowsT K H (vs.drop n) (rs.drop n)
  | _, _, 0, r => r
  | _, _, _ + 1, .nil => .nil
  | _, _, n + 1, .cons _ r => r.dropN n
theorem set_eq {α : Type} : ∀ (l : List α) (n : Nat) (x : α), n < l.length → l.set n x = l.take n ++ [x] ++ l.drop (n + 1)
  | _ :: _, 0, _, _ => rfl
  | y :: l, n + 1, x, h => by
    show y :: l.set n x = y :: (l.take n ++ [x] ++ l.drop (n + 1))
    rw [set_eq l n x (by simpa using h)]
end
theorem ext_by {α : Type} (f : α → Int) : ∀ {l1 l2 : List α}, l1.Pairwise (fun a b => f a < f b) → l2.Pairwise (fun a b => f a < f b) → (∀ x, x ∈ l1 ↔ x ∈ l2) → l1 = l2
  | [], [], _, _, _ => rfl
  | [], y :: r, _, _, h => absurd ((h y).mpr List.mem_cons_self) (by simp)
  | x :: r, [], _, _, h => absurd ((h x).mp List.mem_cons_self) (by simp)
  | x :: r, y :: q, h1, h2, h => by
    have p1 := List.pairwise_cons.mp h1
    have p2 := List.pairwise_cons.mp h2
    have e : x = y := by
      rcases List.mem_cons.mp ((h x).mp List.mem_cons_self) with e | m
      · exact e
      · rcases List.mem_cons.mp ((h y).mpr List.mem_cons_self) with e | m2
        · exact e.symm
        · have a := p2.1 x m
          have b := p1.1 y m2
          omega
    subst e
    have t : r = q := ext_by f p1.2 p2.2 fun z => by
      constructor
      · intro hz
        rcases List.mem_cons.mp ((h z).mp (List.mem_cons_of_mem _ hz)) with e | m
        · have := p1.1 z hz
          rw [e] at this
          omega
        · exact m
      · intro hz
        rcases List.mem_cons.mp ((h z).mpr (List.mem_cons_of_mem _ hz)) with e | m
        · have := p2.1 z hz
          rw [e] at this
          omega
        · exact m
    rw [t]
theorem asc_ext {l1 l2 : List Int} (h1 : l1.Pairwise (· < ·)) (h2 : l2.Pairwise (· < ·)) (h : ∀ x, x ∈ l1 ↔ x ∈ l2) : l1 = l2 := ext_by id h1 h2 h
theorem good_set {rows : List (List Int)} {i : Nat} {r' : List Int} (G : Good rows) (h1 : r'.Pairwise (· < ·)) (h2 : ∀ x ∈ r', 0 ≤ x ∧ x < (rows.length : Int)) : Good (rows.set i r') := by
  refine ⟨by rw [List.length_set]; exact G.pos, fun r hr => ?_, fun r hr x hx => ?_⟩
  · rcases List.mem_or_eq_of_mem_set hr with h | h
    · exact G.asc r h
    · rw [h]; exact h1
  · rw [List.length_set]
    rcases List.mem_or_eq_of_mem_set hr with h | h
    · exact G.rng r h x hx
    · rw [h] at hx; exact h2 x hx
theorem set_same {rows : List (List Int)} {i : Nat} {r : List Int} (h : rows[i]? = some r) : rows.set i r = rows := by
  apply List.ext_getElem?
  intro j
  rw [List.getElem?_set]
  by_cases e : i = j
  · subst e
    rw [if_pos rfl, if_pos (List.getElem?_eq_some_iff.mp h).1, h]
  · rw [if_neg e]
theorem set_get {rows : List (List Int)} {i : Nat} {r' : List Int} (h : i < rows.length) : (rows.set i r')[i]? = some r' := by
  rw [List.getElem?_set, if_pos rfl, if_pos h]
theorem set_set' {rows : List (List Int)} {i : Nat} {r' r2 : List Int} : (rows.set i r').set i r2 = rows.set i r2 := by rw [List.set_set]
section
variable {K : PySem.W.Frag} {H : Hp}
theorem RowsT.keys : ∀ {vs : List V} {rs : List (List Int)}, RowsT K H vs rs → ∃ ks : List (Addr × List Int), vs = ks.map (fun p => V.ref p.1) ∧ rs = ks.map (·.2) ∧ ∀ p ∈ ks, SqT K H p.1 (p.2.map V.int)
  | _, _, .nil => ⟨[], rfl, rfl, fun _ h => (by cases h)⟩
  | _, _, .cons (a := a) (r := r) h t => by
    obtain ⟨ks, e1, e2, h3⟩ := t.keys
    refine ⟨(a, r) :: ks, by rw [e1]; rfl, by rw [e2]; rfl, fun p hp => ?_⟩
    rcases List.mem_cons.mp hp with q | q
    · rw [q]; exact h
    · exact h3 p q
theorem rows_keys : ∀ {ks : List (Addr × List Int)}, (∀ p ∈ ks, SqT K H p.1 (p.2.map V.int)) → RowsT K H (ks.map fun p => V.ref p.1) (ks.map (·.2))
  | [], _ => .nil
  | p :: ks, h => .cons (h p List.mem_cons_self) (rows_keys fun q hq => h q (List.mem_cons_of_mem _ hq))
end
theorem dp_LU {K : PySem.W.Frag} {H : Hp} {z : Addr} {vs : List V} {rs : List (List Int)} (r : RowsT K (upd H z (.lst vs)) vs rs) : Dp K (upd H z (.lst vs)) (.ref z) (.list (rs.map dI)) := dp_L upd_same r
end Fo

set_option maxRecDepth 100000
set_option maxHeartbeats 4000000
namespace Fo
open PySem PySem.Spec PyProof.Rows L2
abbrev s_takers : Stmt := top 14
abbrev n_takers : List Str := ["table", "thing", "person", "row"]
theorem sc_takers : FnScope n_takers ["table", "thing"] (defScope s_takers) := ⟨rfl, rfl, rfl, by decide +kernel, rfl, by decide +kernel, by decide +kernel⟩
abbrev s_turned : Stmt := top 15
abbrev n_turned : List Str := ["table", "thing"]
theorem sc_turned : FnScope n_turned ["table"] (defScope s_turned) := ⟨rfl, rfl, rfl, by decide +kernel, rfl, by decide +kernel, by decide +kernel⟩
/-! ### who may get a thing -/
def takersFrom (y : Int) : Int → List (List Int) → List Int
  | _, [] => []
  | k, r :: rs => (if y ∈ r then [k] else []) ++ takersFrom y (k + 1) rs
theorem takers_append (y : Int) : ∀ (k : Int) (a b : List (List Int)), takersFrom y k (a ++ b) = takersFrom y k a ++ takersFrom y (k + a.length) b
  | k, [], b => by
    show takersFrom y k b = takersFrom y (k + ((0 : Nat) : Int)) b
    rw [show k + ((0 : Nat) : Int) = k by omega]
  | k, r :: rs, b => by
    show _ ++ takersFrom y (k + 1) (rs ++ b) = (_ ++ takersFrom y (k + 1) rs) ++ takersFrom y (k + ((rs.length + 1 : Nat) : Int)) b
    rw [takers_append y (k + 1) rs b, List.append_assoc, show k + 1 + (rs.length : Int) = k + ((rs.length + 1 : Nat) : Int) by omega]
theorem takers_take {y : Int} {rows : List (List Int)} {i : Nat} {r : List Int} (h : rows[i]? = some r) : takersFrom y 0 (rows.take (i + 1)) = takersFrom y 0 (rows.take i) ++ if y ∈ r then [(i : Int)] else [] := by
  have hi : i < rows.length := (List.getElem?_eq_some_iff.mp h).1
  rw [List.take_add_one, h]
  show takersFrom y 0 (rows.take i ++ [r]) = _
  rw [takers_append, List.length_take, show min i rows.length = i by omega]
  show _ ++ ((if y ∈ r then [0 + (i : Int)] else []) ++ []) = _
  rw [List.append_nil, Int.zero_add]
theorem takers_mem (y : Int) : ∀ (k : Int) (rows : List (List Int)) (x : Int), x ∈ takersFrom y k rows ↔ ∃ (i : Nat) (r : List Int), rows[i]? = some r ∧ y ∈ r ∧ x = k + i
  | k, [], x => by
    constructor
    · intro h
      cases h
    · rintro ⟨i, r, h, _⟩
      simp at h
  | k, r :: rs, x => by
    show x ∈ (if y ∈ r then [k] else []) ++ takersFrom y (k + 1) rs ↔ _
    rw [List.mem_append, takers_mem y (k + 1) rs x]
    constructor
    · rintro (h | ⟨i, q, h1, h2, h3⟩)
      · by_cases c : y ∈ r
        · rw [if_pos c] at h
          exact ⟨0, r, rfl, c, by rw [List.mem_singleton.mp h]; omega⟩
        · rw [if_neg c] at h
          cases h
      · exact ⟨i + 1, q, h1, h2, by rw [h3]; omega⟩
    · rintro ⟨i, q, h1, h2, h3⟩
      cases i with
      | zero =>
        have e : r = q := Option.some.inj h1
        subst e
        refine .inl ?_
        rw [if_pos h2, h3]
        exact List.mem_singleton.mpr (by omega)
      | succ i => exact .inr ⟨i, q, h1, h2, by rw [h3]; omega⟩
theorem takers_asc (y : Int) : ∀ (k : Int) (rows : List (List Int)), (takersFrom y k rows).Pairwise (· < ·)
  | _, [] => .nil
  | k, r :: rs => by
    show ((if y ∈ r then [k] else []) ++ takersFrom y (k + 1) rs).Pairwise _
    rw [List.pairwise_append]
    refine ⟨by split <;> simp, takers_asc y (k + 1) rs, fun a ha b hb => ?_⟩
    obtain ⟨i, q, _, _, e⟩ := (takers_mem y _ _ _).mp hb
    have ea : a = k := by
      by_cases c : y ∈ r
      · rw [if_pos c] at ha; exact List.mem_singleton.mp ha
      · rw [if_neg c] at ha; cases ha
    omega
theorem takers_len (y : Int) : ∀ (k : Int) (rows : List (List Int)), (takersFrom y k rows).length ≤ rows.length
  | _, [] => Nat.le_refl _
  | k, r :: rs => by
    show ((if y ∈ r then [k] else []) ++ takersFrom y (k + 1) rs).length ≤ rs.length + 1
    have := takers_len y (k + 1) rs
    rw [List.length_append]
    split <;> simp <;> omega
/-- the table turned -/
def turnRows (rows : List (List Int)) : List (List Int) := (List.range rows.length).map fun (j : Nat) => takersFrom (j : Int) 0 rows
theorem turn_len (rows : List (List Int)) : (turnRows rows).length = rows.length := by unfold turnRows; rw [List.length_map, List.length_range]
theorem turn_get {rows : List (List Int)} {j : Nat} (h : j < rows.length) : (turnRows rows)[j]? = some (takersFrom (j : Int) 0 rows) := by
  unfold turnRows
  rw [List.getElem?_map, List.getElem?_range h]
  rfl
theorem turn_good {rows : List (List Int)} (G : Good rows) : Good (turnRows rows) := by
  refine ⟨by rw [turn_len]; exact G.pos, fun r hr => ?_, fun r hr x hx => ?_⟩
  · obtain ⟨j, _, rfl⟩ := List.mem_map.mp hr
    exact takers_asc _ _ _
  · obtain ⟨j, _, rfl⟩ := List.mem_map.mp hr
    obtain ⟨i, q, h1, _, e⟩ := (takers_mem _ _ _ _).mp hx
    have := (List.getElem?_eq_some_iff.mp h1).1
    rw [turn_len]
    omega
theorem turn_turn {rows : List (List Int)} (G : Good rows) : turnRows (turnRows rows) = rows := by
  apply List.ext_getElem?
  intro i
  by_cases hi : i < rows.length
  · rw [turn_get (by rw [turn_len]; exact hi), List.getElem?_eq_getElem hi]
    congr 1
    have hm := List.getElem_mem hi
    refine asc_ext (takers_asc _ _ _) (G.asc _ hm) fun x => ?_
    rw [takers_mem]
    constructor
    · rintro ⟨j, r, h1, h2, h3⟩
      have hj : j < rows.length := by have := (List.getElem?_eq_some_iff.mp h1).1; rw [turn_len] at this; exact this
      rw [turn_get hj] at h1
      have e := Option.some.inj h1
      subst e
      obtain ⟨i', q, g1, g2, g3⟩ := (takers_mem _ _ _ _).mp h2
      have ei : i = i' := by omega
      subst ei
      rw [List.getElem?_eq_getElem hi] at g1
      have eq : rows[i] = q := Option.some.inj g1
      rw [eq, h3]
      rw [show (0 : Int) + (j : Int) = (j : Int) by omega]
      exact g2
    · intro hx
      have hr := G.rng _ hm x hx
      refine ⟨x.toNat, _, turn_get (by omega), (takers_mem _ _ _ _).mpr ⟨i, rows[i], List.getElem?_eq_getElem hi, ?_, by omega⟩, by omega⟩
      rw [show ((x.toNat : Nat) : Int) = x by omega]
      exact hx
  · rw [List.getElem?_eq_none (by rw [turn_len, turn_len]; omega), List.getElem?_eq_none (by omega)]
section
variable {P : Program} {w : World} {K : PySem.W.Frag} {mg : Str → Option Value} {base : Heap} {C : Addr}
def spTakers (K : PySem.W.Frag) (C : Addr) : Sp := fun vs H Q _ => ∃ (x : V) (rows : List (List Int)) (y : Int), vs = [x, .int y] ∧ TableAt K C H x rows ∧ rows.length ≤ 100 ∧ ∀ p H', Same H H' → H p = none → SqT K H' p ((takersFrom y 0 rows).map V.int) → Q (.ref p) H'
theorem ok_takers (A : At K mg "takers" s_takers ["table", "thing"]) (T : Tx mg) (tc : TC K C) : Dfn P w K mg base "takers" ["table", "thing"] 1 (spTakers K C) := by
  refine A.ok sc_takers (fun vs H Q E h => ?_) (fun f cdv A outer s H vs Q E hr h => ?_)
  · obtain ⟨x, rows, y, rfl, _⟩ := h
    rfl
  · obtain ⟨x, rows, y, rfl, ⟨p, dx, v, rfl, hp, ⟨a, vs, rfl, ha, hrs⟩⟩, hl, k⟩ := h
    have vl := hrs.len
    refine ⟨_, (pss_one (ps_ret (pe_callTy c_tuple (by rfl) T.tuple (by decide +kernel) (pa_cons (pe_lc (own := [("person", 2), ("row", 3)]) (g := (gTup K 2 (gCons (gName 2) (gCons (gName 3) gNil)))) (tt := (tTest (tOp (rIn K false) (tVar 1) (tVar 3)))) (te := (tVar 2)) (by rfl) sc_takers.nd (pi_enumT (by rfl) T.enumerate (pa_cons (pe_fld (pv 0) rfl) pa_nil)) (blkOk_by (own := [("person", 2), ("row", 3)]) (N := n_takers) (sc := (defScope s_takers)) (by decide +kernel)) (fun _ _ _ _ _ => (pg_tup rfl (pgs_cons (pg_name (i := 2) sc_takers.nd rfl (Or.inl rfl)) (pgs_cons (pg_name (i := 3) sc_takers.nd rfl (Or.inl rfl)) pgs_nil)))) (fun _ _ _ _ _ => (pts_one (pt_cmpR op_in_seq (pv 1) (pv 3) rfl))) (fun _ _ _ _ _ => (pv 2))) pa_nil)))), ?_⟩
    refine ⟨_, rfl, p, C, dx, _, .ref a, rfl, hp, tc.cl, tc.nR, tf_rows _ _, a, vs, rfl, ha, fun D hD => ?_⟩
    refine lc_enumT (xs := vs) (fun i H' => H' D = some (.lst ((takersFrom y 0 (rows.take i)).map V.int)) ∧ Same H H') ⟨upd_same, same_new hD⟩ (fun i H' _ h => sqT_same h.2 ha) ?_ ?_
    · rintro i u H1 z hu ⟨h1, s1⟩ hz
      have hir : i < rows.length := by have := (List.getElem?_eq_some_iff.mp hu).1; omega
      have hri := List.getElem?_eq_getElem hir
      obtain ⟨q, hq1, hq2⟩ := hrs.get hri
      rw [hu] at hq1
      have eu : u = .ref q := Option.some.inj hq1
      subst eu
      have hDz : D ≠ z := ne_of_none h1 hz
      have s2 := s1.trans (same_new (o := .tup [.int (i : Nat), .ref q]) hz)
      refine ⟨z, _, rfl, SqT.of upd_same, rfl, _, _, rfl, _, _, rfl, rfl, rfl, ?_⟩
      refine ⟨_, rfl, _, rfl, q, _, rfl, .inr (sqT_same s2 hq2), rfl, all_flat_ints _, _, rfl, ?_⟩
      show if (inV (V.int y) (rows[i].map V.int)) = true then _ else _
      rw [inV_ints]
      have hD1 : (upd H1 z (.tup [.int (i : Nat), .ref q])) D = some (.lst ((takersFrom y 0 (rows.take i)).map V.int)) := by rw [upd_ne hDz]; exact h1
      refine ite2 (fun hc => ?_) (fun hc => ?_)
      · refine ⟨_, rfl, _, hD1, ?_, ?_, same_mut s2 hD⟩
        · rw [List.length_map]
          have h2 := takers_len y 0 (rows.take i)
          have h3 : (rows.take i).length ≤ 100 := Nat.le_trans (List.length_take_le' _ _) hl
          exact small_lt (by omega)
        · rw [upd_same, takers_take hri, if_pos (of_decide_eq_true hc), ← map_snoc]
      · refine ⟨?_, s2⟩
        rw [hD1, takers_take hri, if_neg (fun h => hc (decide_eq_true h)), List.append_nil]
    · rintro H1 ⟨h1, s1⟩
      rw [vl, List.take_length] at h1
      exact ⟨D, _, rfl, .inl ⟨SqL.of h1, fun z hz => k z _ (s1.trans (same_new hz)) (s1.free hz) (SqT.of upd_same)⟩⟩
def spTurned (K : PySem.W.Frag) (C : Addr) : Sp := fun vs H Q _ => ∃ (x : V) (rows : List (List Int)), vs = [x] ∧ TableAt K C H x rows ∧ rows.length ≤ 100 ∧ ∀ p H', Same H H' → H p = none → TableAt K C H' (.ref p) (turnRows rows) → Q (.ref p) H'
theorem ok_turned (A : At K mg "turned" s_turned ["table"]) (T : Tx mg) (tc : TC K C) (G_takers : Dfn P w K mg base "takers" ["table", "thing"] 1 (spTakers K C)) (G_table_of : Dfn P w K mg base "table_of" ["rows"] 8 (spTableOf K C)) : Dfn P w K mg base "turned" ["table"] 9 (spTurned K C) := by
  refine A.ok sc_turned (fun vs H Q E h => ?_) (fun f cdv A outer s H vs Q E hr h => ?_)
  · obtain ⟨x, rows, rfl, _⟩ := h
    rfl
  · obtain ⟨x, rows, rfl, ht, hl, k⟩ := h
    obtain ⟨p, dx, v, rfl, hp, hR⟩ := id ht
    refine ⟨_, (pss_one (ps_ret (pe_d G_table_of (hr.mono (by decide)) (pa_cons (pe_callTy c_tuple (by rfl) T.tuple (by decide +kernel) (pa_cons (pe_lc (own := [("thing", 1)]) (g := (gName 1)) (tt := tYes) (te := (tCall _ [] E0 (tCons (tVar 0) (tCons (tVar 1) tNil)))) (by rfl) sc_turned.nd (pi_range1 rfl T.range (pa_cons (pe_fld (pv 0) rfl) pa_nil)) (blkOk_by (own := [("thing", 1)]) (N := n_turned) (sc := (defScope s_turned)) (by decide +kernel)) (fun _ _ _ _ _ => (pg_name (i := 1) sc_turned.nd rfl (Or.inl rfl))) (fun _ _ _ _ _ => pts_nil) (fun _ _ _ _ _ => (pe_d G_takers (hr.mono (by decide)) (pa_cons (pv 0) (pa_cons (pv 1) pa_nil))))) pa_nil)) pa_nil)))), ?_⟩
    refine ⟨_, rfl, p, C, dx, _, _, rfl, hp, tc.cl, tc.nS, tf_size _ _, _, rfl, by omega, by omega, fun D hD => ?_⟩
    refine lc_range (lo := 0) (n := ((rows.length : Nat) : Int).toNat) (fun j H' => ∃ ws, H' D = some (.lst ws) ∧ RowsT K H' ws ((turnRows rows).take j) ∧ Same H H') ⟨[], upd_same, .nil, same_new hD⟩ ?_ ?_
    · rintro j H1 hj ⟨ws, h1, hw, s1⟩
      have hjr : j < rows.length := by omega
      refine ⟨rfl, _, rfl, _, rfl, .ref p, rows, 0 + (j : Int), rfl, ht.same s1, hl, fun z H2 s2 hz hq => ?_⟩
      have h2 : H2 D = some (.lst ws) := s2 _ _ h1
      refine ⟨ws, h2, small_lt (by rw [hw.len, List.length_take, turn_len]; omega), ws ++ [.ref z], upd_same, ?_, same_mut (s1.trans s2) hD⟩
      rw [List.take_add_one, turn_get hjr]
      rw [show (0 : Int) + (j : Int) = (j : Int) by omega] at hq
      have hDz : D ≠ z := ne_of_none h1 hz
      exact RowsT.snoc (r := takersFrom (j : Int) 0 rows) (sqT_put hq h2) ((hw.same s2).put h2)
    · rintro H1 ⟨ws, h1, hw, s1⟩
      rw [show ((rows.length : Nat) : Int).toNat = (turnRows rows).length by rw [turn_len]; omega, List.take_length] at hw
      refine ⟨D, _, rfl, .inl ⟨SqL.of h1, fun z hz => ?_⟩⟩
      refine ⟨.ref z, turnRows rows, rfl, ⟨z, _, rfl, SqT.of upd_same, hw.same (same_new hz)⟩, fun q H2 s2 hq ht' => ?_⟩
      have s3 := s1.trans (same_new (o := .tup ws) hz)
      exact k q H2 (s3.trans s2) (s3.free hq) ht'
end
end Fo

set_option maxRecDepth 100000
set_option maxHeartbeats 2000000
namespace Fo
open PySem PySem.Spec PyProof.Rows L2
/-! ### defs that are run where no built-in loop waits: repr of lists and tuples -/
structure FnG (P : Program) (w : World) (K : PySem.W.Frag) (mg : Str → Option Value) (base : Heap) (k : Nat) (f : Addr) (fd : FuncData) (ps : List Str) (sp : Sp) : Prop where
  len : ∀ (vs : List V) (H : Hp) (Q : VK) (E : XK), sp vs H Q E → vs.length = ps.length
  run : ∀ (A : Around) (outer : List Env) (s : Shared) (H : Hp) (args : Args) (us : List Value) (vs : List V) (Q : VK) (E : XK), Room k A → A.guards = some [] → Env0 P w K mg base A outer s H →
    BindsTo s fd args (ps.zip us) → Vals vs us → sp vs H Q E → codeAny (model P w) A (Code.call (.ref f) args) (CR CX0 outer P w H s Q E) s
section
variable {P : Program} {w : World} {K : PySem.W.Frag} {mg : Str → Option Value} {base : Heap}
theorem fun_okG {x qual : Str} {st : Stmt} {f : Addr} {fd : FuncData} {N ps : List Str} {k : Nat} {sp : Sp} (F : Fun K x qual st f fd) (S : FnScope N ps (defScope st)) (len : ∀ vs H Q E, sp vs H Q E → vs.length = ps.length)
    (hbody : ∀ (cdv : Value) (A : Around) (outer : List Env) (s : Shared) (H : Hp) (vs : List V) (Q : VK) (E : XK), Room k (A.deeper (envOfC qual (defScope st) s.heap.objs.size f cdv)) → A.guards = some [] → sp vs H Q E →
      ∃ t, PSs (cxOf CX0 P w K mg base N qual (defScope st) f cdv A outer s H E).nox (defBody st) t ∧ t { nx := fun _ H' => Q .non H', rt := Q } (start N vs) H) : FnG P w K mg base (k + 1) f fd ps sp := by
  obtain ⟨oc, od, kV, doc, pm, an, cdv, ct, osl, rfl, lk, hcd⟩ := F.ex
  refine ⟨len, fun A outer s H args us vs Q E hr hg e0 hb r hsp => ?_⟩
  have hl := len vs H Q E hsp
  have KX : K.In s.heap := e0.mod.kin.keeps fun b o e => (e0.bs b o e).1
  have lim : s.heap.NoLimit := e0.mod.nolimit.keeps fun b o e => (e0.bs b o e).1
  refine codeAny_call_function hr.depth (KX f _ lk) rfl S.co S.gen rfl (PySem.W.codeRec_of KX hcd) ?_
  refine hb (model P w) A.in1 _ _ ?_
  refine wpAny_newFunctionEnv_cells S.kind (fun z hz => ?_) fun env he s1 hx => ?_
  · obtain ⟨n, v⟩ := z
    rcases S.par n (List.of_mem_zip hz).1 with q | q
    · exact .inl q
    · exact .inr ⟨q, PySem.W.cellsFrom_some _ _ _ (.inl q)⟩
  · subst he
    refine ⟨lim.keeps hx.toInCall.keep, codeAny_func ?_⟩
    obtain ⟨t, ht, hq⟩ := hbody cdv A outer s H vs Q E (hr.deeper _) hg hsp
    have I := inv_start (CX := CX0) (P := P) (w := w) (K := K) (mg := mg) (base := base) (E := E) S hr.hd e0 hl r hx
    refine wpAny_mono ((PSs.nox ht).run [] s1 (start N vs) H { nx := fun _ H' => Q .non H', rt := Q } I hq) (fun fl s' hs => ?_) fun e s' hs => hs
    cases fl with
    | next =>
      obtain ⟨σ', H', J, q⟩ := hs
      exact ⟨.non, H', J.os, J.bare, J.base, J.hok, rfl, q⟩
    | brk =>
      obtain ⟨σ', H', J, q⟩ := hs
      exact False.elim q
    | cont =>
      obtain ⟨σ', H', J, q⟩ := hs
      exact False.elim q
    | ret u =>
      obtain ⟨v, σ', H', J, rv, q⟩ := hs
      exact ⟨v, H', J.os, J.bare, J.base, J.hok, rv, q⟩
end
theorem law_callG {P : Program} {w : World} {K : PySem.W.Frag} {mg mb : Str → Option Value} {k : Nat} {fa a : Addr} {fd : FuncData} {x : Str} {sp : Sp} {s₁ : Shared} {vs : List Value} {ns : List Int} (KX : K.In s₁.heap) (hns : s₁.heap.Ns mainGlobals mg) (hb : s₁.heap.Ns builtinsNs mb)
    (hbb : ∀ x : Str, x ≠ Str.ofString "__name__" → mb x = bootBuiltins x) (hlim : s₁.heap.NoLimit) (hg : s₁.gens = #[]) (ha : s₁.heap.get? a = some { cls := .type "list", data := .seq vs.toArray }) (hi : IntsAre vs ns) (hl : ns.length ≤ sizeLine) (hr : Room k callerA)
    (F : ∀ base : Heap, K.In base → base.Ns mainGlobals mg → FnG P w K mg base k fa fd [x] sp) (hbind : ∀ (s : Shared) (u : Value), BindsTo s fd ⟨[u], []⟩ [(x, u)])
    (hsp : ∀ H : Hp, Only H → SqL K H a (ns.map V.int) → sp [.ref a] H (fun v _ => v = .bl true) fun _ _ _ => False) :
    codeAny (model P w) callerA (Code.call (.ref fa) ⟨[.ref a], []⟩) (fun r s' => r = .ok (.ret (.bool true)) ∧ OldK s₁.heap s'.heap ∧ s'.os = s₁.os ∧ AllBare s'.gens) s₁ := by
  have rv := vals_ints hi
  have core : ∀ H : Hp, Only H → SqL K H a (ns.map V.int) → HOk P w H s₁.heap → (∀ b, H b ≠ none → b = a) → (H a ≠ none → List.lookup a K = none) →
      codeAny (model P w) callerA (Code.call (.ref fa) ⟨[.ref a], []⟩) (fun r s' => r = .ok (.ret (.bool true)) ∧ OldK s₁.heap s'.heap ∧ s'.os = s₁.os ∧ AllBare s'.gens) s₁ := by
    intro H hO hS hok hA hK
    have noA : ∀ {b : Addr} {o : Obj} {es : Array DictEntry} {ep : Nat}, s₁.heap.get? b = some o → o.data = .dict es ep → H b = none := fun {b o es ep} e d => by
      cases q : H b with
      | none => rfl
      | some u =>
        have e' := hA b (by rw [q]; simp)
        subst e'
        rw [ha] at e
        cases e
        cases d
    have nsK : ∀ {b : Addr} {m : Str → Option Value}, s₁.heap.Ns b m → (hidT s₁.heap H).Ns b m := fun {b m} z => by
      obtain ⟨o, es, ep, e, d, r⟩ := z
      exact ⟨o, es, ep, hidT_get e (noA e d), d, r⟩
    have hKb : K.In (hidT s₁.heap H) := fun b o e => hidT_get (KX b o e) (by
      cases q : H b with
      | none => rfl
      | some u =>
        have e' := hA b (by rw [q]; simp)
        subst e'
        rw [hK (by rw [q]; simp)] at e
        cases e)
    have hM : L2.Mod K mg (hidT s₁.heap H) := { kin := hKb, glob := nsK hns, blt := ⟨mb, nsK hb, hbb⟩, nolimit := by obtain ⟨mc, h1, h2⟩ := hlim; exact ⟨mc, nsK h1, h2⟩ }
    have e0 : Env0 P w K mg (hidT s₁.heap H) callerA [] s₁ H := { frames := rfl, mod := hM, bs := fun b o e => of_hidT e, bsz := Nat.le_of_eq (hidT_size s₁.heap H), funs := trivial, frf := fun b hb => absurd hb (by intro z; cases z), hok := hok, bare := AllBare.of_eq hg }
    refine codeAny_mono ((F (hidT s₁.heap H) hKb (nsK hns)).run callerA [] s₁ H ⟨[.ref a], []⟩ [.ref a] [.ref a] (fun v _ => v = .bl true) (fun _ _ _ => False) hr rfl e0 (hbind s₁ (.ref a)) (.cons rfl .nil) (hsp H hO hS)) fun r s' h => ?_
    cases r with
    | error e => exact False.elim h
    | ok fl =>
      cases fl with
      | next => exact False.elim h
      | brk => exact False.elim h
      | cont => exact False.elim h
      | ret u =>
        obtain ⟨v, H', os, bare, un, hok', r', q⟩ := h
        subst q
        cases r'
        refine ⟨rfl, OldK.of_keep fun b o e => ?_, os, bare⟩
        cases q : H b with
        | none => exact un.keep b o e q (by intro z; cases z) (by intro z; cases z)
        | some u =>
          rcases hO b with z | ⟨ob, xs, z⟩
          · rw [z] at q; cases q
          · have z2 := un.frzs b ob _ z
            have e1 := (hok b _ z).1
            have e2 := (hok' b _ z2).1
            rw [e] at e1
            cases e1
            exact e2
  cases hk : List.lookup a K with
  | none =>
    refine core (fun b => if b = a then some (.frz { cls := .type "list", data := .seq vs.toArray } (.lst (ns.map V.int))) else none) (fun b => ?_) (.inl (.inr ⟨_, if_pos rfl⟩)) (fun b u z => ?_) (fun b z => ?_) fun _ => hk
    · by_cases e : b = a
      · exact .inr ⟨_, _, if_pos e⟩
      · exact .inl (if_neg e)
    · by_cases e : b = a
      · have z' := (if_pos e).symm.trans z
        cases z'
        subst e
        exact ⟨ha, by rw [List.length_map]; exact hl, vs, 0, rv, ha⟩
      · have z' := (if_neg e).symm.trans z
        cases z'
    · by_cases e : b = a
      · exact e
      · exact absurd (if_neg e) z
  | some o =>
    have e := KX a o hk
    rw [ha] at e
    cases e
    refine core (fun _ => none) (fun _ => .inl rfl) (.inr ⟨_, vs.toArray, 0, hk, rfl, rfl, rfl, ?_, rv⟩) (fun b u z => (by cases z)) (fun b z => absurd rfl z) fun z => absurd rfl z
    have := IntsAre.length hi
    rw [List.size_toArray, this]
    exact hl
theorem walk_ofG {l : PySem.W.OpenLaw} {n k : Nat} {q : Program} {loose : List Str} {XP : (Str → Option Value) → Heap → Prop} {YP : World → Heap → Prop} {d : DefRec} {K : Params → PySem.W.Frag} {sp : World → Sp} {x : Str} (hn : l.most = some n) (hn2 : n ≤ sizeLine) (hdf : d.params.defaults = []) (hr : Room k callerA)
    (hY : ∀ (w : World) (h : Heap), YP w h → (K w.params).In h)
    (F : ∀ (w : World) (mg : Str → Option Value) (fa : Addr) (h : Heap), (K w.params).In h → h.Ns mainGlobals mg → mg d.name = some (.ref fa) →
      ∃ fd : FuncData, (∀ (s : Shared) (u : Value), BindsTo s fd ⟨[u], []⟩ [(x, u)]) ∧ ∀ base : Heap, (K w.params).In base → base.Ns mainGlobals mg → FnG l.prog w (K w.params) mg base k fa fd [x] (sp w))
    (hsp : ∀ (w : World) (H : Hp) (a : Addr) (ns : List Int), ns.length ≤ n → Only H → SqL (K w.params) H a (ns.map V.int) → sp w [.ref a] H (fun v _ => v = .bl true) fun _ _ _ => False) :
    PySem.W.WalkO q loose XP YP l.row.toRowW d [] (fun f vs => PySem.call f vs) :=
  Att.attach_call hn hdf fun w s₀ s₁ mg mb fa o pm cd doc a vs ns G Y ho hd hcd hmg hobj hints hlen hg => by
    have KX := hY w s₁.heap Y
    obtain ⟨fd, hb, hF⟩ := F w mg fa s₁.heap KX G.T.g hmg
    exact law_callG KX G.T.g G.T.b G.T.builtins G.T.nolimit hg hobj hints (Nat.le_trans hlen hn2) hr hF hb fun H hO hS => hsp w H a ns hlen hO hS
end Fo

set_option maxRecDepth 100000
set_option maxHeartbeats 2000000
namespace Fo
open PySem PySem.Spec PyProof.Rows L2
theorem ns_one {h : Heap} {a : Addr} {m m' : Str → Option Value} (x : h.Ns a m) (y : h.Ns a m') : m = m' := by
  obtain ⟨o, es, ep, e, d, _, r⟩ := x
  obtain ⟨o', es', ep', e', d', _, r'⟩ := y
  rw [e] at e'
  cases e'
  rw [d] at d'
  cases d'
  funext n
  rw [← r n, ← r' n]
theorem get_lt {h : Heap} {b : Addr} {o : Obj} (e : h.get? b = some o) : b < h.objs.size := by
  by_cases c : b < h.objs.size
  · exact c
  · unfold Heap.get? at e
    rw [Array.getElem?_eq_none (Nat.le_of_not_lt c)] at e
    cases e
/-- all that stands in h, but what stands at L or was there at first -/
def allNews (base : Heap) (L : Addr) (h : Heap) : List (Addr × Obj) :=
  (List.range h.objs.size).filterMap fun b => if b ≠ L ∧ base.get? b = none then (h.get? b).map fun o => (b, o) else none
theorem mem_allNews {base : Heap} {L : Addr} {h : Heap} {b : Addr} {o : Obj} (e : h.get? b = some o) (n : b ≠ L) (z : base.get? b = none) : (b, o) ∈ allNews base L h :=
  List.mem_filterMap.mpr ⟨b, List.mem_range.mpr (get_lt e), by rw [if_pos ⟨n, z⟩, e]; rfl⟩
theorem news_all (base : Heap) (L : Addr) (h : Heap) : News base L h (allNews base L h) := by
  rintro ⟨b, o⟩ hp
  obtain ⟨c, _, q⟩ := List.mem_filterMap.mp hp
  by_cases e : c ≠ L ∧ base.get? c = none
  · rw [if_pos e] at q
    cases g : h.get? c with
    | none => rw [g] at q; cases q
    | some u =>
      rw [g] at q
      cases q
      exact ⟨g, e.1, e.2⟩
  · rw [if_neg e] at q
    cases q
/-- what stands is kept by all that keeps the frame and the news -/
theorem Inv.framed {X : Cx} {pins : List (Addr × Obj)} {σ : L2.St} {H : Hp} {s : Shared} {m : Str → Option Value} {h' : Heap} {tk : Nat} (I : L2.Inv X pins σ H s) (F : Fr X.base X.env.locals s.heap m) (F' : Fr X.base X.env.locals h' m) (N : News X.base X.env.locals h' (allNews X.base X.env.locals s.heap)) :
    L2.Inv X pins σ H { heap := h', gens := s.gens, drawn := s.drawn, toks := tk, os := s.os } := by
  have keep : ∀ b o, b ≠ X.env.locals → s.heap.get? b = some o → h'.get? b = some o := fun b o n e => by
    cases z : X.base.get? b with
    | none => exact (N _ (mem_allNews e n z)).1
    | some u =>
      have e1 := F.keep b u z
      rw [e] at e1
      cases e1
      exact F'.keep b o z
  refine I.step (ch := []) (fun b z => by cases z) (fun b o n _ _ e _ => keep b o n e) (fun b o n _ _ e _ => ⟨o.slots, keep b o n e⟩) (fun b o _ _ e => e) (fun b o _ e => ?_) (fun _ _ e => e) (fun _ _ _ e => e) (fun b ps e => ⟨#[], by rw [e]; simp⟩) (fun m' q => ?_) ?_ I.bare
  · by_cases n : b = X.env.locals
    · subst n
      obtain ⟨o', _, _, q, _⟩ := F'.ns
      exact ⟨o', q⟩
    · exact ⟨o, keep b o n e⟩
  · rw [ns_one q F.ns]
    exact F'.ns
  · intro a o ha
    have na : a ≠ X.env.locals := fun e => by rw [e, I.free] at ha; cases ha
    refine ObjOk.stay (I.hok a o ha) (fun b u q e => keep b u ?_ e) (fun _ e => e) (fun _ _ e => e)
    rcases q with q | q
    · rw [q]; exact na
    · intro e
      rw [e, I.free] at q
      cases q
/-- repr of a list or a tuple -/
def rRepr (K : PySem.W.Frag) (B : Nat) : List V → Hp → VK → Prop := fun xs H Q => ∃ (a : Addr) (d : PyData), xs = [.ref a] ∧ Dp K H (.ref a) d ∧ d.hasDict = false ∧ d.showable = true ∧ d.depth ≤ B ∧ d.shown.length ≤ sizeLine ∧ Q (.str d.shown) H
theorem cr_repr {X : Cx} {B : Nat} (hg : X.A.guards = some []) (hu : X.A.units + (B + 1) < cLine) : CallR X (.builtin "repr") (rRepr X.K B) := by
  intro pins s σ H xs us Q I r h
  obtain ⟨a, d, rfl, hd, h1, h2, h3, h4, q⟩ := h
  cases r with
  | cons r0 r1 =>
    cases r1
    cases r0
    obtain ⟨as, R⟩ := Dp.reads I d _ _ hd rfl
    obtain ⟨m, hF⟩ := I.fr
    refine repr_HN hF (news_all _ _ _) R h1 h2 hg (Nat.lt_of_le_of_lt (Nat.add_le_add_left (Nat.add_le_add_right h3 1) _) hu) (fun h' u tk F' N => ?_) h4
    exact ⟨.str d.shown, H, Inv.framed I hF F' N, ⟨u, rfl⟩, q⟩
end Fo

set_option maxRecDepth 100000
set_option maxHeartbeats 2000000
namespace PySem.W
open PySem PySem.Spec PyProof.Rows Builtin
section
variable {prog : Program} {w : World} {A : Around} {E : Value → Shared → Prop} {s : Shared} {K : Frag} {x C f a : Addr} {ox : Obj} {od : Option Obj}
theorem fo_tupDeclines {Q : Fin → Shared → Prop} {ot : Obj} (X : K.In s.heap) (I : InstAt s.heap x ox C od) (ha : s.heap.get? a = some ot) (hc : ot.cls = .type "tuple") (hm : mroIn K C (.type "tuple") = some false)
    (hq : Q (.done (.ret .notImplemented)) s) : wpAny (model prog w) A (Builtin.«tuple.__eq__» ⟨[.ref a, .ref x], []⟩) Q E s := by
  have hs : wpAny (model prog w) A (isSubtype (.ref C) (.type "tuple")) (fun b s' => b = false ∧ s' = s) E s := (looks_mroIn X hm).here ⟨rfl, rfl⟩
  unfold Builtin.«tuple.__eq__»
  refine wpAny_bind ?_
  have e1 : slotArgs "__eq__" 1 ⟨[.ref a, .ref x], []⟩ = pure (.ref a, [.ref x]) := rfl
  rw [e1]
  refine wpAny_pure (wpAny_bind ?_)
  unfold isInstance
  refine wpAny_bind (I.type.here ((looks_mroIn X hm).here ?_))
  refine wpAny_ite_true (by rfl) ?_
  exact wpAny_pure hq
theorem plainTE : plainId "tuple.__eq__" = true := by decide +kernel
theorem kindTE : builtinKind "tuple.__eq__" = some Manifest.AttrKind.slot := by decide +kernel
theorem splitTE : splitId "tuple.__eq__" = some ("tuple", "__eq__") := by decide +kernel
theorem fo_checkTE {Q : Unit → Shared → Prop} {b : Value} (ht : s.TypeIs (.ref a) "tuple") (hq : Q () s) : wpAny (model prog w) A (checkBuiltinCall "tuple.__eq__" ⟨[.ref a, b], []⟩) Q E s := by
  have e := PyProof.Rows.args_tuple_eq (.ref a) b
  unfold argsOk at e
  simp only [checkBuiltinCall, kindTE, splitTE]
  refine wpAny_bind ?_
  unfold isInstance
  refine wpAny_bind (wpAny_typeOf ht ?_)
  have e2 : isSubtype (.type "tuple") (.type "tuple") = pure true := by rfl
  rw [e2]
  refine wpAny_pure ?_
  simp only [Bool.not_true, Bool.false_eq_true, if_false]
  cases hsig : Manifest.signature? "tuple.__eq__" with
  | none => exact wpAny_pure hq
  | some sig =>
    rw [hsig] at e
    simp only at e ⊢
    rw [e]
    exact wpAny_pure hq
/-- a tuple == an instance whose class has its own == : the tuple declines, the instance is asked -/
theorem fo_eqTup {h₀ : Heap} {L : Addr} {m : Str → Option Value} {Q : Value → Shared → Prop} {ot : Obj} (hu : A.units + 1 < cLine) (F : Fr h₀ L s.heap m) (X₀ : K.In h₀) (I : InstAt s.heap x ox C od) (ha : s.heap.get? a = some ot) (hc : ot.cls = .type "tuple")
    (hm : mroIn K C (.type "tuple") = some false) (hs : findIn K (.ref C) (Str.ofString "__eq__") = some (some (.ref f))) (hf : isFn K (.ref f) = true)
    (h : wpAny (model prog w) A (call (.ref f) [.ref x, .ref a]) (CmpBack Q) E s) : wpAny (model prog w) A (richCompare .Eq (.ref a) (.ref x)) Q E s := by
  have X := X₀.keeps F.keep
  have ht : s.TypeIs (.ref a) "tuple" := ⟨ot, ha, hc⟩
  unfold richCompare
  simp only [oneThing_ref]
  refine wpAny_holding (wpAny_bind (wpAny_cRoomFor (Nat.lt_of_succ_lt hu) ?_))
  refine wpAny_bind (wpAny_typeOf ht (wpAny_bind (I.type.here ?_)))
  split
  · refine wpAny_bind ((looks_mroIn X hm).here ?_)
    refine wpAny_ite_false (by rfl) ?_
    refine wpAny_bind (wpAny_tryCompare_declines (T := "tuple") (id := "tuple.__eq__") ht PyProof.Rows.slot_tuple_eq ?_)
    refine wpAny_call (codeAny_call_builtin plainTE PyProof.Rows.entry_tuple_eq (fo_checkTE (A := A.in1) ht (fo_tupDeclines (A := A.in1) X I ha hc hm ?_)))
    refine ⟨rfl, ?_⟩
    refine wpAny_ite_true (by rfl) ?_
    unfold tryCompare
    refine wpAny_bind (wpAny_bind (ifBound_K X I hs hf (wpAny_mono h (fun v s' hv => ?_) fun _ _ e => e)))
    cases v <;> first | exact False.elim hv | exact wpAny_pure (wpAny_pure hv)
  · rename_i q
    exfalso
    apply q
    rfl
end
end PySem.W
namespace Fo
open PySem PySem.Spec PyProof.Rows L2
theorem FnOk.imp {P : Program} {w : World} {K : PySem.W.Frag} {mg : Str → Option Value} {base : Heap} {CX : CXT} {k : Nat} {f : Addr} {fd : FuncData} {ps : List Str} {sp sp' : Sp} (F : FnOk P w K mg base CX k f fd ps sp) (h : ∀ vs H Q E, sp' vs H Q E → sp vs H Q E) : FnOk P w K mg base CX k f fd ps sp' :=
  ⟨fun vs H Q E q => F.len vs H Q E (h _ _ _ _ q), fun A outer s H args us vs Q E hr e0 hb r q => F.run A outer s H args us vs Q E hr e0 hb r (h _ _ _ _ q)⟩
theorem sub_built {K : PySem.W.Frag} {C : Addr} {n : String} (h : fastBuiltinMro n = some [.type n, .type "object"]) : PySem.W.subIn K (.type n) (.ref C) = some false := by
  show (fastBuiltinMro n).map (fun l => l.contains (.ref C)) = some false
  rw [h]
  rfl
/-- no built-in thing is an instance of the class C -/
structure Oth (K : PySem.W.Frag) (C : Addr) (t : Value) : Prop where
  nf : PySem.W.notFirst K C t = true
  kit : PySem.W.kitOne K t (.ref C) = some false
theorem Oth.built {K : PySem.W.Frag} {C : Addr} (ht : PySem.W.typeIn K (.ref C) = some (.type "type")) (hm : PySem.W.mroIn K C (.type "object") = some true) {n : String} (h : fastBuiltinMro n = some [.type n, .type "object"]) : Oth K C (.type n) := by
  have hs := sub_built (K := K) (C := C) h
  refine ⟨?_, ?_⟩
  · unfold PySem.W.notFirst
    rw [hs, Bool.or_eq_true]
    exact .inr rfl
  · have hc : (PySem.W.clsIn K C).isSome = true := by
      unfold PySem.W.mroIn at hm
      cases e : PySem.W.clsIn K C with
      | none => rw [e] at hm; cases hm
      | some c => rfl
    have e : (Value.type n == Value.ref C) = false := by
      rw [beq_eq_false_iff_ne]
      intro q
      cases q
    unfold PySem.W.kitOne
    rw [e, if_neg (by decide)]
    show (if ((PySem.W.clsIn K C).isSome && PySem.W.typeIn K (.ref C) == some (.type "type")) = true then PySem.W.subIn K (.type n) (.ref C) else none) = some false
    rw [hc, ht, if_pos (by rfl), hs]
def spEq2 (K : PySem.W.Frag) (C : Addr) : Sp := fun vs H Q _ => ∃ (x y : V) (r1 : List (List Int)), vs = [x, y] ∧ TableAt K C H x r1 ∧ ((∃ r2, TableAt K C H y r2 ∧ ∀ H', Same H H' → Q (.bl (decide (r1 = r2))) H') ∨ (∃ t, TyX K H y t ∧ Oth K C t ∧ ∀ H', Same H H' → Q (.bl false) H'))
def rEq2 (K : PySem.W.Frag) (C : Addr) : R2 := fun x y H Q => ∃ (r1 : List (List Int)), TableAt K C H x r1 ∧ ((∃ r2, TableAt K C H y r2 ∧ ∀ H', Same H H' → Q (.bl (decide (r1 = r2))) H') ∨ (∃ t, TyX K H y t ∧ Oth K C t ∧ ∀ H', Same H H' → Q (.bl false) H'))
/-- a tuple == a table -/
def rEqTR (K : PySem.W.Frag) (C : Addr) : R2 := fun x y H Q => ∃ (a : Addr) (vs : List V) (r1 : List (List Int)), x = .ref a ∧ SqT K H a vs ∧ TableAt K C H y r1 ∧ ∀ H', Same H H' → Q (.bl false) H'
section
variable {P : Program} {w : World} {K : PySem.W.Frag} {mg : Str → Option Value} {base : Heap} {C : Addr}
theorem MkT.weak {n m : Nat} {spI : Sp} (G : MkT P w K mg base C n m spI (spEq2 K C)) : MkT P w K mg base C n m spI (spEqT K C) := by
  obtain ⟨f, fd, F, b, x, y⟩ := G.eqm
  refine ⟨G.mgC, G.tc, G.ini, f, fd, FnOk.imp F fun vs H Q E h => ?_, b, x, y⟩
  obtain ⟨x, y, r1, r2, rfl, h1, h2, k⟩ := h
  exact ⟨x, y, r1, rfl, h1, .inl ⟨r2, h2, k⟩⟩
end
section
variable {X : Cx} {C : Addr}
theorem op_eq2 {n m : Nat} {spI : Sp} (G : MkT X.prog X.w X.K X.mg X.base C n m spI (spEq2 X.K C)) (hr : Room m X.A) : OpR X (compareOp .Eq) (rEq2 X.K C) := by
  obtain ⟨f, fd, F, b, hs, hf⟩ := G.eqm
  intro pins s σ H x y v u Q I rx ry h
  obtain ⟨r1, t1, h⟩ := h
  obtain ⟨p, dx, w', ex, hp, hR⟩ := id t1
  rcases h with ⟨r2, t2, q⟩ | ⟨t, ty, o, q⟩
  · exact op_eqI F b hs hf hr pins s σ H x y v u Q I rx ry ⟨p, dx, _, _, ex, hp, t2.tyx G.tc, by simp [PySem.W.notFirst], x, y, r1, rfl, t1, .inl ⟨r2, t2, fun H' e => ⟨_, rfl, q H' e⟩⟩⟩
  · exact op_eqI F b hs hf hr pins s σ H x y v u Q I rx ry ⟨p, dx, _, _, ex, hp, ty, o.nf, x, y, r1, rfl, t1, .inr ⟨t, ty, o, fun H' e => ⟨_, rfl, q H' e⟩⟩⟩
theorem sqT_obj {pins : List (Addr × Obj)} {s : Shared} {σ : L2.St} {H : Hp} {a : Addr} {xs : List V} (I : Inv X pins σ H s) (h : SqT X.K H a xs) : ∃ o, s.heap.get? a = some o ∧ o.cls = .type "tuple" := by
  rcases h with (h | ⟨o, h⟩) | ⟨o, its, n, h1, h2, _⟩
  · obtain ⟨_, its, _, o, g, c, _⟩ := I.hok a _ h
    exact ⟨o, g, c⟩
  · obtain ⟨g, _, its, _, o', g', c, _⟩ := I.hok a _ h
    exact ⟨o', g', c⟩
  · exact ⟨o, I.kIn a o h1, h2⟩
theorem op_eqTR {n m : Nat} {spI : Sp} (G : MkT X.prog X.w X.K X.mg X.base C n m spI (spEq2 X.K C)) (hm : PySem.W.mroIn X.K C (.type "tuple") = some false) (ht : PySem.W.typeIn X.K (.ref C) = some (.type "type")) (hr : Room (m + 1) X.A) : OpR X (compareOp .Eq) (rEqTR X.K C) := by
  obtain ⟨f, fd, F, b, hs, hf⟩ := G.eqm
  intro pins s σ H x y v u Q I rx ry h
  obtain ⟨a, vs, r1, rfl, hS, t1, q⟩ := h
  obtain ⟨p, dx, w', rfl, hp, hR⟩ := id t1
  cases rx
  cases ry
  obtain ⟨mA, J, _⟩ := ins_get I.hok hp
  obtain ⟨od, J, _⟩ := J.look
  obtain ⟨m', hF⟩ := I.fr
  obtain ⟨o, g, c⟩ := sqT_obj I hS
  refine PySem.W.fo_eqTup (Nat.lt_of_le_of_lt (Nat.add_le_add_left (by decide : 1 ≤ 64) _) hr.units) hF I.ok.mod.kin J g c hm hs hf ?_
  refine wpAny_mono (run_eqI (Q := fun v H' => ∃ b, v = .bl b ∧ Q (.bl b) H') F b ⟨hr.mono (Nat.le_succ _), rfl⟩ I (show L2.RelV (.ref p) (.ref p) from rfl) (show L2.RelV (.ref a) (.ref a) from rfl) ⟨.ref p, .ref a, r1, rfl, t1, .inr ⟨.type "tuple", tyX_sqT hS, Oth.built ht G.tc.hm rfl, fun H' e => ⟨false, rfl, q H' e⟩⟩⟩) (fun w s' e => ?_) fun _ _ z => z
  obtain ⟨z, H', I', rz, b, ez, qz⟩ := e
  subst ez
  cases rz
  exact ⟨.bl b, H', I', rfl, qz⟩
end
end Fo

set_option maxRecDepth 100000
set_option maxHeartbeats 4000000
namespace Fo
open PySem PySem.Spec PyProof.Rows L2
abbrev s_law_flag : Stmt := top 24
abbrev n_law_flag : List Str := ["told", "due"]
theorem sc_law_flag : FnScope n_law_flag ["told", "due"] (defScope s_law_flag) := ⟨rfl, rfl, rfl, by decide +kernel, rfl, by decide +kernel, by decide +kernel⟩
abbrev s_law_ties : Stmt := top 25
abbrev n_law_ties : List Str := ["rows", "found", "person", "row", "thing"]
theorem sc_law_ties : FnScope n_law_ties ["rows"] (defScope s_law_ties) := ⟨rfl, rfl, rfl, by decide +kernel, rfl, by decide +kernel, by decide +kernel⟩
abbrev s_law_near : Stmt := top 26
abbrev n_law_near : List Str := ["tape", "rows", "kind", "person", "thing", "row", "other"]
theorem sc_law_near : FnScope n_law_near ["tape", "rows"] (defScope s_law_near) := ⟨rfl, rfl, rfl, by decide +kernel, rfl, by decide +kernel, by decide +kernel⟩
section
variable {P : Program} {w : World} {K : PySem.W.Frag} {mg : Str → Option Value} {base : Heap} {C : Addr}
/-- == of a table with whatever -/
theorem ok_eq2 {f : Addr} {fd : FuncData} (F : Fun K "__eq__" "Table.__eq__" s_Table___eq f fd) (T : Tx mg) (tc : TC K C) (hC : mg "Table" = some (.ref C)) : FnOk P w K mg base CX0 1 f fd ["self", "other"] (spEq2 K C) := by
  refine F.ok sc_Table___eq (fun vs H Q E h => ?_) (fun cdv A outer s H vs Q E hr h => ?_)
  · obtain ⟨x, y, r1, rfl, _⟩ := h
    rfl
  · obtain ⟨x, y, r1, rfl, hx, hy⟩ := h
    refine ⟨_, (pss_one (ps_ret (pe_and (pe_callB call_isi (by rfl) T.isinstance (by decide +kernel) (pa_cons (pv 1) (pa_cons (pe_glob (v := V.ref C) (by rfl) hC rfl) pa_nil))) (pe_one (pe_cmpR (op_eqD hr.units) (pe_fld (pv 0) rfl) (pe_fld (pv 1) rfl) (nomark _)))))), ?_⟩
    rcases hy with ⟨r2, hy, k⟩ | ⟨t, ty, o, k⟩
    · have ty := hy.tyx tc
      obtain ⟨p, dx, v, rfl, hp, hR⟩ := hx
      obtain ⟨q, dy, u, rfl, hq, hS⟩ := hy
      refine ⟨_, rfl, _, .ref C, .ref C, .ref C, true, rfl, .own C, ty, by simp [PySem.W.kitOne], true, rfl, ?_⟩
      refine ⟨_, rfl, p, C, dx, _, v, rfl, hp, tc.cl, tc.nR, tf_rows _ _, _, rfl, q, C, dy, _, u, rfl, hq, tc.cl, tc.nR, tf_rows _ _, dR r1, dR r2, hR.dp, hS.dp, sh_R r1, sh_R r2, ?_⟩
      rw [eqv_R]
      exact k H (Same.refl H)
    · exact ⟨_, rfl, _, .ref C, t, .ref C, false, rfl, .own C, ty, o.kit, false, rfl, k H (Same.refl H)⟩
def spFlag : Sp := fun vs H Q _ => ∃ (a b : Bool), vs = [.bl a, .bl b] ∧ Q (.bl (decide (a = b))) H
theorem ok_flag (A : At K mg "_law_flag" s_law_flag ["told", "due"]) (T : Tx mg) : Dfn P w K mg base "_law_flag" ["told", "due"] 1 spFlag := by
  refine A.ok sc_law_flag (fun vs H Q E h => ?_) (fun f cdv A outer s H vs Q E hr h => ?_)
  · obtain ⟨a, b, rfl, _⟩ := h
    rfl
  · obtain ⟨a, b, rfl, k⟩ := h
    refine ⟨_, (pss_one (ps_ret (pe_and (pe_callB call_isi (by rfl) T.isinstance (by decide +kernel) (pa_cons (pv 0) (pa_cons (pe_bltn (v := V.ty "bool") (by rfl) T.bool (by decide +kernel) rfl) pa_nil))) (pe_one (pe_cmpR op_eq (pv 0) (pv 1) (nomark _)))))), ?_⟩
    refine ⟨_, rfl, .bl a, .ty "bool", .type "bool", .type "bool", true, rfl, .ty "bool", .base (.bl a), kit_ty (by decide +kernel), true, rfl, ?_⟩
    have e : decide (V.bl a = V.bl b) = decide (a = b) := decide_eq_decide.mpr ⟨fun q => by injection q, fun q => by rw [q]⟩
    rw [← e] at k
    exact ⟨_, rfl, _, rfl, rfl, k⟩
def spLawTies (K : PySem.W.Frag) : Sp := fun vs H Q _ => ∃ (v : V) (rows : List (List Int)), vs = [v] ∧ RowsAt K H v rows ∧ rows.length ≤ 100 ∧ (∀ r ∈ rows, r.length ≤ 100) ∧ ∀ p vs H', Same H H' → H p = none → H' p = some (.lst vs) → RowsT K H' vs (tieRows rows) → Q (.ref p) H'
theorem ok_law_ties (A : At K mg "_law_ties" s_law_ties ["rows"]) (T : Tx mg) : Dfn P w K mg base "_law_ties" ["rows"] 1 (spLawTies K) := by
  refine A.ok sc_law_ties (fun vs H Q E h => ?_) (fun f cdv A outer s H vs Q E hr h => ?_)
  · obtain ⟨v, rows, rfl, _⟩ := h
    rfl
  · obtain ⟨v, rows, rfl, ⟨a, vs, rfl, ha, hrs⟩, hl, hrl, k⟩ := h
    have vl := hrs.len
    have bnd : ∀ i, (tieRows (rows.take i)).length ≤ 10000 := fun i => by
      have h1 := tie_len (b := 100) 0 (rows.take i) fun r hr => hrl r (List.mem_of_mem_take hr)
      have h2 : (rows.take i).length ≤ 100 := Nat.le_trans (List.length_take_le' _ _) hl
      have h3 : (rows.take i).length * 100 ≤ 100 * 100 := Nat.mul_le_mul_right 100 h2
      show (tieFrom 0 (rows.take i)).length ≤ 10000
      omega
    refine ⟨_, (pss_cons (ps_set (i := 1) sc_law_ties.nd rfl (Or.inl rfl) (pe_lst pa_nil))
      (pss_cons (ps_for PassesOwn.never rfl (pi_enumT (by rfl) T.enumerate (pa_cons (pv 0) pa_nil)) (pg_tup rfl (pgs_cons (pg_name (i := 2) sc_law_ties.nd rfl (Or.inr rfl)) (pgs_cons (pg_name (i := 3) sc_law_ties.nd rfl (Or.inl rfl)) pgs_nil)))
      (pss_one (ps_expr (pe_bm PySem.F.plainAttrs_list PySem.F.slot_list_extend PySem.F.type_list_extend mt_extend (pv 1) (pa_cons (pe_lc (own := [("thing", 4)]) (g := (gName 4)) (tt := tYes) (te := (tTup (tCons (tVar 2) (tCons (tVar 4) tNil)))) (by rfl) sc_law_ties.nd (pi_tup (pv 3)) (blkOk_by (own := [("thing", 4)]) (N := n_law_ties) (sc := (defScope s_law_ties)) (by decide +kernel)) (fun _ _ _ _ _ => (pg_name (i := 4) sc_law_ties.nd rfl (Or.inl rfl))) (fun _ _ _ _ _ => pts_nil) (fun _ _ _ _ _ => (pe_tup (pa_cons (pv 2) (pa_cons (pv 4) pa_nil))))) pa_nil)))))
      (pss_one (ps_ret (pv 1))))), ?_⟩
    refine ⟨Nat.zero_le _, fun fa hf => ?_⟩
    refine ⟨_, rfl, a, vs, rfl, sqT_same (same_new hf) ha, for_enumT (xs := vs) (fun i σ' H' => (∃ x2 x3 x4, σ' = [some (.ref a), some (.ref fa), x2, x3, x4]) ∧ ∃ ws, H' fa = some (.lst ws) ∧ RowsT K H' ws (tieRows (rows.take i)) ∧ Same H H') ⟨⟨_, _, _, rfl⟩, [], upd_same, .nil, same_new hf⟩ (fun i σ' H' _ h => by obtain ⟨_, ws, _, _, s1⟩ := h; exact sqT_same s1 ha) ?_ ?_⟩
    · rintro i u σ' H1 z hu ⟨⟨x2, x3, x4, rfl⟩, ws, h1, hw, s1⟩ hz
      have hir : i < rows.length := by have := (List.getElem?_eq_some_iff.mp hu).1; omega
      have hri := List.getElem?_eq_getElem hir
      obtain ⟨q, hq1, hq2⟩ := hrs.get hri
      rw [hu] at hq1
      have eu : u = .ref q := Option.some.inj hq1
      subst eu
      generalize rows[i] = r at hri hq2
      have hrm := List.mem_of_getElem? hri
      have hfz : fa ≠ z := ne_of_none h1 hz
      have s2 := s1.trans (same_new (o := .tup [.int (i : Nat), .ref q]) hz)
      refine ⟨z, _, rfl, SqT.of upd_same, rfl, _, _, rfl, _, _, rfl, rfl, ?_⟩
      have h2 : (upd H1 z (.tup [.int (i : Nat), .ref q])) fa = some (.lst ws) := by rw [upd_ne hfz]; exact h1
      refine ⟨_, rfl, .inl ⟨rfl, _, SqL.of h2⟩, _, rfl, q, rfl, ⟨_, sqT_same s2 hq2⟩, fun D hD => ?_⟩
      have hfD : fa ≠ D := ne_of_none h2 hD
      have sD := same_new (o := .lst []) hD
      refine lc_tup (xs := r.map V.int) (fun j H' => ∃ us, H' D = some (.lst us) ∧ RowsT K H' us ((r.take j).map fun x => [(i : Int), x]) ∧ Same (upd H1 z (.tup [.int (i : Nat), .ref q])) H') ⟨[], upd_same, .nil, sD⟩ (fun j H' _ h => by obtain ⟨us, _, _, s3⟩ := h; exact sqT_same (s2.trans s3) hq2) ?_ ?_
      · rintro j y H2 hy ⟨us, h3, hus, s3⟩
        have hjl : j < r.length := by
          have := (List.getElem?_eq_some_iff.mp hy).1
          rw [List.length_map] at this
          exact this
        have hrj := List.getElem?_eq_getElem hjl
        rw [List.getElem?_map, hrj] at hy
        have ey : V.int r[j] = y := Option.some.inj hy
        subst ey
        refine ⟨rfl, _, rfl, _, rfl, by show 2 ≤ sizeLine; decide, fun o ho => ?_⟩
        have hDo : D ≠ o := ne_of_none h3 ho
        have ul : us.length ≤ 100 := by
          rw [hus.len, List.length_map]
          have h4 := hrl r hrm
          have h5 : (r.take j).length ≤ r.length := List.length_take_le' _ _
          omega
        refine ⟨us, by rw [upd_ne hDo]; exact h3, small_lt (by omega), us ++ [.ref o], upd_same, ?_, same_mut (s3.trans (same_new ho)) hD⟩
        have e : (r.take (j + 1)).map (fun x => [(i : Int), x]) = (r.take j).map (fun x => [(i : Int), x]) ++ [[(i : Int), r[j]]] := by
          rw [List.take_add_one, hrj, List.map_append]
          rfl
        rw [e]
        exact RowsT.snoc (r := [(i : Int), r[j]]) (SqT.of (by rw [upd_ne hDo.symm, upd_same]; rfl)) ((hus.same (same_new ho)).put (by rw [upd_ne hDo]; exact h3))
      · rintro H2 ⟨us, h3, hus, s3⟩
        rw [List.length_map, List.take_length] at hus
        have h4 : H2 fa = some (.lst ws) := s3 _ _ h2
        have ln : ws.length + us.length ≤ 100000 := by
          rw [hw.len, hus.len, List.length_map]
          have h5 := bnd i
          have h6 := hrl r hrm
          omega
        refine ⟨fa, D, ws, us, rfl, rfl, h4, h3, small_le ln, ?_⟩
        refine ⟨⟨_, _, _, rfl⟩, ws ++ us, upd_same, ?_, same_mut (s2.trans s3) hf⟩
        rw [tie_take hri]
        exact (((hw.same (same_new hz)).same s3).put h4).app (hus.put h4)
    · rintro σ' H1 ⟨⟨x2, x3, x4, rfl⟩, ws, h1, hw, s1⟩
      rw [vl, List.take_length] at hw
      refine ⟨_, rfl, ?_⟩
      exact k fa ws H1 s1 hf h1 hw
def spNear (K : PySem.W.Frag) : Sp := fun vs H Q _ => ∃ (t l : Addr) (v : V) (rows : List (List Int)), vs = [.ref t, v] ∧ Tape H t l ∧ Good rows ∧ rows.length ≤ 12 ∧ RowsAt K H v rows ∧ ∀ (v' : V) (rows' : List (List Int)) (H' : Hp), Good rows' → rows'.length ≤ 12 → Gr t H H' → Tape H' t l → RowsAt K H' v' rows' → Q v' H'
theorem ok_near (A : At K mg "_law_near" s_law_near ["tape", "rows"]) (T : Tx mg) (G_law_pick : Dfn P w K mg base "_law_pick" ["tape", "size"] 1 spPick) (G_law_rows : Dfn P w K mg base "_law_rows" ["tape", "most"] 4 (spRows K)) : Dfn P w K mg base "_law_near" ["tape", "rows"] 5 (spNear K) := by
  refine A.ok sc_law_near (fun vs H Q E h => ?_) (fun f cdv A outer s H vs Q E hr h => ?_)
  · obtain ⟨t, l, v, rows, rfl, _⟩ := h
    rfl
  · obtain ⟨t, l, v, rows, rfl, hT, G, hm, hR, k⟩ := h
    obtain ⟨ra, rvs, rfl, hra, hrt⟩ := id hR
    have rl := hrt.len
    have pos := G.pos
    refine ⟨_, (pss_cons (ps_set (i := 2) sc_law_near.nd rfl (Or.inl rfl) (pe_d G_law_pick (hr.mono (by decide)) (pa_cons (pv 0) (pa_cons pe_int pa_nil))))
      (pss_cons (ps_if (pt_cmpR op_eq (pv 2) pe_int (nomark _)) (pss_one (ps_ret (pv 1))) pss_nil)
      (pss_cons (ps_if (pt_cmpR op_eq (pv 2) pe_int (nomark _)) (pss_one (ps_ret (pe_d G_law_rows (hr.mono (by decide)) (pa_cons (pv 0) (pa_cons pe_int pa_nil))))) pss_nil)
      (pss_cons (ps_set (i := 3) sc_law_near.nd rfl (Or.inr rfl) (pe_d G_law_pick (hr.mono (by decide)) (pa_cons (pv 0) (pa_cons (pe_callB c_len (by rfl) T.len (by decide +kernel) (pa_cons (pv 1) pa_nil)) pa_nil))))
      (pss_cons (ps_set (i := 4) sc_law_near.nd rfl (Or.inr rfl) (pe_d G_law_pick (hr.mono (by decide)) (pa_cons (pv 0) (pa_cons (pe_callB c_len (by rfl) T.len (by decide +kernel) (pa_cons (pv 1) pa_nil)) pa_nil))))
      (pss_cons (ps_set (i := 5) sc_law_near.nd rfl (Or.inl rfl) (pe_callTy c_tuple (by rfl) T.tuple (by decide +kernel) (pa_cons (pe_callB cr_sortedI (by rfl) T.sorted (by decide +kernel) (pa_cons (pe_lc (own := [("other", 6)]) (g := (gName 6)) (tt := (tTest (tOp rNe (tOp (rIn K false) (tVar 6) (tOp (rIxT K) (tVar 1) (tVar 3))) (tOp rEq (tVar 6) (tVar 4))))) (te := (tVar 6)) (by rfl) sc_law_near.nd (pi_range1 rfl T.range (pa_cons (pe_callB c_len (by rfl) T.len (by decide +kernel) (pa_cons (pv 1) pa_nil)) pa_nil)) (blkOk_by (own := [("other", 6)]) (N := n_law_near) (sc := (defScope s_law_near)) (by decide +kernel)) (fun _ _ _ _ _ => (pg_name (i := 6) sc_law_near.nd rfl (Or.inl rfl))) (fun _ _ _ _ _ => (pts_one (pt_cmpR op_ne (pe_cmpR op_in_seq (pv 6) (pe_ix ix_tup (pv 1) (pv 3) (fun _ _ => rfl)) rfl) (pe_cmpR op_eq (pv 6) (pv 4) (nomark _)) (nomark _)))) (fun _ _ _ _ _ => (pv 6))) pa_nil)) pa_nil)))
      (pss_one (ps_ret (pe_op op_catA (pe_op op_catA (pe_slice sl_tupA (pv 1) po_none (po_some (pv 3))) (pe_tup (pa_cons (pv 5) pa_nil))) (pe_slice sl_tupA (pv 1) (po_some (pe_op op_add (pv 3) pe_int)) po_none)))))))))), ?_⟩
    refine ⟨_, rfl, t, l, 4, rfl, hT, by decide, by decide, fun kd H1 _ _ g1 T1 => ?_⟩
    refine ⟨_, rfl, rfl, _, rfl, ?_⟩
    refine ite2 (fun _ => ?_) (fun _ => ?_)
    · exact ⟨_, rfl, k _ rows H1 G hm g1 T1 ⟨ra, rvs, rfl, gr_T g1 hT hra, hrt.gr g1 hT⟩⟩
    refine ⟨_, rfl, rfl, _, rfl, ?_⟩
    refine ite2 (fun _ => ?_) (fun _ => ?_)
    · refine ⟨_, rfl, t, l, 7, rfl, T1, by decide, by decide, fun v' rows' H2 G' hl' g2 T2 R2 => ?_⟩
      exact k v' rows' H2 G' (by omega) (g1.trans g2) T2 R2
    have hra1 := gr_T g1 hT hra
    have hrt1 := hrt.gr g1 hT
    refine ⟨_, rfl, _, rfl, ra, _, rfl, .inr hra1, t, l, _, rfl, T1, by omega, by omega, fun p H2 p0 p1 g2 T2 => ?_⟩
    have hra2 := gr_T g2 T1 hra1
    have hrt2 := hrt1.gr g2 T1
    refine ⟨_, rfl, _, rfl, ra, _, rfl, .inr hra2, t, l, _, rfl, T2, by omega, by omega, fun y H3 y0 y1 g3 T3 => ?_⟩
    have hra3 := gr_T g3 T2 hra2
    have hrt3 := hrt2.gr g3 T2
    have g13 := (g1.trans g2).trans g3
    have hpl : p.toNat < rows.length := by omega
    have hri := List.getElem?_eq_getElem hpl
    obtain ⟨q, hq1, hq2⟩ := hrt3.get hri
    generalize rows[p.toNat] = r at hri hq2
    -- the new row
    refine ⟨_, rfl, ra, _, rfl, .inr hra3, _, rfl, by omega, by omega, fun D hD => ?_⟩
    have nD := T3.free hD
    refine lc_range (lo := 0) (n := ((rvs.length : Nat) : Int).toNat) (fun j H' => ∃ out : List Int, H' D = some (.lst (out.map V.int)) ∧ out.length ≤ j ∧ out.Pairwise (· < ·) ∧ (∀ x ∈ out, 0 ≤ x ∧ x < (j : Int)) ∧ Same H3 H')
      ⟨[], upd_same, Nat.le_refl _, .nil, fun _ h => (by cases h), same_new hD⟩ ?_ ?_
    · rintro j H4 hj ⟨out, hDo, hol, hop, hor, s4⟩
      refine ⟨rfl, _, rfl, _, rfl, _, rfl, ra, rvs, p, _, rfl, rfl, sqT_same s4 hra3, at_of (j := p.toNat) (by omega) hq1, q, _, rfl, .inr (sqT_same s4 hq2), rfl, all_flat_ints _, _, rfl, _, rfl, rfl, rfl, _, rfl, ?_⟩
      refine ite2 (fun _ => ?_) (fun _ => ?_)
      · refine ⟨_, rfl, out.map V.int, hDo, by rw [List.length_map]; exact small_lt (by omega), out ++ [(j : Int)], ?_, by rw [List.length_append, List.length_singleton]; omega, asc_snoc hop fun x hx => (hor x hx).2, fun x hx => ?_, same_mut s4 hD⟩
        · rw [upd_same, ← map_snoc]
          show some (HO.lst (out.map V.int ++ [V.int (0 + (j : Int))])) = _
          rw [Int.zero_add]
        · rcases List.mem_append.mp hx with h | h
          · have := hor x h
            omega
          · rw [List.mem_singleton.mp h]
            omega
      · exact ⟨out, hDo, by omega, hop, fun x hx => by have := hor x hx; omega, s4⟩
    · rintro H4 ⟨out, hDo, hol, hop, hor, s4⟩
      refine ⟨D, out, rfl, SqL.of hDo, fun ns' b pm so hb => ⟨b, _, rfl, .inl ⟨SqL.of upd_same, fun c hc => ?_⟩⟩⟩
      obtain ⟨H5, e5⟩ : ∃ H5, H5 = upd (upd H4 b (.lst (ns'.map V.int))) c (.tup (ns'.map V.int)) := ⟨_, rfl⟩
      have s45 : Same H4 H5 := by rw [e5]; exact (same_new hb).trans (same_new hc)
      have hc5 : SqT K H5 c (ns'.map V.int) := by rw [e5]; exact SqT.of upd_same
      rw [← e5]
      have s35 := s4.trans s45
      have hra5 := sqT_same s35 hra3
      have nasc := asc_of pm so (nodup_of_lt hop)
      have nrng : ∀ x ∈ ns', 0 ≤ x ∧ x < (rows.length : Int) := fun x hx => by have := hor x (pm.mem_iff.mp hx); omega
      have hn : p.toNat < rvs.length := by omega
      have ei : p = ((p.toNat : Nat) : Int) := by omega
      refine ⟨_, rfl, _, rfl, _, rfl, slA hra5 fun d H6 s6 hd => ?_⟩
      rw [ei, cut_to (by omega)] at hd
      refine ⟨_, rfl, by show 1 ≤ sizeLine; decide, fun o ho => ?_⟩
      have s67 := s6.trans (same_new (o := .tup [.ref c]) ho)
      refine catA (sqT_same (same_new ho) hd) (SqT.of upd_same) (by rw [List.length_take]; show _ + 1 ≤ 100000; omega) fun e H8 s8 he => ?_
      have s58 := s67.trans s8
      refine ⟨_, rfl, _, rfl, _, _, rfl, rfl, _, rfl, ?_⟩
      delta tNoPart
      refine slA (sqT_same s58 hra5) fun d2 H9 s9 hd2 => ?_
      have ei2 : p + 1 = ((p.toNat + 1 : Nat) : Int) := by omega
      rw [ei2, cut_from (by omega)] at hd2
      refine catA (sqT_same s9 he) hd2 (by rw [List.length_append, List.length_take, List.length_drop]; show _ + 1 + _ ≤ 100000; omega) fun e2 H10 s10 he2 => ?_
      have s510 := s58.trans (s9.trans s10)
      have s310 := s35.trans s510
      refine k (.ref e2) (rows.set p.toNat ns') H10 (good_set G nasc nrng) (by rw [List.length_set]; exact hm) (g13.trans (Gr.of s310)) (T3.keep s310) ⟨e2, _, rfl, he2, ?_⟩
      rw [set_eq rows p.toNat ns' hpl]
      have h10 := hrt3.same s310
      exact ((h10.takeN _).app (.cons (sqT_same s510 hc5) .nil)).app (h10.dropN _)
end
end Fo

set_option maxRecDepth 100000
set_option maxHeartbeats 2000000
namespace Fo
open PySem PySem.Spec PyProof.Rows L2
/-! ### lists of rows of small numbers have a text -/
theorem small_int : ∀ m : Fin 100, (PyData.int (m.val : Int)).shown.length ≤ 13 ∧ (PyData.int (m.val : Int)).weight ≤ 7 ∧ (PyData.int (m.val : Int)).showable = true := by decide +kernel
theorem small_of {n : Int} (h : 0 ≤ n ∧ n < 100) : (PyData.int n).shown.length ≤ 13 ∧ (PyData.int n).weight ≤ 7 ∧ (PyData.int n).showable = true := by
  have := small_int ⟨n.toNat, by omega⟩
  have e : ((n.toNat : Nat) : Int) = n := by omega
  rw [e] at this
  exact this
structure Lay (w : Nat) (d : PyData) : Prop where
  hd : d.hasDict = false
  sh : d.showable = true
  dp : d.depth ≤ w
  can : d.canLay0 = true
  ish : PyData.intsShort 13 d = true
structure LayAll (w : Nat) (ds : List PyData) : Prop where
  hd : PyData.hasDictAll ds = false
  sh : PyData.showableAll ds = true
  dp : PyData.depthAll ds ≤ w
  can : PyData.canLayAll0 ds = true
  ish : PyData.intsShortAll 13 ds = true
theorem LayAll.nil {w : Nat} : LayAll w [] := ⟨rfl, rfl, Nat.zero_le _, rfl, rfl⟩
theorem LayAll.cons {w : Nat} {d : PyData} {ds : List PyData} (a : Lay w d) (b : LayAll w ds) : LayAll w (d :: ds) := by
  refine ⟨?_, ?_, ?_, ?_, ?_⟩
  · show (d.hasDict || PyData.hasDictAll ds) = false
    rw [a.hd, b.hd]; rfl
  · show (d.showable && PyData.showableAll ds) = true
    rw [a.sh, b.sh]; rfl
  · show max d.depth (PyData.depthAll ds) ≤ w
    have := a.dp; have := b.dp; omega
  · show (d.canLay0 && PyData.canLayAll0 ds) = true
    rw [a.can, b.can]; rfl
  · show (PyData.intsShort 13 d && PyData.intsShortAll 13 ds) = true
    rw [a.ish, b.ish]; rfl
theorem LayAll.tup {w : Nat} {ds : List PyData} (a : LayAll w ds) : Lay (w + 1) (.tuple ds) := ⟨a.hd, a.sh, Nat.succ_le_succ a.dp, a.can, a.ish⟩
theorem LayAll.lst {w : Nat} {ds : List PyData} (a : LayAll w ds) : Lay (w + 1) (.list ds) := ⟨a.hd, a.sh, Nat.succ_le_succ a.dp, a.can, a.ish⟩
theorem lay_int {n : Int} (h : 0 ≤ n ∧ n < 100) : Lay 0 (.int n) := ⟨rfl, (small_of h).2.2, Nat.le_refl _, rfl, decide_eq_true (small_of h).1⟩
theorem layAll_ints : ∀ {r : List Int}, (∀ x ∈ r, 0 ≤ x ∧ x < 100) → LayAll 0 (r.map PyData.int)
  | [], _ => .nil
  | x :: r, h => .cons (lay_int (h x List.mem_cons_self)) (layAll_ints fun y hy => h y (List.mem_cons_of_mem _ hy))
theorem weight_ints : ∀ {r : List Int}, (∀ x ∈ r, 0 ≤ x ∧ x < 100) → PyData.weightAll (r.map PyData.int) ≤ 8 * r.length
  | [], _ => Nat.le_refl _
  | x :: r, h => by
    show (PyData.int x).weight + 1 + PyData.weightAll (r.map PyData.int) ≤ 8 * (r.length + 1)
    have a := (small_of (h x List.mem_cons_self)).2.1
    have b := weight_ints (r := r) fun y hy => h y (List.mem_cons_of_mem _ hy)
    omega
theorem layR_rows : ∀ {rs : List (List Int)}, (∀ r ∈ rs, ∀ x ∈ r, 0 ≤ x ∧ x < 100) → LayAll 1 (rs.map dI)
  | [], _ => .nil
  | r :: rs, h => .cons (layAll_ints (h r List.mem_cons_self)).tup (layR_rows fun q hq => h q (List.mem_cons_of_mem _ hq))
theorem weight_rows {b : Nat} : ∀ {rs : List (List Int)}, (∀ r ∈ rs, r.length ≤ b ∧ ∀ x ∈ r, 0 ≤ x ∧ x < 100) → PyData.weightAll (rs.map dI) ≤ (8 * b + 1) * rs.length
  | [], _ => Nat.le_refl _
  | r :: rs, h => by
    show PyData.weightAll (r.map PyData.int) + 1 + PyData.weightAll (rs.map dI) ≤ (8 * b + 1) * (rs.length + 1)
    have h1 := h r List.mem_cons_self
    have a := weight_ints (r := r) h1.2
    have c := weight_rows (rs := rs) fun q hq => h q (List.mem_cons_of_mem _ hq)
    rw [Nat.mul_add, Nat.mul_one]
    have := Nat.mul_le_mul_left 8 h1.1
    omega
theorem Lay.shown {w : Nat} {d : PyData} (a : Lay w d) (hw : w ≤ 64) (hg : d.weight ≤ 2 ^ 20) : d.shown.length ≤ sizeLine := by
  refine Nat.le_trans (shown_le13 ?_ a.ish) (by decide)
  show (d.canLay0 && decide (d.depth ≤ 64) && decide (d.weight ≤ 2 ^ 20)) = true
  rw [a.can, decide_eq_true (Nat.le_trans a.dp hw), decide_eq_true hg]
  rfl
theorem shown_ties {rs : List (List Int)} (h : ∀ r ∈ rs, r.length ≤ 2 ∧ ∀ x ∈ r, 0 ≤ x ∧ x < 100) (hl : rs.length ≤ 10000) : (PyData.list (rs.map dI)).hasDict = false ∧ (PyData.list (rs.map dI)).showable = true ∧ (PyData.list (rs.map dI)).depth ≤ 8 ∧ (PyData.list (rs.map dI)).shown.length ≤ sizeLine := by
  have L : Lay 2 (.list (rs.map dI)) := (layR_rows fun r hr => (h r hr).2).lst
  refine ⟨L.hd, L.sh, Nat.le_trans L.dp (by decide), L.shown (by decide) ?_⟩
  have w := weight_rows (b := 2) h
  show PyData.weightAll (rs.map dI) ≤ 2 ^ 20
  have e : (2 : Nat) ^ 20 = 1048576 := by decide
  omega
theorem room_repr {k : Nat} {A : Around} (hr : Room k A) : A.units + (8 + 1) < cLine := by
  have := hr.un
  omega
end Fo

set_option maxRecDepth 100000
set_option maxHeartbeats 4000000
namespace Fo
open PySem PySem.Spec PyProof.Rows L2
abbrev s_law : Stmt := top 27
abbrev n_law : List Str := ["script", "tape", "rows", "other", "one", "two", "alike", "due", "told"]
theorem sc_law : FnScope n_law ["script"] (defScope s_law) := ⟨rfl, rfl, rfl, by decide +kernel, rfl, by decide +kernel, by decide +kernel⟩
theorem tie_small : ∀ (k : Int) (rows : List (List Int)), 0 ≤ k → k + rows.length ≤ 100 → (∀ r ∈ rows, ∀ x ∈ r, 0 ≤ x ∧ x < 100) → ∀ z ∈ tieFrom k rows, z.length ≤ 2 ∧ ∀ x ∈ z, 0 ≤ x ∧ x < 100
  | _, [], _, _, _, z, h => by cases h
  | k, r :: rs, h0, h1, h2, z, h => by
    have h1' : k + ((rs.length + 1 : Nat) : Int) ≤ 100 := h1
    rcases List.mem_append.mp (show z ∈ (r.map fun x => [k, x]) ++ tieFrom (k + 1) rs from h) with h | h
    · obtain ⟨y, hy, rfl⟩ := List.mem_map.mp h
      refine ⟨Nat.le_refl _, fun x hx => ?_⟩
      have := h2 r List.mem_cons_self y hy
      rcases List.mem_cons.mp hx with q | q
      · omega
      · rw [List.mem_singleton.mp q]; exact this
    · exact tie_small (k + 1) rs (by omega) (by omega) (fun q hq => h2 q (List.mem_cons_of_mem _ hq)) z h
section
variable {P : Program} {w : World} {K : PySem.W.Frag} {mg : Str → Option Value} {base : Heap} {C : Addr}
def spLaw (K : PySem.W.Frag) : Sp := fun vs H Q _ => ∃ (a : Addr) (ns : List Int), vs = [.ref a] ∧ SqL K H a (ns.map V.int) ∧ ns.length ≤ 63 ∧ ∀ H', Q (.bl true) H'
theorem ok_law {f : Addr} {fd : FuncData} (F : Fun K "law" "law" s_law f fd) (T : Tx mg) (hmT : PySem.W.mroIn K C (.type "tuple") = some false) (hty : PySem.W.typeIn K (.ref C) = some (.type "type")) (G2 : MkT P w K mg base C 6 1 (spInit K C) (spEq2 K C))
    (G_law_tape : Dfn P w K mg base "_law_tape" ["script"] 1 (spTape K)) (G_law_rows : Dfn P w K mg base "_law_rows" ["tape", "most"] 4 (spRows K)) (G_law_near : Dfn P w K mg base "_law_near" ["tape", "rows"] 5 (spNear K)) (G_law_flag : Dfn P w K mg base "_law_flag" ["told", "due"] 1 spFlag)
    (G_law_ties : Dfn P w K mg base "_law_ties" ["rows"] 1 (spLawTies K)) (G_ties : Dfn P w K mg base "ties" ["table"] 1 (spTies K C)) (G_turned : Dfn P w K mg base "turned" ["table"] 9 (spTurned K C)) : FnG P w K mg base 10 f fd ["script"] (spLaw K) := by
  have tc := G2.tc
  have G_Table := G2.weak
  refine fun_okG F sc_law (fun vs H Q E h => ?_) (fun cdv A outer s H vs Q E hr hg h => ?_)
  · obtain ⟨a, ns, rfl, _⟩ := h
    rfl
  · obtain ⟨sa, ns, rfl, hS, hlen, k⟩ := h
    refine ⟨_, (pss_cons (ps_set (i := 1) sc_law.nd rfl (Or.inl rfl) (pe_d G_law_tape (hr.mono (by decide)) (pa_cons (pv 0) pa_nil)))
      (pss_cons (ps_set (i := 2) sc_law.nd rfl (Or.inl rfl) (pe_d G_law_rows (hr.mono (by decide)) (pa_cons (pv 1) (pa_cons pe_int pa_nil))))
      (pss_cons (ps_set (i := 3) sc_law.nd rfl (Or.inl rfl) (pe_d G_law_near (hr.mono (by decide)) (pa_cons (pv 1) (pa_cons (pv 2) pa_nil))))
      (pss_cons (ps_set (i := 4) sc_law.nd rfl (Or.inl rfl) (pe_makeTable G_Table (hr.mono (by decide)) (pv 2)))
      (pss_cons (ps_set (i := 5) sc_law.nd rfl (Or.inl rfl) (pe_makeTable G_Table (hr.mono (by decide)) (pv 3)))
      (pss_cons (ps_set (i := 6) sc_law.nd rfl (Or.inl rfl) (pe_cmpR (op_eqD hr.units) (pv 2) (pv 3) (nomark _)))
      (pss_cons (ps_if (PW.pt (pw_or (pt_not (pt_val (pe_d G_law_flag (hr.mono (by decide)) (pa_cons (pe_cmpR (op_eq_table G_Table (hr.mono (by decide))) (pv 4) (pv 5) (nomark _)) (pa_cons (pv 6) pa_nil))))) (pw_or (pt_not (pt_val (pe_d G_law_flag (hr.mono (by decide)) (pa_cons (pe_cmpR (op_eq_table G_Table (hr.mono (by decide))) (pv 5) (pv 4) (nomark _)) (pa_cons (pv 6) pa_nil))))) (pw_or1 (pt_not (pt_val (pe_d G_law_flag (hr.mono (by decide)) (pa_cons (pe_cmpR (op_ne_table G_Table (hr.mono (by decide))) (pv 4) (pv 5) (nomark _)) (pa_cons (pe_not (pv 6)) pa_nil))))))))) (pss_one (ps_ret pe_bl)) pss_nil)
      (pss_cons (ps_if (PW.pt (pw_or (pt_cmpR (op_eq2 G2 (hr.mono (by decide))) (pv 4) (pv 2) (nomark _)) (pw_or (pt_cmpR (op_eq2 G2 (hr.mono (by decide))) (pv 4) (pe_callTy c_list (by rfl) T.list (by decide +kernel) (pa_cons (pv 2) pa_nil)) (nomark _)) (pw_or (pt_cmpR (op_eqTR G2 hmT hty (hr.mono (by decide))) (pv 2) (pv 4) (nomark _)) (pw_or (pt_cmpR (op_eq2 G2 (hr.mono (by decide))) (pv 4) pe_str (nomark _)) (pw_or1 (pt_cmpR (op_eq2 G2 (hr.mono (by decide))) (pv 4) pe_int (nomark _)))))))) (pss_one (ps_ret pe_bl)) pss_nil)
      (pss_cons (ps_set (i := 7) sc_law.nd rfl (Or.inl rfl) (pe_d G_law_ties (hr.mono (by decide)) (pa_cons (pv 2) pa_nil)))
      (pss_cons (ps_set (i := 8) sc_law.nd rfl (Or.inl rfl) (pe_d G_ties (hr.mono (by decide)) (pa_cons (pv 4) pa_nil)))
      (pss_cons (ps_if (PW.pt (pw_or (pt_not (pt_val (pe_callB call_isi (by rfl) T.isinstance (by decide +kernel) (pa_cons (pv 8) (pa_cons (pe_bltn (v := V.ty "list") (by rfl) T.list (by decide +kernel) rfl) pa_nil))))) (pw_or1 (pt_cmpR op_ne (pe_callB (cr_repr (B := 8) hg (room_repr hr)) (by rfl) T.repr (by decide +kernel) (pa_cons (pv 8) pa_nil)) (pe_callB (cr_repr (B := 8) hg (room_repr hr)) (by rfl) T.repr (by decide +kernel) (pa_cons (pv 7) pa_nil)) (nomark _))))) (pss_one (ps_ret pe_bl)) pss_nil)
      (pss_cons (ps_expr (pe_bm PySem.F.plainAttrs_list PySem.F.slot_list_append PySem.F.type_list_append mt_append (pv 8) (pa_cons pe_non pa_nil)))
      (pss_cons (ps_if (PW.pt (pw_or (pt_cmpR (op_neD hr.units) (pe_d G_ties (hr.mono (by decide)) (pa_cons (pv 4) pa_nil)) (pv 7) (nomark _)) (pw_or (pt_cmpR (op_neD hr.units) (pe_fld (pv 4) rfl) (pv 2) (nomark _)) (pw_or1 (pt_cmpR (op_ne_table G_Table (hr.mono (by decide))) (pe_makeTable G_Table (hr.mono (by decide)) (pe_callTy c_tuple (by rfl) T.tuple (by decide +kernel) (pa_cons (pe_callTy c_list (by rfl) T.list (by decide +kernel) (pa_cons (pv 2) pa_nil)) pa_nil))) (pv 4) (nomark _)))))) (pss_one (ps_ret pe_bl)) pss_nil)
      (pss_one (ps_ret (pe_cmpR (op_eq_table G_Table (hr.mono (by decide))) (pe_d G_turned (hr.mono (by decide)) (pa_cons (pe_d G_turned (hr.mono (by decide)) (pa_cons (pv 4) pa_nil)) pa_nil)) (pv 4) (nomark _))))))))))))))))), ?_⟩
    refine ⟨_, rfl, sa, ns, rfl, hS, fun t l H1 s1 _ _ T1 => ?_⟩
    refine ⟨_, rfl, t, l, 7, rfl, T1, by decide, by decide, fun rv rows H2 G hl7 g2 T2 R2 => ?_⟩
    have hl : rows.length ≤ 7 := by omega
    refine ⟨_, rfl, _, rfl, t, l, rv, rows, rfl, T2, G, by omega, R2, fun ov orows H3 G' hl' g3 T3 O3 => ?_⟩
    have R3 := R2.gr g3 T2
    refine ⟨_, rfl, rows, G, by omega, R3, fun p1 d1 H4 s4 _ h1 => ?_⟩
    have O4 := O3.same s4
    refine ⟨_, rfl, orows, G', hl', O4, fun p2 d2 H5 s5 _ h2 => ?_⟩
    have s35 := s4.trans s5
    have R5 := R3.same s35
    have O5 := O4.same s5
    have t1 : TableAt K C H5 (.ref p1) rows := ⟨p1, d1, rv, rfl, s5 _ _ h1, R5⟩
    have t2 : TableAt K C H5 (.ref p2) orows := ⟨p2, d2, ov, rfl, h2, O5⟩
    refine ⟨_, rfl, _, rfl, dR rows, dR orows, R5.dp, O5.dp, sh_R _, sh_R _, ?_⟩
    rw [eqv_R]
    -- alike or not
    refine ⟨_, rfl, _, rfl, rows, orows, t1, t2, fun H6 s6 => ⟨_, rfl, _, _, rfl, _, rfl, ?_⟩⟩
    have dd : decide (decide (rows = orows) = decide (rows = orows)) = true := decide_eq_true rfl
    rw [dd]
    refine ⟨_, rfl, _, rfl, orows, rows, t2.same s6, t1.same s6, fun H7 s7 => ⟨_, rfl, _, _, rfl, _, rfl, ?_⟩⟩
    have dd2 : decide (decide (orows = rows) = decide (rows = orows)) = true := decide_eq_true (decide_eq_decide.mpr ⟨Eq.symm, Eq.symm⟩)
    rw [dd2]
    have s57 := s6.trans s7
    refine ⟨_, rfl, _, rfl, rows, orows, t1.same s57, t2.same s57, fun H8 s8 => ⟨_, rfl, _, rfl, _, _, rfl, _, rfl, ?_⟩⟩
    have dd3 : decide ((!decide (rows = orows)) = (!decide (rows = orows))) = true := decide_eq_true rfl
    rw [dd3]
    have s58 := s57.trans s8
    have t18 := t1.same s58
    have R8 := R5.same s58
    obtain ⟨ra, rvs, rfl, hra, hrt⟩ := id R8
    -- equal to nothing of another kind
    refine ⟨_, rfl, _, rfl, rows, t18, .inr ⟨.type "tuple", tyX_sqT hra, Oth.built hty tc.hm rfl, fun H9 s9 => ⟨_, rfl, ?_⟩⟩⟩
    refine ⟨_, rfl, _, rfl, ra, _, rfl, .inr (sqT_same s9 hra), fun q hq => ?_⟩
    have s8a := s9.trans (same_new (o := .lst rvs) hq)
    refine ⟨rows, t18.same s8a, .inr ⟨.type "list", .base (.lst upd_same), Oth.built hty tc.hm rfl, fun H10 s10 => ⟨_, rfl, ?_⟩⟩⟩
    have s810 := s8a.trans s10
    refine ⟨_, rfl, _, rfl, ra, rvs, rows, rfl, sqT_same s810 hra, t18.same s810, fun H11 s11 => ⟨_, rfl, ?_⟩⟩
    have s811 := s810.trans s11
    refine ⟨_, rfl, rows, t18.same s811, .inr ⟨.type "str", .base (.str _), Oth.built hty tc.hm rfl, fun H12 s12 => ⟨_, rfl, ?_⟩⟩⟩
    have s812 := s811.trans s12
    refine ⟨_, rfl, rows, t18.same s812, .inr ⟨.type "int", .base (.int _), Oth.built hty tc.hm rfl, fun H13 s13 => ⟨_, rfl, ?_⟩⟩⟩
    have s813 := s812.trans s13
    -- the ties
    have rl6 : ∀ r ∈ rows, r.length ≤ 7 := fun r hr => by have := row_len (G.asc r hr) (G.rng r hr); omega
    have rl100 : ∀ r ∈ rows, r.length ≤ 100 := fun r hr => by have := rl6 r hr; omega
    have tl : (tieRows rows).length ≤ 10000 := by
      have h2 := tie_len (b := 7) 0 rows rl6
      have h3 : rows.length * 7 ≤ 7 * 7 := Nat.mul_le_mul_right 7 hl
      show (tieFrom 0 rows).length ≤ 10000
      omega
    obtain ⟨w1, w2, w3, w4⟩ := shown_ties (rs := tieRows rows) (tie_small 0 rows (by omega) (by omega) fun r hr x hx => by have := G.rng r hr x hx; omega) tl
    refine ⟨_, rfl, .ref ra, rows, rfl, R8.same s813, by omega, rl100, fun dp dvs H14 s14 hdn hd hdr => ?_⟩
    have s814 := s813.trans s14
    refine ⟨_, rfl, .ref p1, rows, rfl, t18.same s814, by omega, rl100, fun tp tvs H15 s15 htn ht htr => ?_⟩
    have hd15 := s15 _ _ hd
    have hdr15 := hdr.same s15
    have s815 := s814.trans s15
    refine ⟨_, rfl, _, .ty "list", .type "list", .type "list", true, rfl, .ty "list", .base (.lst ht), kit_ty (by decide +kernel), _, rfl, ?_⟩
    refine ⟨_, rfl, tp, .list ((tieRows rows).map dI), rfl, dp_L ht htr, w1, w2, w3, w4, _, rfl, dp, .list ((tieRows rows).map dI), rfl, dp_L hd15 hdr15, w1, w2, w3, w4, rfl, _, rfl, ?_⟩
    have de : decide (V.str (PyData.list ((tieRows rows).map dI)).shown = V.str (PyData.list ((tieRows rows).map dI)).shown) = true := decide_eq_true rfl
    rw [de]
    -- told.append(None)
    refine ⟨_, rfl, .inl ⟨rfl, _, SqL.of ht⟩, tp, tvs, .non, rfl, rfl, ht, small_lt (by rw [htr.len]; omega), ?_⟩
    have s816 : Same H8 (upd H15 tp (.lst (tvs ++ [V.non]))) := same_mut s815 (s814.free htn)
    have ndt : dp ≠ tp := ne_of_none hd htn
    have hd16 : (upd H15 tp (.lst (tvs ++ [V.non]))) dp = some (.lst dvs) := by rw [upd_ne ndt]; exact hd15
    have hdr16 : RowsT K (upd H15 tp (.lst (tvs ++ [V.non]))) dvs (tieRows rows) := hdr15.put ht
    generalize (upd H15 tp (.lst (tvs ++ [V.non]))) = H16 at s816 hd16 hdr16
    refine ⟨_, rfl, .ref p1, rows, rfl, t18.same s816, by omega, rl100, fun t2p t2vs H17 s17 _ ht2 htr2 => ?_⟩
    refine ⟨_, rfl, .list ((tieRows rows).map dI), .list ((tieRows rows).map dI), dp_L ht2 htr2, dp_L (s17 _ _ hd16) (hdr16.same s17), sh_L _, sh_L _, _, rfl, ?_⟩
    rw [eqv_L, decide_eq_true rfl]
    have s817 := s816.trans s17
    obtain ⟨p1', d1', v1, e1, hp1, hR1⟩ := t18.same s817
    injection e1 with e1
    subst e1
    refine ⟨_, rfl, p1, C, d1', _, v1, rfl, hp1, tc.cl, tc.nR, tf_rows _ _, _, rfl, dR rows, dR rows, hR1.dp, (R8.same s817).dp, sh_R _, sh_R _, _, rfl, ?_⟩
    rw [eqv_R, decide_eq_true rfl]
    -- Table(tuple(list(rows))) != one
    refine ⟨_, rfl, ra, _, rfl, .inr (sqT_same s817 hra), fun c hc => ⟨c, _, rfl, .inl ⟨SqL.of upd_same, fun e he => ?_⟩⟩⟩
    have s819 := (s817.trans (same_new (o := .lst rvs) hc)).trans (same_new (o := .tup rvs) he)
    refine ⟨rows, G, by omega, ⟨e, rvs, rfl, SqT.of upd_same, hrt.same s819⟩, fun p3 d3 H20 s20 _ h3 => ?_⟩
    have s820 := s819.trans s20
    refine ⟨_, rfl, rows, rows, ⟨p3, d3, .ref e, rfl, h3, e, rvs, rfl, sqT_same s20 (SqT.of upd_same), hrt.same s820⟩, t18.same s820, fun H21 s21 => ⟨_, rfl, ?_⟩⟩
    rw [decide_eq_true rfl]
    have s821 := s820.trans s21
    -- turned there and back
    refine ⟨_, rfl, .ref p1, rows, rfl, t18.same s821, by omega, fun q1 H22 s22 _ u1 => ?_⟩
    refine ⟨.ref q1, turnRows rows, rfl, u1, by rw [turn_len]; omega, fun q2 H23 s23 _ u2 => ?_⟩
    rw [turn_turn G] at u2
    have s823 := (s821.trans s22).trans s23
    refine ⟨_, rfl, rows, rows, u2, t18.same s823, fun H24 s24 => ?_⟩
    rw [decide_eq_true rfl]
    exact k H24
theorem compose {fa fI fE : Addr} {fd fdI fdE : FuncData} {tk : Tok} (T : Tx mg) (tc : TC K C) (hmT : PySem.W.mroIn K C (.type "tuple") = some false) (hty : PySem.W.typeIn K (.ref C) = some (.type "type")) (hC : mg "Table" = some (.ref C)) (hMR : mg "MOST_ROWS" = some (.int 12 tk)) (mI : Mk K C fI) (FI : Fun K "__init__" "Table.__init__" s_Table___init fI fdI)
    (qe : PySem.W.findIn K (.ref C) "__eq__" = some (some (.ref fE))) (ie : PySem.W.isFn K (.ref fE) = true) (FE : Fun K "__eq__" "Table.__eq__" s_Table___eq fE fdE)
    (A1 : At K mg "is_integer" s_is_integer ["thing"]) (A2 : At K mg "is_number" s_is_number ["bound", "thing"]) (A3 : At K mg "is_numbers" s_is_numbers ["bound", "thing"]) (A4 : At K mg "is_ascending" s_is_ascending ["bound", "thing"]) (A5 : At K mg "_check_rows" s_check_rows ["rows"])
    (A6 : At K mg "table_of" s_table_of ["rows"]) (A7 : At K mg "ties" s_ties ["table"]) (A8 : At K mg "takers" s_takers ["table", "thing"]) (A9 : At K mg "turned" s_turned ["table"])
    (B1 : At K mg "_law_tape" s_law_tape ["script"]) (B2 : At K mg "_law_pick" s_law_pick ["tape", "size"]) (B3 : At K mg "_law_order" s_law_order ["tape", "many"]) (B4 : At K mg "_law_loose" s_law_loose ["tape", "many"]) (B5 : At K mg "_law_moved" s_law_moved ["tape", "rows"]) (B6 : At K mg "_law_blocks" s_law_blocks ["tape", "most"]) (B7 : At K mg "_law_rows" s_law_rows ["tape", "most"])
    (D1 : At K mg "_law_flag" s_law_flag ["told", "due"]) (D2 : At K mg "_law_ties" s_law_ties ["rows"]) (D3 : At K mg "_law_near" s_law_near ["tape", "rows"])
    (F : Fun K "law" "law" s_law fa fd) : FnG P w K mg base 10 fa fd ["script"] (spLaw K) := by
  have G1 : Dfn P w K mg base _ _ 1 _ := ok_is_integer A1 T tc
  have G2 := ok_is_number A2 T G1
  have G3 := ok_is_numbers A3 T G2
  have G4 := ok_is_ascending A4 T G3
  have G5 := ok_check A5 T hMR G4
  have GT : MkT P w K mg base C 6 1 (spInit K C) (spEq2 K C) := ⟨hC, tc, ⟨fI, fdI, mI, ok_init FI T tc G5, FI.binds fun _ _ _ _ _ _ us hl => match us, hl with | [_, _], _ => rfl⟩, ⟨fE, fdE, ok_eq2 FE T tc hC, FE.binds fun _ _ _ _ _ _ us hl => match us, hl with | [_, _], _ => rfl, qe, ie⟩⟩
  have G6 := ok_table_of A6 T GT
  have G7 : Dfn P w K mg base _ _ 1 _ := ok_ties A7 T tc
  have G8 : Dfn P w K mg base _ _ 1 _ := ok_takers A8 T tc
  have L1 : Dfn P w K mg base _ _ 1 _ := ok_tape B1 T
  have L2' : Dfn P w K mg base _ _ 1 _ := ok_pick B2 T
  have L3 := ok_order B3 T L2'
  have L4 := ok_rows B7 T L2' (ok_moved B5 T L3) (ok_blocks B6 T L2') (ok_loose B4 T L2' L3)
  exact ok_law F T hmT hty GT L1 L4 (ok_near D3 T L2' L4) (ok_flag D1 T) (ok_law_ties D2 T) G7 (ok_turned A9 T tc G8 G6)
end
end Fo

set_option maxRecDepth 100000
set_option maxHeartbeats 4000000
namespace Fo
open PySem PySem.Spec PyProof.Rows L2
theorem kit_own {K : PySem.W.Frag} {C : Addr} {T : String} {b : Bool} (hm : PySem.W.kitMeta T = true) (h : PySem.W.mroIn K C (.type T) = some b) : PySem.W.kitOne K (.ref C) (.type T) = some b := by
  have e : (Value.ref C == Value.type T) = false := by
    rw [beq_eq_false_iff_ne]
    intro q
    cases q
  show (if (Value.ref C == Value.type T) = true then some true else if PySem.W.kitMeta T = true then PySem.W.mroIn K C (.type T) else none) = some b
  rw [e, if_neg (by decide), if_pos hm, h]
theorem at_mk {K : PySem.W.Frag} {h : Heap} {mg : Str → Option Value} (X : K.In h) (G : h.Ns mainGlobals mg) {x : Str} {st : Stmt} {ps : List Str} {f : Addr} {oc : Value} {od an : Option Addr} {sl : Array (Option Value)} {kV dc pm cd ct : Value}
    (a : PySem.W.nsIn K mainGlobals x = some (some (.ref f))) (l : K.lookup f = some ⟨oc, od, .func (PySem.W.fnOf x x (defArgs st) (defBody st) (defScope st) .none kV dc pm an cd ct), sl⟩) (c : PySem.W.codeIn K cd x = true) (k : PySem.W.keepIn K (.ref f) = true)
    (b : ∀ (kV doc pm : Value) (an : Option Addr) (cdv ct : Value) (us : List Value), us.length = ps.length → bindArgs (PySem.W.fnOf x x (defArgs st) (defBody st) (defScope st) Value.none kV doc pm an cdv ct) { pos := us } = pure (ps.zip us)) : At K mg x st ps :=
  ⟨f, _, PySem.W.mg_of X G a, fun_mk (st := st) l c k, (fun_mk (st := st) l c k).binds b⟩
theorem all_mk {l : PySem.W.OpenLaw} {w : World} {K : PySem.W.Frag} {h : Heap} {mg : Str → Option Value} {fa C : Addr} {tk : Tok} (X : K.In h) (G : h.Ns mainGlobals mg) (hfa : mg "law" = some (.ref fa))
    {f1 : Addr} {od1 an1 : Option Addr} {sl1 : Array (Option Value)} {oc1 kV1 dc1 pm1 cd1 ct1 : Value}
    {f2 : Addr} {od2 an2 : Option Addr} {sl2 : Array (Option Value)} {oc2 kV2 dc2 pm2 cd2 ct2 : Value}
    {f3 : Addr} {od3 an3 : Option Addr} {sl3 : Array (Option Value)} {oc3 kV3 dc3 pm3 cd3 ct3 : Value}
    {f4 : Addr} {od4 an4 : Option Addr} {sl4 : Array (Option Value)} {oc4 kV4 dc4 pm4 cd4 ct4 : Value}
    {f5 : Addr} {od5 an5 : Option Addr} {sl5 : Array (Option Value)} {oc5 kV5 dc5 pm5 cd5 ct5 : Value}
    {f6 : Addr} {od6 an6 : Option Addr} {sl6 : Array (Option Value)} {oc6 kV6 dc6 pm6 cd6 ct6 : Value}
    {f7 : Addr} {od7 an7 : Option Addr} {sl7 : Array (Option Value)} {oc7 kV7 dc7 pm7 cd7 ct7 : Value}
    {f8 : Addr} {od8 an8 : Option Addr} {sl8 : Array (Option Value)} {oc8 kV8 dc8 pm8 cd8 ct8 : Value}
    {f9 : Addr} {od9 an9 : Option Addr} {sl9 : Array (Option Value)} {oc9 kV9 dc9 pm9 cd9 ct9 : Value}
    {f10 : Addr} {od10 an10 : Option Addr} {sl10 : Array (Option Value)} {oc10 kV10 dc10 pm10 cd10 ct10 : Value}
    {f11 : Addr} {od11 an11 : Option Addr} {sl11 : Array (Option Value)} {oc11 kV11 dc11 pm11 cd11 ct11 : Value}
    {f12 : Addr} {od12 an12 : Option Addr} {sl12 : Array (Option Value)} {oc12 kV12 dc12 pm12 cd12 ct12 : Value}
    {f13 : Addr} {od13 an13 : Option Addr} {sl13 : Array (Option Value)} {oc13 kV13 dc13 pm13 cd13 ct13 : Value}
    {f14 : Addr} {od14 an14 : Option Addr} {sl14 : Array (Option Value)} {oc14 kV14 dc14 pm14 cd14 ct14 : Value}
    {f15 : Addr} {od15 an15 : Option Addr} {sl15 : Array (Option Value)} {oc15 kV15 dc15 pm15 cd15 ct15 : Value}
    {f16 : Addr} {od16 an16 : Option Addr} {sl16 : Array (Option Value)} {oc16 kV16 dc16 pm16 cd16 ct16 : Value}
    {f17 : Addr} {od17 an17 : Option Addr} {sl17 : Array (Option Value)} {oc17 kV17 dc17 pm17 cd17 ct17 : Value}
    {f18 : Addr} {od18 an18 : Option Addr} {sl18 : Array (Option Value)} {oc18 kV18 dc18 pm18 cd18 ct18 : Value}
    {f19 : Addr} {od19 an19 : Option Addr} {sl19 : Array (Option Value)} {oc19 kV19 dc19 pm19 cd19 ct19 : Value}
    {f20 : Addr} {od20 an20 : Option Addr} {sl20 : Array (Option Value)} {oc20 kV20 dc20 pm20 cd20 ct20 : Value}
    {f21 : Addr} {od21 an21 : Option Addr} {sl21 : Array (Option Value)} {oc21 kV21 dc21 pm21 cd21 ct21 : Value}
    {f22 : Addr} {od22 an22 : Option Addr} {sl22 : Array (Option Value)} {oc22 kV22 dc22 pm22 cd22 ct22 : Value}
    (aC : PySem.W.nsIn K mainGlobals "Table" = some (some (.ref C)))
    (aI : PySem.W.findIn K (.ref C) "__init__" = some (some (.ref f1)))
    (iI : PySem.W.isFn K (.ref f1) = true)
    (l1 : K.lookup f1 = some ⟨oc1, od1, .func (PySem.W.fnOf "__init__" "Table.__init__" (defArgs s_Table___init) (defBody s_Table___init) (defScope s_Table___init) .none kV1 dc1 pm1 an1 cd1 ct1), sl1⟩)
    (c1 : PySem.W.codeIn K cd1 "Table.__init__" = true)
    (k1 : PySem.W.keepIn K (.ref f1) = true)
    (aE : PySem.W.findIn K (.ref C) "__eq__" = some (some (.ref f2)))
    (iE : PySem.W.isFn K (.ref f2) = true)
    (l2 : K.lookup f2 = some ⟨oc2, od2, .func (PySem.W.fnOf "__eq__" "Table.__eq__" (defArgs s_Table___eq) (defBody s_Table___eq) (defScope s_Table___eq) .none kV2 dc2 pm2 an2 cd2 ct2), sl2⟩)
    (c2 : PySem.W.codeIn K cd2 "Table.__eq__" = true)
    (k2 : PySem.W.keepIn K (.ref f2) = true)
    (aL : PySem.W.nsIn K mainGlobals "law" = some (some (.ref f3)))
    (l3 : K.lookup f3 = some ⟨oc3, od3, .func (PySem.W.fnOf "law" "law" (defArgs s_law) (defBody s_law) (defScope s_law) .none kV3 dc3 pm3 an3 cd3 ct3), sl3⟩)
    (c3 : PySem.W.codeIn K cd3 "law" = true)
    (k3 : PySem.W.keepIn K (.ref f3) = true)
    (a4 : PySem.W.nsIn K mainGlobals "is_integer" = some (some (.ref f4)))
    (l4 : K.lookup f4 = some ⟨oc4, od4, .func (PySem.W.fnOf "is_integer" "is_integer" (defArgs s_is_integer) (defBody s_is_integer) (defScope s_is_integer) .none kV4 dc4 pm4 an4 cd4 ct4), sl4⟩)
    (c4 : PySem.W.codeIn K cd4 "is_integer" = true)
    (k4 : PySem.W.keepIn K (.ref f4) = true)
    (a5 : PySem.W.nsIn K mainGlobals "is_number" = some (some (.ref f5)))
    (l5 : K.lookup f5 = some ⟨oc5, od5, .func (PySem.W.fnOf "is_number" "is_number" (defArgs s_is_number) (defBody s_is_number) (defScope s_is_number) .none kV5 dc5 pm5 an5 cd5 ct5), sl5⟩)
    (c5 : PySem.W.codeIn K cd5 "is_number" = true)
    (k5 : PySem.W.keepIn K (.ref f5) = true)
    (a6 : PySem.W.nsIn K mainGlobals "is_numbers" = some (some (.ref f6)))
    (l6 : K.lookup f6 = some ⟨oc6, od6, .func (PySem.W.fnOf "is_numbers" "is_numbers" (defArgs s_is_numbers) (defBody s_is_numbers) (defScope s_is_numbers) .none kV6 dc6 pm6 an6 cd6 ct6), sl6⟩)
    (c6 : PySem.W.codeIn K cd6 "is_numbers" = true)
    (k6 : PySem.W.keepIn K (.ref f6) = true)
    (a7 : PySem.W.nsIn K mainGlobals "is_ascending" = some (some (.ref f7)))
    (l7 : K.lookup f7 = some ⟨oc7, od7, .func (PySem.W.fnOf "is_ascending" "is_ascending" (defArgs s_is_ascending) (defBody s_is_ascending) (defScope s_is_ascending) .none kV7 dc7 pm7 an7 cd7 ct7), sl7⟩)
    (c7 : PySem.W.codeIn K cd7 "is_ascending" = true)
    (k7 : PySem.W.keepIn K (.ref f7) = true)
    (a8 : PySem.W.nsIn K mainGlobals "_check_rows" = some (some (.ref f8)))
    (l8 : K.lookup f8 = some ⟨oc8, od8, .func (PySem.W.fnOf "_check_rows" "_check_rows" (defArgs s_check_rows) (defBody s_check_rows) (defScope s_check_rows) .none kV8 dc8 pm8 an8 cd8 ct8), sl8⟩)
    (c8 : PySem.W.codeIn K cd8 "_check_rows" = true)
    (k8 : PySem.W.keepIn K (.ref f8) = true)
    (a9 : PySem.W.nsIn K mainGlobals "table_of" = some (some (.ref f9)))
    (l9 : K.lookup f9 = some ⟨oc9, od9, .func (PySem.W.fnOf "table_of" "table_of" (defArgs s_table_of) (defBody s_table_of) (defScope s_table_of) .none kV9 dc9 pm9 an9 cd9 ct9), sl9⟩)
    (c9 : PySem.W.codeIn K cd9 "table_of" = true)
    (k9 : PySem.W.keepIn K (.ref f9) = true)
    (a10 : PySem.W.nsIn K mainGlobals "ties" = some (some (.ref f10)))
    (l10 : K.lookup f10 = some ⟨oc10, od10, .func (PySem.W.fnOf "ties" "ties" (defArgs s_ties) (defBody s_ties) (defScope s_ties) .none kV10 dc10 pm10 an10 cd10 ct10), sl10⟩)
    (c10 : PySem.W.codeIn K cd10 "ties" = true)
    (k10 : PySem.W.keepIn K (.ref f10) = true)
    (a11 : PySem.W.nsIn K mainGlobals "takers" = some (some (.ref f11)))
    (l11 : K.lookup f11 = some ⟨oc11, od11, .func (PySem.W.fnOf "takers" "takers" (defArgs s_takers) (defBody s_takers) (defScope s_takers) .none kV11 dc11 pm11 an11 cd11 ct11), sl11⟩)
    (c11 : PySem.W.codeIn K cd11 "takers" = true)
    (k11 : PySem.W.keepIn K (.ref f11) = true)
    (a12 : PySem.W.nsIn K mainGlobals "turned" = some (some (.ref f12)))
    (l12 : K.lookup f12 = some ⟨oc12, od12, .func (PySem.W.fnOf "turned" "turned" (defArgs s_turned) (defBody s_turned) (defScope s_turned) .none kV12 dc12 pm12 an12 cd12 ct12), sl12⟩)
    (c12 : PySem.W.codeIn K cd12 "turned" = true)
    (k12 : PySem.W.keepIn K (.ref f12) = true)
    (a13 : PySem.W.nsIn K mainGlobals "_law_tape" = some (some (.ref f13)))
    (l13 : K.lookup f13 = some ⟨oc13, od13, .func (PySem.W.fnOf "_law_tape" "_law_tape" (defArgs s_law_tape) (defBody s_law_tape) (defScope s_law_tape) .none kV13 dc13 pm13 an13 cd13 ct13), sl13⟩)
    (c13 : PySem.W.codeIn K cd13 "_law_tape" = true)
    (k13 : PySem.W.keepIn K (.ref f13) = true)
    (a14 : PySem.W.nsIn K mainGlobals "_law_pick" = some (some (.ref f14)))
    (l14 : K.lookup f14 = some ⟨oc14, od14, .func (PySem.W.fnOf "_law_pick" "_law_pick" (defArgs s_law_pick) (defBody s_law_pick) (defScope s_law_pick) .none kV14 dc14 pm14 an14 cd14 ct14), sl14⟩)
    (c14 : PySem.W.codeIn K cd14 "_law_pick" = true)
    (k14 : PySem.W.keepIn K (.ref f14) = true)
    (a15 : PySem.W.nsIn K mainGlobals "_law_order" = some (some (.ref f15)))
    (l15 : K.lookup f15 = some ⟨oc15, od15, .func (PySem.W.fnOf "_law_order" "_law_order" (defArgs s_law_order) (defBody s_law_order) (defScope s_law_order) .none kV15 dc15 pm15 an15 cd15 ct15), sl15⟩)
    (c15 : PySem.W.codeIn K cd15 "_law_order" = true)
    (k15 : PySem.W.keepIn K (.ref f15) = true)
    (a16 : PySem.W.nsIn K mainGlobals "_law_loose" = some (some (.ref f16)))
    (l16 : K.lookup f16 = some ⟨oc16, od16, .func (PySem.W.fnOf "_law_loose" "_law_loose" (defArgs s_law_loose) (defBody s_law_loose) (defScope s_law_loose) .none kV16 dc16 pm16 an16 cd16 ct16), sl16⟩)
    (c16 : PySem.W.codeIn K cd16 "_law_loose" = true)
    (k16 : PySem.W.keepIn K (.ref f16) = true)
    (a17 : PySem.W.nsIn K mainGlobals "_law_moved" = some (some (.ref f17)))
    (l17 : K.lookup f17 = some ⟨oc17, od17, .func (PySem.W.fnOf "_law_moved" "_law_moved" (defArgs s_law_moved) (defBody s_law_moved) (defScope s_law_moved) .none kV17 dc17 pm17 an17 cd17 ct17), sl17⟩)
    (c17 : PySem.W.codeIn K cd17 "_law_moved" = true)
    (k17 : PySem.W.keepIn K (.ref f17) = true)
    (a18 : PySem.W.nsIn K mainGlobals "_law_blocks" = some (some (.ref f18)))
    (l18 : K.lookup f18 = some ⟨oc18, od18, .func (PySem.W.fnOf "_law_blocks" "_law_blocks" (defArgs s_law_blocks) (defBody s_law_blocks) (defScope s_law_blocks) .none kV18 dc18 pm18 an18 cd18 ct18), sl18⟩)
    (c18 : PySem.W.codeIn K cd18 "_law_blocks" = true)
    (k18 : PySem.W.keepIn K (.ref f18) = true)
    (a19 : PySem.W.nsIn K mainGlobals "_law_rows" = some (some (.ref f19)))
    (l19 : K.lookup f19 = some ⟨oc19, od19, .func (PySem.W.fnOf "_law_rows" "_law_rows" (defArgs s_law_rows) (defBody s_law_rows) (defScope s_law_rows) .none kV19 dc19 pm19 an19 cd19 ct19), sl19⟩)
    (c19 : PySem.W.codeIn K cd19 "_law_rows" = true)
    (k19 : PySem.W.keepIn K (.ref f19) = true)
    (a20 : PySem.W.nsIn K mainGlobals "_law_flag" = some (some (.ref f20)))
    (l20 : K.lookup f20 = some ⟨oc20, od20, .func (PySem.W.fnOf "_law_flag" "_law_flag" (defArgs s_law_flag) (defBody s_law_flag) (defScope s_law_flag) .none kV20 dc20 pm20 an20 cd20 ct20), sl20⟩)
    (c20 : PySem.W.codeIn K cd20 "_law_flag" = true)
    (k20 : PySem.W.keepIn K (.ref f20) = true)
    (a21 : PySem.W.nsIn K mainGlobals "_law_ties" = some (some (.ref f21)))
    (l21 : K.lookup f21 = some ⟨oc21, od21, .func (PySem.W.fnOf "_law_ties" "_law_ties" (defArgs s_law_ties) (defBody s_law_ties) (defScope s_law_ties) .none kV21 dc21 pm21 an21 cd21 ct21), sl21⟩)
    (c21 : PySem.W.codeIn K cd21 "_law_ties" = true)
    (k21 : PySem.W.keepIn K (.ref f21) = true)
    (a22 : PySem.W.nsIn K mainGlobals "_law_near" = some (some (.ref f22)))
    (l22 : K.lookup f22 = some ⟨oc22, od22, .func (PySem.W.fnOf "_law_near" "_law_near" (defArgs s_law_near) (defBody s_law_near) (defScope s_law_near) .none kV22 dc22 pm22 an22 cd22 ct22), sl22⟩)
    (c22 : PySem.W.codeIn K cd22 "_law_near" = true)
    (k22 : PySem.W.keepIn K (.ref f22) = true)
    (pg : PySem.W.plainGet K C Str.empty = true)
    (hd : PySem.W.hasDictIn K C = true)
    (po : PySem.W.plainOver K C = true)
    (sa : PySem.W.findIn K (.ref C) "__setattr__" = some (some (.builtin "object.__setattr__")))
    (mk : PySem.W.makesIn K C = true)
    (kc : PySem.W.keepIn K (.ref C) = true)
    (tha : PySem.W.findIn K (.ref C) "__class__" = some (some (.builtin "object.__class__")))
    (thn : PySem.W.specialIn K (.builtin "object.__class__") "__get__" = some (some (.builtin "getset_descriptor.__get__")))
    (thk : PySem.W.takesIn K (.builtin "object.__class__") = some true)
    (thm : PySem.W.mroIn K C (.type "object") = some true)
    (tne : PySem.W.findIn K (.ref C) "__ne__" = some (some (.builtin "object.__ne__")))
    (n_rows : PySem.W.findIn K (.ref C) "rows" = some none)
    (n_size : PySem.W.findIn K (.ref C) "size" = some none)
    (kI : PySem.W.mroIn K C (.type "int") = some false)
    (kB : PySem.W.mroIn K C (.type "bool") = some false)
    (kT : PySem.W.mroIn K C (.type "tuple") = some false)
    (kS : PySem.W.mroIn K C (.type "str") = some false)
    (kL : PySem.W.mroIn K C (.type "list") = some false)
    (tty : PySem.W.typeIn K (.ref C) = some (.type "type"))
    (mr : PySem.W.nsIn K mainGlobals "MOST_ROWS" = some (some (.int 12 tk)))
    (z_len : PySem.W.nsIn K mainGlobals "len" = some none)
    (z_list : PySem.W.nsIn K mainGlobals "list" = some none)
    (z_range : PySem.W.nsIn K mainGlobals "range" = some none)
    (z_tuple : PySem.W.nsIn K mainGlobals "tuple" = some none)
    (z_sorted : PySem.W.nsIn K mainGlobals "sorted" = some none)
    (z_int : PySem.W.nsIn K mainGlobals "int" = some none)
    (z_min : PySem.W.nsIn K mainGlobals "min" = some none)
    (z_isinstance : PySem.W.nsIn K mainGlobals "isinstance" = some none)
    (z_all : PySem.W.nsIn K mainGlobals "all" = some none)
    (z_enumerate : PySem.W.nsIn K mainGlobals "enumerate" = some none)
    (z_zip : PySem.W.nsIn K mainGlobals "zip" = some none)
    (z_set : PySem.W.nsIn K mainGlobals "set" = some none)
    (z_repr : PySem.W.nsIn K mainGlobals "repr" = some none)
    (z_str : PySem.W.nsIn K mainGlobals "str" = some none)
    (z_bool : PySem.W.nsIn K mainGlobals "bool" = some none) :
    ∃ fd : FuncData, (∀ (s : Shared) (v : Value), BindsTo s fd ⟨[v], []⟩ [("script", v)]) ∧ ∀ base : Heap, K.In base → base.Ns mainGlobals mg → FnG l.prog w K mg base 10 fa fd ["script"] (spLaw K) := by
  have e := hfa.symm.trans (PySem.W.mg_of X G aL)
  cases e
  have T : Tx mg := ⟨PySem.W.mg_none_of X G z_len, PySem.W.mg_none_of X G z_list, PySem.W.mg_none_of X G z_range, PySem.W.mg_none_of X G z_tuple, PySem.W.mg_none_of X G z_sorted, PySem.W.mg_none_of X G z_int, PySem.W.mg_none_of X G z_min, PySem.W.mg_none_of X G z_isinstance, PySem.W.mg_none_of X G z_all, PySem.W.mg_none_of X G z_enumerate, PySem.W.mg_none_of X G z_zip, PySem.W.mg_none_of X G z_set, PySem.W.mg_none_of X G z_repr, PySem.W.mg_none_of X G z_str, PySem.W.mg_none_of X G z_bool⟩
  have tc : TC K C := ⟨⟨pg, hd, po, sa⟩, tha, thn, thk, thm, tne, n_rows, n_size, kit_own (by decide +kernel) kI, kit_own (by decide +kernel) kB, kit_own (by decide +kernel) kT, kit_own (by decide +kernel) kS, kit_own (by decide +kernel) kL⟩
  exact ⟨PySem.W.fnOf "law" "law" (defArgs s_law) (defBody s_law) (defScope s_law) .none kV3 dc3 pm3 an3 cd3 ct3, fun s v => .of_eq rfl, fun base _ _ =>
    compose T tc kT tty (PySem.W.mg_of X G aC) (PySem.W.mg_of X G mr) ⟨mk, aI, iI, kc⟩ (fun_mk (st := s_Table___init) l1 c1 k1) aE iE (fun_mk (st := s_Table___eq) l2 c2 k2)
      (at_mk (ps := ["thing"]) X G a4 l4 c4 k4 fun _ _ _ _ _ _ us hl => match us, hl with | [_], _ => rfl)
      (at_mk (ps := ["bound", "thing"]) X G a5 l5 c5 k5 fun _ _ _ _ _ _ us hl => match us, hl with | [_, _], _ => rfl)
      (at_mk (ps := ["bound", "thing"]) X G a6 l6 c6 k6 fun _ _ _ _ _ _ us hl => match us, hl with | [_, _], _ => rfl)
      (at_mk (ps := ["bound", "thing"]) X G a7 l7 c7 k7 fun _ _ _ _ _ _ us hl => match us, hl with | [_, _], _ => rfl)
      (at_mk (ps := ["rows"]) X G a8 l8 c8 k8 fun _ _ _ _ _ _ us hl => match us, hl with | [_], _ => rfl)
      (at_mk (ps := ["rows"]) X G a9 l9 c9 k9 fun _ _ _ _ _ _ us hl => match us, hl with | [_], _ => rfl)
      (at_mk (ps := ["table"]) X G a10 l10 c10 k10 fun _ _ _ _ _ _ us hl => match us, hl with | [_], _ => rfl)
      (at_mk (ps := ["table", "thing"]) X G a11 l11 c11 k11 fun _ _ _ _ _ _ us hl => match us, hl with | [_, _], _ => rfl)
      (at_mk (ps := ["table"]) X G a12 l12 c12 k12 fun _ _ _ _ _ _ us hl => match us, hl with | [_], _ => rfl)
      (at_mk (ps := ["script"]) X G a13 l13 c13 k13 fun _ _ _ _ _ _ us hl => match us, hl with | [_], _ => rfl)
      (at_mk (ps := ["tape", "size"]) X G a14 l14 c14 k14 fun _ _ _ _ _ _ us hl => match us, hl with | [_, _], _ => rfl)
      (at_mk (ps := ["tape", "many"]) X G a15 l15 c15 k15 fun _ _ _ _ _ _ us hl => match us, hl with | [_, _], _ => rfl)
      (at_mk (ps := ["tape", "many"]) X G a16 l16 c16 k16 fun _ _ _ _ _ _ us hl => match us, hl with | [_, _], _ => rfl)
      (at_mk (ps := ["tape", "rows"]) X G a17 l17 c17 k17 fun _ _ _ _ _ _ us hl => match us, hl with | [_, _], _ => rfl)
      (at_mk (ps := ["tape", "most"]) X G a18 l18 c18 k18 fun _ _ _ _ _ _ us hl => match us, hl with | [_, _], _ => rfl)
      (at_mk (ps := ["tape", "most"]) X G a19 l19 c19 k19 fun _ _ _ _ _ _ us hl => match us, hl with | [_, _], _ => rfl)
      (at_mk (ps := ["told", "due"]) X G a20 l20 c20 k20 fun _ _ _ _ _ _ us hl => match us, hl with | [_, _], _ => rfl)
      (at_mk (ps := ["rows"]) X G a21 l21 c21 k21 fun _ _ _ _ _ _ us hl => match us, hl with | [_], _ => rfl)
      (at_mk (ps := ["tape", "rows"]) X G a22 l22 c22 k22 fun _ _ _ _ _ _ us hl => match us, hl with | [_, _], _ => rfl)
      (fun_mk (st := s_law) l3 c3 k3)⟩
theorem walk {l : PySem.W.OpenLaw} {q : Program} {loose : List Str} {XP : (Str → Option Value) → Heap → Prop} {YP : World → Heap → Prop} {d : DefRec} {K : Params → PySem.W.Frag} (hn : l.most = some 63) (hdf : d.params.defaults = [])
    (hY : ∀ (w : World) (h : Heap), YP w h → (K w.params).In h)
    (F : ∀ (w : World) (mg : Str → Option Value) (fa : Addr) (h : Heap), (K w.params).In h → h.Ns mainGlobals mg → mg d.name = some (.ref fa) →
      ∃ fd : FuncData, (∀ (s : Shared) (u : Value), BindsTo s fd ⟨[u], []⟩ [("script", u)]) ∧ ∀ base : Heap, (K w.params).In base → base.Ns mainGlobals mg → FnG l.prog w (K w.params) mg base 10 fa fd ["script"] (spLaw (K w.params))) :
    PySem.W.WalkO q loose XP YP l.row.toRowW d [] (fun f vs => PySem.call f vs) :=
  walk_ofG (n := 63) (k := 10) (x := "script") (sp := fun w => spLaw (K w.params)) hn (by decide) hdf ⟨rfl, by decide, by decide⟩ hY F fun _ _ a ns hl _ hS => ⟨a, ns, rfl, hS, hl, fun _ => rfl⟩
end Fo

open PySem PySem.W PyProof.Rows in
set_option maxRecDepth 100000 in
set_option maxHeartbeats 0 in
theorem PySem.Challenge.cw_fullorring_k02_tables_alike_holds : PySem.Challenge.rw_fullorring_k02_tables_alike.Holds := by
  w_on; o_law; k_head; (case hw => w_witness2)
  k_fill
  refine Fo.walk (l := PySem.Challenge.rw_fullorring_k02_tables_alike) rfl rfl (fun w h Y => PySem.W.kIn_of Y) ?F
  case F =>
    intro w mg fa h KX G hmg
    refine' Fo.all_mk KX G hmg ?aC ?aI ?iI ?l1 ?c1 ?k1 ?aE ?iE ?l2 ?c2 ?k2 ?aL ?l3 ?c3 ?k3 ?a4 ?l4 ?c4 ?k4 ?a5 ?l5 ?c5 ?k5 ?a6 ?l6 ?c6 ?k6 ?a7 ?l7 ?c7 ?k7 ?a8 ?l8 ?c8 ?k8 ?a9 ?l9 ?c9 ?k9 ?a10 ?l10 ?c10 ?k10 ?a11 ?l11 ?c11 ?k11 ?a12 ?l12 ?c12 ?k12 ?a13 ?l13 ?c13 ?k13 ?a14 ?l14 ?c14 ?k14 ?a15 ?l15 ?c15 ?k15 ?a16 ?l16 ?c16 ?k16 ?a17 ?l17 ?c17 ?k17 ?a18 ?l18 ?c18 ?k18 ?a19 ?l19 ?c19 ?k19 ?a20 ?l20 ?c20 ?k20 ?a21 ?l21 ?c21 ?k21 ?a22 ?l22 ?c22 ?k22 ?pg ?hd ?po ?sa ?mk ?kc ?tha ?thn ?thk ?thm ?tne ?n_rows ?n_size ?kI ?kB ?kT ?kS ?kL ?tty ?mr ?z_len ?z_list ?z_range ?z_tuple ?z_sorted ?z_int ?z_min ?z_isinstance ?z_all ?z_enumerate ?z_zip ?z_set ?z_repr ?z_str ?z_bool
    (case aC => k_is)
    (case aI => k_is)
    (case iI => k_is)
    (case l1 => k_is)
    (case c1 => k_is)
    (case k1 => k_is)
    (case aE => k_is)
    (case iE => k_is)
    (case l2 => k_is)
    (case c2 => k_is)
    (case k2 => k_is)
    (case aL => k_is)
    (case l3 => k_is)
    (case c3 => k_is)
    (case k3 => k_is)
    (case a4 => k_is)
    (case l4 => k_is)
    (case c4 => k_is)
    (case k4 => k_is)
    (case a5 => k_is)
    (case l5 => k_is)
    (case c5 => k_is)
    (case k5 => k_is)
    (case a6 => k_is)
    (case l6 => k_is)
    (case c6 => k_is)
    (case k6 => k_is)
    (case a7 => k_is)
    (case l7 => k_is)
    (case c7 => k_is)
    (case k7 => k_is)
    (case a8 => k_is)
    (case l8 => k_is)
    (case c8 => k_is)
    (case k8 => k_is)
    (case a9 => k_is)
    (case l9 => k_is)
    (case c9 => k_is)
    (case k9 => k_is)
    (case a10 => k_is)
    (case l10 => k_is)
    (case c10 => k_is)
    (case k10 => k_is)
    (case a11 => k_is)
    (case l11 => k_is)
    (case c11 => k_is)
    (case k11 => k_is)
    (case a12 => k_is)
    (case l12 => k_is)
    (case c12 => k_is)
    (case k12 => k_is)
    (case a13 => k_is)
    (case l13 => k_is)
    (case c13 => k_is)
    (case k13 => k_is)
    (case a14 => k_is)
    (case l14 => k_is)
    (case c14 => k_is)
    (case k14 => k_is)
    (case a15 => k_is)
    (case l15 => k_is)
    (case c15 => k_is)
    (case k15 => k_is)
    (case a16 => k_is)
    (case l16 => k_is)
    (case c16 => k_is)
    (case k16 => k_is)
    (case a17 => k_is)
    (case l17 => k_is)
    (case c17 => k_is)
    (case k17 => k_is)
    (case a18 => k_is)
    (case l18 => k_is)
    (case c18 => k_is)
    (case k18 => k_is)
    (case a19 => k_is)
    (case l19 => k_is)
    (case c19 => k_is)
    (case k19 => k_is)
    (case a20 => k_is)
    (case l20 => k_is)
    (case c20 => k_is)
    (case k20 => k_is)
    (case a21 => k_is)
    (case l21 => k_is)
    (case c21 => k_is)
    (case k21 => k_is)
    (case a22 => k_is)
    (case l22 => k_is)
    (case c22 => k_is)
    (case k22 => k_is)
    (case pg => k_is)
    (case hd => k_is)
    (case po => k_is)
    (case sa => k_is)
    (case mk => k_is)
    (case kc => k_is)
    (case tha => k_is)
    (case thn => k_is)
    (case thk => k_is)
    (case thm => k_is)
    (case tne => k_is)
    (case n_rows => k_is)
    (case n_size => k_is)
    (case kI => k_is)
    (case kB => k_is)
    (case kT => k_is)
    (case kS => k_is)
    (case kL => k_is)
    (case tty => k_is)
    (case mr => k_is)
    (case z_len => k_is)
    (case z_list => k_is)
    (case z_range => k_is)
    (case z_tuple => k_is)
    (case z_sorted => k_is)
    (case z_int => k_is)
    (case z_min => k_is)
    (case z_isinstance => k_is)
    (case z_all => k_is)
    (case z_enumerate => k_is)
    (case z_zip => k_is)
    (case z_set => k_is)
    (case z_repr => k_is)
    (case z_str => k_is)
    (case z_bool => k_is)
