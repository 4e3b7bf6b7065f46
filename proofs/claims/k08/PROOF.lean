import PyProof.Rows.All
import Wide.All
import OpenK.AllK
import Wide.FinOn
import HandS.ForMost
import HandS.OwnEq
import HandS.SortInts
import HandS.TupAny
import HandS.IsInst
import HandS.Flow
import HandS.Zip
import HandS.TupSets
import KE.GoesEnum
import PyProof.InstNe
import HandS.Conv
import HandS.Star
import HandS.Evl
import HandS.Text
import HandS.Call
import KE.GoesEnumKw
import HandS.RaiseMore
import HandS.Steps
import HandS.ExcInit
import HandS.ExcIs
import HandS.ExcField
import HandS.ForExc
import HandS.Replace
import KE.IntTextLaws
import KE.KExcIs
import HandS.SetFor
import HandS.Strs
import PyProof.Rows.SortShellAny
import KE.KRevSl
import PyProof.ReprLen
import PySem.Challenge.RW_fullorring_k08_first_wrong_lines
set_option Elab.async false
set_option maxRecDepth 100000
set_option maxHeartbeats 2000000

namespace PySem
open Sem (wp)
theorem meets_enum_newT (v : Value) (o : Obj) (HH : Heap → Prop) (B : Begins v o HH) :
    Meets (Builtin.«enumerate.__new__» ⟨[.type "enumerate", v], []⟩) (fun _ R s => HH s.heap ∧
      R (.ok (.ret (.ref (s.heap.push o).objs.size))) { s with heap := (s.heap.push o).push { cls := .type "enumerate", data := .fields #[.none, .bool false, .ref s.heap.objs.size, rawInt 0, .none, .none] } }) :=
  .of_wp fun prog w A R s h => by
    obtain ⟨hp, g, d, tk, os⟩ := s; obtain ⟨h1, h⟩ := h
    have hsub := sub_enumerate
    have q1 : ∀ {A' : Around} {E : Value → Shared → Prop} {Q : Value → Shared → Prop}, Q (.ref hp.objs.size) ⟨hp.push o, g, d, tk, os⟩ → wpAny (model prog w) A' (pyIter v) Q E ⟨hp, g, d, tk, os⟩ :=
      fun q => B.iter prog w _ _ ⟨hp, g, d, tk, os⟩ _ h1 q
    wp_walk using q1
    refine wpAny_stack_any fun st => wpAny_pure ?_
    split
    · rename_i c _ _ _ _ _
      cases (c == Value.type "enumerate")
      · wp_walk using q1
        exact ⟨_, rfl, h⟩
      · wp_walk using q1
        exact ⟨_, rfl, h⟩
    · wp_walk using q1
      exact ⟨_, rfl, h⟩
section
variable {prog : Program} {w : World} {A : Around} {E : Value → Shared → Prop} {s : Shared}
theorem call_enum_begins {v : Value} {o : Obj} {HH : Heap → Prop} {Q : Value → Shared → Prop} (B : Begins v o HH) (h1 : HH s.heap)
    (h : ∀ h', IsEnum h' (s.heap.objs.size + 1) s.heap.objs.size 0 .none → h'.get? s.heap.objs.size = some o → h'.objs.size = s.heap.objs.size + 2 →
      (∀ b o, s.heap.get? b = some o → h'.get? b = some o) → Q (.ref (s.heap.objs.size + 1)) { s with heap := h' }) :
    wpAny (model prog w) A (call (.type "enumerate") [v]) Q E s := by
  refine callType_new F.called_enumerate (by decide) (F.typeCall_enumerate_1 _) (F.newCall_enumerate_1 _) (fun obj => F.args_object_init_2 obj _) F.entry_enumerate_new
    (meets_enum_newT v o HH B) ⟨h1, ?_⟩
  have hz : (s.heap.push o).objs.size = s.heap.objs.size + 1 := Heap.size_push ..
  show _ ∧ _
  rw [hz]
  have he : IsEnum ((s.heap.push o).push { cls := .type "enumerate", data := .fields #[.none, .bool false, .ref s.heap.objs.size, rawInt 0, .none, .none] }) (s.heap.objs.size + 1) s.heap.objs.size 0 .none := by
    have := Heap.get?_push_size (s.heap.push o) (o := { cls := .type "enumerate", data := .fields #[.none, .bool false, .ref s.heap.objs.size, rawInt 0, .none, .none] }) rfl
    rw [hz] at this; exact this
  refine ⟨⟨_, he, rfl⟩, h _ he (Heap.get?_push_of_some _ (Heap.get?_push_size _ B.free)) (by rw [Heap.size_push, hz]) fun b o x => Heap.get?_push_of_some _ (Heap.get?_push_of_some _ x)⟩
end
end PySem

namespace L2
open PySem PySem.Spec PyProof.Rows
/-! enumerate of a tuple -/
def IteT (K : PySem.W.Frag) (a : Addr) : It :=
  ⟨fun i H => ∃ (xs : List V) (x : V), SqT K H a xs ∧ xs[i]? = some x, fun i H v H' => ∃ T x, v = .ref T ∧ H T = none ∧ H' = upd H T (.tup [.int (i : Nat), x]) ∧ ∀ xs, SqT K H a xs → xs[i]? = some x, fun i H => ∃ xs : List V, SqT K H a xs ∧ xs.length ≤ i⟩
theorem turn_enumT {P : Program} {w : World} {K : PySem.W.Frag} {elts : List Expr} {kk : Nat} {tpos : Pos} (a e it : Addr) :
    Turn P w K (.Tuple elts kk tpos) (IteT K a) [e, it] e (fun i h => (∃ old, IsEnum h e it ((i : Nat) : Int) old) ∧ h.IsTupleIter it a i ∧ e ≠ it ∧ a ≠ it ∧ a ≠ e) where
  mem := by simp
  obj := fun i h st b hb => by
    obtain ⟨⟨old, he⟩, ⟨o, ho, hc, hd⟩, _⟩ := st
    have e' : b = e ∨ b = it := by simpa using hb
    rcases e' with z | z
    · rw [z]; exact ⟨_, he, fun v q => nomatch q⟩
    · rw [z]; exact ⟨o, ho, fun v q => by rw [hd] at q; cases q⟩
  keep := fun i h h' st k => let ⟨⟨old, he⟩, hi, hne⟩ := st; ⟨⟨old, k e (by simp) _ he⟩, hi.at fun o q => k it (by simp) o q, hne⟩
  item := by
    intro X hP hw hK hc i pins s σ H E I hf st hg
    subst hP hw hK
    obtain ⟨⟨old, he⟩, hit, hne, hai, hae⟩ := st
    obtain ⟨xs, x, hq, hx⟩ := hg
    obtain ⟨its, rv, p, hz⟩ := I.tuple hq
    obtain ⟨u, hu, ru⟩ := rv.get hx
    have hel : e < s.heap.objs.size := Heap.lt_size he
    have hil : it < s.heap.objs.size := by obtain ⟨_, q, _⟩ := hit; exact Heap.lt_size q
    have hilt : i < its.toArray.size := by
      have := (List.getElem?_eq_some_iff.mp hu).1
      simpa using this
    refine wpAny_pyNext_enum_itemD (Draws.tuple (A := X.A.in1) (I.ok.hd hc) it a hai its.toArray) he ⟨hit, p⟩ hilt hne (by simp; exact ⟨hne, fun q => hae q.symm⟩) fun x2 h' tk hP ho hst hT hsz hk => ?_
    have ex : x2 = u := by
      have hP' : its[i]? = some x2 := by simpa using hP
      rw [hu] at hP'
      exact (Option.some.inj hP').symm
    subst ex
    refine ⟨_, rfl, wpAny_letOwnedTupleGo_enum (s := { s with heap := h', toks := tk + 1 }) ho fun h'' he' sb => ?_⟩
    have hT2 : h''.get? s.heap.objs.size = some { cls := .type "tuple", data := .seq #[.int i tk, x2] } := (sb.2 _ (Nat.ne_of_gt hel)).trans hT
    have new : ObjOk X.prog X.w (upd H s.heap.objs.size (.tup [.int (i : Nat), x])) h'' s.heap.objs.size (.tup [.int (i : Nat), x]) :=
      ⟨by show 2 ≤ sizeLine; decide, [.int i tk, x2], .cons ⟨_, rfl⟩ (.cons ru .nil), ⟨_, hT2, rfl, _, rfl⟩⟩
    have I1 : Inv X pins σ (upd H s.heap.objs.size (.tup [.int (i : Nat), x])) { s with heap := h'', toks := tk + 1 } :=
      I.turnedNew (ch := [e, it]) (fun b ob hb q => (sb.2 b (fun z => hb (by simp [z]))).trans (hk b ob (fun z => hb (by simp [z])) (fun z => hb (by simp [z])) q)) hf (Nat.le_refl _) new
    refine ⟨.ref s.heap.objs.size, _, I1, rfl, ⟨_, x, rfl, I.hok.fresh (Nat.le_refl _), rfl, fun ys hy => by rw [I.tuple_inj hy hq]; exact hx⟩, ⟨⟨x2, ?_⟩, hst.1.at fun o q => (sb.2 it (Ne.symm hne)).trans q, hne, hai, hae⟩, fun b hb => ?_⟩
    · have e1 : ((i + 1 : Nat) : Int) = (i : Int) + 1 := by omega
      rw [e1]; exact he'
    · have hb' : b < s.heap.objs.size := by
        have e' : b = e ∨ b = it := by simpa using hb
        rcases e' with z | z
        · rw [z]; exact hel
        · rw [z]; exact hil
      rw [upd_ne (Nat.ne_of_lt hb')]
      exact (hf b hb).1
  done := by
    intro X hP hw hK hc i pins s σ H E I hf st hg
    subst hP hw hK
    obtain ⟨⟨old, he⟩, hit, hne, hai, hae⟩ := st
    obtain ⟨xs, hq, hx⟩ := hg
    obtain ⟨its, rv, p, hz⟩ := I.tuple hq
    obtain ⟨f0, f1, f2, f3, f4, f5⟩ := hf it (by simp)
    have hl := rv.length
    have D : Draws X.prog X.w X.A.in1 it [it, a] i (fun _ _ => True) (fun j h => j = i ∧ h.IsTupleIter it a i ∧ h.IsTuple a its.toArray) :=
      ⟨fun _ _ st => (let ⟨o, ho, _⟩ := st.2.1; ⟨o, ho⟩), fun _ _ _ st hk => ⟨st.1, st.2.1.at fun o e => hk it (by simp) o e, st.2.2.at fun o e => hk a (by simp) o e⟩,
        fun j s Q E hj st hQ => absurd st.1 (Nat.ne_of_lt hj), fun s Q E st hE => wpAny_nextOf_tuple_end (I.ok.hd hc) st.2.1 st.2.2 (by simp; omega) hE⟩
    exact wpAny_pyNext_enum_endD D he ⟨rfl, hit, p⟩ fun h' eb => ⟨rfl, I.turned (t' := s.toks) (fun b o hb q => eb b o hb q) f0 f1 f3 f4 f5⟩
  self := fun A i s Q E st h => let ⟨⟨_, he⟩, _⟩ := st; wpAny_pyIter_enum he h
def iEnumT (K : PySem.W.Frag) (ta : TA) : TI := fun σ H R => ta σ H fun vs H1 => ∃ a xs, vs = [.ref a] ∧ SqT K H1 a xs ∧ R (IteT K a) H1
theorem pi_enumT {X : Cx} {e : Expr} {ta : TA} {p pos tpos : Pos} {elts : List Expr} {kk : Nat} (hg : Gl X "enumerate") (hm : X.mg "enumerate" = none) (ha : PA X [e] ta) (hs : starEach [e] X.env = [(false, eval e X.env)] := by rfl) :
    PI X (.Tuple elts kk tpos) (.Call (.Name "enumerate" p) [e] [] pos) (iEnumT X.K ta) := by
  refine ⟨fun pins s σ H R I h => ?_⟩
  refine Call_ (ld_blt I hg hm boot_enumerate (PyProof.Rows.callWith_type1 (thn (ha.run pos pins s σ H _ I h) fun us s1 ⟨vs, H1, I1, r1, q1⟩ => ?_) hs rfl))
  obtain ⟨a, xs, ex, hq, q⟩ := q1
  subst ex
  cases r1 with
  | cons r rr =>
    cases rr
    cases r
    obtain ⟨its, rv, p', hz⟩ := I1.tuple hq
    have halt : a < s1.heap.objs.size := by obtain ⟨_, q, _⟩ := id p'; exact Heap.lt_size q
    refine call_enum_begins (begins_tuple a its.toArray) p' fun h' he hit hsz hk => wpAny_pyIter_enum he ?_
    have I2 : Inv X pins σ H1 { s1 with heap := h' } := I1.kept (t' := s1.toks) hk
    refine ⟨s1.heap.objs.size + 1, [s1.heap.objs.size + 1, s1.heap.objs.size], _, _, H1, rfl, I2, turn_enumT a (s1.heap.objs.size + 1) s1.heap.objs.size, ⟨⟨.none, he⟩, ⟨_, hit, rfl, rfl⟩, Nat.succ_ne_self _, Nat.ne_of_lt halt, Nat.ne_of_lt (Nat.lt_succ_of_lt halt)⟩, fun b hb => ?_, q⟩
    have e' : b = s1.heap.objs.size + 1 ∨ b = s1.heap.objs.size := by simpa using hb
    have hle : s1.heap.objs.size ≤ b := by
      rcases e' with z | z
      · rw [z]; exact Nat.le_add_right _ _
      · rw [z]; exact Nat.le_refl _
    exact I1.fpOk hle (I1.hok.fresh hle)
end L2

set_option maxRecDepth 100000
set_option maxHeartbeats 2000000
namespace Fo
open PySem PySem.Spec PyProof.Rows L2
/-! ### defs by their names -/
structure At (K : PySem.W.Frag) (mg : Str → Option Value) (x : Str) (st : Stmt) (ps : List Str) : Prop where
  ex : ∃ f fd, mg x = some (.ref f) ∧ Fun K x x st f fd ∧ Binds K fd ps []
structure Dfn (P : Program) (w : World) (K : PySem.W.Frag) (mg : Str → Option Value) (base : Heap) (x : Str) (ps : List Str) (k : Nat) (sp : Sp) : Prop where
  ex : ∃ f fd, mg x = some (.ref f) ∧ PySem.W.keepIn K (.ref f) = true ∧ FnOk P w K mg base CX0 k f fd ps sp ∧ Binds K fd ps []
structure Tx (mg : Str → Option Value) : Prop where
  len : mg "len" = none
  list : mg "list" = none
  range : mg "range" = none
  tuple : mg "tuple" = none
  sorted : mg "sorted" = none
  int : mg "int" = none
  min : mg "min" = none
  isinstance : mg "isinstance" = none
  all : mg "all" = none
  enumerate : mg "enumerate" = none
  zip : mg "zip" = none
  set : mg "set" = none
  repr : mg "repr" = none
  str : mg "str" = none
  bool : mg "bool" = none
section
variable {P : Program} {w : World} {K : PySem.W.Frag} {mg : Str → Option Value} {base : Heap}
theorem At.ok {x : Str} {st : Stmt} {N ps : List Str} {k : Nat} {sp : Sp} (a : At K mg x st ps) (S : FnScope N ps (defScope st)) (len : ∀ vs H Q E, sp vs H Q E → vs.length = ps.length)
    (hbody : ∀ (f : Addr) (cdv : Value) (A : Around) (outer : List Env) (s : Shared) (H : Hp) (vs : List V) (Q : VK) (E : XK), Room k (A.deeper (envOfC x (defScope st) s.heap.objs.size f cdv)) → sp vs H Q E →
      ∃ t, PSs (cxOf CX0 P w K mg base N x (defScope st) f cdv A outer s H E).nox (defBody st) t ∧ t { nx := fun _ H' => Q .non H', rt := Q } (start N vs) H) : Dfn P w K mg base x ps (k + 1) sp := by
  obtain ⟨f, fd, hm, F, b⟩ := a.ex
  exact ⟨f, fd, hm, F.kp, F.ok S len (hbody f), b⟩
theorem pe_d {X : Cx} {x : Str} {ps : List Str} {k : Nat} {sp : Sp} {e : Expr} {es : List Expr} {t : TA} {p pos : Pos} (G : Dfn X.prog X.w X.K X.mg X.base x ps k sp) (hr : Room k X.A) (ha : PA X (e :: es) t) (hg : Gl X x := by rfl)
    (hdb : (x == ("__debug__" : Str)) = false := by decide) (he : starEach (e :: es) X.env = (false, eval e X.env) :: starEach es X.env := by rfl) (hpl : (backTo pos (starEach es X.env)).any (·.1) = false := by rfl) :
    PE X (.Call (.Name x p) (e :: es) [] pos) (tCall sp [] E0 t) := by
  obtain ⟨f, fd, hm, kp, F, b⟩ := G.ex
  exact pe_call F hr hg hm kp b .nil pass0 ha hdb he hpl
theorem pe_d0 {X : Cx} {x : Str} {ps : List Str} {k : Nat} {sp : Sp} {p pos : Pos} (G : Dfn X.prog X.w X.K X.mg X.base x ps k sp) (hr : Room k X.A) (hg : Gl X x := by rfl)
    (hdb : (x == ("__debug__" : Str)) = false := by decide) :
    PE X (.Call (.Name x p) [] [] pos) (fun _ H Q => sp [] H Q E0) := by
  obtain ⟨f, fd, hm, kp, F, b⟩ := G.ex
  exact pe_call0 F hr hg hm kp b .nil pass0 hdb
end
/-! ### heaps that grow -/
/-- all but what stands at t is kept -/
def Gr (t : Addr) (H H' : Hp) : Prop := ∀ a o, a ≠ t → H a = some o → H' a = some o
theorem Gr.refl {t : Addr} (H : Hp) : Gr t H H := fun _ _ _ h => h
theorem Gr.trans {t : Addr} {H H1 H2 : Hp} (a : Gr t H H1) (b : Gr t H1 H2) : Gr t H H2 := fun c o n h => b c o n (a c o n h)
theorem Gr.new {t : Addr} {H : Hp} {p : Addr} {o : HO} (h : H p = none) : Gr t H (upd H p o) := fun a u _ e => by
  rw [upd_ne (ne_of_none e h)]
  exact e
theorem Gr.put {t : Addr} {H : Hp} {o : HO} : Gr t H (upd H t o) := fun a u n e => by
  rw [upd_ne n]
  exact e
theorem Gr.of {t : Addr} {H H' : Hp} (e : Same H H') : Gr t H H' := fun a o _ h => e a o h
theorem Gr.free {t : Addr} {H H' : Hp} (g : Gr t H H') (ht : H' t ≠ none) {p : Addr} (h : H' p = none) : H p = none := by
  cases q : H p with
  | none => rfl
  | some o =>
    have hne : p ≠ t := fun z => ht (z ▸ h)
    rw [g p o hne q] at h
    cases h
theorem same_new {H : Hp} {p : Addr} {o : HO} (h : H p = none) : Same H (upd H p o) := fun a u e => by
  rw [upd_ne (ne_of_none e h)]
  exact e
/-- an object that H does not know may change -/
theorem same_mut {H H' : Hp} {p : Addr} {o : HO} (e : Same H H') (h : H p = none) : Same H (upd H' p o) := fun a u ha => by
  rw [upd_ne (ne_of_none ha h)]
  exact e a u ha
theorem gr_mut {t : Addr} {H H' : Hp} {p : Addr} {o : HO} (e : Gr t H H') (h : H p = none) : Gr t H (upd H' p o) := fun a u n ha => by
  rw [upd_ne (ne_of_none ha h)]
  exact e a u n ha
theorem sqT_same {K : PySem.W.Frag} {H H' : Hp} {a : Addr} {xs : List V} (e : Same H H') (h : SqT K H a xs) : SqT K H' a xs := by
  rcases h with (h | ⟨o, h⟩) | h
  · exact .inl (.inl (e _ _ h))
  · exact .inl (.inr ⟨o, e _ _ h⟩)
  · exact .inr h
/-! ### the tape -/
def Tape (H : Hp) (t l : Addr) : Prop := ∃ (ns : List Int) (b c d e : Int), H t = some (.lst [.ref l, .int b, .int c, .int d, .int e]) ∧ H l = some (.lst (ns.map V.int)) ∧ 0 ≤ b
theorem ints_ne (ns : List Int) (l : Addr) (r : List V) : (HO.lst (ns.map V.int)) ≠ .lst (.ref l :: r) := by
  intro q
  cases ns with
  | nil => injection q with q; cases q
  | cons x r => injection q with q; injection q with q; cases q
theorem Tape.ne {H : Hp} {t l : Addr} (T : Tape H t l) : l ≠ t := by
  obtain ⟨ns, b, c, d, e, ht, hl, hb⟩ := T
  exact ne_of hl ht (ints_ne _ _ _)
theorem Tape.there {H : Hp} {t l : Addr} (T : Tape H t l) : H t ≠ none := by
  obtain ⟨ns, b, c, d, e, h, _⟩ := T
  rw [h]
  exact fun z => nomatch z
theorem Tape.keep {H H' : Hp} {t l : Addr} (T : Tape H t l) (g : Same H H') : Tape H' t l := by
  obtain ⟨ns, b, c, d, e, h, hl, hb⟩ := T
  exact ⟨ns, b, c, d, e, g _ _ h, g _ _ hl, hb⟩
/-- what is new is neither of the tape's two -/
theorem Tape.free {H : Hp} {t l a : Addr} (T : Tape H t l) (h : H a = none) : a ≠ t ∧ a ≠ l := by
  obtain ⟨ns, b, c, d, e, ht, hl, hb⟩ := T
  exact ⟨(ne_of_none ht h).symm, (ne_of_none hl h).symm⟩
theorem Tape.new {H : Hp} {t l a : Addr} {o : HO} (T : Tape H t l) (h : H a = none) : Tape (upd H a o) t l := T.keep (same_new h)
/-- other objects than the tape's own may change -/
theorem Tape.mut {H : Hp} {t l a : Addr} {u : HO} (T : Tape H t l) (n : a ≠ t ∧ a ≠ l) : Tape (upd H a u) t l := by
  obtain ⟨ns, b, c, d, e, ht, hl, hb⟩ := T
  exact ⟨ns, b, c, d, e, by rw [upd_ne n.1.symm]; exact ht, by rw [upd_ne n.2.symm]; exact hl, hb⟩
theorem Tape.ne_ints' {H : Hp} {t l a : Addr} {ns : List Int} (T : Tape H t l) (h : H a = some (.lst (ns.map V.int))) : a ≠ t := by
  obtain ⟨ms, b, c, d, e, ht, hl, hb⟩ := T
  exact ne_of h ht (ints_ne _ _ _)
theorem Gr.fresh {t l : Addr} {H H' : Hp} (g : Gr t H H') (T : Tape H' t l) {p : Addr} (h : H' p = none) : H p = none := g.free T.there h
/-! ### data -/
abbrev dI (ns : List Int) : PyData := .tuple (ns.map .int)
abbrev dR (rows : List (List Int)) : PyData := .tuple (rows.map dI)
mutual
theorem dp_same {K : PySem.W.Frag} {H H' : Hp} (e : Same H H') : ∀ {v : V} {d : PyData}, Dp K H v d → Dp K H' v d
  | _, _, .non => .non
  | _, _, .bl b => .bl b
  | _, _, .int i => .int i
  | _, _, .str x => .str x
  | _, _, .lst h r => .lst (e.seq h) (dpAll_same e r)
  | _, _, .tup h r => .tup (sqT_same e h) (dpAll_same e r)
theorem dpAll_same {K : PySem.W.Frag} {H H' : Hp} (e : Same H H') : ∀ {vs : List V} {ds : List PyData}, DpAll K H vs ds → DpAll K H' vs ds
  | _, _, .nil => .nil
  | _, _, .cons h r => .cons (dp_same e h) (dpAll_same e r)
end
theorem dpAll_ints {K : PySem.W.Frag} {H : Hp} : ∀ (ns : List Int), DpAll K H (ns.map V.int) (ns.map .int)
  | [] => .nil
  | n :: r => .cons (.int n) (dpAll_ints r)
theorem ints_dpAll {K : PySem.W.Frag} {H : Hp} : ∀ {ns : List Int} {vs : List V}, DpAll K H vs (ns.map .int) → vs = ns.map V.int
  | [], _, .nil => rfl
  | n :: r, _, .cons (.int _) h => by rw [ints_dpAll h]; rfl
theorem dpAll_len {K : PySem.W.Frag} {H : Hp} : ∀ {vs : List V} {ds : List PyData}, DpAll K H vs ds → vs.length = ds.length
  | _, _, .nil => rfl
  | _, _, .cons _ r => by rw [List.length_cons, List.length_cons, dpAll_len r]
theorem dpAll_get {K : PySem.W.Frag} {H : Hp} : ∀ {vs : List V} {ds : List PyData} {i : Nat} {v : V}, DpAll K H vs ds → vs[i]? = some v → ∃ d, ds[i]? = some d ∧ Dp K H v d
  | _, _, _, _, .nil, e => by simp at e
  | _, _, 0, _, .cons h _, e => by simp at e; subst e; exact ⟨_, rfl, h⟩
  | _, _, i + 1, v, .cons _ r, e => by
    obtain ⟨d, h1, h2⟩ := dpAll_get (i := i) (v := v) r (by simpa using e)
    exact ⟨d, by simpa using h1, h2⟩
theorem dpAll_get' {K : PySem.W.Frag} {H : Hp} {vs : List V} {ds : List PyData} {i : Nat} {d : PyData} (h : DpAll K H vs ds) (e : ds[i]? = some d) : ∃ v, vs[i]? = some v ∧ Dp K H v d := by
  have h1 : i < vs.length := by rw [dpAll_len h]; exact (List.getElem?_eq_some_iff.mp e).1
  obtain ⟨d', e', q⟩ := dpAll_get h (List.getElem?_eq_getElem h1)
  rw [e] at e'
  cases e'
  exact ⟨_, List.getElem?_eq_getElem h1, q⟩
theorem dpAll_append {K : PySem.W.Frag} {H : Hp} : ∀ {vs ws : List V} {ds es : List PyData}, DpAll K H vs ds → DpAll K H ws es → DpAll K H (vs ++ ws) (ds ++ es)
  | _, _, _, _, .nil, s => s
  | _, _, _, _, .cons h r, s => .cons h (dpAll_append r s)
theorem dp_tup {K : PySem.W.Frag} {H : Hp} {v : V} {ds : List PyData} (h : Dp K H v (.tuple ds)) : ∃ a xs, v = .ref a ∧ SqT K H a xs ∧ DpAll K H xs ds := by
  cases h with
  | tup h r => exact ⟨_, _, rfl, h, r⟩
theorem dp_row {K : PySem.W.Frag} {H : Hp} {v : V} {ns : List Int} (h : Dp K H v (dI ns)) : ∃ a, v = .ref a ∧ SqT K H a (ns.map V.int) := by
  obtain ⟨a, xs, e, h, r⟩ := dp_tup h
  rw [ints_dpAll r] at h
  exact ⟨a, e, h⟩
theorem dp_rowI {K : PySem.W.Frag} {H : Hp} {a : Addr} {ns : List Int} (h : SqT K H a (ns.map V.int)) : Dp K H (.ref a) (dI ns) := .tup h (dpAll_ints ns)
/-- tuples are not changed by what changes at t -/
theorem gr_T {t l : Addr} {K : PySem.W.Frag} {H H' : Hp} (g : Gr t H H') (T : Tape H t l) {a : Addr} {xs : List V} (h : SqT K H a xs) : SqT K H' a xs := by
  obtain ⟨ns, b, c, d, e, ht, hl, hb⟩ := T
  rcases h with (h | ⟨o, h⟩) | h
  · exact .inl (.inl (g _ _ (ne_of h ht (by intro z; cases z)) h))
  · exact .inl (.inr ⟨o, g _ _ (ne_of h ht (by intro z; cases z)) h⟩)
  · exact .inr h
/-! rows of a table -/
structure Good (rows : List (List Int)) : Prop where
  pos : 1 ≤ rows.length
  asc : ∀ r ∈ rows, r.Pairwise (· < ·)
  rng : ∀ r ∈ rows, ∀ x ∈ r, 0 ≤ x ∧ x < (rows.length : Int)
inductive RowsT (K : PySem.W.Frag) (H : Hp) : List V → List (List Int) → Prop where
  | nil : RowsT K H [] []
  | cons {a : Addr} {vs : List V} {r : List Int} {rs : List (List Int)} : SqT K H a (r.map V.int) → RowsT K H vs rs → RowsT K H (.ref a :: vs) (r :: rs)
theorem rowsT_dp {K : PySem.W.Frag} {H : Hp} : ∀ {vs : List V} {rs : List (List Int)}, RowsT K H vs rs → DpAll K H vs (rs.map dI)
  | _, _, .nil => .nil
  | _, _, .cons h r => .cons (dp_rowI h) (rowsT_dp r)
theorem dp_rowsT {K : PySem.W.Frag} {H : Hp} : ∀ {rs : List (List Int)} {vs : List V}, DpAll K H vs (rs.map dI) → RowsT K H vs rs
  | [], _, .nil => .nil
  | r :: rs, _, .cons h t => by
    obtain ⟨a, rfl, q⟩ := dp_row h
    exact .cons q (dp_rowsT t)
theorem RowsT.gr {t l : Addr} {K : PySem.W.Frag} {H H' : Hp} (g : Gr t H H') (T : Tape H t l) : ∀ {vs : List V} {rs : List (List Int)}, RowsT K H vs rs → RowsT K H' vs rs
  | _, _, .nil => .nil
  | _, _, .cons h r => .cons (gr_T g T h) (r.gr g T)
theorem RowsT.same {K : PySem.W.Frag} {H H' : Hp} (g : Same H H') : ∀ {vs : List V} {rs : List (List Int)}, RowsT K H vs rs → RowsT K H' vs rs
  | _, _, .nil => .nil
  | _, _, .cons h r => .cons (sqT_same g h) (r.same g)
theorem RowsT.len {K : PySem.W.Frag} {H : Hp} : ∀ {vs : List V} {rs : List (List Int)}, RowsT K H vs rs → vs.length = rs.length
  | _, _, .nil => rfl
  | _, _, .cons _ r => by rw [List.length_cons, List.length_cons, r.len]
theorem RowsT.snoc {K : PySem.W.Frag} {H : Hp} {a : Addr} {r : List Int} (h : SqT K H a (r.map V.int)) : ∀ {vs : List V} {rs : List (List Int)}, RowsT K H vs rs → RowsT K H (vs ++ [.ref a]) (rs ++ [r])
  | _, _, .nil => .cons h .nil
  | _, _, .cons q t => .cons q (t.snoc h)
theorem RowsT.get {K : PySem.W.Frag} {H : Hp} : ∀ {vs : List V} {rs : List (List Int)} {i : Nat} {r : List Int}, RowsT K H vs rs → rs[i]? = some r → ∃ a, vs[i]? = some (.ref a) ∧ SqT K H a (r.map V.int)
  | _, _, _, _, .nil, e => by simp at e
  | _, _, 0, _, .cons h _, e => by simp at e; subst e; exact ⟨_, rfl, h⟩
  | _, _, i + 1, r, .cons _ t, e => by
    obtain ⟨a, h1, h2⟩ := t.get (i := i) (r := r) (by simpa using e)
    exact ⟨a, by simpa using h1, h2⟩
/-- rows that stand as a tuple at a -/
def RowsAt (K : PySem.W.Frag) (H : Hp) (v : V) (rows : List (List Int)) : Prop := ∃ a vs, v = .ref a ∧ SqT K H a vs ∧ RowsT K H vs rows
theorem RowsAt.gr {t l : Addr} {K : PySem.W.Frag} {H H' : Hp} {v : V} {rows : List (List Int)} (h : RowsAt K H v rows) (g : Gr t H H') (T : Tape H t l) : RowsAt K H' v rows := by
  obtain ⟨a, vs, e, h1, h2⟩ := h
  exact ⟨a, vs, e, gr_T g T h1, h2.gr g T⟩
theorem RowsAt.same {K : PySem.W.Frag} {H H' : Hp} {v : V} {rows : List (List Int)} (h : RowsAt K H v rows) (g : Same H H') : RowsAt K H' v rows := by
  obtain ⟨a, vs, e, h1, h2⟩ := h
  exact ⟨a, vs, e, sqT_same g h1, h2.same g⟩
theorem RowsAt.dp {K : PySem.W.Frag} {H : Hp} {v : V} {rows : List (List Int)} (h : RowsAt K H v rows) : Dp K H v (dR rows) := by
  obtain ⟨a, vs, rfl, h1, h2⟩ := h
  exact .tup h1 (rowsT_dp h2)
theorem RowsAt.of {K : PySem.W.Frag} {H : Hp} {v : V} {rows : List (List Int)} (h : Dp K H v (dR rows)) : RowsAt K H v rows := by
  obtain ⟨a, vs, rfl, h1, h2⟩ := dp_tup h
  exact ⟨a, vs, rfl, h1, dp_rowsT h2⟩
/-! ### sorted lists -/
theorem sorted_strict {l : List Int} (h : l.Pairwise (· ≤ ·)) (hn : l.Nodup) : l.Pairwise (· < ·) := by
  have := List.Pairwise.and h hn
  exact this.imp fun {a b} q => by
    have := q.1
    have := q.2
    omega
def rangeI (n : Int) : List Int := (List.range n.toNat).map fun (i : Nat) => (i : Int)
theorem rangeI_len (n : Int) : (rangeI n).length = n.toNat := by unfold rangeI; rw [List.length_map, List.length_range]
theorem rangeI_nodup (n : Int) : (rangeI n).Nodup := by
  unfold rangeI
  exact List.Pairwise.map _ (fun (a b : Nat) (h : a ≠ b) (q : (a : Int) = (b : Int)) => h (by omega)) List.nodup_range
theorem mem_rangeI {n x : Int} : x ∈ rangeI n ↔ 0 ≤ x ∧ x < n := by
  unfold rangeI
  rw [List.mem_map]
  constructor
  · rintro ⟨i, hi, rfl⟩
    have := List.mem_range.mp hi
    omega
  · intro h
    exact ⟨x.toNat, List.mem_range.mpr (by omega), by omega⟩
theorem rgV_rangeI (n : Int) : rgV 0 n = (rangeI n).map V.int := by
  unfold rgV rangeI
  rw [List.map_map, Int.sub_zero]
  apply List.map_congr_left
  intro i _
  show V.int (0 + (i : Int)) = V.int (i : Int)
  rw [Int.zero_add]
theorem atI_lt {α : Type} {xs : List α} {i : Int} (h0 : 0 ≤ i) (h1 : i < xs.length) : ∃ x, atI xs i = some x ∧ xs[i.toNat]? = some x := by
  have h : i.toNat < xs.length := by omega
  refine ⟨xs[i.toNat], ?_, List.getElem?_eq_getElem h⟩
  have q : atI xs ((i.toNat : Nat) : Int) = some xs[i.toNat] := atI_nat (List.getElem?_eq_getElem h)
  rw [← q]
  exact congrArg _ (by omega)
theorem map_atI {i : Int} {ns : List Int} (h0 : 0 ≤ i) (h1 : i < ns.length) : ∃ x, x ∈ ns ∧ atI (ns.map V.int) i = some (.int x) := by
  obtain ⟨x, h, g⟩ := atI_lt (xs := ns.map V.int) h0 (by rw [List.length_map]; exact h1)
  rw [List.getElem?_map] at g
  cases e : ns[i.toNat]? with
  | none => rw [e] at g; cases g
  | some y =>
    rw [e] at g
    have : V.int y = x := Option.some.inj g
    subst this
    exact ⟨y, List.mem_of_getElem? e, h⟩
theorem map_eraseIdx' {α β : Type} (f : α → β) : ∀ (l : List α) (i : Nat), (l.map f).eraseIdx i = (l.eraseIdx i).map f
  | [], _ => rfl
  | _ :: _, 0 => rfl
  | x :: r, i + 1 => by
    show f x :: (r.map f).eraseIdx i = f x :: (r.eraseIdx i).map f
    rw [map_eraseIdx' f r i]
theorem inV_ints (x : Int) (ns : List Int) : inV (.int x) (ns.map V.int) = decide (x ∈ ns) := by
  induction ns with
  | nil => rfl
  | cons y r ih =>
    show (y == x || (r.map V.int).any fun z => eqV z (.int x)) = decide (x ∈ y :: r)
    have ih' : ((r.map V.int).any fun z => eqV z (.int x)) = decide (x ∈ r) := ih
    rw [ih']
    by_cases h : y = x
    · subst h
      simp
    · have h' : ¬ x = y := fun q => h q.symm
      simp [h, h']
theorem all_flat_ints (ns : List Int) : (ns.map V.int).all flatV = true := by
  rw [List.all_eq_true]
  intro x hx
  obtain ⟨n, _, rfl⟩ := List.mem_map.mp hx
  rfl
theorem seq_at {n : Nat} {k : Int} (h0 : 0 ≤ k) (h1 : k < n) : seqIndex? k n = some k.toNat := by
  have h : ixN n k = some k.toNat := by
    unfold ixN
    rw [if_pos h0, if_pos h1]
  exact (ixN_seq h).1
theorem nodup_of_lt {l : List Int} (h : l.Pairwise (· < ·)) : l.Nodup := h.imp fun {a b} q z => by omega
/-! built-ins' readings by name -/
def rLenS (K : PySem.W.Frag) : List V → Hp → VK → Prop := fun xs H Q => ∃ p ys, xs = [.ref p] ∧ (SqL K H p ys ∨ SqT K H p ys) ∧ Q (.int ys.length) H
theorem c_len {X : Cx} : CallR X (.builtin "len") (rLenS X.K) := call_len_seq
def rListOf (K : PySem.W.Frag) : List V → Hp → VK → Prop := fun xs H Q => ∃ p ys, xs = [.ref p] ∧ (SqL K H p ys ∨ SqT K H p ys) ∧ ∀ l, H l = none → Q (.ref l) (upd H l (.lst ys))
theorem c_list {X : Cx} : CallR X (.type "list") (rListOf X.K) := call_list_of
def rTupOf (K : PySem.W.Frag) : List V → Hp → VK → Prop := fun xs H Q => ∃ p ys, xs = [.ref p] ∧ ((SqL K H p ys ∧ ∀ l, H l = none → Q (.ref l) (upd H l (.tup ys))) ∨ (SqT K H p ys ∧ Q (.ref p) H))
theorem c_tuple {X : Cx} : CallR X (.type "tuple") (rTupOf X.K) := call_tuple_of
def rIntOf : List V → Hp → VK → Prop := fun xs H Q => (∃ i, xs = [.int i] ∧ Q (.int i) H) ∨ ∃ k, xs = [.bl k] ∧ Q (.int (if k then 1 else 0)) H
theorem c_int {X : Cx} : CallR X (.type "int") rIntOf := call_int1
def rMin2 : List V → Hp → VK → Prop := fun xs H Q => ∃ i j, xs = [.int i, .int j] ∧ Q (.int (if j < i then j else i)) H
theorem c_min {X : Cx} (hc : X.calm = true) : CallR X (.builtin "min") rMin2 := call_min2 hc
theorem perm_erase {α : Type} : ∀ (l : List α) (i : Nat) (h : i < l.length), (l[i] :: l.eraseIdx i).Perm l
  | _ :: _, 0, _ => List.Perm.refl _
  | x :: r, i + 1, h => by
    have h' : i < r.length := by simpa using h
    show (r[i] :: x :: r.eraseIdx i).Perm (x :: r)
    exact (List.Perm.swap x r[i] _).trans ((perm_erase r i h').cons x)
theorem small_lt {n : Nat} (h : n ≤ 100000) : n < sizeLine := Nat.lt_of_le_of_lt h (by decide)
theorem small_le {n : Nat} (h : n ≤ 100000) : n ≤ sizeLine := Nat.le_trans h (by decide)
theorem Gr.upd2 {t : Addr} {H H' : Hp} {a : Addr} {o : HO} (g : Gr t H H') (h : H a = none) : Gr t H (upd H' a o) := gr_mut g h
/-- ascending rows -/
theorem asc_of {row l : List Int} (hp : row.Perm l) (hs : row.Pairwise (· ≤ ·)) (hn : l.Nodup) : row.Pairwise (· < ·) := sorted_strict hs (hp.symm.nodup hn)
theorem asc_snoc {row : List Int} {j : Int} (hp : row.Pairwise (· < ·)) (h : ∀ x ∈ row, x < j) : (row ++ [j]).Pairwise (· < ·) := by
  rw [List.pairwise_append]
  exact ⟨hp, List.pairwise_singleton _ _, fun a ha b hb => by rw [List.mem_singleton.mp hb]; exact h a ha⟩
theorem nodup_snoc {row : List Int} {j : Int} (hp : row.Nodup) (h : j ∉ row) : (row ++ [j]).Nodup := by
  show (row ++ [j]).Pairwise (· ≠ ·)
  rw [List.pairwise_append]
  exact ⟨hp, List.pairwise_singleton _ _, fun a ha b hb q => by rw [List.mem_singleton.mp hb] at q; exact h (q ▸ ha)⟩
theorem map_snoc (row : List Int) (j : Int) : row.map V.int ++ [V.int j] = (row ++ [j]).map V.int := by rw [List.map_append]; rfl
/-- a list that changes is no row -/
theorem sqT_put {K : PySem.W.Frag} {H : Hp} {a f : Addr} {xs vs ws : List V} (h : SqT K H a xs) (e : H f = some (.lst vs)) : SqT K (upd H f (.lst ws)) a xs := by
  rcases h with (h | ⟨o, h⟩) | h
  · exact .inl (.inl (by rw [upd_ne (ne_of h e (by intro z; cases z))]; exact h))
  · exact .inl (.inr ⟨o, by rw [upd_ne (ne_of h e (by intro z; cases z))]; exact h⟩)
  · exact .inr h
theorem RowsT.put {K : PySem.W.Frag} {H : Hp} {f : Addr} {us ws : List V} (e : H f = some (.lst us)) : ∀ {vs : List V} {rs : List (List Int)}, RowsT K H vs rs → RowsT K (upd H f (.lst ws)) vs rs
  | _, _, .nil => .nil
  | _, _, .cons h r => .cons (sqT_put h e) (r.put e)
theorem row_len : ∀ {r : List Int} {lo hi : Int}, r.Pairwise (· < ·) → (∀ x ∈ r, lo ≤ x ∧ x < hi) → (r.length : Int) ≤ (hi - lo).toNat
  | [], lo, hi, _, _ => Int.natCast_nonneg _
  | x :: r, lo, hi, h, hb => by
    have h1 := hb x List.mem_cons_self
    have h2 := row_len (r := r) (lo := x + 1) (hi := hi) (List.pairwise_cons.mp h).2 fun y hy => by
      have := (List.pairwise_cons.mp h).1 y hy
      have := (hb y (List.mem_cons_of_mem _ hy)).2
      omega
    rw [List.length_cons]
    omega
end Fo

set_option maxRecDepth 100000
set_option maxHeartbeats 2000000
namespace PySem.W
open PySem PySem.Spec PyProof.Rows Builtin
section
variable {prog : Program} {w : World} {A : Around} {E : Value → Shared → Prop} {s : Shared} {K : Frag} {x C f : Addr} {ox : Obj} {od : Option Obj} {b tb : Value}
/-- != of an instance whose class has its own == alone -/
theorem fo_callNe {Q : Option Value → Shared → Prop} (X : K.In s.heap) (I : InstAt s.heap x ox C od) (hn : findIn K (.ref C) (Str.ofString "__ne__") = some (some (.builtin "object.__ne__")))
    (h : wpAny (model prog w) A (call (.builtin "object.__ne__") [.ref x, b]) (fun v => Q (some v)) E s) : wpAny (model prog w) A (callSpecialIfBound? (.ref x) (Str.ofString "__ne__") [b]) Q E s := by
  simp only [callSpecialIfBound?, bindSpecialIfBound?]
  refine wpAny_holding (wpAny_bind (wpAny_bind (wpAny_bind (I.type.here ((looks_findIn X hn).here ?_)))))
  simp only [PySem.F.cmp_object.ne.bind]
  refine wpAny_bind (wpAny_askSetting (wpAny_ite ?_))
  have fin : wpAny (model prog w) A (call (.builtin "object.__ne__") ([.ref x] ++ [b]) >>= fun v => pure (some v)) Q E s := wpAny_bind (wpAny_mono h (fun v s' h' => wpAny_pure h') fun _ _ h' => h')
  split
  · exact wpAny_bind (wpAny_pure (wpAny_pure fin))
  · exact wpAny_tryCatch (wpAny_bind (wpAny_pure (wpAny_pure fin)))
theorem fo_checkNe {Q : Unit → Shared → Prop} {A : Around} (X : K.In s.heap) (I : InstAt s.heap x ox C od) (hm : mroIn K C (.type "object") = some true) (hq : Q () s) :
    wpAny (model prog w) A (checkBuiltinCall "object.__ne__" ⟨[.ref x, b], []⟩) Q E s := by
  simp only [checkBuiltinCall, PySem.F.cmpKind_ne, PySem.F.cmpSplit_ne]
  refine wpAny_bind ?_
  unfold isInstance
  refine wpAny_bind (I.type.here ((looks_mroIn X hm).here ?_))
  simp only [Bool.not_true, Bool.false_eq_true, if_false]
  exact wpAny_pure hq
theorem fo_bodyNe {Q : Fin → Shared → Prop} {A : Around} (hu : A.units < cLine) (X : K.In s.heap) (I : InstAt s.heap x ox C od) (hs : findIn K (.ref C) (Str.ofString "__eq__") = some (some (.ref f))) (hf : isFn K (.ref f) = true)
    (h : wpAny (model prog w) A (call (.ref f) [.ref x, b]) (fun v s' => ∃ c, v = .bool c ∧ Q (.done (.ret (.bool (!c)))) s') E s) :
    wpAny (model prog w) A (Builtin.«object.__ne__» ⟨[.ref x, b], []⟩) Q E s := by
  unfold Builtin.«object.__ne__»
  repeat' (first
    | with_reducible refine wpAny_cRoomFor hu ?_
    | refine wpAny_bind (m := callSpecialIfBound? (.ref x) (Str.ofString "__eq__") [b]) (ifBound_K X I hs hf (wpAny_mono h ?_ fun _ _ e => e))
    | wp_step)
  intro r s' hr
  obtain ⟨c, rfl, hq⟩ := hr
  refine wpAny_bind (wpAny_truthy_bool ?_)
  exact wpAny_pure hq
theorem fo_ne {h₀ : Heap} {L : Addr} {m : Str → Option Value} {Q : Value → Shared → Prop} (hu : A.units + 1 < cLine) (F : Fr h₀ L s.heap m) (X₀ : K.In h₀) (I : InstAt s.heap x ox C od) (hb : Looks (model prog w) s.heap (typeOf b) tb) (hnf : notFirst K C tb = true)
    (hm : mroIn K C (.type "object") = some true) (hn : findIn K (.ref C) (Str.ofString "__ne__") = some (some (.builtin "object.__ne__"))) (hs : findIn K (.ref C) (Str.ofString "__eq__") = some (some (.ref f))) (hf : isFn K (.ref f) = true)
    (h : wpAny (model prog w) A.in1 (call (.ref f) [.ref x, b]) (fun v s' => ∃ c, v = .bool c ∧ Q (.bool (!c)) s') E s) : wpAny (model prog w) A (richCompare .NotEq (.ref x) b) Q E s := by
  have X := X₀.keeps F.keep
  have one : wpAny (model prog w) A (tryCompare (.ref x) (cmpInfo .NotEq).2.1 b) (fun r s' => ∃ v, r = some v ∧ Q v s') E s := by
    unfold tryCompare
    refine wpAny_bind (fo_callNe X I hn (wpAny_call (codeAny_call_builtin PySem.F.cmp_object.ne.plain PySem.F.cmpEntry_ne (fo_checkNe (A := A.in1) X I hm (fo_bodyNe (A := A.in1) (by simpa using hu) X I hs hf (wpAny_mono h (fun v s' hv => ?_) fun _ _ e => e))))))
    obtain ⟨c, rfl, hq⟩ := hv
    first | exact ⟨c, rfl, wpAny_pure ⟨_, rfl, hq⟩⟩ | exact ⟨c, rfl, _, rfl, hq⟩
  unfold richCompare
  simp only [oneThing_ref]
  refine wpAny_holding (wpAny_bind (wpAny_cRoomFor (Nat.lt_of_succ_lt hu) ?_))
  refine wpAny_bind (I.type.here (wpAny_bind (hb.here ?_)))
  split
  · rename_i q
    have e : subIn K tb (.ref C) = some false := by
      rcases Bool.or_eq_true_iff.mp hnf with e | e
      · rw [beq_iff_eq.mp e] at q; simp at q
      · exact beq_iff_eq.mp e
    refine wpAny_bind ((looks_subIn X e).here ?_)
    simp only [Bool.false_eq_true, if_false]
    refine wpAny_bind (wpAny_mono one (fun r s' z => ?_) fun _ _ e => e)
    obtain ⟨v, rfl, hq⟩ := z
    exact wpAny_pure hq
  · refine wpAny_bind (wpAny_pure ?_)
    simp only [Bool.false_eq_true, if_false]
    refine wpAny_bind (wpAny_mono one (fun r s' z => ?_) fun _ _ e => e)
    obtain ⟨v, rfl, hq⟩ := z
    exact wpAny_pure hq
end
end PySem.W

namespace Fo
open PySem PySem.Spec PyProof.Rows L2
/-- the class of the tables, by what the text's top leaves of it -/
structure TC (K : PySem.W.Frag) (C : Addr) : Prop where
  cl : Cls K C
  ha : PySem.W.findIn K (.ref C) "__class__" = some (some (.builtin "object.__class__"))
  hn : PySem.W.specialIn K (.builtin "object.__class__") "__get__" = some (some (.builtin "getset_descriptor.__get__"))
  htk : PySem.W.takesIn K (.builtin "object.__class__") = some true
  hm : PySem.W.mroIn K C (.type "object") = some true
  ne : PySem.W.findIn K (.ref C) "__ne__" = some (some (.builtin "object.__ne__"))
  nR : NoAttr K C "rows"
  nS : NoAttr K C "size"
  kI : PySem.W.kitOne K (.ref C) (.type "int") = some false
  kB : PySem.W.kitOne K (.ref C) (.type "bool") = some false
  kT : PySem.W.kitOne K (.ref C) (.type "tuple") = some false
  kS : PySem.W.kitOne K (.ref C) (.type "str") = some false
  kL : PySem.W.kitOne K (.ref C) (.type "list") = some false
theorem TC.ty {K : PySem.W.Frag} {C : Addr} (c : TC K C) {H : Hp} {a dx : Addr} {fs : List (Str × V)} (h : H a = some (.ins C dx fs)) : TyX K H (.ref a) (.ref C) := .base (.ins h c.cl c.ha c.hn c.htk c.hm)
def rEqI (K : PySem.W.Frag) (C : Addr) (sp : Sp) : R2 := fun x y H Q => ∃ (a dx : Addr) (fs : List (Str × V)) (t : Value), x = .ref a ∧ H a = some (.ins C dx fs) ∧ TyX K H y t ∧ PySem.W.notFirst K C t = true ∧ sp [x, y] H (fun v H' => ∃ b, v = .bl b ∧ Q (.bl b) H') E0
def rNeI (K : PySem.W.Frag) (C : Addr) (sp : Sp) : R2 := fun x y H Q => ∃ (a dx : Addr) (fs : List (Str × V)) (t : Value), x = .ref a ∧ H a = some (.ins C dx fs) ∧ TyX K H y t ∧ PySem.W.notFirst K C t = true ∧ sp [x, y] H (fun v H' => ∃ b, v = .bl b ∧ Q (.bl (!b)) H') E0
section
variable {X : Cx} {C f : Addr} {fd : FuncData} {ps : List Str} {n : Nat} {sp : Sp}
theorem run_eqI {A : Around} {pins : List (Addr × Obj)} {s : Shared} {σ : L2.St} {H : Hp} {x y : V} {a : Addr} {v : Value} {Q : VK} (F : FnOk X.prog X.w X.K X.mg X.base CX0 n f fd ps sp) (hb : Binds X.K fd ps []) (sb : Sub X n A) (I : Inv X pins σ H s) (rx : RelV x (.ref a)) (ry : RelV y v)
    (h : sp [x, y] H Q E0) : wpAny (model X.prog X.w) A (call (.ref f) [.ref a, v]) (EP X pins σ Q) X.xe s := by
  have e0 : Env0 X.prog X.w X.K X.mg X.base A X.stack s H := by
    have e := I.env0
    exact ⟨by rw [sb.fr]; exact e.frames, e.mod, e.bs, e.bsz, e.funs, e.frf, e.hok, e.bare⟩
  have hl := F.len _ _ _ _ h
  have r2 : Vals [x, y] [Value.ref a, v] := .cons rx (.cons ry .nil)
  refine wpAny_call (codeAny_mono (F.run A X.stack s H ⟨[.ref a, v], []⟩ [.ref a, v] [x, y] _ E0 sb.room e0 (by
    have := hb s [.ref a, v] I.kIn (by simpa using hl)
    simpa using this) r2 h) fun r s' hq => ?_)
  cases r with
  | error e => exact pass0 pins σ H s e s' I hq
  | ok fl =>
    cases fl with
    | ret w => exact I.after hq
    | next => exact False.elim hq
    | brk => exact False.elim hq
    | cont => exact False.elim hq
theorem op_eqI (F : FnOk X.prog X.w X.K X.mg X.base CX0 n f fd ps sp) (hb : Binds X.K fd ps []) (hs : PySem.W.findIn X.K (.ref C) "__eq__" = some (some (.ref f))) (hf : PySem.W.isFn X.K (.ref f) = true) (hr : Room n X.A) :
    OpR X (compareOp .Eq) (rEqI X.K C sp) := by
  intro pins s σ H x y v u Q I rx ry h
  obtain ⟨a, dx, fs, t, rfl, ha, ty, nf, q⟩ := h
  cases rx
  obtain ⟨mA, J, _⟩ := ins_get I.hok ha
  obtain ⟨od, J, _⟩ := J.look
  obtain ⟨P, Z, p, hx⟩ := kit_of I ry ty
  obtain ⟨m, hF⟩ := I.fr
  refine PySem.W.cmp_K (op := .Eq) (tb := t) hr.units0 hF I.ok.mod.kin J (Z.ty _ _ I.kIn p) nf hs hf ?_
  refine wpAny_mono (run_eqI F hb ⟨hr, rfl⟩ I (show L2.RelV (.ref a) (.ref a) from rfl) ry q) (fun w s' e => ?_) fun _ _ z => z
  obtain ⟨z, H', I', rz, b, ez, qz⟩ := e
  subst ez
  cases rz
  exact ⟨.bl b, H', I', rfl, qz⟩
theorem op_neI (F : FnOk X.prog X.w X.K X.mg X.base CX0 n f fd ps sp) (hb : Binds X.K fd ps []) (c : TC X.K C) (hs : PySem.W.findIn X.K (.ref C) "__eq__" = some (some (.ref f))) (hf : PySem.W.isFn X.K (.ref f) = true) (hr : Room (n + 1) X.A) :
    OpR X (compareOp .NotEq) (rNeI X.K C sp) := by
  intro pins s σ H x y v u Q I rx ry h
  obtain ⟨a, dx, fs, t, rfl, ha, ty, nf, q⟩ := h
  cases rx
  obtain ⟨mA, J, _⟩ := ins_get I.hok ha
  obtain ⟨od, J, _⟩ := J.look
  obtain ⟨P, Z, p, hx⟩ := kit_of I ry ty
  obtain ⟨m, hF⟩ := I.fr
  refine PySem.W.fo_ne (tb := t) (Nat.lt_of_le_of_lt (Nat.add_le_add_left (by decide : 1 ≤ 64) _) hr.units) hF I.ok.mod.kin J (Z.ty _ _ I.kIn p) nf c.hm c.ne hs hf ?_
  refine wpAny_mono (run_eqI (A := X.A.in1) F hb ⟨hr.in1, rfl⟩ I (show L2.RelV (.ref a) (.ref a) from rfl) ry q) (fun w s' e => ?_) fun _ _ z => z
  obtain ⟨z, H', I', rz, b, ez, qz⟩ := e
  subst ez
  cases rz
  exact ⟨b, rfl, .bl (!b), H', I', rfl, qz⟩
end
/-! loops and comprehensions over enumerate and zip of tuples -/
theorem for_enumT {K : PySem.W.Frag} {a : Addr} {xs : List V} {g : TG} {tb : TS} {D : Ends} {σ : L2.St} {H : Hp} (Pv : Nat → L2.St → Hp → Prop) (h0 : Pv 0 σ H) (hl : ∀ i σ H, i ≤ xs.length → Pv i σ H → SqT K H a xs)
    (hs : ∀ i x σ H T, xs[i]? = some x → Pv i σ H → H T = none → g (.ref T) σ (upd H T (.tup [.int (i : Nat), x])) fun σ2 H2 => tb { D with nx := Pv (i + 1), ct := Pv (i + 1), bk := D.nx } σ2 H2) (hd : ∀ σ H, Pv xs.length σ H → D.nx σ H) :
    ∃ W : Nat → Nat → L2.St → Hp → Prop, (∃ m, W 0 m σ H) ∧ ∀ i m σ H, W i m σ H →
      ((IteT K a).stop i H ∧ D.nx σ H) ∨ ((IteT K a).go i H ∧ ∃ N : L2.St → Hp → Prop, (∀ σ' H', N σ' H' → ∃ m', m' < m ∧ W (i + 1) m' σ' H') ∧ ∀ x H', (IteT K a).yld i H x H' → g x σ H' fun σ2 H2 => tb { D with nx := N, ct := N, bk := D.nx } σ2 H2) := by
  refine ⟨fun i m σ H => m = xs.length - i ∧ i ≤ xs.length ∧ Pv i σ H, ⟨xs.length, by simp, Nat.zero_le _, h0⟩, ?_⟩
  rintro i m σ H ⟨rfl, hi, p⟩
  have q := hl i σ H hi p
  by_cases hlt : i < xs.length
  · refine .inr ⟨⟨xs, xs[i], q, by simp [hlt]⟩, Pv (i + 1), fun σ' H' p' => ⟨xs.length - (i + 1), by omega, rfl, hlt, p'⟩, fun x H' y => ?_⟩
    obtain ⟨T, x', rfl, nT, rfl, y⟩ := y
    exact hs i x' σ H T (y xs q) p nT
  · have e : i = xs.length := by omega
    subst e
    exact .inl ⟨⟨xs, q, Nat.le_refl _⟩, hd σ H p⟩
theorem lc_enumT {K : PySem.W.Frag} {a : Addr} {xs : List V} {g : TG} {tt : TT} {te : TE} {vs : List Nat} {σ : L2.St} {H1 : Hp} {D : Addr} {Qd : Hp → Prop} (Pv : Nat → Hp → Prop) (h0 : Pv 0 (upd H1 D (.lst []))) (hl : ∀ i H, i ≤ xs.length → Pv i H → SqT K H a xs)
    (hs : ∀ i x H T, xs[i]? = some x → Pv i H → H T = none → g (.ref T) (wipe σ vs) (upd H T (.tup [.int (i : Nat), x])) fun σ2 H2 => wipe σ2 vs = wipe σ vs ∧ tt σ2 H2 fun b H3 =>
      if b = true then te σ2 H3 fun y H4 => ∃ acc, H4 D = some (.lst acc) ∧ acc.length < sizeLine ∧ Pv (i + 1) (upd H4 D (.lst (acc ++ [y]))) else Pv (i + 1) H3) (hd : ∀ H, Pv xs.length H → Qd H) :
    ∃ W : Nat → Nat → Hp → Prop, (∃ m, W 0 m (upd H1 D (.lst []))) ∧ ∀ i m H, W i m H →
      ((IteT K a).stop i H ∧ Qd H) ∨ ((IteT K a).go i H ∧ ∃ Nx : Hp → Prop, (∀ H', Nx H' → ∃ m', m' < m ∧ W (i + 1) m' H') ∧ ∀ x H', (IteT K a).yld i H x H' → g x (wipe σ vs) H' fun σ2 H2 => wipe σ2 vs = wipe σ vs ∧ tt σ2 H2 fun b H3 =>
        if b = true then te σ2 H3 fun y H4 => ∃ acc, H4 D = some (.lst acc) ∧ acc.length < sizeLine ∧ Nx (upd H4 D (.lst (acc ++ [y]))) else Nx H3) := by
  refine ⟨fun i m H => m = xs.length - i ∧ i ≤ xs.length ∧ Pv i H, ⟨xs.length, by simp, Nat.zero_le _, h0⟩, ?_⟩
  rintro i m H ⟨rfl, hi, p⟩
  have q := hl i H hi p
  by_cases hlt : i < xs.length
  · refine .inr ⟨⟨xs, xs[i], q, by simp [hlt]⟩, Pv (i + 1), fun H' p' => ⟨xs.length - (i + 1), by omega, rfl, hlt, p'⟩, fun x H' y => ?_⟩
    obtain ⟨T, x', rfl, nT, rfl, y⟩ := y
    exact hs i x' H T (y xs q) p nT
  · have e : i = xs.length := by omega
    subst e
    exact .inl ⟨⟨xs, q, Nat.le_refl _⟩, hd H p⟩
theorem lc_zipT {K : PySem.W.Frag} {a b : Addr} {xs ys : List V} {g : TG} {tt : TT} {te : TE} {vs : List Nat} {σ : L2.St} {H1 : Hp} {D : Addr} {Qd : Hp → Prop} (hle : ys.length ≤ xs.length) (Pv : Nat → Hp → Prop) (h0 : Pv 0 (upd H1 D (.lst []))) (hl : ∀ i H, i ≤ ys.length → Pv i H → SqT K H a xs ∧ SqT K H b ys)
    (hs : ∀ i x y H T, xs[i]? = some x → ys[i]? = some y → Pv i H → H T = none → g (.ref T) (wipe σ vs) (upd H T (.tup [x, y])) fun σ2 H2 => wipe σ2 vs = wipe σ vs ∧ tt σ2 H2 fun c H3 =>
      if c = true then te σ2 H3 fun y H4 => ∃ acc, H4 D = some (.lst acc) ∧ acc.length < sizeLine ∧ Pv (i + 1) (upd H4 D (.lst (acc ++ [y]))) else Pv (i + 1) H3) (hd : ∀ H, Pv ys.length H → Qd H) :
    ∃ W : Nat → Nat → Hp → Prop, (∃ m, W 0 m (upd H1 D (.lst []))) ∧ ∀ i m H, W i m H →
      ((RZ.ItzT K a b).stop i H ∧ Qd H) ∨ ((RZ.ItzT K a b).go i H ∧ ∃ Nx : Hp → Prop, (∀ H', Nx H' → ∃ m', m' < m ∧ W (i + 1) m' H') ∧ ∀ x H', (RZ.ItzT K a b).yld i H x H' → g x (wipe σ vs) H' fun σ2 H2 => wipe σ2 vs = wipe σ vs ∧ tt σ2 H2 fun c H3 =>
        if c = true then te σ2 H3 fun y H4 => ∃ acc, H4 D = some (.lst acc) ∧ acc.length < sizeLine ∧ Nx (upd H4 D (.lst (acc ++ [y]))) else Nx H3) := by
  refine ⟨fun i m H => m = ys.length - i ∧ i ≤ ys.length ∧ Pv i H, ⟨ys.length, by simp, Nat.zero_le _, h0⟩, ?_⟩
  rintro i m H ⟨rfl, hi, p⟩
  obtain ⟨q1, q2⟩ := hl i H hi p
  by_cases hlt : i < ys.length
  · have hlt2 : i < xs.length := Nat.lt_of_lt_of_le hlt hle
    refine .inr ⟨⟨xs, ys, xs[i], ys[i], q1, q2, by simp [hlt2], by simp [hlt]⟩, Pv (i + 1), fun H' p' => ⟨ys.length - (i + 1), by omega, rfl, hlt, p'⟩, fun x H' y => ?_⟩
    obtain ⟨T, x', y', rfl, nT, rfl, z1, z2⟩ := y
    exact hs i x' y' H T (z1 xs q1) (z2 ys q2) p nT
  · have e : i = ys.length := by omega
    subst e
    exact .inl ⟨⟨xs, ys, q1, q2, .inr (Nat.le_refl _)⟩, hd H p⟩
/-! things of any kind -/
def isIntV : V → Bool
  | .int _ => true
  | _ => false
def numV (b : Int) : V → Bool
  | .int i => decide (0 ≤ i) && decide (i < b)
  | _ => false
/-- a thing whose kind is known: of a built-in type, or of the tables' class -/
def Th (K : PySem.W.Frag) (C : Addr) (H : Hp) (x : V) : Prop := ∃ t, TyX K H x t ∧ (∀ c, t = .ref c → c = C)
theorem tyX_same {K : PySem.W.Frag} {H H' : Hp} (e : Same H H') {x : V} {t : Value} (h : TyX K H x t) : TyX K H' x t := by
  cases h with
  | base b =>
    cases b with
    | non => exact .base .non
    | bl b => exact .base (.bl b)
    | int i => exact .base (.int i)
    | str x => exact .base (.str x)
    | flt x => exact .base (.flt x)
    | lst h => exact .base (.lst (e _ _ h))
    | frz h => exact .base (.frz (e _ _ h))
    | tup h => exact .base (.tup (e _ _ h))
    | dK h => exact .base (.dK (e _ _ h))
    | dT h => exact .base (.dT (e _ _ h))
    | ins h a b c d f => exact .base (.ins (e _ _ h) a b c d f)
  | byt b => exact .byt b
  | set h => exact .set (e _ _ h)
  | kList a b => exact .kList a b
  | kTuple a b => exact .kTuple a b
  | kDict a b => exact .kDict a b
  | fTuple h => exact .fTuple (e _ _ h)
  | fDict h => exact .fDict (e _ _ h)
theorem Th.same {K : PySem.W.Frag} {C : Addr} {H H' : Hp} (e : Same H H') {x : V} (h : Th K C H x) : Th K C H' x := by
  obtain ⟨t, a, b⟩ := h
  exact ⟨t, tyX_same e a, b⟩
theorem th_int {K : PySem.W.Frag} {C : Addr} {H : Hp} {i : Int} : Th K C H (.int i) := ⟨_, .base (.int i), fun _ q => nomatch q⟩
theorem th_kit {K : PySem.W.Frag} {C : Addr} (c : TC K C) {H : Hp} {x : V} (h : Th K C H x) : ∃ t b1 b2, TyX K H x t ∧ PySem.W.kitOne K t (.type "int") = some b1 ∧ PySem.W.kitOne K t (.type "bool") = some b2 ∧ (b1 && !b2) = isIntV x := by
  obtain ⟨t, ty, ht⟩ := h
  have go : ∀ (n : String) (b1 b2 : Bool), t = .type n → kitB n "int" = some b1 → kitB n "bool" = some b2 → (b1 && !b2) = isIntV x → ∃ t b1 b2, TyX K H x t ∧ PySem.W.kitOne K t (.type "int") = some b1 ∧ PySem.W.kitOne K t (.type "bool") = some b2 ∧ (b1 && !b2) = isIntV x :=
    fun n b1 b2 e h1 h2 h3 => ⟨t, b1, b2, ty, by rw [e]; exact kit_ty h1, by rw [e]; exact kit_ty h2, h3⟩
  cases ty with
  | base b =>
    cases b with
    | non => exact go "NoneType" false false rfl (by decide +kernel) (by decide +kernel) rfl
    | bl b => exact go "bool" true true rfl (by decide +kernel) (by decide +kernel) rfl
    | int i => exact go "int" true false rfl (by decide +kernel) (by decide +kernel) rfl
    | str x => exact go "str" false false rfl (by decide +kernel) (by decide +kernel) rfl
    | flt x => exact go "float" false false rfl (by decide +kernel) (by decide +kernel) rfl
    | lst h => exact go "list" false false rfl (by decide +kernel) (by decide +kernel) rfl
    | frz h => exact go "list" false false rfl (by decide +kernel) (by decide +kernel) rfl
    | tup h => exact go "tuple" false false rfl (by decide +kernel) (by decide +kernel) rfl
    | dK h => exact go "dict" false false rfl (by decide +kernel) (by decide +kernel) rfl
    | dT h => exact go "dict" false false rfl (by decide +kernel) (by decide +kernel) rfl
    | @ins a C' dx fs h a1 b1 c1 d1 f1 =>
      have e := ht C' rfl
      subst e
      exact ⟨_, false, false, .base (.ins h a1 b1 c1 d1 f1), c.kI, c.kB, rfl⟩
  | byt b => exact go "bytes" false false rfl (by decide +kernel) (by decide +kernel) rfl
  | set h => exact go "set" false false rfl (by decide +kernel) (by decide +kernel) rfl
  | kList a b => exact go "list" false false rfl (by decide +kernel) (by decide +kernel) rfl
  | kTuple a b => exact go "tuple" false false rfl (by decide +kernel) (by decide +kernel) rfl
  | kDict a b => exact go "dict" false false rfl (by decide +kernel) (by decide +kernel) rfl
  | fTuple h => exact go "tuple" false false rfl (by decide +kernel) (by decide +kernel) rfl
  | fDict h => exact go "dict" false false rfl (by decide +kernel) (by decide +kernel) rfl
theorem tyX_sqT {K : PySem.W.Frag} {H : Hp} {a : Addr} {xs : List V} (h : SqT K H a xs) : TyX K H (.ref a) (.type "tuple") := by
  rcases h with (h | ⟨o, h⟩) | ⟨o, its, n, h, hc, _⟩
  · exact .base (.tup h)
  · exact .fTuple h
  · exact .kTuple h hc
/-- a thing as the judges look at it: a tuple of things, or no tuple -/
inductive Tg (K : PySem.W.Frag) (C : Addr) (H : Hp) : V → Option (List V) → Prop
  | tup {a : Addr} {xs : List V} (h : SqT K H a xs) (hi : ∀ y ∈ xs, Th K C H y) (hz : xs.length ≤ 100000) : Tg K C H (.ref a) (some xs)
  | no {x : V} {t : Value} (ty : TyX K H x t) (hk : PySem.W.kitOne K t (.type "tuple") = some false) : Tg K C H x none
theorem Tg.same {K : PySem.W.Frag} {C : Addr} {H H' : Hp} (e : Same H H') {x : V} {o : Option (List V)} (h : Tg K C H x o) : Tg K C H' x o := by
  cases h with
  | tup h hi hz => exact .tup (sqT_same e h) (fun y hy => (hi y hy).same e) hz
  | no ty hk => exact .no (tyX_same e ty) hk
theorem Tg.ints {K : PySem.W.Frag} {C : Addr} {H : Hp} {a : Addr} {ns : List Int} (h : SqT K H a (ns.map V.int)) (hz : ns.length ≤ 100000) : Tg K C H (.ref a) (some (ns.map V.int)) := .tup h (fun y hy => by
  obtain ⟨n, _, rfl⟩ := List.mem_map.mp hy
  exact th_int) (by rw [List.length_map]; exact hz)
/-- whether it is an ascending tuple of numbers below b -/
def ascV (b : Int) : List V → Bool
  | [] => true
  | [x] => numV b x
  | x :: y :: r => numV b x && (match x, y with | .int i, .int j => decide (i < j) | _, _ => false) && ascV b (y :: r)
def ltV : V → V → Bool
  | .int i, .int j => decide (i < j)
  | _, _ => false
theorem ascV_eq (b : Int) : ∀ xs : List V, ascV b xs = (xs.all (numV b) && ((xs.zip (xs.drop 1)).all fun p => ltV p.1 p.2))
  | [] => rfl
  | [x] => by
    show numV b x = _
    simp [List.all]
  | x :: y :: r => by
    have ih := ascV_eq b (y :: r)
    have e : ascV b (x :: y :: r) = (numV b x && ltV x y && ascV b (y :: r)) := by
      cases x <;> cases y <;> rfl
    rw [e, ih]
    simp only [List.drop_succ_cons, List.drop_zero, List.zip_cons_cons, List.all_cons]
    cases numV b x <;> cases ltV x y <;> cases numV b y <;> cases (List.all r (numV b)) <;> simp
theorem ascV_ints {b : Int} : ∀ {ns : List Int}, ns.Pairwise (· < ·) → (∀ x ∈ ns, 0 ≤ x ∧ x < b) → ascV b (ns.map V.int) = true
  | [], _, _ => rfl
  | [x], _, h => by
    have := h x List.mem_cons_self
    show (decide (0 ≤ x) && decide (x < b)) = true
    simp [this.1, this.2]
  | x :: y :: r, hp, h => by
    have ih := ascV_ints (ns := y :: r) (List.pairwise_cons.mp hp).2 fun z hz => h z (List.mem_cons_of_mem _ hz)
    have h1 := h x List.mem_cons_self
    have h2 := (List.pairwise_cons.mp hp).1 y List.mem_cons_self
    show ((decide (0 ≤ x) && decide (x < b)) && decide (x < y) && ascV b ((y :: r).map V.int)) = true
    rw [ih]
    simp [h1.1, h1.2, h2]
theorem all_num_ints {b : Int} {xs : List V} (h : xs.all (numV b) = true) : ∃ ns : List Int, xs = ns.map V.int ∧ ∀ x ∈ ns, 0 ≤ x ∧ x < b := by
  induction xs with
  | nil => exact ⟨[], rfl, fun _ h => (by cases h)⟩
  | cons x r ih =>
    rw [List.all_cons, Bool.and_eq_true] at h
    obtain ⟨ns, e, hb⟩ := ih h.2
    cases x with
    | int i =>
      have h1 : (decide (0 ≤ i) && decide (i < b)) = true := h.1
      rw [Bool.and_eq_true, decide_eq_true_eq, decide_eq_true_eq] at h1
      refine ⟨i :: ns, by rw [e]; rfl, fun x hx => ?_⟩
      rcases List.mem_cons.mp hx with q | q
      · rw [q]; exact h1
      · exact hb x q
    | _ => exact absurd h.1 (by simp [numV])
/-! tables as objects -/
def tf (v : V) (n : Nat) : List (Str × V) := putF "size" (.int (n : Int)) (putF "rows" v [])
theorem rs_ne : ¬ (("rows" : Str) = "size") := by decide +kernel
theorem sr_ne : ¬ (("size" : Str) = "rows") := by decide +kernel
theorem tf_rows (v : V) (n : Nat) : (tf v n).lookup ("rows" : Str) = some v := by
  unfold tf
  rw [lookup_putF, if_neg rs_ne, lookup_putF, if_pos rfl]
theorem tf_size (v : V) (n : Nat) : (tf v n).lookup ("size" : Str) = some (.int (n : Int)) := by
  unfold tf
  rw [lookup_putF, if_pos rfl]
theorem tf_eq (v : V) (n : Nat) : tf v n = ([("rows", v), ("size", V.int (n : Int))] : List (Str × V)) := by
  show (if ("rows" : Str) = "size" then [(("rows" : Str), V.int (n : Int))] else (("rows" : Str), v) :: putF "size" (V.int (n : Int)) []) = _
  rw [if_neg rs_ne]
  all_goals rfl
theorem tf_put (v u : V) (n m : Nat) : putF "size" (.int (m : Int)) (putF "rows" u (tf v n)) = tf u m := by
  rw [tf_eq, tf_eq]
  have e1 : putF "rows" u [("rows", v), ("size", V.int (n : Int))] = ([("rows", u), ("size", V.int (n : Int))] : List (Str × V)) := by
    show (if ("rows" : Str) = "rows" then (("rows" : Str), u) :: [(("size" : Str), V.int (n : Int))] else _) = _
    rw [if_pos rfl]
  rw [e1]
  show (if ("rows" : Str) = "size" then _ else (("rows" : Str), u) :: (if ("size" : Str) = "size" then [(("size" : Str), V.int (m : Int))] else _)) = _
  rw [if_neg rs_ne, if_pos rfl]
def TableAt (K : PySem.W.Frag) (C : Addr) (H : Hp) (x : V) (rows : List (List Int)) : Prop := ∃ p dx v, x = .ref p ∧ H p = some (.ins C dx (tf v rows.length)) ∧ RowsAt K H v rows
theorem TableAt.same {K : PySem.W.Frag} {C : Addr} {H H' : Hp} {x : V} {rows : List (List Int)} (h : TableAt K C H x rows) (e : Same H H') : TableAt K C H' x rows := by
  obtain ⟨p, dx, v, ex, hp, hr⟩ := h
  exact ⟨p, dx, v, ex, e _ _ hp, hr.same e⟩
theorem TableAt.gr {t l : Addr} {K : PySem.W.Frag} {C : Addr} {H H' : Hp} {x : V} {rows : List (List Int)} (h : TableAt K C H x rows) (g : Gr t H H') (T : Tape H t l) : TableAt K C H' x rows := by
  obtain ⟨p, dx, v, ex, hp, hr⟩ := h
  have hpt : p ≠ t := by
    obtain ⟨ns, b, c, d, e, ht, _⟩ := T
    exact ne_of hp ht (by intro z; cases z)
  exact ⟨p, dx, v, ex, g _ _ hpt hp, hr.gr g T⟩
/-- what changes at an instance is no tuple -/
theorem sqT_ins {K : PySem.W.Frag} {H H' : Hp} {a p C dx : Addr} {fs : List (Str × V)} {xs : List V} (h : SqT K H a xs) (e : H p = some (.ins C dx fs)) (k : ∀ b o, b ≠ p → H b = some o → H' b = some o) : SqT K H' a xs := by
  rcases h with (h | ⟨o, h⟩) | h
  · exact .inl (.inl (k _ _ (ne_of h e (by intro z; cases z)) h))
  · exact .inl (.inr ⟨o, k _ _ (ne_of h e (by intro z; cases z)) h⟩)
  · exact .inr h
theorem RowsT.ins {K : PySem.W.Frag} {H H' : Hp} {p C dx : Addr} {fs : List (Str × V)} (e : H p = some (.ins C dx fs)) (k : ∀ b o, b ≠ p → H b = some o → H' b = some o) : ∀ {vs : List V} {rs : List (List Int)}, RowsT K H vs rs → RowsT K H' vs rs
  | _, _, .nil => .nil
  | _, _, .cons h r => .cons (sqT_ins h e k) (r.ins e k)
theorem RowsAt.ins {K : PySem.W.Frag} {H H' : Hp} {p C dx : Addr} {fs : List (Str × V)} {v : V} {rows : List (List Int)} (h : RowsAt K H v rows) (e : H p = some (.ins C dx fs)) (k : ∀ b o, b ≠ p → H b = some o → H' b = some o) : RowsAt K H' v rows := by
  obtain ⟨a, vs, ev, h1, h2⟩ := h
  exact ⟨a, vs, ev, sqT_ins h1 e k, h2.ins e k⟩
theorem PE.imp {X : Cx} {e : Expr} {t t' : TE} (h : PE X e t) (i : ∀ σ H Q, t' σ H Q → t σ H Q) : PE X e t' := ⟨fun pins s σ H Q I q => h.run pins s σ H Q I (i σ H Q q)⟩
/-- the class, ready to be called and compared -/
structure MkT (P : Program) (w : World) (K : PySem.W.Frag) (mg : Str → Option Value) (base : Heap) (C : Addr) (n m : Nat) (spI spE : Sp) : Prop where
  mgC : mg "Table" = some (.ref C)
  tc : TC K C
  ini : ∃ f fd, Mk K C f ∧ FnOk P w K mg base CX0 n f fd ["self", "rows"] spI ∧ Binds K fd ["self", "rows"] []
  eqm : ∃ f fd, FnOk P w K mg base CX0 m f fd ["self", "other"] spE ∧ Binds K fd ["self", "other"] [] ∧ PySem.W.findIn K (.ref C) "__eq__" = some (some (.ref f)) ∧ PySem.W.isFn K (.ref f) = true
def spInit (K : PySem.W.Frag) (C : Addr) : Sp := fun vs H Q _ => ∃ (p dx : Addr) (v : V) (rows : List (List Int)), vs = [.ref p, v] ∧ H p = some (.ins C dx []) ∧ Good rows ∧ rows.length ≤ 12 ∧ RowsAt K H v rows ∧ ∀ H' : Hp, (∀ b o, b ≠ p → H b = some o → H' b = some o) → H' p = some (.ins C dx (tf v rows.length)) → Q .non H'
def tTable (K : PySem.W.Frag) (C : Addr) (te : TE) : TE := fun σ H Q => te σ H fun v H1 => ∃ rows, Good rows ∧ rows.length ≤ 12 ∧ RowsAt K H1 v rows ∧ ∀ p dx H2, Same H1 H2 → H1 p = none → H2 p = some (.ins C dx (tf v rows.length)) → Q (.ref p) H2
def tUp (te : TE) : TE := fun σ H Q => ∃ Q' : VK, te σ H Q' ∧ ∀ v H1, Q' v H1 → Q v H1
theorem pe_up {X : Cx} {e : Expr} {te : TE} (h : PE X e te) : PE X e (tUp te) := ⟨fun pins s σ H Q I ⟨Q', h1, h2⟩ => thn (h.run pins s σ H Q' I h1) fun u s1 ⟨v, H1, I1, r, q⟩ => ⟨v, H1, I1, r, h2 v H1 q⟩⟩
theorem pe_makeTable {X : Cx} {C : Addr} {n m : Nat} {spE : Sp} {e : Expr} {te : TE} {p pos : Pos} (G : MkT X.prog X.w X.K X.mg X.base C n m (spInit X.K C) spE) (hr : Room (n + 1) X.A) (ha : PE X e te) (hg : Gl X "Table" := by rfl)
    (hst : starEach [e] X.env = (false, eval e X.env) :: starEach [] X.env := by rfl) : PE X (.Call (.Name "Table" p) [e] [] pos) (tTable X.K C te) := by
  obtain ⟨f, fd, M, F, b⟩ := G.ini
  have base := pe_make (X := X) (x := "Table") (p := p) (pos := pos) M F hr hg G.mgC b .nil (pass0 (X := X)) (pa_cons (pe_up ha) pa_nil hst) (by decide) hst rfl
  refine PE.imp base fun σ H Q h => ⟨_, h, fun v H1 ⟨rows, hG, hl, hR, k⟩ x dx nx ndx ne => ?_⟩
  have hdx : (upd (upd H1 dx (.own x)) x (.ins C dx [])) x = some (.ins C dx []) := upd_same
  have s1 : Same H1 (upd (upd H1 dx (.own x)) x (.ins C dx [])) := (same_new ndx).trans (same_new (by rw [upd_ne ne.symm]; exact nx))
  refine ⟨x, dx, v, rows, rfl, hdx, hG, hl, hR.same s1, fun H' k1 k2 => ⟨rfl, k x dx H' (fun b o e => ?_) nx k2⟩⟩
  have nb : b ≠ x := ne_of_none e nx
  exact k1 _ _ nb (s1 _ _ e)
/-- what == promises -/
def spEqT (K : PySem.W.Frag) (C : Addr) : Sp := fun vs H Q _ => ∃ (x y : V) (r1 r2 : List (List Int)), vs = [x, y] ∧ TableAt K C H x r1 ∧ TableAt K C H y r2 ∧ ∀ H', Same H H' → Q (.bl (decide (r1 = r2))) H'
def rEqT (K : PySem.W.Frag) (C : Addr) : R2 := fun x y H Q => ∃ r1 r2, TableAt K C H x r1 ∧ TableAt K C H y r2 ∧ ∀ H', Same H H' → Q (.bl (decide (r1 = r2))) H'
def rNeT (K : PySem.W.Frag) (C : Addr) : R2 := fun x y H Q => ∃ r1 r2, TableAt K C H x r1 ∧ TableAt K C H y r2 ∧ ∀ H', Same H H' → Q (.bl (!decide (r1 = r2))) H'
theorem TableAt.tyx {K : PySem.W.Frag} {C : Addr} (c : TC K C) {H : Hp} {x : V} {rows : List (List Int)} (h : TableAt K C H x rows) : TyX K H x (.ref C) := by
  obtain ⟨p, dx, v, rfl, hp, _⟩ := h
  exact c.ty hp
theorem op_eq_table {X : Cx} {C : Addr} {n m : Nat} {spI : Sp} (G : MkT X.prog X.w X.K X.mg X.base C n m spI (spEqT X.K C)) (hr : Room m X.A) : OpR X (compareOp .Eq) (rEqT X.K C) := by
  obtain ⟨f, fd, F, b, hs, hf⟩ := G.eqm
  intro pins s σ H x y v u Q I rx ry h
  obtain ⟨r1, r2, t1, t2, q⟩ := h
  obtain ⟨p, dx, w', ex, hp, hR⟩ := id t1
  exact op_eqI F b hs hf hr pins s σ H x y v u Q I rx ry ⟨p, dx, _, _, ex, hp, t2.tyx G.tc, by simp [PySem.W.notFirst], x, y, r1, r2, rfl, t1, t2, fun H' e => ⟨_, rfl, q H' e⟩⟩
theorem op_ne_table {X : Cx} {C : Addr} {n m : Nat} {spI : Sp} (G : MkT X.prog X.w X.K X.mg X.base C n m spI (spEqT X.K C)) (hr : Room (m + 1) X.A) : OpR X (compareOp .NotEq) (rNeT X.K C) := by
  obtain ⟨f, fd, F, b, hs, hf⟩ := G.eqm
  intro pins s σ H x y v u Q I rx ry h
  obtain ⟨r1, r2, t1, t2, q⟩ := h
  obtain ⟨p, dx, w', ex, hp, hR⟩ := id t1
  exact op_neI F b G.tc hs hf hr pins s σ H x y v u Q I rx ry ⟨p, dx, _, _, ex, hp, t2.tyx G.tc, by simp [PySem.W.notFirst], x, y, r1, r2, rfl, t1, t2, fun H' e => ⟨_, rfl, q H' e⟩⟩
/-! equality of data -/
theorem eqv_I (a b : List Int) : PyData.eqv (dI a) (dI b) = decide (a = b) := by
  show PyData.eqv (.tuple _) (.tuple _) = _
  rw [PyData.eqv]
  exact PySem.W.ked_eqvAll a b
theorem eqvAll_R : ∀ (r1 r2 : List (List Int)), PyData.eqvAll (r1.map dI) (r2.map dI) = decide (r1 = r2)
  | [], [] => by simp [PyData.eqvAll]
  | [], _ :: _ => by simp [PyData.eqvAll]
  | _ :: _, [] => by simp [PyData.eqvAll]
  | x :: xs, y :: ys => by
    rw [List.map_cons, List.map_cons, PyData.eqvAll, eqv_I, eqvAll_R xs ys, ← Bool.decide_and]
    exact decide_eq_decide.mpr (by rw [List.cons.injEq])
theorem eqv_R (r1 r2 : List (List Int)) : PyData.eqv (dR r1) (dR r2) = decide (r1 = r2) := by
  show PyData.eqv (.tuple _) (.tuple _) = _
  rw [PyData.eqv]
  exact eqvAll_R r1 r2
theorem eqv_L (r1 r2 : List (List Int)) : PyData.eqv (.list (r1.map dI)) (.list (r2.map dI)) = decide (r1 = r2) := by
  rw [PyData.eqv]
  exact eqvAll_R r1 r2
theorem lay_ints : ∀ ns : List Int, PyData.canLayAll0 (ns.map PyData.int) = true
  | [] => by rw [List.map_nil, PyData.canLayAll0]
  | n :: r => by rw [List.map_cons, PyData.canLayAll0, lay_ints r, PyData.canLay0]; rfl
theorem dep_ints : ∀ ns : List Int, PyData.depthAll (ns.map PyData.int) = 0
  | [] => by rw [List.map_nil, PyData.depthAll]
  | n :: r => by rw [List.map_cons, PyData.depthAll, dep_ints r, PyData.depth]; rfl
theorem lay_rows : ∀ rs : List (List Int), PyData.canLayAll0 (rs.map dI) = true
  | [] => by rw [List.map_nil, PyData.canLayAll0]
  | n :: r => by
    rw [List.map_cons, PyData.canLayAll0, lay_rows r]
    show (PyData.canLay0 (.tuple _) && true) = true
    rw [PyData.canLay0, lay_ints]
    rfl
theorem dep_rows : ∀ rs : List (List Int), PyData.depthAll (rs.map dI) ≤ 1
  | [] => by rw [List.map_nil, PyData.depthAll]; decide
  | n :: r => by
    rw [List.map_cons, PyData.depthAll]
    refine Nat.max_le.mpr ⟨?_, dep_rows r⟩
    show PyData.depth (.tuple _) ≤ 1
    rw [PyData.depth, dep_ints]
    decide
theorem sh_I (ns : List Int) : SeqAt.shaped (dI ns) = true := by
  show SeqAt.shaped (.tuple _) = true
  unfold SeqAt.shaped
  rw [PyData.canLay0, PyData.depth, lay_ints, dep_ints]
  rfl
theorem sh_R (rs : List (List Int)) : SeqAt.shaped (dR rs) = true := by
  show SeqAt.shaped (.tuple _) = true
  unfold SeqAt.shaped
  rw [PyData.canLay0, PyData.depth, lay_rows, Bool.true_and]
  exact decide_eq_true (by have := dep_rows rs; omega)
theorem sh_L (rs : List (List Int)) : SeqAt.shaped (.list (rs.map dI)) = true := by
  unfold SeqAt.shaped
  rw [PyData.canLay0, PyData.depth, lay_rows, Bool.true_and]
  exact decide_eq_true (by have := dep_rows rs; omega)
theorem dp_L {K : PySem.W.Frag} {H : Hp} {p : Addr} {vs : List V} {rs : List (List Int)} (h : H p = some (.lst vs)) (r : RowsT K H vs rs) : Dp K H (.ref p) (.list (rs.map dI)) := .lst (SqL.of h) (rowsT_dp r)
end Fo

set_option maxRecDepth 100000
set_option maxHeartbeats 4000000
namespace Fo
open PySem PySem.Spec PyProof.Rows L2
def top (i : Nat) : Stmt := PySem.Challenge.pw_fullorring_k08_first_wrong_lines.main.body.getD i (.Pass ⟨0, 0, 0, 0⟩)
abbrev s_law_tape : Stmt := top 26
abbrev n_law_tape : List Str := ["script"]
theorem sc_law_tape : FnScope n_law_tape ["script"] (defScope s_law_tape) := ⟨rfl, rfl, rfl, by decide +kernel, rfl, by decide +kernel, by decide +kernel⟩
abbrev s_law_pick : Stmt := top 27
abbrev n_law_pick : List Str := ["tape", "size", "digit", "cell", "mixed"]
theorem sc_law_pick : FnScope n_law_pick ["tape", "size"] (defScope s_law_pick) := ⟨rfl, rfl, rfl, by decide +kernel, rfl, by decide +kernel, by decide +kernel⟩
abbrev s_law_order : Stmt := top 28
abbrev n_law_order : List Str := ["tape", "many", "left", "k"]
theorem sc_law_order : FnScope n_law_order ["tape", "many"] (defScope s_law_order) := ⟨rfl, rfl, rfl, by decide +kernel, rfl, by decide +kernel, by decide +kernel⟩
abbrev s_law_loose : Stmt := top 29
abbrev n_law_loose : List Str := ["tape", "many", "order", "thick", "planted", "found", "person", "row", "thing"]
theorem sc_law_loose : FnScope n_law_loose ["tape", "many"] (defScope s_law_loose) := ⟨rfl, rfl, rfl, by decide +kernel, rfl, by decide +kernel, by decide +kernel⟩
abbrev s_law_blocks : Stmt := top 30
abbrev n_law_blocks : List Str := ["tape", "most", "found", "base", "size", "kind", "k", "row", "ahead", "j", "thing"]
theorem sc_law_blocks : FnScope n_law_blocks ["tape", "most"] (defScope s_law_blocks) := ⟨rfl, rfl, rfl, by decide +kernel, rfl, by decide +kernel, by decide +kernel⟩
abbrev s_law_moved : Stmt := top 31
abbrev n_law_moved : List Str := ["tape", "rows", "people", "things", "person", "thing"]
theorem sc_law_moved : FnScope n_law_moved ["tape", "rows"] (defScope s_law_moved) := ⟨rfl, rfl, rfl, by decide +kernel, rfl, by decide +kernel, by decide +kernel⟩
abbrev s_law_rows : Stmt := top 32
abbrev n_law_rows : List Str := ["tape", "most", "kind"]
theorem sc_law_rows : FnScope n_law_rows ["tape", "most"] (defScope s_law_rows) := ⟨rfl, rfl, rfl, by decide +kernel, rfl, by decide +kernel, by decide +kernel⟩
section
variable {P : Program} {w : World} {K : PySem.W.Frag} {mg : Str → Option Value} {base : Heap}
/-! ### the tape -/
def spTape (K : PySem.W.Frag) : Sp := fun vs H Q _ => ∃ (a : Addr) (ns : List Int), vs = [.ref a] ∧ SqL K H a (ns.map V.int) ∧ ∀ t l H', Same H H' → H t = none → H l = none → Tape H' t l → Q (.ref t) H'
theorem ok_tape (A : At K mg "_law_tape" s_law_tape ["script"]) (T : Tx mg) : Dfn P w K mg base "_law_tape" ["script"] 1 (spTape K) := by
  refine A.ok sc_law_tape (fun vs H Q E h => ?_) (fun f cdv A outer s H vs Q E hr h => ?_)
  · obtain ⟨a, ns, rfl, _⟩ := h
    rfl
  · obtain ⟨a, ns, rfl, hS, k⟩ := h
    refine ⟨_, (pss_one (ps_ret (pe_lst (pa_cons (pe_callTy c_list (by rfl) T.list (by decide +kernel) (pa_cons (pv 0) pa_nil)) (pa_cons pe_int (pa_cons pe_int (pa_cons pe_int (pa_cons pe_int pa_nil)))))))), ?_⟩
    refine ⟨_, rfl, a, _, rfl, .inl hS, fun l hl => ⟨by show 5 ≤ sizeLine; decide, fun t ht => ?_⟩⟩
    have nlt : l ≠ t := fun q => by
      rw [← q, upd_same] at ht
      cases ht
    have ht0 : H t = none := by
      rw [upd_ne nlt.symm] at ht
      exact ht
    exact k t l _ (same_mut (same_new hl) ht0) ht0 hl ⟨ns, 0, 0, 1, 0, upd_same, by rw [upd_ne nlt, upd_same], by decide⟩
def spPick : Sp := fun vs H Q _ => ∃ (t l : Addr) (n : Int), vs = [.ref t, .int n] ∧ Tape H t l ∧ 0 < n ∧ n < 1073741824 ∧ ∀ (k : Int) (H' : Hp), 0 ≤ k → k < n → Gr t H H' → Tape H' t l → Q (.int k) H'
theorem ok_pick (A : At K mg "_law_pick" s_law_pick ["tape", "size"]) (T : Tx mg) : Dfn P w K mg base "_law_pick" ["tape", "size"] 1 spPick := by
  refine A.ok sc_law_pick (fun vs H Q E h => ?_) (fun f cdv A outer s H vs Q E hr h => ?_)
  · obtain ⟨t, l, n, rfl, _⟩ := h
    rfl
  · obtain ⟨t, l, n, rfl, ⟨ns, b, c, d, e, hT, hL, hb⟩, hn, hn2, k⟩ := h
    have hlt : l ≠ t := ne_of hL hT (ints_ne _ _ _)
    have fin : ∀ (x b c d e : Int), 0 ≤ b → Q (.int (x % n)) (upd H t (.lst [.ref l, .int b, .int c, .int d, .int e])) := fun x b c d e hb => by
      exact k _ _ (Int.emod_nonneg _ (by omega)) (Int.emod_lt_of_pos _ hn) Gr.put ⟨ns, b, c, d, e, upd_same, by rw [upd_ne hlt]; exact hL, hb⟩
    refine ⟨_, (pss_cons (ps_if (pt_cmpR op_gt (pe_ix ix_list (pv 0) pe_int (fun _ _ => rfl)) pe_int (nomark _)) (pss_cons (ps_set (i := 2) sc_law_pick.nd rfl (Or.inl rfl) (pe_op op_mod (pe_callTy c_int (by rfl) T.int (by decide +kernel) (pa_cons (pe_ix ix_list (pv 0) pe_int (fun _ _ => rfl)) pa_nil)) (pv 1)))
      (pss_cons (ps_asg (pe_op op_fdiv (pe_ix ix_list (pv 0) pe_int (fun _ _ => rfl)) (pv 1)) (pg_sub (pv 0) pe_int set_list))
      (pss_one (ps_ret (pv 2))))) pss_nil)
      (pss_cons (ps_asg (pe_op op_add (pe_ix ix_list (pv 0) pe_int (fun _ _ => rfl)) pe_int) (pg_sub (pv 0) pe_int set_list))
      (pss_cons (ps_set (i := 3) sc_law_pick.nd rfl (Or.inl rfl) pe_int)
      (Evl.pss_cut (ps_if (pt_cmpR op_lt (pe_ix ix_list (pv 0) pe_int (fun _ _ => rfl)) (pe_callB c_len (by rfl) T.len (by decide +kernel) (pa_cons (pe_ix ix_list (pv 0) pe_int (fun _ _ => rfl)) pa_nil)) (nomark _)) (pss_cons (ps_set (i := 3) sc_law_pick.nd rfl (Or.inl rfl) (pe_ix ix_list (pe_ix ix_list (pv 0) pe_int (fun _ _ => rfl)) (pe_ix ix_list (pv 0) pe_int (fun _ _ => rfl)) (fun _ _ => rfl)))
      (pss_one (ps_asg (pe_op op_add (pe_ix ix_list (pv 0) pe_int (fun _ _ => rfl)) pe_int) (pg_sub (pv 0) pe_int set_list)))) pss_nil)
      (pss_cons (ps_if (pt_cmpR op_ge (pv 3) (pe_op op_pow pe_int pe_int) (nomark _)) (pss_cons (ps_asg (pe_op op_fdiv (pv 3) (pv 1)) (pg_sub (pv 0) pe_int set_list))
      (pss_one (ps_ret (pe_op op_mod (pe_callTy c_int (by rfl) T.int (by decide +kernel) (pa_cons (pv 3) pa_nil)) (pv 1))))) pss_nil)
      (pss_cons (ps_set (i := 4) sc_law_pick.nd rfl (Or.inl rfl) (pe_op op_mod (pe_callTy c_int (by rfl) T.int (by decide +kernel) (pa_cons (pe_op op_add (pe_op op_add (pe_op op_mul (pe_ix ix_list (pv 0) pe_int (fun _ _ => rfl)) pe_int) (pe_op op_mod (pe_callTy c_int (by rfl) T.int (by decide +kernel) (pa_cons (pv 3) pa_nil)) pe_int)) (pe_op op_mul (pe_ix ix_list (pv 0) pe_int (fun _ _ => rfl)) pe_int)) pa_nil)) pe_int))
      (pss_cons (ps_set (i := 4) sc_law_pick.nd rfl (Or.inl rfl) (pe_op op_mod (pe_callTy c_int (by rfl) T.int (by decide +kernel) (pa_cons (pe_op op_mul (pv 4) (pe_op op_add (pe_op op_fdiv (pv 4) pe_int) pe_int)) pa_nil)) pe_int))
      (pss_cons (ps_asg (pv 4) (pg_sub (pv 0) pe_int set_list))
      (pss_one (ps_ret (pe_op op_mod (pe_callTy c_int (by rfl) T.int (by decide +kernel) (pa_cons (pe_op op_fdiv (pv 4) pe_int) pa_nil)) (pv 1)))))))))))), ?_⟩
    refine ⟨_, rfl, t, _, _, _, rfl, rfl, SqL.of hT, rfl, _, _, rfl, rfl, _, rfl, ?_⟩
    refine ite2 (fun _ => ?_) (fun _ => ?_)
    · -- digit = int(tape[2]) % size
      refine ⟨_, rfl, t, _, _, _, rfl, rfl, SqL.of hT, rfl, .inl ⟨_, rfl, _, rfl, _, _, rfl, rfl, hn, ?_⟩⟩
      -- tape[2] = tape[2] // size
      refine ⟨_, rfl, t, _, _, _, rfl, rfl, SqL.of hT, rfl, _, rfl, _, _, rfl, rfl, ⟨hn, hn2⟩, _, rfl, t, _, _, 2, rfl, rfl, hT, rfl, ?_⟩
      exact ⟨_, rfl, fin _ _ _ _ _ hb⟩
    · -- tape[4] = tape[4] + 1
      refine ⟨_, rfl, t, _, _, _, rfl, rfl, SqL.of hT, rfl, _, _, rfl, rfl, _, rfl, t, _, _, 4, rfl, rfl, hT, rfl, ?_⟩
      have hT1 : (upd H t (.lst [.ref l, .int b, .int c, .int d, .int (e + 1)])) t = some (.lst [.ref l, .int b, .int c, .int d, .int (e + 1)]) := upd_same
      have hL1 : (upd H t (.lst [.ref l, .int b, .int c, .int d, .int (e + 1)])) l = some (.lst (ns.map V.int)) := by rw [upd_ne hlt]; exact hL
      -- the cell
      refine ⟨fun σ' H' => ∃ z b' : Int, 0 ≤ b' ∧ σ' = [some (.ref t), some (.int n), none, some (.int z), none] ∧ H' = upd H t (.lst [.ref l, .int b', .int c, .int d, .int (e + 1)]), ?_, ?_⟩
      · refine ⟨_, rfl, t, _, _, _, rfl, rfl, SqL.of hT1, rfl, _, rfl, t, _, _, _, rfl, rfl, SqL.of hT1, rfl, l, _, rfl, .inl (SqL.of hL1), _, _, rfl, rfl, _, rfl, ?_⟩
        refine ite2 (fun hc => ?_) (fun _ => ?_)
        · have hbl : b < (ns.length : Int) := by
            have := of_decide_eq_true hc
            rw [List.length_map] at this
            exact this
          obtain ⟨z, hz, hz2⟩ := map_atI hb hbl
          refine ⟨_, rfl, t, _, _, _, rfl, rfl, SqL.of hT1, rfl, _, rfl, t, _, _, _, rfl, rfl, SqL.of hT1, rfl, l, _, _, _, rfl, rfl, SqL.of hL1, hz2, ?_⟩
          refine ⟨_, rfl, t, _, _, _, rfl, rfl, SqL.of hT1, rfl, _, _, rfl, rfl, _, rfl, t, _, _, 1, rfl, rfl, hT1, rfl, ?_⟩
          exact ⟨z, b + 1, by omega, rfl, by rw [upd_upd]; rfl⟩
        · exact ⟨0, b, hb, rfl, rfl⟩
      · rintro σ' H' ⟨z, b', hb', rfl, rfl⟩
        have hT2 : (upd H t (.lst [.ref l, .int b', .int c, .int d, .int (e + 1)])) t = some (.lst [.ref l, .int b', .int c, .int d, .int (e + 1)]) := upd_same
        have fin2 : ∀ (x b c d e : Int) (u : HO), 0 ≤ b → Q (.int (x % n)) (upd (upd H t u) t (.lst [.ref l, .int b, .int c, .int d, .int e])) := fun x b c d e u hb => by
          rw [upd_upd]
          exact fin _ _ _ _ _ hb
        refine ⟨_, rfl, _, _, rfl, rfl, ⟨by decide, by decide, by decide⟩, _, _, rfl, rfl, _, rfl, ?_⟩
        refine ite2 (fun _ => ?_) (fun _ => ?_)
        · refine ⟨_, rfl, _, rfl, _, _, rfl, rfl, ⟨hn, hn2⟩, _, rfl, t, _, _, 2, rfl, rfl, hT2, rfl, ?_⟩
          exact ⟨_, rfl, .inl ⟨_, rfl, _, rfl, _, _, rfl, rfl, hn, fin2 _ _ _ _ _ _ hb'⟩⟩
        · refine ⟨_, rfl, t, _, _, _, rfl, rfl, SqL.of hT2, rfl, _, _, rfl, rfl, .inr (by decide), _, rfl, .inl ⟨_, rfl, _, _, rfl, rfl, (by show (0 : Int) < 2147483629; decide), _, _, rfl, rfl, _, rfl, t, _, _, _, rfl, rfl, SqL.of hT2, rfl, _, _, rfl, rfl, .inr (by decide), _, _, rfl, rfl, .inl ⟨_, rfl, _, _, rfl, rfl, (by show (0 : Int) < 2147483647; decide), ?_⟩⟩⟩
          have m0 := Int.emod_nonneg (d * 48271 + z % 2147483629 + (e + 1) * 69621) (show (2147483647 : Int) ≠ 0 by decide)
          have m1 := Int.emod_lt_of_pos (d * 48271 + z % 2147483629 + (e + 1) * 69621) (show (0 : Int) < 2147483647 by decide)
          generalize (d * 48271 + z % 2147483629 + (e + 1) * 69621) % 2147483647 = m at m0 m1 ⊢
          refine ⟨_, rfl, _, rfl, _, _, rfl, rfl, ⟨by decide, by decide⟩, _, _, rfl, rfl, _, _, rfl, rfl, .inl ⟨by omega, by omega⟩, .inl ⟨_, rfl, _, _, rfl, rfl, (by show (0 : Int) < 2147483399; decide), ?_⟩⟩
          refine ⟨_, rfl, _, rfl, t, _, _, 3, rfl, rfl, hT2, rfl, ?_⟩
          exact ⟨_, rfl, _, _, rfl, rfl, ⟨by decide, by decide⟩, .inl ⟨_, rfl, _, rfl, _, _, rfl, rfl, hn, fin2 _ _ _ _ _ _ hb'⟩⟩
/-! ### an order -/
def spOrder : Sp := fun vs H Q _ => ∃ (t l : Addr) (n : Int), vs = [.ref t, .int n] ∧ Tape H t l ∧ 0 ≤ n ∧ n ≤ 1000 ∧ ∀ (p : Addr) (xs : List Int) (H' : Hp), xs.Perm (rangeI n) → H p = none → H' p = some (.lst (xs.map V.int)) → Gr t H H' → Tape H' t l → Q (.ref p) H'
theorem ok_order (A : At K mg "_law_order" s_law_order ["tape", "many"]) (T : Tx mg) (G_law_pick : Dfn P w K mg base "_law_pick" ["tape", "size"] 1 spPick) : Dfn P w K mg base "_law_order" ["tape", "many"] 2 spOrder := by
  refine A.ok sc_law_order (fun vs H Q E h => ?_) (fun f cdv A outer s H vs Q E hr h => ?_)
  · obtain ⟨t, l, n, rfl, _⟩ := h
    rfl
  · obtain ⟨t, l, n, rfl, hT, hn, hn2, k⟩ := h
    refine ⟨_, (pss_cons (ps_set (i := 2) sc_law_order.nd rfl (Or.inr rfl) (pe_listRg rfl (by rfl) T.list (prg_1 (by rfl) T.range (pv 1))))
      (pss_one (ps_ret (pe_lc (own := [("k", 3)]) (g := (gName 3)) (tt := tYes) (te := (tBM K "list" rPopAt (tVar 2) (tCons (tCall spPick [] E0 (tCons (tVar 0) (tCons (tCB (rLenS K) (tCons (tVar 2) tNil)) tNil))) tNil))) (by rfl) sc_law_order.nd (pi_range1 rfl T.range (pa_cons (pv 1) pa_nil)) (blkOk_by (own := [("k", 3)]) (N := n_law_order) (sc := (defScope s_law_order)) (by decide +kernel)) (fun _ _ _ _ _ => (pg_name (i := 3) sc_law_order.nd rfl (Or.inl rfl))) (fun _ _ _ _ _ => pts_nil) (fun _ _ _ _ _ => (pe_bm PySem.F.plainAttrs_list PySem.F.slot_list_pop PySem.F.type_list_pop mt_popAt (pv 2) (pa_cons (pe_d G_law_pick (hr.mono (by decide)) (pa_cons (pv 0) (pa_cons (pe_callB c_len (by rfl) T.len (by decide +kernel) (pa_cons (pv 2) pa_nil)) pa_nil))) pa_nil))))))), ?_⟩
    refine ⟨_, rfl, n, rfl, RgOk.of_le (by decide) (by omega) (by decide) hn, fun q hq => ?_⟩
    have nq := hT.free hq
    refine ⟨_, rfl, n, rfl, by omega, by omega, fun D hD => ?_⟩
    have nqD : q ≠ D := ne_of_none upd_same hD
    have hD0 : H D = none := by
      rw [upd_ne nqD.symm] at hD
      exact hD
    have nD := hT.free hD0
    refine lc_range (lo := 0) (n := n.toNat) (fun i H' => ∃ acc left : List Int, (acc ++ left).Perm (rangeI n) ∧ acc.length = i ∧ left.length = n.toNat - i ∧ H' D = some (.lst (acc.map V.int)) ∧ H' q = some (.lst (left.map V.int)) ∧ Gr t H H' ∧ Tape H' t l)
      ⟨[], rangeI n, List.Perm.refl _, rfl, rangeI_len n, upd_same, by rw [upd_ne nqD, upd_same, rgV_rangeI], gr_mut (gr_mut (Gr.refl H) hq) hD0, (hT.new hq).new hD⟩ ?_ ?_
    · rintro i H1 hi ⟨acc, left, pm, la, ll, hDa, hqa, g1, T1⟩
      have lp : 0 < left.length := by omega
      refine ⟨rfl, _, rfl, .inl ⟨rfl, _, SqL.of hqa⟩, _, rfl, _, rfl, q, _, rfl, .inl (SqL.of hqa), t, l, _, rfl, T1, by rw [List.length_map]; omega, by rw [List.length_map]; omega, fun x H2 x0 x1 g2 T2 => ?_⟩
      rw [List.length_map] at x1
      have hqb : H2 q = some (.lst (left.map V.int)) := g2 _ _ nq.1 hqa
      have hDb : H2 D = some (.lst (acc.map V.int)) := g2 _ _ nD.1 hDa
      have xl : x.toNat < left.length := by omega
      have hy : (left.map V.int)[x.toNat]? = some (.int left[x.toNat]) := by
        rw [List.getElem?_map, List.getElem?_eq_getElem xl]
        rfl
      refine ⟨q, _, x, x.toNat, _, rfl, rfl, hqb, by omega, by omega, seq_at x0 (by rw [List.length_map]; exact x1), hy, acc.map V.int, by rw [upd_ne nqD.symm]; exact hDb, by rw [List.length_map]; exact Nat.lt_of_le_of_lt (show acc.length ≤ 1000 by omega) (by decide), ?_⟩
      refine ⟨acc ++ [left[x.toNat]], left.eraseIdx x.toNat, ?_, by rw [List.length_append, la]; rfl, by rw [List.length_eraseIdx, if_pos xl]; omega, by rw [upd_same, List.map_append]; rfl, by rw [upd_ne nqD, upd_same, map_eraseIdx'], gr_mut (gr_mut (g1.trans g2) hq) hD0, (T2.mut nq).mut nD⟩
      refine List.Perm.trans ?_ pm
      rw [List.append_assoc]
      exact List.Perm.append_left acc (perm_erase left _ xl)
    · rintro H1 ⟨acc, left, pm, la, ll, hDa, hqa, g1, T1⟩
      have e : left = [] := List.eq_nil_of_length_eq_zero (by omega)
      subst e
      rw [List.append_nil] at pm
      exact k D acc H1 pm hD0 hDa g1 T1
/-! ### rows drawn at will -/
def spLoose (K : PySem.W.Frag) : Sp := fun vs H Q _ => ∃ (t l : Addr) (n : Int), vs = [.ref t, .int n] ∧ Tape H t l ∧ 1 ≤ n ∧ n ≤ 12 ∧ ∀ (v : V) (rows : List (List Int)) (H' : Hp), Good rows → (rows.length : Int) = n → Gr t H H' → Tape H' t l → RowsAt K H' v rows → Q v H'
theorem ok_loose (A : At K mg "_law_loose" s_law_loose ["tape", "many"]) (T : Tx mg) (G_law_pick : Dfn P w K mg base "_law_pick" ["tape", "size"] 1 spPick) (G_law_order : Dfn P w K mg base "_law_order" ["tape", "many"] 2 spOrder) : Dfn P w K mg base "_law_loose" ["tape", "many"] 3 (spLoose K) := by
  refine A.ok sc_law_loose (fun vs H Q E h => ?_) (fun f cdv A outer s H vs Q E hr h => ?_)
  · obtain ⟨t, l, n, rfl, _⟩ := h
    rfl
  · obtain ⟨t, l, n, rfl, hT, hn, hn2, k⟩ := h
    refine ⟨_, (pss_cons (ps_set (i := 2) sc_law_loose.nd rfl (Or.inl rfl) (pe_d G_law_order (hr.mono (by decide)) (pa_cons (pv 0) (pa_cons (pv 1) pa_nil))))
      (pss_cons (ps_set (i := 3) sc_law_loose.nd rfl (Or.inr rfl) (pe_op op_add pe_int (pe_d G_law_pick (hr.mono (by decide)) (pa_cons (pv 0) (pa_cons pe_int pa_nil)))))
      (pss_cons (ps_set (i := 4) sc_law_loose.nd rfl (Or.inl rfl) (pe_cmpR op_gt (pe_d G_law_pick (hr.mono (by decide)) (pa_cons (pv 0) (pa_cons pe_int pa_nil))) pe_int (nomark _)))
      (pss_cons (ps_set (i := 5) sc_law_loose.nd rfl (Or.inl rfl) (pe_lst pa_nil))
      (pss_cons (ps_for PassesOwn.never rfl (pi_range1 rfl T.range (pa_cons (pv 1) pa_nil)) (pg_name (i := 6) sc_law_loose.nd rfl (Or.inl rfl))
      (pss_cons (ps_setLc (i := 7) (own := [("thing", 8)]) (g := (gName 8)) (tt := (tTest (tOp (rI0 fun i j => V.bl (decide (i < j))) (tCall spPick [] E0 (tCons (tVar 0) (tCons (tC (V.int 5)) tNil))) (tVar 3)))) (te := (tVar 8)) (by rfl) sc_law_loose.nd rfl rfl (sw_true rfl rfl rfl (by decide +kernel)) (pi_range1 rfl T.range (pa_cons (pv 1) pa_nil)) (blkOk_by (own := [("thing", 8)]) (N := n_law_loose) (sc := (defScope s_law_loose)) (by decide +kernel)) (fun _ _ _ _ _ => (pg_name (i := 8) sc_law_loose.nd rfl (Or.inl rfl))) (fun _ _ _ _ _ => (pts_one (pt_cmpR op_lt (pe_d G_law_pick (hr.mono (by decide)) (pa_cons (pv 0) (pa_cons pe_int pa_nil))) (pv 3) (nomark _)))) (fun _ _ _ _ _ => (pv 8)))
      (Evl.pss_cut (ps_if (PW.pt (pw_and (pt_val (pv 4)) (pw_and1 (pt_cmpR op_notIn_seq (pe_ix ix_list (pv 2) (pv 6) (fun _ _ => rfl)) (pv 7) rfl)))) (pss_one (ps_expr (pe_bm PySem.F.plainAttrs_list PySem.F.slot_list_append PySem.F.type_list_append mt_append (pv 7) (pa_cons (pe_ix ix_list (pv 2) (pv 6) (fun _ _ => rfl)) pa_nil)))) pss_nil)
      (pss_one (ps_expr (pe_bm PySem.F.plainAttrs_list PySem.F.slot_list_append PySem.F.type_list_append mt_append (pv 5) (pa_cons (pe_callTy c_tuple (by rfl) T.tuple (by decide +kernel) (pa_cons (pe_callB cr_sortedI (by rfl) T.sorted (by decide +kernel) (pa_cons (pv 7) pa_nil)) pa_nil)) pa_nil)))))))
      (pss_one (ps_ret (pe_callTy c_tuple (by rfl) T.tuple (by decide +kernel) (pa_cons (pv 5) pa_nil))))))))), ?_⟩
    refine ⟨_, rfl, _, rfl, t, l, n, rfl, hT, by omega, by omega, fun oa os H1 pm _ ho g1 T1 => ?_⟩
    have hol : os.length = n.toNat := by rw [pm.length_eq, rangeI_len]
    refine ⟨_, rfl, t, l, 4, rfl, T1, by decide, by decide, fun th H2 _ _ g2 T2 => ⟨_, _, rfl, rfl, ?_⟩⟩
    refine ⟨_, rfl, t, l, 4, rfl, T2, by decide, by decide, fun pl H3 _ _ g3 T3 => ⟨_, _, rfl, rfl, ?_⟩⟩
    obtain ⟨planted, hpl⟩ : ∃ b, b = decide (0 < pl) := ⟨_, rfl⟩
    refine ⟨Nat.zero_le _, fun fa hf => ?_⟩
    have hoa : oa ≠ t := T1.ne_ints' ho
    have ho3 : H3 oa = some (.lst (os.map V.int)) := g3 _ _ hoa (g2 _ _ hoa ho)
    have nof : oa ≠ fa := ne_of_none ho3 hf
    have nf := T3.free hf
    have hf0 : H fa = none := ((g1.trans g2).trans g3).fresh T3 hf
    have g13 := (g1.trans g2).trans g3
    refine ⟨_, rfl, n, rfl, by omega, by omega, for_range (lo := 0) (n := n.toNat) (fun i σ' H' => ∃ (vs : List V) (rs : List (List Int)) (x6 x7 x8 : Option V), σ' = [some (.ref t), some (.int n), some (.ref oa), some (.int (1 + th)), some (.bl planted), some (.ref fa), x6, x7, x8] ∧ rs.length = i ∧ H' fa = some (.lst vs) ∧ RowsT K H' vs rs ∧ (∀ r ∈ rs, r.Pairwise (· < ·) ∧ ∀ x ∈ r, 0 ≤ x ∧ x < n) ∧ H' oa = some (.lst (os.map V.int)) ∧ Gr t H H' ∧ Tape H' t l)
      ⟨[], [], none, none, none, by rw [hpl]; rfl, rfl, upd_same, .nil, fun _ h => (by cases h), by rw [upd_ne nof]; exact ho3, gr_mut g13 hf0, T3.new hf⟩ ?_ ?_⟩
    · rintro i σ' H4 hi ⟨vs, rs, x6, x7, x8, rfl, hl, hfa, hrs, hall, hoa4, g4, T4⟩
      -- row = [thing for thing in range(many) if pick(5) < thick]
      refine ⟨_, rfl, n, rfl, by omega, by omega, fun D hD => ?_⟩
      have nD := T4.free hD
      have nDf : fa ≠ D := ne_of_none hfa hD
      have nDo : oa ≠ D := ne_of_none hoa4 hD
      have hD0 : H D = none := g4.fresh T4 hD
      refine lc_range (lo := 0) (n := n.toNat) (fun j H' => ∃ row : List Int, H' D = some (.lst (row.map V.int)) ∧ row.length ≤ j ∧ row.Pairwise (· < ·) ∧ (∀ x ∈ row, 0 ≤ x ∧ x < (j : Int)) ∧ Tape H' t l ∧ Gr t H4 H')
        ⟨[], upd_same, Nat.le_refl _, .nil, fun _ h => (by cases h), T4.new hD, Gr.new hD⟩ ?_ ?_
      · rintro j H5 hj ⟨row, hDr, hrl, hrp, hrr, T5, g45⟩
        refine ⟨rfl, _, rfl, t, l, 5, rfl, T5, by decide, by decide, fun x H6 x0 x1 g6 T6 => ⟨_, rfl, _, _, rfl, rfl, _, rfl, ?_⟩⟩
        have hD6 : H6 D = some (.lst (row.map V.int)) := g6 _ _ nD.1 hDr
        refine ite2 (fun _ => ?_) (fun _ => ?_)
        · refine ⟨_, rfl, row.map V.int, hD6, by rw [List.length_map]; exact small_lt (by omega), row ++ [(j : Int)], ?_, by rw [List.length_append, List.length_singleton]; omega, asc_snoc hrp fun x hx => (hrr x hx).2, fun x hx => ?_, T6.mut nD, gr_mut (g45.trans g6) hD⟩
          · rw [upd_same, ← map_snoc]
            show some (HO.lst (row.map V.int ++ [V.int (0 + (j : Int))])) = _
            rw [Int.zero_add]
          · rcases List.mem_append.mp hx with h | h
            · have := hrr x h
              omega
            · rw [List.mem_singleton.mp h]
              omega
        · exact ⟨row, hD6, by omega, hrp, fun x hx => by have := hrr x hx; omega, T6, g45.trans g6⟩
      · rintro H5 ⟨row, hDr, hrl, hrp, hrr, T5, g45⟩
        have hrr' : ∀ x ∈ row, 0 ≤ x ∧ x < n := fun x hx => by have := hrr x hx; omega
        have hoa5 : H5 oa = some (.lst (os.map V.int)) := g45 _ _ hoa hoa4
        obtain ⟨z, hz, hz2⟩ := map_atI (ns := os) (i := 0 + (i : Int)) (by omega) (by omega)
        have hzr := mem_rangeI.mp (pm.mem_iff.mp hz)
        refine ⟨fun σ' H' => ∃ row' : List Int, σ' = [some (.ref t), some (.int n), some (.ref oa), some (.int (1 + th)), some (.bl planted), some (.ref fa), some (.int (0 + (i : Int))), some (.ref D), x8] ∧ H' D = some (.lst (row'.map V.int)) ∧ row'.Nodup ∧ (∀ x ∈ row', 0 ≤ x ∧ x < n) ∧ row'.length ≤ 13 ∧ Gr t H4 H' ∧ Tape H' t l, ?_, ?_⟩
        · refine ⟨_, rfl, _, rfl, ?_⟩
          cases planted with
          | false => exact ⟨row, rfl, hDr, nodup_of_lt hrp, hrr', by omega, g45, T5⟩
          | true =>
            refine ⟨_, rfl, _, rfl, oa, _, _, _, rfl, rfl, SqL.of hoa5, hz2, _, rfl, D, _, rfl, .inl (SqL.of hDr), rfl, all_flat_ints _, _, rfl, ?_⟩
            show if (!inV (V.int z) (row.map V.int)) = true then _ else _
            rw [inV_ints]
            by_cases hm : z ∈ row
            · rw [decide_eq_true hm]
              exact ⟨row, rfl, hDr, nodup_of_lt hrp, hrr', by omega, g45, T5⟩
            · rw [decide_eq_false hm]
              refine ⟨_, rfl, .inl ⟨rfl, _, SqL.of hDr⟩, _, rfl, _, rfl, oa, _, _, _, rfl, rfl, SqL.of hoa5, hz2, D, _, _, rfl, rfl, hDr, by rw [List.length_map]; exact small_lt (by omega), ?_⟩
              exact ⟨row ++ [z], rfl, by rw [upd_same, map_snoc], nodup_snoc (nodup_of_lt hrp) hm, fun x hx => by
                rcases List.mem_append.mp hx with h | h
                · exact hrr' x h
                · rw [List.mem_singleton.mp h]
                  exact hzr, by rw [List.length_append, List.length_singleton]; omega, gr_mut g45 hD, T5.mut nD⟩
        · rintro σ' H6 ⟨row', rfl, hD6, hnd, hr6, hl6, g46, T6⟩
          have hfa6 : H6 fa = some (.lst vs) := g46 _ _ nf.1 hfa
          refine ⟨_, rfl, .inl ⟨rfl, _, SqL.of hfa6⟩, _, rfl, D, row', rfl, SqL.of hD6, fun ns' p pm2 so hp => ⟨p, _, rfl, .inl ⟨SqL.of upd_same, fun q hq => ?_⟩⟩⟩
          have npf : fa ≠ p := ne_of_none hfa6 hp
          have hq6 : H6 q = none := by
            by_cases e : q = p
            · rw [e, upd_same] at hq
              cases hq
            · rw [upd_ne e] at hq
              exact hq
          have nqf : fa ≠ q := ne_of_none hfa6 hq6
          have e7 : (upd (upd H6 p (.lst (ns'.map V.int))) q (.tup (ns'.map V.int))) fa = some (.lst vs) := by rw [upd_ne nqf, upd_ne npf]; exact hfa6
          refine ⟨fa, vs, .ref q, rfl, rfl, e7, small_lt (by rw [hrs.len]; omega), ?_⟩
          have g67 : Gr t H6 (upd (upd H6 p (.lst (ns'.map V.int))) q (.tup (ns'.map V.int))) := (Gr.new hp).trans (Gr.new hq)
          have T7 := (T6.new (o := .lst (ns'.map V.int)) hp).new (o := .tup (ns'.map V.int)) hq
          have hnf : H4 fa = some (.lst vs) := hfa
          refine ⟨vs ++ [.ref q], rs ++ [ns'], _, _, _, rfl, by rw [List.length_append, hl]; rfl, upd_same, ?_, fun r hr => ?_, ?_, gr_mut (g4.trans (g46.trans g67)) hf0, T7.mut nf⟩
          · have r7 := hrs.gr (g46.trans g67) T4
            have r8 : RowsT K (upd (upd (upd H6 p (.lst (ns'.map V.int))) q (.tup (ns'.map V.int))) fa (.lst (vs ++ [.ref q]))) vs rs := r7.put e7
            exact r8.snoc (SqT.of (by rw [upd_ne nqf.symm, upd_same]))
          · rcases List.mem_append.mp hr with h | h
            · exact hall r h
            · rw [List.mem_singleton.mp h]
              exact ⟨asc_of pm2 so hnd, fun x hx => hr6 x (pm2.mem_iff.mp hx)⟩
          · rw [upd_ne nof, (g46.trans g67) _ _ hoa hoa4]
    · rintro σ' H4 ⟨vs, rs, x6, x7, x8, rfl, hl, hfa, hrs, hall, hoa4, g4, T4⟩
      refine ⟨_, rfl, fa, vs, rfl, .inl ⟨SqL.of hfa, fun z hz => ?_⟩⟩
      have hz0 : H z = none := g4.fresh T4 hz
      have en : (rs.length : Int) = n := by omega
      refine k _ rs _ ⟨by omega, fun r hr => (hall r hr).1, fun r hr x hx => by rw [en]; exact (hall r hr).2 x hx⟩ en (gr_mut g4 hz0) (T4.new hz) ⟨z, vs, rfl, SqT.of upd_same, hrs.same (same_new hz)⟩
/-! ### people and things moved -/
def lcScope (s : Stmt) : Scope := match (defBody s).getLast? with
  | some (.Return (some (.Call _ [.ListComp _ _ sc _] _ _)) _) => sc
  | _ => defScope s
def envS (sc : Scope) : Env := { scope := sc, locals := 0, globals := 0, cells := [], qual := "", func := none, code := .none, frame := none, builtins := 0 }
def spMoved (K : PySem.W.Frag) : Sp := fun vs H Q _ => ∃ (t l : Addr) (v : V) (rows : List (List Int)), vs = [.ref t, v] ∧ Tape H t l ∧ Good rows ∧ rows.length ≤ 12 ∧ RowsAt K H v rows ∧ ∀ (v' : V) (rows' : List (List Int)) (H' : Hp), Good rows' → rows'.length = rows.length → Gr t H H' → Tape H' t l → RowsAt K H' v' rows' → Q v' H'
theorem ok_moved (A : At K mg "_law_moved" s_law_moved ["tape", "rows"]) (T : Tx mg) (G_law_order : Dfn P w K mg base "_law_order" ["tape", "many"] 2 spOrder) : Dfn P w K mg base "_law_moved" ["tape", "rows"] 3 (spMoved K) := by
  refine A.ok sc_law_moved (fun vs H Q E h => ?_) (fun f cdv A outer s H vs Q E hr h => ?_)
  · obtain ⟨t, l, v, rows, rfl, _⟩ := h
    rfl
  · obtain ⟨t, l, v, rows, rfl, hT, hG, hm, ⟨ra, rvs, rfl, hra, hrt⟩, k⟩ := h
    have rl := hrt.len
    refine ⟨_, (pss_cons (ps_set (i := 2) sc_law_moved.nd rfl (Or.inl rfl) (pe_d G_law_order (hr.mono (by decide)) (pa_cons (pv 0) (pa_cons (pe_callB c_len (by rfl) T.len (by decide +kernel) (pa_cons (pv 1) pa_nil)) pa_nil))))
      (pss_cons (ps_set (i := 3) sc_law_moved.nd rfl (Or.inr rfl) (pe_d G_law_order (hr.mono (by decide)) (pa_cons (pv 0) (pa_cons (pe_callB c_len (by rfl) T.len (by decide +kernel) (pa_cons (pv 1) pa_nil)) pa_nil))))
      (pss_one (ps_ret (pe_callTy c_tuple (by rfl) T.tuple (by decide +kernel) (pa_cons (pe_lc (own := [("person", 4)]) (g := (gName 4)) (tt := tYes) (te := (tCB (rTupOf K) (tCons (tCB (rSortedI K) (tCons (tLc (iTup K (tOp (rIxT K) (tVar 1) (tVar 4))) (gName 5) tYes (tOp (rIxL K) (tVar 3) (tVar 5)) [5]) tNil)) tNil))) (by rfl) sc_law_moved.nd (pi_list (pv 2)) (blkOk_by (own := [("person", 4)]) (N := n_law_moved) (sc := (defScope s_law_moved)) (by decide +kernel)) (fun _ _ _ _ _ => (pg_name (i := 4) sc_law_moved.nd rfl (Or.inl rfl))) (fun _ _ _ _ _ => pts_nil) (fun _ _ _ _ _ => (pe_callTy c_tuple (by rfl) T.tuple (by decide +kernel) (pa_cons (pe_callB cr_sortedI (by rfl) T.sorted (by decide +kernel) (pa_cons (pe_lc (own := [("thing", 5)]) (g := (gName 5)) (tt := tYes) (te := (tOp (rIxL K) (tVar 3) (tVar 5))) (by rfl) sc_law_moved.nd (pi_tup (pe_ix ix_tup (pv 1) (pv 4) (fun _ _ => rfl))) (blkOk_by (own := [("thing", 5)]) (N := n_law_moved) (sc := (relabel (lcScope s_law_moved) (envS (defScope s_law_moved)))) (by decide +kernel)) (fun _ _ _ _ _ => (pg_name (i := 5) sc_law_moved.nd rfl (Or.inl rfl))) (fun _ _ _ _ _ => pts_nil) (fun _ _ _ _ _ => (pe_ix ix_list (pv 3) (pv 5) (fun _ _ => rfl)))) pa_nil)) pa_nil)))) pa_nil)))))), ?_⟩
    refine ⟨_, rfl, _, rfl, ra, _, rfl, .inr hra, t, l, _, rfl, hT, by omega, by omega, fun pa ps H1 pm1 _ hp1 g1 T1 => ?_⟩
    have hra1 := gr_T g1 hT hra
    have hrt1 := hrt.gr g1 hT
    refine ⟨_, rfl, _, rfl, ra, _, rfl, .inr hra1, t, l, _, rfl, T1, by omega, by omega, fun ta ts H2 pm2 _ hp2 g2 T2 => ?_⟩
    have hpa : H2 pa = some (.lst (ps.map V.int)) := g2 _ _ (T1.ne_ints' hp1) hp1
    have hra2 := gr_T g2 T1 hra1
    have hrt2 := hrt1.gr g2 T1
    rw [rl] at pm1 pm2
    have psl : ps.length = rows.length := by rw [pm1.length_eq, rangeI_len]; omega
    have tsl : ts.length = rows.length := by rw [pm2.length_eq, rangeI_len]; omega
    have tnd : ts.Nodup := pm2.symm.nodup (rangeI_nodup _)
    -- the outer comprehension
    refine ⟨_, rfl, pa, rfl, ⟨_, SqL.of hpa⟩, fun D hD => ?_⟩
    have g12 := g1.trans g2
    have hD0 : H D = none := g12.fresh T2 hD
    have nD := T2.free hD
    have npD : pa ≠ D := ne_of_none hpa hD
    have ntD : ta ≠ D := ne_of_none hp2 hD
    refine lc_list (xs := ps.map V.int) (fun i H' => ∃ vs rs, H' D = some (.lst vs) ∧ RowsT K H' vs rs ∧ rs.length = i ∧ (∀ r ∈ rs, r.Pairwise (· < ·) ∧ ∀ x ∈ r, 0 ≤ x ∧ x < (rows.length : Int)) ∧ Gr t H2 H' ∧ Tape H' t l)
      ⟨[], [], upd_same, .nil, rfl, fun _ h => (by cases h), Gr.new hD, T2.new hD⟩ (fun i H' _ ⟨_, _, _, _, _, _, g, _⟩ => SqL.of (g _ _ (T2.ne_ints' hpa) hpa)) ?_ ?_
    · rintro i y H3 hy ⟨vs, rs, hDv, hrs, hl, hall, g3, T3⟩
      have hil : i < ps.length := by
        have := (List.getElem?_eq_some_iff.mp hy).1
        rw [List.length_map] at this
        exact this
      obtain ⟨z, hz, hzr⟩ : ∃ z, y = V.int z ∧ 0 ≤ z ∧ z < (rows.length : Int) := by
        rw [List.getElem?_map, List.getElem?_eq_getElem hil] at hy
        refine ⟨ps[i], (Option.some.inj hy).symm, ?_⟩
        exact mem_rangeI.mp (pm1.mem_iff.mp (List.getElem_mem hil))
      subst hz
      have hzl : z.toNat < rows.length := by omega
      obtain ⟨rw_, hrw⟩ : ∃ r, rows[z.toNat]? = some r := ⟨_, List.getElem?_eq_getElem hzl⟩
      obtain ⟨qa, hqa, hqs⟩ := (hrt2.gr g3 T2).get hrw
      have hrmem : rw_ ∈ rows := List.mem_of_getElem? hrw
      have hra3 := gr_T g3 T2 hra2
      have hix : atI rvs z = some (.ref qa) := at_of (j := z.toNat) (by omega) hqa
      have hta3 : H3 ta = some (.lst (ts.map V.int)) := g3 _ _ (T2.ne_ints' hp2) hp2
      refine ⟨rfl, _, rfl, _, rfl, ra, _, z, _, rfl, rfl, hra3, hix, qa, rfl, ⟨_, hqs⟩, fun D2 hD2 => ?_⟩
      have nD2 := T3.free hD2
      have ntD2 : ta ≠ D2 := ne_of_none hta3 hD2
      have nDD2 : D ≠ D2 := ne_of_none hDv hD2
      refine lc_tup (xs := rw_.map V.int) (fun j H' => ∃ out : List Int, H' D2 = some (.lst (out.map V.int)) ∧ out.length = j ∧ (∀ x ∈ out, 0 ≤ x ∧ x < (rows.length : Int)) ∧ (∀ (m : Nat) (x : Int), out[m]? = some x → ∃ u : Int, rw_[m]? = some u ∧ ts[u.toNat]? = some x) ∧ Gr t H3 H' ∧ Tape H' t l)
        ⟨[], upd_same, rfl, fun _ h => (by cases h), fun m x h => (by simp at h), Gr.new hD2, T3.new hD2⟩ (fun j H' _ ⟨_, _, _, _, _, g, _⟩ => gr_T g T3 hqs) ?_ ?_
      · rintro j u H4 hu ⟨out, hDo, hol, hor, hof, g4, T4⟩
        have hjl : j < rw_.length := by
          have := (List.getElem?_eq_some_iff.mp hu).1
          rw [List.length_map] at this
          exact this
        have hu' : rw_[j]? = some rw_[j] := List.getElem?_eq_getElem hjl
        rw [List.getElem?_map, hu'] at hu
        have hu2 : V.int rw_[j] = u := Option.some.inj hu
        subst hu2
        have hrg := hG.rng _ hrmem _ (List.getElem_mem hjl)
        generalize hug : rw_[j] = ug at hu' hrg
        have htl : ug.toNat < ts.length := by omega
        have htx : ts[ug.toNat]? = some ts[ug.toNat] := List.getElem?_eq_getElem htl
        have hti : atI (ts.map V.int) ug = some (.int ts[ug.toNat]) := at_of (j := ug.toNat) (by omega) (by rw [List.getElem?_map, htx]; rfl)
        have hta4 : H4 ta = some (.lst (ts.map V.int)) := g4 _ _ (T2.ne_ints' hp2) hta3
        refine ⟨rfl, _, rfl, _, rfl, ta, _, _, _, rfl, rfl, SqL.of hta4, hti, _, hDo, by rw [List.length_map]; exact small_lt (by have := nodup_of_lt (hG.asc _ hrmem); have := row_len (hG.asc _ hrmem) (hG.rng _ hrmem); omega), ?_⟩
        refine ⟨out ++ [ts[ug.toNat]], by rw [upd_same, map_snoc], by rw [List.length_append, hol]; rfl, fun x hx => ?_, fun m x hx => ?_, gr_mut g4 hD2, T4.mut nD2⟩
        · rcases List.mem_append.mp hx with h | h
          · exact hor x h
          · rw [List.mem_singleton.mp h]
            exact mem_rangeI.mp (pm2.mem_iff.mp (List.getElem_mem htl))
        · by_cases hm : m < out.length
          · rw [List.getElem?_append_left hm] at hx
            exact hof m x hx
          · have hm2 : m = out.length := by
              have h1 := (List.getElem?_eq_some_iff.mp hx).1
              rw [List.length_append, List.length_singleton] at h1
              omega
            subst hm2
            rw [List.getElem?_append_right (Nat.le_refl _), Nat.sub_self] at hx
            have hx' : ts[ug.toNat] = x := Option.some.inj hx
            subst hx'
            exact ⟨ug, by rw [hol]; exact hu', htx⟩
      · rintro H4 ⟨out, hDo, hol, hor, hof, g4, T4⟩
        rw [List.length_map] at hol
        have ond : out.Nodup := by
          refine List.pairwise_iff_getElem.mpr fun a b ha hb hab heq' => ?_
          obtain ⟨u1, h1, k1⟩ := hof a _ (List.getElem?_eq_getElem ha)
          obtain ⟨u2, h2, k2⟩ := hof b _ (List.getElem?_eq_getElem hb)
          rw [heq'] at k1
          have e12 : u1.toNat = u2.toNat := nd_ix tnd k1 k2
          have r1 := hG.rng _ hrmem _ (List.mem_of_getElem? h1)
          have r2 := hG.rng _ hrmem _ (List.mem_of_getElem? h2)
          have e3 : u1 = u2 := by omega
          rw [← e3] at h2
          have := nd_ix (nodup_of_lt (hG.asc _ hrmem)) h1 h2
          omega
        have hDv4 : H4 D = some (.lst vs) := g4 _ _ nD.1 hDv
        refine ⟨D2, out, rfl, SqL.of hDo, fun ns' p pms so hp => ⟨p, _, rfl, .inl ⟨SqL.of upd_same, fun q hq => ?_⟩⟩⟩
        have npD' : D ≠ p := ne_of_none hDv4 hp
        have hq4 : H4 q = none := by
          by_cases e : q = p
          · rw [e, upd_same] at hq
            cases hq
          · rw [upd_ne e] at hq
            exact hq
        have nqD : D ≠ q := ne_of_none hDv4 hq4
        have e7 : (upd (upd H4 p (.lst (ns'.map V.int))) q (.tup (ns'.map V.int))) D = some (.lst vs) := by rw [upd_ne nqD, upd_ne npD']; exact hDv4
        refine ⟨vs, e7, small_lt (by rw [hrs.len]; omega), ?_⟩
        have g47 : Gr t H3 (upd (upd H4 p (.lst (ns'.map V.int))) q (.tup (ns'.map V.int))) := g4.trans ((Gr.new hp).trans (Gr.new hq))
        have T7 := (T4.new (o := .lst (ns'.map V.int)) hp).new (o := .tup (ns'.map V.int)) hq
        refine ⟨vs ++ [.ref q], rs ++ [ns'], upd_same, ?_, by rw [List.length_append, hl]; rfl, fun r hr => ?_, gr_mut (g3.trans g47) hD, T7.mut nD⟩
        · exact RowsT.snoc (SqT.of (by rw [upd_ne nqD.symm, upd_same])) ((hrs.gr g47 T3).put e7)
        · rcases List.mem_append.mp hr with h | h
          · exact hall r h
          · rw [List.mem_singleton.mp h]
            exact ⟨asc_of pms so ond, fun x hx => hor x (pms.mem_iff.mp hx)⟩
    · rintro H3 ⟨vs, rs, hDv, hrs, hl, hall, g3, T3⟩
      rw [List.length_map, psl] at hl
      refine ⟨D, vs, rfl, .inl ⟨SqL.of hDv, fun z hz => ?_⟩⟩
      have hz0 : H z = none := (g12.trans g3).fresh T3 hz
      exact k _ rs _ ⟨by rw [hl]; exact hG.pos, fun r hr => (hall r hr).1, fun r hr x hx => by rw [hl]; exact (hall r hr).2 x hx⟩ hl (gr_mut (g12.trans g3) hz0) (T3.new hz) ⟨z, vs, rfl, SqT.of upd_same, hrs.same (same_new hz)⟩
/-! ### rows drawn in blocks -/
def spBlocks (K : PySem.W.Frag) : Sp := fun vs H Q _ => ∃ (t l : Addr) (n : Int), vs = [.ref t, .int n] ∧ Tape H t l ∧ 1 ≤ n ∧ n ≤ 12 ∧ ∀ (v : V) (rows : List (List Int)) (H' : Hp), Good rows → (rows.length : Int) ≤ n → Gr t H H' → Tape H' t l → RowsAt K H' v rows → Q v H'
structure Blk (m : Int) (rs : List (List Int)) : Prop where
  asc : ∀ r ∈ rs, r.Pairwise (· < ·)
  rng : ∀ r ∈ rs, ∀ x ∈ r, 0 ≤ x ∧ x < m
def WBlk (K : PySem.W.Frag) (t l fa : Addr) (n : Int) (H : Hp) (m : Nat) (σ' : L2.St) (H' : Hp) : Prop :=
  ∃ (vs : List V) (rs : List (List Int)) (x3 x4 x5 x6 x7 x8 x9 x10 : Option V), σ' = [some (.ref t), some (.int n), some (.ref fa), x3, x4, x5, x6, x7, x8, x9, x10] ∧ m + rs.length = n.toNat ∧ H' fa = some (.lst vs) ∧ RowsT K H' vs rs ∧ Blk rs.length rs ∧ Gr t H H' ∧ Tape H' t l
theorem mod_ne {i z : Int} (h0 : 0 ≤ i) (h1 : i < z) (h2 : 2 < z) : i ≠ (i + 1) % z := by
  intro h
  by_cases h3 : i + 1 < z
  · rw [Int.emod_eq_of_lt (by omega) h3] at h
    omega
  · have e : i + 1 = z := by omega
    rw [e, Int.emod_self] at h
    omega
theorem ok_blocks (A : At K mg "_law_blocks" s_law_blocks ["tape", "most"]) (T : Tx mg) (G_law_pick : Dfn P w K mg base "_law_pick" ["tape", "size"] 1 spPick) : Dfn P w K mg base "_law_blocks" ["tape", "most"] 2 (spBlocks K) := by
  refine A.ok sc_law_blocks (fun vs H Q E h => ?_) (fun f cdv A outer s H vs Q E hr h => ?_)
  · obtain ⟨t, l, n, rfl, _⟩ := h
    rfl
  · obtain ⟨t, l, n, rfl, hT, hn, hn2, k⟩ := h
    refine ⟨_, (pss_cons (ps_set (i := 2) sc_law_blocks.nd rfl (Or.inl rfl) (pe_lst pa_nil))
      (pss_cons (ps_while PassesOwn.never (PW.pt (pw_or (pt_cmpR op_eq (pe_callB c_len (by rfl) T.len (by decide +kernel) (pa_cons (pv 2) pa_nil)) pe_int (nomark _)) (pw_or1 (PW.pt (pw_and (pt_cmpR op_lt (pe_callB c_len (by rfl) T.len (by decide +kernel) (pa_cons (pv 2) pa_nil)) (pv 1) (nomark _)) (pw_and1 (pt_cmpR op_gt (pe_d G_law_pick (hr.mono (by decide)) (pa_cons (pv 0) (pa_cons pe_int pa_nil))) pe_int (nomark _)))))))) (pss_cons (ps_set (i := 3) sc_law_blocks.nd rfl (Or.inr rfl) (pe_callB c_len (by rfl) T.len (by decide +kernel) (pa_cons (pv 2) pa_nil)))
      (pss_cons (ps_set (i := 4) sc_law_blocks.nd rfl (Or.inl rfl) (pe_op op_add pe_int (pe_d G_law_pick (hr.mono (by decide)) (pa_cons (pv 0) (pa_cons (pe_callB (c_min rfl) (by rfl) T.min (by decide +kernel) (pa_cons pe_int (pa_cons (pe_op op_sub (pv 1) (pv 3)) pa_nil))) pa_nil)))))
      (pss_cons (ps_set (i := 5) sc_law_blocks.nd rfl (Or.inl rfl) (pe_d G_law_pick (hr.mono (by decide)) (pa_cons (pv 0) (pa_cons pe_int pa_nil))))
      (pss_one (ps_for PassesOwn.never rfl (pi_range1 rfl T.range (pa_cons (pv 4) pa_nil)) (pg_name (i := 6) sc_law_blocks.nd rfl (Or.inr rfl))
      (pss_cons (ps_set (i := 7) sc_law_blocks.nd rfl (Or.inl rfl) (pe_listRg rfl (by rfl) T.list (prg_2 (by rfl) T.range (pv 3) (pe_op op_add (pv 3) (pv 4)))))
      (Evl.pss_cut (ps_if (PW.pt (pw_and (pt_cmpR op_eq (pv 5) pe_int (nomark _)) (pw_and1 (pt_cmpR op_gt (pv 4) pe_int (nomark _))))) (pss_one (ps_set (i := 7) sc_law_blocks.nd rfl (Or.inl rfl) (pe_lst (pa_cons (pe_op op_add (pv 3) (pv 6)) (pa_cons (pe_op op_add (pv 3) (pe_op op_mod (pe_callTy c_int (by rfl) T.int (by decide +kernel) (pa_cons (pe_op op_add (pv 6) pe_int) pa_nil)) (pv 4))) pa_nil))))) pss_nil)
      (Evl.pss_cut (ps_if (PW.pt (pw_and (pt_cmpR op_eq (pv 5) pe_int (nomark _)) (pw_and1 (pt_cmpR op_gt (pv 4) pe_int (nomark _))))) (pss_one (ps_setLc (i := 7) (own := [("j", 9)]) (g := (gName 9)) (tt := (tTest (tOp rNe (tVar 9) (tVar 6)))) (te := (tOp (rI0 fun i j => V.int (i + j)) (tVar 3) (tVar 9))) (by rfl) sc_law_blocks.nd rfl rfl (sw_true rfl rfl rfl (by decide +kernel)) (pi_range1 rfl T.range (pa_cons (pv 4) pa_nil)) (blkOk_by (own := [("j", 9)]) (N := n_law_blocks) (sc := (defScope s_law_blocks)) (by decide +kernel)) (fun _ _ _ _ _ => (pg_name (i := 9) sc_law_blocks.nd rfl (Or.inl rfl))) (fun _ _ _ _ _ => (pts_one (pt_cmpR op_ne (pv 9) (pv 6) (nomark _)))) (fun _ _ _ _ _ => (pe_op op_add (pv 3) (pv 9))))) pss_nil)
      (pss_cons (ps_setLc (i := 8) (own := [("thing", 10)]) (g := (gName 10)) (tt := (tTest (tOp rEq (tCall spPick [] E0 (tCons (tVar 0) (tCons (tC (V.int 4)) tNil))) (tC (V.int 0))))) (te := (tVar 10)) (by rfl) sc_law_blocks.nd rfl rfl (sw_true rfl rfl rfl (by decide +kernel)) (pi_range1 rfl T.range (pa_cons (pv 3) pa_nil)) (blkOk_by (own := [("thing", 10)]) (N := n_law_blocks) (sc := (defScope s_law_blocks)) (by decide +kernel)) (fun _ _ _ _ _ => (pg_name (i := 10) sc_law_blocks.nd rfl (Or.inl rfl))) (fun _ _ _ _ _ => (pts_one (pt_cmpR op_eq (pe_d G_law_pick (hr.mono (by decide)) (pa_cons (pv 0) (pa_cons pe_int pa_nil))) pe_int (nomark _)))) (fun _ _ _ _ _ => (pv 10)))
      (pss_one (ps_expr (pe_bm PySem.F.plainAttrs_list PySem.F.slot_list_append PySem.F.type_list_append mt_append (pv 2) (pa_cons (pe_callTy c_tuple (by rfl) T.tuple (by decide +kernel) (pa_cons (pe_callB cr_sortedI (by rfl) T.sorted (by decide +kernel) (pa_cons (pe_op op_cat (pv 7) (pv 8)) pa_nil)) pa_nil)) pa_nil))))))))))))))
      (pss_one (ps_ret (pe_callTy c_tuple (by rfl) T.tuple (by decide +kernel) (pa_cons (pv 2) pa_nil)))))), ?_⟩
    refine ⟨Nat.zero_le _, fun fa hf => ?_⟩
    have nf := hT.free hf
    refine ⟨WBlk K t l fa n H, ⟨n.toNat, [], [], none, none, none, none, none, none, none, none, rfl, by simp, upd_same, .nil, ⟨fun _ h => (by cases h), fun _ h => (by cases h)⟩, gr_mut (Gr.refl H) hf, hT.new hf⟩, ?_⟩
    rintro m σ' H1 ⟨vs, rs, x3, x4, x5, x6, x7, x8, x9, x10, rfl, hm, hfa, hrs, hB, g1, T1⟩
    have vl := hrs.len
    refine (show ∀ R : Bool → Hp → Prop, (∀ b H2, Gr t H1 H2 → Tape H2 t l → (b = true → 0 < m) → (b = false → 1 ≤ rs.length) → R b H2) → ((tOr (tTest (tOp rEq (tCB (rLenS K) (tCons (tVar 2) tNil)) (tC (V.int 0)))) (tAnd (tTest (tOp (rI0 fun i j => V.bl (decide (i < j))) (tCB (rLenS K) (tCons (tVar 2) tNil)) (tVar 1))) (tTest (tOp (rI0 fun i j => V.bl (decide (j < i))) (tCall spPick [] E0 (tCons (tVar 0) (tCons (tC (V.int 3)) tNil))) (tC (V.int 0)))))) : TT) [some (.ref t), some (.int n), some (.ref fa), x3, x4, x5, x6, x7, x8, x9, x10] H1 R from fun R hR => ?_) _ (fun b H2 g2 T2 hb1 hb2 => ?_)
    · refine ⟨_, rfl, fa, vs, rfl, .inl (SqL.of hfa), rfl, _, rfl, ?_⟩
      refine ite2 (fun hc => ?_) (fun hc => ?_)
      · have h0 := of_decide_eq_true hc
        injection h0 with h0
        exact hR _ _ (Gr.refl _) T1 (fun _ => by omega) (fun h => (by cases h))
      · have h0 : ¬ ((vs.length : Nat) : Int) = 0 := fun q => hc (by rw [q]; exact decide_eq_true rfl)
        refine ⟨_, rfl, fa, vs, rfl, .inl (SqL.of hfa), _, rfl, _, _, rfl, rfl, _, rfl, ?_⟩
        refine ite2 (fun hc => ?_) (fun hc => ?_)
        · have h1 := of_decide_eq_true hc
          refine ⟨_, rfl, t, l, 3, rfl, T1, by decide, by decide, fun x H2 _ _ g2 T2 => ⟨_, _, rfl, rfl, _, rfl, ?_⟩⟩
          exact hR _ _ g2 T2 (fun _ => by omega) (fun _ => by omega)
        · exact hR _ _ (Gr.refl _) T1 (fun h => (by cases h)) (fun _ => by omega)
    · have hfa2 : H2 fa = some (.lst vs) := g2 _ _ nf.1 hfa
      have hrs2 := hrs.gr g2 T1
      cases b with
      | false =>
        refine ⟨_, rfl, fa, vs, rfl, .inl ⟨SqL.of hfa2, fun z hz => ?_⟩⟩
        have g12 := g1.trans g2
        have hz0 : H z = none := g12.fresh T2 hz
        exact k _ rs _ ⟨hb2 rfl, hB.asc, hB.rng⟩ (by omega) (gr_mut g12 hz0) (T2.new hz) ⟨z, vs, rfl, SqT.of upd_same, hrs2.same (same_new hz)⟩
      | true =>
        have hm0 := hb1 rfl
        refine ⟨fun σ' H' => ∃ m', m' < m ∧ WBlk K t l fa n H m' σ' H', fun _ _ h => h, ?_⟩
        refine ⟨_, rfl, fa, vs, rfl, .inl (SqL.of hfa2), ?_⟩
        refine ⟨_, rfl, _, rfl, _, rfl, _, _, rfl, rfl, 4, _, rfl, t, l, _, rfl, T2, by split <;> omega, by split <;> omega, fun sz H3 s0 s1 g3 T3 => ⟨_, _, rfl, rfl, ?_⟩⟩
        have sb : (vs.length : Int) + (1 + sz) ≤ n ∧ sz < 4 := by
          split at s1 <;> omega
        refine ⟨_, rfl, t, l, 3, rfl, T3, by decide, by decide, fun kd H4 _ _ g4 T4 => ?_⟩
        have g24 := (g2.trans g3).trans g4
        have hfa4 : H4 fa = some (.lst vs) := (g3.trans g4) _ _ nf.1 hfa2
        have hrs4 := hrs.gr g24 T1
        refine ⟨_, rfl, _, rfl, by omega, by omega, for_range (lo := 0) (n := (1 + sz).toNat) (fun i σ' H' => ∃ (vs' : List V) (rs' : List (List Int)) (x6 x7 x8 x9 x10 : Option V), σ' = [some (.ref t), some (.int n), some (.ref fa), some (.int (vs.length : Nat)), some (.int (1 + sz)), some (.int kd), x6, x7, x8, x9, x10] ∧ rs'.length = rs.length + i ∧ H' fa = some (.lst vs') ∧ RowsT K H' vs' rs' ∧ Blk (vs.length + (1 + sz)) rs' ∧ Gr t H H' ∧ Tape H' t l)
          ⟨vs, rs, _, _, _, _, _, rfl, rfl, hfa4, hrs4, ⟨hB.asc, fun r hr x hx => by have := hB.rng r hr x hx; omega⟩, g1.trans g24, T4⟩ ?_ ?_⟩
        · rintro i σ' H5 hi ⟨vs', rs', y6, y7, y8, y9, y10, rfl, hl', hfa5, hrs5, hB5, g5, T5⟩
          have hik : ((0 : Int) + (i : Int)) < 1 + sz := by omega
          -- row = list(range(base, base + size))
          refine ⟨_, rfl, _, rfl, _, rfl, _, _, rfl, rfl, _, _, rfl, rfl, RgOk.of_le (by omega) (by omega) (by omega) (by omega), fun ra hra => ?_⟩
          -- if kind == 1
          refine ⟨fun σ' H' => ∃ (ra : Addr) (row : List Int), σ' = [some (.ref t), some (.int n), some (.ref fa), some (.int (vs.length : Nat)), some (.int (1 + sz)), some (.int kd), some (.int (0 + (i : Int))), some (.ref ra), y8, y9, y10] ∧ H' ra = some (.lst (row.map V.int)) ∧ row.Nodup ∧ (∀ x ∈ row, (vs.length : Int) ≤ x ∧ x < vs.length + (1 + sz)) ∧ row.length ≤ 12 ∧ Gr t H5 H' ∧ Tape H' t l, ?_, ?_⟩
          · have rgm : rgV (vs.length : Int) ((vs.length : Int) + (1 + sz)) = ((List.range (1 + sz).toNat).map fun (j : Nat) => (vs.length : Int) + (j : Int)).map V.int := by
              unfold rgV
              rw [List.map_map]
              have e : ((vs.length : Int) + (1 + sz) - vs.length).toNat = (1 + sz).toNat := by omega
              rw [e]
              rfl
            have first : ∃ (ra' : Addr) (row : List Int), ra' = ra ∧ (upd H5 ra (.lst (rgV (vs.length : Int) ((vs.length : Int) + (1 + sz))))) ra' = some (.lst (row.map V.int)) ∧ row.Nodup ∧ (∀ x ∈ row, (vs.length : Int) ≤ x ∧ x < vs.length + (1 + sz)) ∧ row.length ≤ 12 := by
              refine ⟨ra, (List.range (1 + sz).toNat).map fun (j : Nat) => (vs.length : Int) + (j : Int), rfl, by rw [upd_same, rgm], ?_, fun x hx => ?_, by rw [List.length_map, List.length_range]; omega⟩
              · exact List.Pairwise.map _ (fun (a b : Nat) (h : a ≠ b) (q : (vs.length : Int) + (a : Int) = (vs.length : Int) + (b : Int)) => h (by omega)) List.nodup_range
              · obtain ⟨j, hj, rfl⟩ := List.mem_map.mp hx
                have := List.mem_range.mp hj
                omega
            have keep : ∃ (ra' : Addr) (row : List Int), [some (V.ref t), some (V.int n), some (V.ref fa), some (V.int (vs.length : Nat)), some (V.int (1 + sz)), some (V.int kd), some (V.int (0 + (i : Int))), some (V.ref ra), y8, y9, y10] = [some (V.ref t), some (V.int n), some (V.ref fa), some (V.int (vs.length : Nat)), some (V.int (1 + sz)), some (V.int kd), some (V.int (0 + (i : Int))), some (V.ref ra'), y8, y9, y10] ∧ (upd H5 ra (.lst (rgV (vs.length : Int) ((vs.length : Int) + (1 + sz))))) ra' = some (.lst (row.map V.int)) ∧ row.Nodup ∧ (∀ x ∈ row, (vs.length : Int) ≤ x ∧ x < vs.length + (1 + sz)) ∧ row.length ≤ 12 ∧ Gr t H5 (upd H5 ra (.lst (rgV (vs.length : Int) ((vs.length : Int) + (1 + sz))))) ∧ Tape (upd H5 ra (.lst (rgV (vs.length : Int) ((vs.length : Int) + (1 + sz))))) t l := by
              obtain ⟨ra', row, e, h1, h2, h3, h4⟩ := first
              subst e
              exact ⟨ra', row, rfl, h1, h2, h3, h4, Gr.new hra, T5.new hra⟩
            refine ⟨_, rfl, rfl, _, rfl, ?_⟩
            refine ite2 (fun _ => ?_) (fun _ => keep)
            refine ⟨_, rfl, _, _, rfl, rfl, _, rfl, ?_⟩
            refine ite2 (fun hc => ?_) (fun _ => keep)
            have hc2 := of_decide_eq_true hc
            refine ⟨_, rfl, _, rfl, _, _, rfl, rfl, _, rfl, _, rfl, _, _, rfl, rfl, .inl ⟨_, rfl, _, rfl, _, _, rfl, rfl, (by show (0 : Int) < 1 + sz; omega), _, _, rfl, rfl, by show 2 ≤ sizeLine; decide, fun q hq => ?_⟩⟩
            have hq5 : H5 q = none := Gr.fresh (Gr.new hra) (T5.new hra) hq
            have m0 := Int.emod_nonneg (0 + (i : Int) + 1) (show (1 + sz) ≠ 0 by omega)
            have m1 := Int.emod_lt_of_pos (0 + (i : Int) + 1) (show 0 < 1 + sz by omega)
            have mn := mod_ne (show (0 : Int) ≤ 0 + (i : Int) by omega) hik hc2
            refine ⟨q, [(vs.length : Int) + (0 + (i : Int)), (vs.length : Int) + (0 + (i : Int) + 1) % (1 + sz)], rfl, upd_same, ?_, fun x hx => ?_, by show 2 ≤ 12; decide, gr_mut (Gr.new hra) hq5, (T5.new hra).new hq⟩
            · refine List.pairwise_cons.mpr ⟨fun b hb => ?_, List.pairwise_singleton _ _⟩
              rw [List.mem_singleton.mp hb]
              omega
            · rcases List.mem_cons.mp hx with h | h
              · omega
              · rw [List.mem_singleton.mp h]
                omega
          · rintro σ' H6 ⟨rb, row, rfl, hrb, hnd, hrr, hrl, g6, T6⟩
            -- if kind == 2
            refine ⟨fun σ' H' => ∃ (ra : Addr) (row : List Int), σ' = [some (.ref t), some (.int n), some (.ref fa), some (.int (vs.length : Nat)), some (.int (1 + sz)), some (.int kd), some (.int (0 + (i : Int))), some (.ref ra), y8, y9, y10] ∧ H' ra = some (.lst (row.map V.int)) ∧ row.Nodup ∧ (∀ x ∈ row, (vs.length : Int) ≤ x ∧ x < vs.length + (1 + sz)) ∧ row.length ≤ 12 ∧ Gr t H5 H' ∧ Tape H' t l, ?_, ?_⟩
            · refine ⟨_, rfl, rfl, _, rfl, ?_⟩
              refine ite2 (fun _ => ?_) (fun _ => ⟨rb, row, rfl, hrb, hnd, hrr, hrl, g6, T6⟩)
              refine ⟨_, rfl, _, _, rfl, rfl, _, rfl, ?_⟩
              refine ite2 (fun _ => ?_) (fun _ => ⟨rb, row, rfl, hrb, hnd, hrr, hrl, g6, T6⟩)
              refine ⟨_, rfl, _, rfl, by omega, by omega, fun D hD => ?_⟩
              have hD5 : H5 D = none := g6.fresh T6 hD
              refine lc_range (lo := 0) (n := (1 + sz).toNat) (fun j H' => ∃ out : List Int, H' D = some (.lst (out.map V.int)) ∧ out.length ≤ j ∧ out.Pairwise (· < ·) ∧ (∀ x ∈ out, (vs.length : Int) ≤ x ∧ x < vs.length + (j : Int)) ∧ Gr t H6 H' ∧ Tape H' t l)
                ⟨[], upd_same, Nat.le_refl _, .nil, fun _ h => (by cases h), Gr.new hD, T6.new hD⟩ ?_ ?_
              · rintro j H7 hj ⟨out, hDo, hol, hop, hor, g7, T7⟩
                refine ⟨rfl, _, rfl, _, rfl, rfl, _, rfl, ?_⟩
                refine ite2 (fun _ => ?_) (fun _ => ⟨out, hDo, by omega, hop, fun x hx => by have := hor x hx; omega, g7, T7⟩)
                refine ⟨_, rfl, _, rfl, _, _, rfl, rfl, _, hDo, by rw [List.length_map]; exact small_lt (by omega), ?_⟩
                refine ⟨out ++ [(vs.length : Int) + (0 + (j : Int))], by rw [upd_same, map_snoc], by rw [List.length_append, List.length_singleton]; omega, asc_snoc hop fun x hx => by have := hor x hx; omega, fun x hx => ?_, gr_mut g7 hD, T7.mut (T6.free hD)⟩
                rcases List.mem_append.mp hx with h | h
                · have := hor x h
                  omega
                · rw [List.mem_singleton.mp h]
                  omega
              · rintro H7 ⟨out, hDo, hol, hop, hor, g7, T7⟩
                exact ⟨D, out, rfl, hDo, nodup_of_lt hop, fun x hx => by have := hor x hx; omega, by omega, g6.trans g7, T7⟩
            · rintro σ' H7 ⟨rc, row2, rfl, hrc, hnd2, hrr2, hrl2, g7, T7⟩
              -- ahead
              refine ⟨_, rfl, _, rfl, by omega, by omega, fun D hD => ?_⟩
              have nD := T7.free hD
              refine lc_range (lo := 0) (n := ((vs.length : Nat) : Int).toNat) (fun j H' => ∃ out : List Int, H' D = some (.lst (out.map V.int)) ∧ out.length ≤ j ∧ out.Pairwise (· < ·) ∧ (∀ x ∈ out, 0 ≤ x ∧ x < (j : Int)) ∧ Gr t H7 H' ∧ Tape H' t l)
                ⟨[], upd_same, Nat.le_refl _, .nil, fun _ h => (by cases h), Gr.new hD, T7.new hD⟩ ?_ ?_
              · rintro j H8 hj ⟨out, hDo, hol, hop, hor, g8, T8⟩
                refine ⟨rfl, _, rfl, t, l, 4, rfl, T8, by decide, by decide, fun x H9 _ _ g9 T9 => ⟨rfl, _, rfl, ?_⟩⟩
                have hD9 : H9 D = some (.lst (out.map V.int)) := g9 _ _ nD.1 hDo
                refine ite2 (fun _ => ?_) (fun _ => ⟨out, hD9, by omega, hop, fun x hx => by have := hor x hx; omega, g8.trans g9, T9⟩)
                refine ⟨_, rfl, _, hD9, by rw [List.length_map]; exact small_lt (by omega), ?_⟩
                refine ⟨out ++ [0 + (j : Int)], by rw [upd_same, map_snoc], by rw [List.length_append, List.length_singleton]; omega, asc_snoc hop fun x hx => by have := hor x hx; omega, fun x hx => ?_, gr_mut (g8.trans g9) hD, T9.mut nD⟩
                rcases List.mem_append.mp hx with h | h
                · have := hor x h
                  omega
                · rw [List.mem_singleton.mp h]
                  omega
              · rintro H8 ⟨out, hDo, hol, hop, hor, g8, T8⟩
                have g58 := g7.trans g8
                have hfa8 : H8 fa = some (.lst vs') := g58 _ _ nf.1 hfa5
                have hrc8 : H8 rc = some (.lst (row2.map V.int)) := g8 _ _ (T7.ne_ints' hrc) hrc
                have hrs8 := hrs5.gr g58 T5
                refine ⟨_, rfl, .inl ⟨rfl, _, SqL.of hfa8⟩, _, rfl, _, rfl, rc, D, _, _, rfl, rfl, hrc8, hDo, by rw [List.length_map, List.length_map]; exact small_le (by omega), fun ca hca => ?_⟩
                have ncf : fa ≠ ca := ne_of_none hfa8 hca
                refine ⟨ca, row2 ++ out, rfl, SqL.of (by rw [upd_same, List.map_append]), fun ns' p pms so hp => ⟨p, _, rfl, .inl ⟨SqL.of upd_same, fun q hq => ?_⟩⟩⟩
                have npf : fa ≠ p := ne_of_none (show (upd H8 ca (.lst (row2.map V.int ++ out.map V.int))) fa = some (.lst vs') by rw [upd_ne ncf]; exact hfa8) hp
                have nqf : fa ≠ q := ne_of_none (show (upd (upd H8 ca (.lst (row2.map V.int ++ out.map V.int))) p (.lst (ns'.map V.int))) fa = some (.lst vs') by rw [upd_ne npf, upd_ne ncf]; exact hfa8) hq
                have e9 : (upd (upd (upd H8 ca (.lst (row2.map V.int ++ out.map V.int))) p (.lst (ns'.map V.int))) q (.tup (ns'.map V.int))) fa = some (.lst vs') := by rw [upd_ne nqf, upd_ne npf, upd_ne ncf]; exact hfa8
                have g89 : Gr t H8 (upd (upd (upd H8 ca (.lst (row2.map V.int ++ out.map V.int))) p (.lst (ns'.map V.int))) q (.tup (ns'.map V.int))) := ((Gr.new hca).trans (Gr.new hp)).trans (Gr.new hq)
                have T9 := ((T8.new (o := .lst (row2.map V.int ++ out.map V.int)) hca).new (o := .lst (ns'.map V.int)) hp).new (o := .tup (ns'.map V.int)) hq
                refine ⟨fa, vs', .ref q, rfl, rfl, e9, small_lt (by rw [hrs5.len]; omega), ?_⟩
                have nd : (row2 ++ out).Nodup := by
                  show (row2 ++ out).Pairwise (· ≠ ·)
                  rw [List.pairwise_append]
                  exact ⟨hnd2, nodup_of_lt hop, fun a ha b hb q => by
                    have := hrr2 a ha
                    have := hor b hb
                    omega⟩
                refine ⟨vs' ++ [.ref q], rs' ++ [ns'], _, _, _, _, _, rfl, by rw [List.length_append, hl']; rfl, upd_same, ?_, ⟨fun r hr => ?_, fun r hr x hx => ?_⟩, gr_mut (g5.trans (g58.trans g89)) hf, T9.mut nf⟩
                · exact RowsT.snoc (SqT.of (by rw [upd_ne nqf.symm, upd_same])) ((hrs8.gr g89 T8).put e9)
                · rcases List.mem_append.mp hr with h | h
                  · exact hB5.asc r h
                  · rw [List.mem_singleton.mp h]
                    exact asc_of pms so nd
                · rcases List.mem_append.mp hr with h | h
                  · exact hB5.rng r h x hx
                  · rw [List.mem_singleton.mp h] at hx
                    rcases List.mem_append.mp (pms.mem_iff.mp hx) with h2 | h2
                    · have := hrr2 x h2
                      omega
                    · have := hor x h2
                      omega
        · rintro σ' H5 ⟨vs', rs', y6, y7, y8, y9, y10, rfl, hl', hfa5, hrs5, hB5, g5, T5⟩
          refine ⟨n.toNat - rs'.length, by omega, vs', rs', _, _, _, _, _, _, _, _, rfl, by omega, hfa5, hrs5, ⟨hB5.asc, fun r hr x hx => ?_⟩, g5, T5⟩
          have := hB5.rng r hr x hx
          omega
/-! ### rows -/
def spRows (K : PySem.W.Frag) : Sp := fun vs H Q _ => ∃ (t l : Addr) (n : Int), vs = [.ref t, .int n] ∧ Tape H t l ∧ 1 ≤ n ∧ n ≤ 12 ∧ ∀ (v : V) (rows : List (List Int)) (H' : Hp), Good rows → (rows.length : Int) ≤ n → Gr t H H' → Tape H' t l → RowsAt K H' v rows → Q v H'
theorem ok_rows (A : At K mg "_law_rows" s_law_rows ["tape", "most"]) (T : Tx mg) (G_law_pick : Dfn P w K mg base "_law_pick" ["tape", "size"] 1 spPick) (G_law_moved : Dfn P w K mg base "_law_moved" ["tape", "rows"] 3 (spMoved K)) (G_law_blocks : Dfn P w K mg base "_law_blocks" ["tape", "most"] 2 (spBlocks K)) (G_law_loose : Dfn P w K mg base "_law_loose" ["tape", "many"] 3 (spLoose K)) : Dfn P w K mg base "_law_rows" ["tape", "most"] 4 (spRows K) := by
  refine A.ok sc_law_rows (fun vs H Q E h => ?_) (fun f cdv A outer s H vs Q E hr h => ?_)
  · obtain ⟨t, l, n, rfl, _⟩ := h
    rfl
  · obtain ⟨t, l, n, rfl, hT, hn, hn2, k⟩ := h
    refine ⟨_, (pss_cons (ps_set (i := 2) sc_law_rows.nd rfl (Or.inl rfl) (pe_d G_law_pick (hr.mono (by decide)) (pa_cons (pv 0) (pa_cons pe_int pa_nil))))
      (pss_cons (ps_if (pt_cmpR op_eq (pv 2) pe_int (nomark _)) (pss_one (ps_ret (pe_d G_law_moved (hr.mono (by decide)) (pa_cons (pv 0) (pa_cons (pe_d G_law_blocks (hr.mono (by decide)) (pa_cons (pv 0) (pa_cons (pv 1) pa_nil))) pa_nil))))) pss_nil)
      (pss_one (ps_ret (pe_d G_law_loose (hr.mono (by decide)) (pa_cons (pv 0) (pa_cons (pe_op op_add pe_int (pe_d G_law_pick (hr.mono (by decide)) (pa_cons (pv 0) (pa_cons (pv 1) pa_nil)))) pa_nil))))))), ?_⟩
    refine ⟨_, rfl, t, l, 3, rfl, hT, by decide, by decide, fun kd H1 _ _ g1 T1 => ?_⟩
    refine ⟨_, rfl, rfl, _, rfl, ?_⟩
    refine ite2 (fun _ => ?_) (fun _ => ?_)
    · refine ⟨_, rfl, _, rfl, _, rfl, t, l, n, rfl, T1, hn, hn2, fun v rows H2 G hl g2 T2 R2 => ?_⟩
      refine ⟨t, l, v, rows, rfl, T2, G, by omega, R2, fun v' rows' H3 G' hl' g3 T3 R3 => ?_⟩
      exact k v' rows' H3 G' (by omega) ((g1.trans g2).trans g3) T3 R3
    · refine ⟨_, rfl, _, rfl, _, rfl, t, l, n, rfl, T1, by omega, by omega, fun x H2 x0 x1 g2 T2 => ⟨_, _, rfl, rfl, ?_⟩⟩
      refine ⟨t, l, 1 + x, rfl, T2, by omega, by omega, fun v rows H3 G hl g3 T3 R3 => ?_⟩
      exact k v rows H3 G (by omega) ((g1.trans g2).trans g3) T3 R3
end
end Fo

set_option maxRecDepth 100000
set_option maxHeartbeats 4000000
namespace Fo
open PySem PySem.Spec PyProof.Rows L2
abbrev s_is_integer : Stmt := top 5
abbrev n_is_integer : List Str := ["thing"]
theorem sc_is_integer : FnScope n_is_integer ["thing"] (defScope s_is_integer) := ⟨rfl, rfl, rfl, by decide +kernel, rfl, by decide +kernel, by decide +kernel⟩
abbrev s_is_number : Stmt := top 6
abbrev n_is_number : List Str := ["bound", "thing"]
theorem sc_is_number : FnScope n_is_number ["bound", "thing"] (defScope s_is_number) := ⟨rfl, rfl, rfl, by decide +kernel, rfl, by decide +kernel, by decide +kernel⟩
abbrev s_is_numbers : Stmt := top 7
abbrev n_is_numbers : List Str := ["bound", "thing", "one"]
theorem sc_is_numbers : FnScope n_is_numbers ["bound", "thing"] (defScope s_is_numbers) := ⟨rfl, rfl, rfl, by decide +kernel, rfl, by decide +kernel, by decide +kernel⟩
abbrev s_is_ascending : Stmt := top 8
abbrev n_is_ascending : List Str := ["bound", "thing", "low", "high"]
theorem sc_is_ascending : FnScope n_is_ascending ["bound", "thing"] (defScope s_is_ascending) := ⟨rfl, rfl, rfl, by decide +kernel, rfl, by decide +kernel, by decide +kernel⟩
abbrev s_check_rows : Stmt := top 12
abbrev n_check_rows : List Str := ["rows", "person", "row"]
theorem sc_check_rows : FnScope n_check_rows ["rows"] (defScope s_check_rows) := ⟨rfl, rfl, rfl, by decide +kernel, rfl, by decide +kernel, by decide +kernel⟩
abbrev s_Table___init : Stmt := inClass (top 11) 0
abbrev n_Table___init : List Str := ["self", "rows"]
theorem sc_Table___init : FnScope n_Table___init ["self", "rows"] (defScope s_Table___init) := ⟨rfl, rfl, rfl, by decide +kernel, rfl, by decide +kernel, by decide +kernel⟩
abbrev s_Table___eq : Stmt := inClass (top 11) 1
abbrev n_Table___eq : List Str := ["self", "other"]
theorem sc_Table___eq : FnScope n_Table___eq ["self", "other"] (defScope s_Table___eq) := ⟨rfl, rfl, rfl, by decide +kernel, rfl, by decide +kernel, by decide +kernel⟩
section
variable {P : Program} {w : World} {K : PySem.W.Frag} {mg : Str → Option Value} {base : Heap} {C : Addr}
def spInteger (K : PySem.W.Frag) (C : Addr) : Sp := fun vs H Q _ => ∃ x, vs = [x] ∧ Th K C H x ∧ Q (.bl (isIntV x)) H
theorem ok_is_integer (A : At K mg "is_integer" s_is_integer ["thing"]) (T : Tx mg) (tc : TC K C) : Dfn P w K mg base "is_integer" ["thing"] 1 (spInteger K C) := by
  refine A.ok sc_is_integer (fun vs H Q E h => ?_) (fun f cdv A outer s H vs Q E hr h => ?_)
  · obtain ⟨x, rfl, _⟩ := h
    rfl
  · obtain ⟨x, rfl, hx, k⟩ := h
    obtain ⟨t, b1, b2, ty, h1, h2, h3⟩ := th_kit tc hx
    refine ⟨_, (pss_one (ps_ret (pe_and (pe_callB call_isi (by rfl) T.isinstance (by decide +kernel) (pa_cons (pv 0) (pa_cons (pe_bltn (v := V.ty "int") (by rfl) T.int (by decide +kernel) rfl) pa_nil))) (pe_one (pe_not (pe_callB call_isi (by rfl) T.isinstance (by decide +kernel) (pa_cons (pv 0) (pa_cons (pe_bltn (v := V.ty "bool") (by rfl) T.bool (by decide +kernel) rfl) pa_nil)))))))), ?_⟩
    refine ⟨_, rfl, x, .ty "int", t, .type "int", b1, rfl, .ty "int", ty, h1, b1, rfl, ?_⟩
    cases b1 with
    | true =>
      refine ⟨_, rfl, x, .ty "bool", t, .type "bool", b2, rfl, .ty "bool", ty, h2, b2, rfl, ?_⟩
      rw [Bool.true_and] at h3
      rw [h3]
      exact k
    | false =>
      rw [Bool.false_and] at h3
      rw [← h3] at k
      exact k
def spNumber (K : PySem.W.Frag) (C : Addr) : Sp := fun vs H Q _ => ∃ (b : Int) (x : V), vs = [.int b, x] ∧ Th K C H x ∧ Q (.bl (numV b x)) H
theorem ok_is_number (A : At K mg "is_number" s_is_number ["bound", "thing"]) (T : Tx mg) (G_is_integer : Dfn P w K mg base "is_integer" ["thing"] 1 (spInteger K C)) : Dfn P w K mg base "is_number" ["bound", "thing"] 2 (spNumber K C) := by
  refine A.ok sc_is_number (fun vs H Q E h => ?_) (fun f cdv A outer s H vs Q E hr h => ?_)
  · obtain ⟨b, x, rfl, _⟩ := h
    rfl
  · obtain ⟨b, x, rfl, hx, k⟩ := h
    refine ⟨_, (pss_one (ps_ret (pe_and (pe_d G_is_integer (hr.mono (by decide)) (pa_cons (pv 1) pa_nil)) (pe_one (pe_chain op_le op_lt pe_int (pv 1) (pv 0)))))), ?_⟩
    refine ⟨_, rfl, x, rfl, hx, _, rfl, ?_⟩
    cases x with
    | int i =>
      have k : Q (.bl (decide (0 ≤ i) && decide (i < b))) H := k
      refine ⟨_, rfl, 0, i, rfl, rfl, _, rfl, ?_⟩
      refine ite2 (fun h1 => ?_) (fun h1 => ?_)
      · rw [h1, Bool.true_and] at k
        exact ⟨_, rfl, i, b, rfl, rfl, k⟩
      · rw [show decide (0 ≤ i) = false from Bool.eq_false_iff.mpr h1, Bool.false_and] at k
        exact k
    | _ => exact k
def numbersOf (b : Int) : Option (List V) → Bool
  | some xs => xs.all (numV b)
  | none => false
def spNumbers (K : PySem.W.Frag) (C : Addr) : Sp := fun vs H Q _ => ∃ (b : Int) (x : V) (o : Option (List V)), vs = [.int b, x] ∧ Tg K C H x o ∧ ∀ H', Same H H' → Q (.bl (numbersOf b o)) H'
theorem ok_is_numbers (A : At K mg "is_numbers" s_is_numbers ["bound", "thing"]) (T : Tx mg) (G_is_number : Dfn P w K mg base "is_number" ["bound", "thing"] 2 (spNumber K C)) : Dfn P w K mg base "is_numbers" ["bound", "thing"] 3 (spNumbers K C) := by
  refine A.ok sc_is_numbers (fun vs H Q E h => ?_) (fun f cdv A outer s H vs Q E hr h => ?_)
  · obtain ⟨b, x, o, rfl, _⟩ := h
    rfl
  · obtain ⟨b, x, o, rfl, hx, k⟩ := h
    refine ⟨_, (pss_one (ps_ret (pe_and (pe_callB call_isi (by rfl) T.isinstance (by decide +kernel) (pa_cons (pv 1) (pa_cons (pe_bltn (v := V.ty "tuple") (by rfl) T.tuple (by decide +kernel) rfl) pa_nil))) (pe_one (pe_callB (cr_all rfl) (by rfl) T.all (by decide +kernel) (pa_cons (pe_lc (own := [("one", 2)]) (g := (gName 2)) (tt := tYes) (te := (tCall (spNumber K C) [] E0 (tCons (tVar 0) (tCons (tVar 2) tNil)))) (by rfl) sc_is_numbers.nd (pi_tup (pv 1)) (blkOk_by (own := [("one", 2)]) (N := n_is_numbers) (sc := (defScope s_is_numbers)) (by decide +kernel)) (fun _ _ _ _ _ => (pg_name (i := 2) sc_is_numbers.nd rfl (Or.inl rfl))) (fun _ _ _ _ _ => pts_nil) (fun _ _ _ _ _ => (pe_d G_is_number (hr.mono (by decide)) (pa_cons (pv 0) (pa_cons (pv 2) pa_nil))))) pa_nil)))))), ?_⟩
    cases hx with
    | no ty hk => exact ⟨_, rfl, x, .ty "tuple", _, .type "tuple", false, rfl, .ty "tuple", ty, hk, false, rfl, k H (Same.refl H)⟩
    | @tup a xs hq hi hz =>
      refine ⟨_, rfl, .ref a, .ty "tuple", _, .type "tuple", true, rfl, .ty "tuple", tyX_sqT hq, kit_ty (by decide +kernel), true, rfl, ?_⟩
      refine ⟨_, rfl, a, rfl, ⟨xs, hq⟩, fun D hD => lc_tup (xs := xs) (fun i H' => H' D = some (.lst ((xs.take i).map fun x => V.bl (numV b x))) ∧ Same H H') ⟨by rw [upd_same]; rfl, same_new hD⟩ (fun i H' _ p => sqT_same p.2 hq) (fun i y H' hy p => ?_) (fun H' p => ?_)⟩
      · refine ⟨rfl, _, rfl, _, rfl, b, y, rfl, (hi y (List.mem_of_getElem? hy)).same p.2, _, p.1, by rw [List.length_map]; exact small_lt (Nat.le_trans (List.length_take_le _ _) (by have := (List.getElem?_eq_some_iff.mp hy).1; omega)), ?_, same_mut p.2 hD⟩
        rw [upd_same, List.take_add_one, hy, List.map_append]
        rfl
      · obtain ⟨p1, p2⟩ := p
        rw [List.take_length] at p1
        refine ⟨D, xs.map (numV b), rfl, SqL.of (by rw [p1, List.map_map]; rfl), ?_⟩
        have e : (xs.map (numV b)).all id = numbersOf b (some xs) := by
          show _ = xs.all (numV b)
          rw [List.all_map]
          rfl
        rw [e]
        exact k H' p2
def ascOf (b : Int) : Option (List V) → Bool
  | some xs => ascV b xs
  | none => false
def spAsc (K : PySem.W.Frag) (C : Addr) : Sp := fun vs H Q _ => ∃ (b : Int) (x : V) (o : Option (List V)), vs = [.int b, x] ∧ Tg K C H x o ∧ ∀ H', Same H H' → Q (.bl (ascOf b o)) H'
theorem asc_lc {a p D : Addr} {ns : List Int} {H2 : Hp} {b : Int} {Qd : Hp → Prop} (hD : H2 D = none) (hx : SqT K H2 a (ns.map V.int)) (hy : SqT K H2 p ((ns.map V.int).drop 1)) (hz : ns.length ≤ 100000)
    (hd : ∀ H', Same H2 H' → H' D = some (.lst (((ns.map V.int).zip ((ns.map V.int).drop 1)).map fun q => V.bl (ltV q.1 q.2))) → Qd H') :
    ∃ W : Nat → Nat → Hp → Prop, (∃ m, W 0 m (upd H2 D (.lst []))) ∧ ∀ i m H, W i m H →
      ((RZ.ItzT K a p).stop i H ∧ Qd H) ∨ ((RZ.ItzT K a p).go i H ∧ ∃ Nx : Hp → Prop, (∀ H', Nx H' → ∃ m', m' < m ∧ W (i + 1) m' H') ∧ ∀ x H', (RZ.ItzT K a p).yld i H x H' → (gTup K 2 (gCons (gName 2) (gCons (gName 3) gNil))) x (wipe [some (.int b), some (.ref a), none, none] [2, 3]) H' fun σ2 H2 => wipe σ2 [2, 3] = wipe [some (.int b), some (.ref a), none, none] [2, 3] ∧ tYes σ2 H2 fun c H3 =>
        if c = true then (tOp (rI0 fun i j => V.bl (decide (i < j))) (tVar 2) (tVar 3)) σ2 H3 fun y H4 => ∃ acc, H4 D = some (.lst acc) ∧ acc.length < sizeLine ∧ Nx (upd H4 D (.lst (acc ++ [y]))) else Nx H3) := by
  refine lc_zipT (xs := ns.map V.int) (ys := (ns.map V.int).drop 1) (by rw [List.length_drop]; omega) (fun i H' => H' D = some (.lst ((((ns.map V.int).zip ((ns.map V.int).drop 1)).take i).map fun q => V.bl (ltV q.1 q.2))) ∧ Same H2 H') ⟨by rw [upd_same]; rfl, same_new hD⟩ (fun i H' _ q => ⟨sqT_same q.2 hx, sqT_same q.2 hy⟩) ?_ ?_
  · rintro i x y H3 T hxi hyi ⟨q1, q2⟩ hT
    have hDT : D ≠ T := ne_of_none q1 hT
    obtain ⟨u, rfl⟩ : ∃ u, x = V.int u := by
      rw [List.getElem?_map] at hxi
      cases e : ns[i]? with
      | none => rw [e] at hxi; cases hxi
      | some u => rw [e] at hxi; exact ⟨u, (Option.some.inj hxi).symm⟩
    obtain ⟨v, rfl⟩ : ∃ v, y = V.int v := by
      rw [List.getElem?_drop, List.getElem?_map] at hyi
      cases e : ns[1 + i]? with
      | none => rw [e] at hyi; cases hyi
      | some v => rw [e] at hyi; exact ⟨v, (Option.some.inj hyi).symm⟩
    have hzip : ((ns.map V.int).zip ((ns.map V.int).drop 1))[i]? = some (V.int u, V.int v) := List.getElem?_zip_eq_some.mpr ⟨hxi, hyi⟩
    refine ⟨T, [.int u, .int v], rfl, SqT.of upd_same, rfl, .int u, [.int v], rfl, .int v, [], rfl, rfl, rfl, _, rfl, _, rfl, u, v, rfl, rfl, _, by rw [upd_ne hDT]; exact q1, by rw [List.length_map]; exact small_lt (Nat.le_trans (List.length_take_le _ _) (by have := (List.getElem?_eq_some_iff.mp hxi).1; rw [List.length_map] at this; omega)), ?_, same_mut (q2.trans (same_new hT)) hD⟩
    rw [upd_same, List.take_add_one, hzip, List.map_append]
    rfl
  · rintro H3 ⟨q1, q2⟩
    refine hd H3 q2 ?_
    rw [q1, List.take_of_length_le]
    rw [List.length_zip]
    exact Nat.min_le_right _ _
theorem ok_is_ascending (A : At K mg "is_ascending" s_is_ascending ["bound", "thing"]) (T : Tx mg) (G_is_numbers : Dfn P w K mg base "is_numbers" ["bound", "thing"] 3 (spNumbers K C)) : Dfn P w K mg base "is_ascending" ["bound", "thing"] 4 (spAsc K C) := by
  refine A.ok sc_is_ascending (fun vs H Q E h => ?_) (fun f cdv A outer s H vs Q E hr h => ?_)
  · obtain ⟨b, x, o, rfl, _⟩ := h
    rfl
  · obtain ⟨b, x, o, rfl, hx, k⟩ := h
    refine ⟨_, (pss_one (ps_ret (pe_and (pe_d G_is_numbers (hr.mono (by decide)) (pa_cons (pv 0) (pa_cons (pv 1) pa_nil))) (pe_one (pe_callB (cr_all rfl) (by rfl) T.all (by decide +kernel) (pa_cons (pe_lc (own := [("low", 2), ("high", 3)]) (g := (gTup K 2 (gCons (gName 2) (gCons (gName 3) gNil)))) (tt := tYes) (te := (tOp (rI0 fun i j => V.bl (decide (i < j))) (tVar 2) (tVar 3))) (by rfl) sc_is_ascending.nd (RZ.pi_zipA (by rfl) T.zip (pa_cons (pv 1) (pa_cons (pe_slice sl_tupA (pv 1) (po_some pe_int) po_none) pa_nil))) (blkOk_by (own := [("low", 2), ("high", 3)]) (N := n_is_ascending) (sc := (defScope s_is_ascending)) (by decide +kernel)) (fun _ _ _ _ _ => (pg_tup rfl (pgs_cons (pg_name (i := 2) sc_is_ascending.nd rfl (Or.inl rfl)) (pgs_cons (pg_name (i := 3) sc_is_ascending.nd rfl (Or.inl rfl)) pgs_nil)))) (fun _ _ _ _ _ => pts_nil) (fun _ _ _ _ _ => (pe_cmpR op_lt (pv 2) (pv 3) (nomark _)))) pa_nil)))))), ?_⟩
    refine ⟨_, rfl, _, rfl, b, x, o, rfl, hx, fun H1 s1 => ⟨_, rfl, ?_⟩⟩
    cases hx with
    | no ty hk => exact k H1 s1
    | @tup a xs hq hi hz =>
      have kk : ∀ H', Same H H' → Q (.bl (ascV b xs)) H' := k
      show if xs.all (numV b) = true then _ else _
      cases hn : xs.all (numV b) with
      | false =>
        have e : ascV b xs = false := by rw [ascV_eq, hn]; rfl
        rw [e] at kk
        exact kk H1 s1
      | true =>
        obtain ⟨ns, rfl, hb⟩ := all_num_ints hn
        have hq1 := sqT_same s1 hq
        have cut : cutV (ns.map V.int) (some 1) none = (ns.map V.int).drop 1 := by
          unfold cutV
          rw [show HT.sIx (ns.map V.int).length 0 (some 1) = min 1 (ns.map V.int).length from HT.sIx_nat _ 0 1, HT.sIx_none]
          cases ns with
          | nil => rfl
          | cons x r =>
            rw [show min 1 ((x :: r).map V.int).length = 1 by rw [List.map_cons, List.length_cons]; omega]
            show List.take (((x :: r).map V.int).length - 1) (r.map V.int) = r.map V.int
            rw [List.map_cons, List.length_cons, Nat.add_sub_cancel]
            exact List.take_length
        have kk2 : ∀ (D : Addr) (H' : Hp), Same H H' → H' D = some (.lst (((ns.map V.int).zip ((ns.map V.int).drop 1)).map fun q => V.bl (ltV q.1 q.2))) → ∃ (a : Addr) (bs : List Bool), [V.ref D] = [V.ref a] ∧ SqL K H' a (bs.map V.bl) ∧ Q (.bl (bs.all id)) H' := fun D H' s2 hD => by
          refine ⟨D, ((ns.map V.int).zip ((ns.map V.int).drop 1)).map fun q => ltV q.1 q.2, rfl, SqL.of (by rw [hD, List.map_map]; rfl), ?_⟩
          have e : ((((ns.map V.int).zip ((ns.map V.int).drop 1)).map fun q => ltV q.1 q.2).all id) = ascV b (ns.map V.int) := by
            rw [ascV_eq, hn, Bool.true_and, List.all_map]
            rfl
          rw [e]
          exact kk H' s2
        have nz : ns.length ≤ 100000 := by rw [List.length_map] at hz; exact hz
        refine ⟨_, rfl, _, rfl, 1, rfl, a, ns.map V.int, rfl, hq1, fun hw => ?_, fun hw p hp => ?_⟩
        · have e0 : ns = [] := by
            cases ns with
            | nil => rfl
            | cons x r =>
              have h1 := hw.1
              rw [show HT.sIx ((x :: r).map V.int).length 0 (some 1) = min 1 ((x :: r).map V.int).length from HT.sIx_nat _ 0 1, List.map_cons, List.length_cons] at h1
              omega
          have hy : SqT K H1 a ((ns.map V.int).drop 1) := by rw [e0] at hq1 ⊢; exact hq1
          exact ⟨a, a, _, _, rfl, .inr ⟨hq1, hy, fun D hD => asc_lc hD hq1 hy nz fun H' s2 q => kk2 D H' (s1.trans s2) q⟩⟩
        · rw [cut]
          have hx2 := sqT_same (same_new (o := .tup ((ns.map V.int).drop 1)) hp) hq1
          exact ⟨a, p, _, _, rfl, .inr ⟨hx2, SqT.of upd_same, fun D hD => asc_lc hD hx2 (SqT.of upd_same) nz fun H' s2 q => kk2 D H' ((s1.trans (same_new hp)).trans s2) q⟩⟩
/-! ### the class -/
def spCheck (K : PySem.W.Frag) : Sp := fun vs H Q _ => ∃ (v : V) (rows : List (List Int)), vs = [v] ∧ Good rows ∧ rows.length ≤ 12 ∧ RowsAt K H v rows ∧ ∀ H', Same H H' → Q .non H'
theorem ok_check (A : At K mg "_check_rows" s_check_rows ["rows"]) (T : Tx mg) {tk : Tok} (hMR : mg "MOST_ROWS" = some (.int 12 tk)) (G_is_ascending : Dfn P w K mg base "is_ascending" ["bound", "thing"] 4 (spAsc K C)) : Dfn P w K mg base "_check_rows" ["rows"] 5 (spCheck K) := by
  refine A.ok sc_check_rows (fun vs H Q E h => ?_) (fun f cdv A outer s H vs Q E hr h => ?_)
  · obtain ⟨v, rows, rfl, _⟩ := h
    rfl
  · obtain ⟨v, rows, rfl, hG, hl, ⟨a, vs, rfl, ha, hrs⟩, k⟩ := h
    have vl := hrs.len
    have hp := hG.pos
    refine ⟨_, (pss_cons (ps_if (PW.pt (pw_or (pt_not (pt_val (pe_callB call_isi (by rfl) T.isinstance (by decide +kernel) (pa_cons (pv 0) (pa_cons (pe_bltn (v := V.ty "tuple") (by rfl) T.tuple (by decide +kernel) rfl) pa_nil))))) (pw_or1 (pt_not (pt_chain op_le op_le pe_int (pe_callB c_len (by rfl) T.len (by decide +kernel) (pa_cons (pv 0) pa_nil)) (pe_glob (v := V.int 12) (by rfl) hMR ⟨_, rfl⟩)))))) (pss_one ps_never) pss_nil)
      (pss_one (ps_for PassesOwn.never rfl (pi_enumT (by rfl) T.enumerate (pa_cons (pv 0) pa_nil)) (pg_tup rfl (pgs_cons (pg_name (i := 1) sc_check_rows.nd rfl (Or.inl rfl)) (pgs_cons (pg_name (i := 2) sc_check_rows.nd rfl (Or.inl rfl)) pgs_nil)))
      (pss_one (ps_if (pt_not (pt_val (pe_d G_is_ascending (hr.mono (by decide)) (pa_cons (pe_callB c_len (by rfl) T.len (by decide +kernel) (pa_cons (pv 0) pa_nil)) (pa_cons (pv 2) pa_nil))))) (pss_one ps_never) pss_nil))))), ?_⟩
    refine ⟨_, rfl, .ref a, .ty "tuple", _, .type "tuple", true, rfl, .ty "tuple", tyX_sqT ha, kit_ty (by decide +kernel), true, rfl, ?_⟩
    refine ⟨_, rfl, a, vs, rfl, .inr ha, 1, _, rfl, rfl, _, rfl, ?_⟩
    have d1 : decide ((1 : Int) ≤ (vs.length : Nat)) = true := decide_eq_true (by omega)
    have d2 : decide (((vs.length : Nat) : Int) ≤ 12) = true := decide_eq_true (by omega)
    rw [d1]
    refine ⟨_, 12, rfl, rfl, ?_⟩
    refine ⟨_, rfl, ?_⟩
    rw [d2]
    refine ⟨_, rfl, a, vs, rfl, ha, for_enumT (xs := vs) (fun i σ' H' => ∃ x1 x2, σ' = [some (.ref a), x1, x2] ∧ Same H H') ⟨_, _, rfl, Same.refl H⟩ (fun i σ' H' _ ⟨_, _, _, s⟩ => sqT_same s ha) ?_ ?_⟩
    · rintro i x σ' H' T' hx ⟨x1, x2, rfl, s1⟩ hT
      obtain ⟨r, hr1, hr2⟩ : ∃ r, rows[i]? = some r ∧ ∃ q, x = .ref q ∧ SqT K H q (r.map V.int) := by
        have hi : i < rows.length := by rw [← vl]; exact (List.getElem?_eq_some_iff.mp hx).1
        obtain ⟨q, e, h⟩ := hrs.get (List.getElem?_eq_getElem hi)
        rw [hx] at e
        exact ⟨_, List.getElem?_eq_getElem hi, q, Option.some.inj e, h⟩
      obtain ⟨q, rfl, hq⟩ := hr2
      have s2 : Same H (upd H' T' (.tup [.int (i : Nat), .ref q])) := s1.trans (same_new hT)
      have hm := List.mem_of_getElem? hr1
      refine ⟨T', _, rfl, SqT.of upd_same, rfl, _, _, rfl, _, _, rfl, rfl, ?_⟩
      have rl := row_len (hG.asc _ hm) (hG.rng _ hm)
      refine ⟨_, rfl, a, vs, rfl, .inr (sqT_same s2 ha), _, rfl, _, _, _, rfl, Tg.ints (sqT_same s2 hq) (by omega), fun H3 s3 => ⟨_, rfl, ?_⟩⟩
      have e : ascOf ((vs.length : Nat) : Int) (some (r.map V.int)) = true := ascV_ints (hG.asc _ hm) fun x hx => by rw [vl]; exact hG.rng _ hm x hx
      rw [e]
      exact ⟨_, _, rfl, s2.trans s3⟩
    · rintro σ' H' ⟨x1, x2, rfl, s1⟩
      exact k H' s1
theorem ok_init {f : Addr} {fd : FuncData} (F : Fun K "__init__" "Table.__init__" s_Table___init f fd) (T : Tx mg) (tc : TC K C) (G_check_rows : Dfn P w K mg base "_check_rows" ["rows"] 5 (spCheck K)) : FnOk P w K mg base CX0 6 f fd ["self", "rows"] (spInit K C) := by
  refine F.ok sc_Table___init (fun vs H Q E h => ?_) (fun cdv A outer s H vs Q E hr h => ?_)
  · obtain ⟨p, dx, v, rows, rfl, _⟩ := h
    rfl
  · obtain ⟨p, dx, v, rows, rfl, hp, hG, hl, hR, k⟩ := h
    refine ⟨_, (pss_cons (ps_expr (pe_d G_check_rows (hr.mono (by decide)) (pa_cons (pv 1) pa_nil)))
      (pss_cons (ps_fld (pv 0) (pv 1) rfl)
      (pss_one (ps_fld (pv 0) (pe_callB c_len (by rfl) T.len (by decide +kernel) (pa_cons (pv 1) pa_nil)) rfl)))), ?_⟩
    refine ⟨_, rfl, v, rows, rfl, hG, hl, hR, fun H1 s1 => ?_⟩
    obtain ⟨a, vs, rfl, ha, hrs⟩ := hR.same s1
    have hp1 := s1 _ _ hp
    refine ⟨_, rfl, _, rfl, p, C, dx, [], rfl, hp1, tc.cl, tc.nR, by decide, ?_⟩
    have ha2 : SqT K (upd H1 p (.ins C dx (putF "rows" (.ref a) []))) a vs := sqT_ins ha hp1 fun b o n e => by rw [upd_ne n]; exact e
    refine ⟨_, rfl, a, vs, rfl, .inr ha2, _, rfl, p, C, dx, _, rfl, upd_same, tc.cl, tc.nS, by show 1 < 1000; decide, ?_⟩
    refine k _ (fun b o n e => ?_) ?_
    · rw [upd_ne n, upd_ne n]
      exact s1 _ _ e
    · rw [upd_same, hrs.len]
      rfl
theorem ok_eq {f : Addr} {fd : FuncData} (F : Fun K "__eq__" "Table.__eq__" s_Table___eq f fd) (T : Tx mg) (tc : TC K C) (hC : mg "Table" = some (.ref C)) : FnOk P w K mg base CX0 1 f fd ["self", "other"] (spEqT K C) := by
  refine F.ok sc_Table___eq (fun vs H Q E h => ?_) (fun cdv A outer s H vs Q E hr h => ?_)
  · obtain ⟨x, y, r1, r2, rfl, _⟩ := h
    rfl
  · obtain ⟨x, y, r1, r2, rfl, hx, hy, k⟩ := h
    refine ⟨_, (pss_one (ps_ret (pe_and (pe_callB call_isi (by rfl) T.isinstance (by decide +kernel) (pa_cons (pv 1) (pa_cons (pe_glob (v := V.ref C) (by rfl) hC rfl) pa_nil))) (pe_one (pe_cmpR (op_eqD hr.units) (pe_fld (pv 0) rfl) (pe_fld (pv 1) rfl) (nomark _)))))), ?_⟩
    have ty := hy.tyx tc
    obtain ⟨p, dx, v, rfl, hp, hR⟩ := hx
    obtain ⟨q, dy, u, rfl, hq, hS⟩ := hy
    refine ⟨_, rfl, _, .ref C, .ref C, .ref C, true, rfl, .own C, ty, by simp [PySem.W.kitOne], true, rfl, ?_⟩
    refine ⟨_, rfl, p, C, dx, _, v, rfl, hp, tc.cl, tc.nR, tf_rows _ _, _, rfl, q, C, dy, _, u, rfl, hq, tc.cl, tc.nR, tf_rows _ _, dR r1, dR r2, hR.dp, hS.dp, sh_R r1, sh_R r2, ?_⟩
    rw [eqv_R]
    exact k H (Same.refl H)
end
end Fo

set_option maxRecDepth 100000
set_option maxHeartbeats 2000000
namespace Fo
open PySem PySem.Spec PyProof.Rows L2
theorem callWith_kw {M : Model} {A : Around} {E : Value → Shared → Prop} {s : Shared} {pos : Pos} {T : String} {first : List Value} {args : List (Bool × Sem Value)} {kws : List (Option Str × Sem Value)} {Q : Value → Shared → Prop}
    (h1 : (args.any fun x => x.1) = false) (h2 : (kws.any fun x => x.1.isNone) = false)
    (h : wpAny M A (evalArgs (.type T) true args kws) (fun a s₁ => wpAny M A (call (.type T) (first ++ a.pos) a.kw) Q E s₁) E s) : wpAny M A (callWith pos (.type T) first args kws) Q E s := by
  unfold callWith
  refine wpAny_bind (wpAny_holding (thn h fun a s1 q => ?_))
  refine wpAny_bind (wpAny_standAt ?_)
  rw [h1, h2]
  simp only [keeperOf, Bool.or_self]
  refine wpAny_bind (wpAny_pure ?_)
  refine wpAny_bind (thn q fun r s2 hq => ?_)
  refine wpAny_bind (wpAny_holding ?_)
  wp_step
  exact wpAny_pure hq
theorem evalArgs_1k {M : Model} {A : Around} {E : Value → Shared → Prop} {s : Shared} {f : Value} {t u : Sem Value} {n : Str} {Q : Args → Shared → Prop} (h : wpAny M A (spliced [(false, t)]) (fun vs s1 => wpAny M A u (fun w s2 => Q ⟨vs, [(n, w)]⟩ s2) E s1) E s) :
    wpAny M A (evalArgs f true [(false, t)] [(some n, u)]) Q E s := by
  unfold evalArgs
  simp only [evalAll, List.map, List.filterMap, List.zip, List.all_cons, List.all_nil, Option.isSome, Bool.and_self, if_true]
  refine wpAny_bind (thn h fun vs s1 hv => ?_)
  refine wpAny_bind (wpAny_pure (wpAny_holding ?_))
  refine wpAny_bind (wpAny_bind (thn hv fun w s2 hw => wpAny_bind (wpAny_holding (wpAny_pure (wpAny_pure ?_)))))
  refine wpAny_bind (wpAny_pure (wpAny_pure hw))
theorem draws_shift {prog : Program} {w : World} {A : Around} {it : Addr} {fp : List Addr} {n k : Nat} {Pv : Nat → Value → Prop} {St : Nat → Heap → Prop} (D : Draws prog w A it fp n Pv St) :
    Draws prog w A it fp (n + k) (fun j v => ∃ i, j = i + k ∧ Pv i v) (fun j h => ∃ i, j = i + k ∧ St i h) where
  live := fun j h ⟨i, _, st⟩ => D.live i h st
  frame := fun j h h' ⟨i, e, st⟩ hk => ⟨i, e, D.frame i h h' st hk⟩
  item := fun j s Q E hj ⟨i, e, st⟩ q => D.item i s Q E (by omega) st fun x h' tk hp hs hb => q x h' tk ⟨i, e, hp⟩ ⟨i + 1, by omega, hs⟩ hb
  done := fun s Q E ⟨i, e, st⟩ q => D.done s Q E (by have : i = n := by omega
                                                     rw [← this]; exact st) q
end Fo
namespace L2
open PySem PySem.Spec PyProof.Rows
/-! enumerate of a list from k on -/
def IteS (K : PySem.W.Frag) (a : Addr) (k : Nat) : It :=
  ⟨fun i H => ∃ (xs : List V) (x : V), SqL K H a xs ∧ xs[i]? = some x, fun i H v H' => ∃ T x, v = .ref T ∧ H T = none ∧ H' = upd H T (.tup [.int ((i + k : Nat) : Int), x]) ∧ ∀ xs, SqL K H a xs → xs[i]? = some x, fun i H => ∃ xs : List V, SqL K H a xs ∧ xs.length ≤ i⟩
theorem turn_enumS {P : Program} {w : World} {K : PySem.W.Frag} {elts : List Expr} {kk : Nat} {tpos : Pos} (k : Nat) (a e it : Addr) :
    Turn P w K (.Tuple elts kk tpos) (IteS K a k) [e, it] e (fun i h => (∃ old, IsEnum h e it ((i + k : Nat) : Int) old) ∧ h.IsListIter it a i ∧ e ≠ it ∧ a ≠ it ∧ a ≠ e) where
  mem := by simp
  obj := fun i h st b hb => by
    obtain ⟨⟨old, he⟩, ⟨o, ho, hc, hd⟩, _⟩ := st
    have e' : b = e ∨ b = it := by simpa using hb
    rcases e' with z | z
    · rw [z]; exact ⟨_, he, fun v q => nomatch q⟩
    · rw [z]; exact ⟨o, ho, fun v q => by rw [hd] at q; cases q⟩
  keep := fun i h h' st q => let ⟨⟨old, he⟩, hi, hne⟩ := st; ⟨⟨old, q e (by simp) _ he⟩, hi.at fun o z => q it (by simp) o z, hne⟩
  item := by
    intro X hP hw hK hc i pins s σ H E I hf st hg
    subst hP hw hK
    obtain ⟨⟨old, he⟩, hit, hne, hai, hae⟩ := st
    obtain ⟨xs, x, hq, hx⟩ := hg
    obtain ⟨its, rv, p, hz⟩ := I.list hq
    obtain ⟨u, hu, ru⟩ := rv.get hx
    have hel : e < s.heap.objs.size := Heap.lt_size he
    have hil : it < s.heap.objs.size := by obtain ⟨_, q, _⟩ := hit; exact Heap.lt_size q
    have hilt : i < its.toArray.size := by
      have := (List.getElem?_eq_some_iff.mp hu).1
      simpa using this
    refine wpAny_pyNext_enum_itemD (i := i + k) (Fo.draws_shift (k := k) (Draws.list (A := X.A.in1) (I.ok.hd hc) it a hai its.toArray)) he ⟨i, rfl, hit, p.isList⟩ (by omega) hne (by simp; exact ⟨hne, fun q => hae q.symm⟩) fun x2 h' tk hP ho hst hT hsz hk => ?_
    obtain ⟨i2, e2, hP⟩ := hP
    have ei2 : i2 = i := by omega
    subst ei2
    have ex : x2 = u := by
      have hP' : its[i2]? = some x2 := by simpa using hP
      rw [hu] at hP'
      exact (Option.some.inj hP').symm
    subst ex
    refine ⟨_, rfl, wpAny_letOwnedTupleGo_enum (s := { s with heap := h', toks := tk + 1 }) ho fun h'' he' sb => ?_⟩
    have hT2 : h''.get? s.heap.objs.size = some { cls := .type "tuple", data := .seq #[.int ((i2 + k : Nat) : Int) tk, x2] } := (sb.2 _ (Nat.ne_of_gt hel)).trans hT
    have new : ObjOk X.prog X.w (upd H s.heap.objs.size (.tup [.int ((i2 + k : Nat) : Int), x])) h'' s.heap.objs.size (.tup [.int ((i2 + k : Nat) : Int), x]) :=
      ⟨by show 2 ≤ sizeLine; decide, [.int ((i2 + k : Nat) : Int) tk, x2], .cons ⟨_, rfl⟩ (.cons ru .nil), ⟨_, hT2, rfl, _, rfl⟩⟩
    have I1 : Inv X pins σ (upd H s.heap.objs.size (.tup [.int ((i2 + k : Nat) : Int), x])) { s with heap := h'', toks := tk + 1 } :=
      I.turnedNew (ch := [e, it]) (fun b ob hb q => (sb.2 b (fun z => hb (by simp [z]))).trans (hk b ob (fun z => hb (by simp [z])) (fun z => hb (by simp [z])) q)) hf (Nat.le_refl _) new
    obtain ⟨i3, e3, hst, _⟩ := hst
    have ei3 : i3 = i2 + 1 := by omega
    subst ei3
    refine ⟨.ref s.heap.objs.size, _, I1, rfl, ⟨_, x, rfl, I.hok.fresh (Nat.le_refl _), rfl, fun ys hy => by rw [I.list_inj hy hq]; exact hx⟩, ⟨⟨x2, ?_⟩, hst.at fun o q => (sb.2 it (Ne.symm hne)).trans q, hne, hai, hae⟩, fun b hb => ?_⟩
    · have e1 : ((i2 + 1 + k : Nat) : Int) = ((i2 + k : Nat) : Int) + 1 := by omega
      rw [e1]; exact he'
    · have hb' : b < s.heap.objs.size := by
        have e' : b = e ∨ b = it := by simpa using hb
        rcases e' with z | z
        · rw [z]; exact hel
        · rw [z]; exact hil
      rw [upd_ne (Nat.ne_of_lt hb')]
      exact (hf b hb).1
  done := by
    intro X hP hw hK hc i pins s σ H E I hf st hg
    subst hP hw hK
    obtain ⟨⟨old, he⟩, hit, hne, hai, hae⟩ := st
    obtain ⟨xs, hq, hx⟩ := hg
    obtain ⟨its, rv, p, hz⟩ := I.list hq
    obtain ⟨f0, f1, f2, f3, f4, f5⟩ := hf it (by simp)
    have hl := rv.length
    have D : Draws X.prog X.w X.A.in1 it [it, a] i (fun _ _ => True) (fun j h => j = i ∧ h.IsListIter it a i ∧ h.IsList a its.toArray) :=
      ⟨fun _ _ st => (let ⟨o, ho, _⟩ := st.2.1; ⟨o, ho⟩), fun _ _ _ st hk => ⟨st.1, st.2.1.at fun o e => hk it (by simp) o e, st.2.2.at fun o e => hk a (by simp) o e⟩,
        fun j s Q E hj st hQ => absurd st.1 (Nat.ne_of_lt hj), fun s Q E st hE => wpAny_nextOf_list_end (I.ok.hd hc) st.2.1 st.2.2 (by simp; omega) hE⟩
    exact wpAny_pyNext_enum_endD (Fo.draws_shift (k := k) D) he ⟨i, rfl, rfl, hit, p.isList⟩ fun h' eb => ⟨rfl, I.turned (t' := s.toks) (fun b o hb q => eb b o hb q) f0 f1 f3 f4 f5⟩
  self := fun A i s Q E st h => let ⟨⟨_, he⟩, _⟩ := st; wpAny_pyIter_enum he h
def iEnumS (K : PySem.W.Frag) (k : Nat) (ta : TA) : TI := fun σ H R => ta σ H fun vs H1 => ∃ a xs, vs = [.ref a] ∧ SqL K H1 a xs ∧ R (IteS K a k) H1
theorem pi_enumS {X : Cx} {e : Expr} {ta : TA} {k : Nat} {u : Nat} {p pos tpos cp kp : Pos} {elts : List Expr} {kk : Nat} (hk : k < 1000) (hg : Gl X "enumerate") (hm : X.mg "enumerate" = none) (ha : PA X [e] ta) (hs : starEach [e] X.env = [(false, eval e X.env)] := by rfl) :
    PI X (.Tuple elts kk tpos) (.Call (.Name "enumerate" p) [e] [⟨some "start", .Constant (.int (k : Int)) u cp, kp⟩] pos) (iEnumS X.K k ta) := by
  refine ⟨fun pins s σ H R I h => ?_⟩
  show wpAny _ _ (do
      let f ← eval (.Name "enumerate" p) X.env
      callWith pos f [] (backTo pos (starEach [e] X.env)) (backToKw pos (keywordEach [⟨some "start", .Constant (.int (k : Int)) u cp, kp⟩] X.env))) _ _ _
  refine wpAny_bind (ld_blt I hg hm boot_enumerate ?_)
  have har := ha.run pos pins s σ H _ I h
  rw [hs] at har ⊢
  refine Fo.callWith_kw rfl (by unfold keywordEach keywordEach; rfl) ?_
  unfold keywordEach keywordEach
  refine Fo.evalArgs_1k (thn har fun us s1 ⟨vs, H1, I1, r1, q1⟩ => ?_)
  obtain ⟨a, xs, ex, hq, q⟩ := q1
  subst ex
  cases r1 with
  | cons r rr =>
    cases rr
    cases r
    have hc := (pe_int (X := X) (i := (k : Int)) (j := u) (pos := cp)).run pins s1 σ H1 (fun v H' => v = V.int (k : Int) ∧ H' = H1) I1 ⟨rfl, rfl⟩
    refine wpAny_bind (thn hc fun w s2 hw => ?_)
    obtain ⟨v, H2, I2, rw_, rfl, eH⟩ := hw
    subst eH
    obtain ⟨t, rfl⟩ := rw_
    refine wpAny_bind (wpAny_standAt (wpAny_pure ?_))
    obtain ⟨its, rv, p', hz⟩ := I2.list hq
    have halt : a < s2.heap.objs.size := by obtain ⟨_, q, _⟩ := id p'.isList; exact Heap.lt_size q
    refine enum_begins_start (begins_list a its.toArray) p'.isList (by omega) (by omega) fun h' he hit hsz hk => wpAny_pyIter_enum he ?_
    have I3 : Inv X pins σ _ { s2 with heap := h' } := I2.kept (t' := s2.toks) hk
    have he' : IsEnum h' (s2.heap.objs.size + 1) s2.heap.objs.size ((0 + k : Nat) : Int) .none := by rw [Nat.zero_add]; exact he
    refine ⟨s2.heap.objs.size + 1, [s2.heap.objs.size + 1, s2.heap.objs.size], _, _, _, rfl, I3, turn_enumS k a (s2.heap.objs.size + 1) s2.heap.objs.size, ⟨⟨.none, he'⟩, ⟨_, hit, rfl, rfl⟩, Nat.succ_ne_self _, Nat.ne_of_lt halt, Nat.ne_of_lt (Nat.lt_succ_of_lt halt)⟩, fun b hb => ?_, q⟩
    have e' : b = s2.heap.objs.size + 1 ∨ b = s2.heap.objs.size := by simpa using hb
    have hle : s2.heap.objs.size ≤ b := by
      rcases e' with z | z
      · rw [z]; exact Nat.le_add_right _ _
      · rw [z]; exact Nat.le_refl _
    exact I2.fpOk hle (I2.hok.fresh hle)
end L2

set_option maxRecDepth 100000
set_option maxHeartbeats 2000000
namespace Fo
open PySem PySem.Spec PyProof.Rows L2
/-! ### defs that are run where no built-in loop waits: repr of lists and tuples -/
structure FnG (P : Program) (w : World) (K : PySem.W.Frag) (mg : Str → Option Value) (base : Heap) (k : Nat) (f : Addr) (fd : FuncData) (ps : List Str) (sp : Sp) : Prop where
  len : ∀ (vs : List V) (H : Hp) (Q : VK) (E : XK), sp vs H Q E → vs.length = ps.length
  run : ∀ (A : Around) (outer : List Env) (s : Shared) (H : Hp) (args : Args) (us : List Value) (vs : List V) (Q : VK) (E : XK), Room k A → A.guards = some [] → Env0 P w K mg base A outer s H →
    BindsTo s fd args (ps.zip us) → Vals vs us → sp vs H Q E → codeAny (model P w) A (Code.call (.ref f) args) (CR CX0 outer P w H s Q E) s
section
variable {P : Program} {w : World} {K : PySem.W.Frag} {mg : Str → Option Value} {base : Heap}
theorem fun_okG {x qual : Str} {st : Stmt} {f : Addr} {fd : FuncData} {N ps : List Str} {k : Nat} {sp : Sp} (F : Fun K x qual st f fd) (S : FnScope N ps (defScope st)) (len : ∀ vs H Q E, sp vs H Q E → vs.length = ps.length)
    (hbody : ∀ (cdv : Value) (A : Around) (outer : List Env) (s : Shared) (H : Hp) (vs : List V) (Q : VK) (E : XK), Room k (A.deeper (envOfC qual (defScope st) s.heap.objs.size f cdv)) → A.guards = some [] → sp vs H Q E →
      ∃ t, PSs (cxOf CX0 P w K mg base N qual (defScope st) f cdv A outer s H E).nox (defBody st) t ∧ t { nx := fun _ H' => Q .non H', rt := Q } (start N vs) H) : FnG P w K mg base (k + 1) f fd ps sp := by
  obtain ⟨oc, od, kV, doc, pm, an, cdv, ct, osl, rfl, lk, hcd⟩ := F.ex
  refine ⟨len, fun A outer s H args us vs Q E hr hg e0 hb r hsp => ?_⟩
  have hl := len vs H Q E hsp
  have KX : K.In s.heap := e0.mod.kin.keeps fun b o e => (e0.bs b o e).1
  have lim : s.heap.NoLimit := e0.mod.nolimit.keeps fun b o e => (e0.bs b o e).1
  refine codeAny_call_function hr.depth (KX f _ lk) rfl S.co S.gen rfl (PySem.W.codeRec_of KX hcd) ?_
  refine hb (model P w) A.in1 _ _ ?_
  refine wpAny_newFunctionEnv_cells S.kind (fun z hz => ?_) fun env he s1 hx => ?_
  · obtain ⟨n, v⟩ := z
    rcases S.par n (List.of_mem_zip hz).1 with q | q
    · exact .inl q
    · exact .inr ⟨q, PySem.W.cellsFrom_some _ _ _ (.inl q)⟩
  · subst he
    refine ⟨lim.keeps hx.toInCall.keep, codeAny_func ?_⟩
    obtain ⟨t, ht, hq⟩ := hbody cdv A outer s H vs Q E (hr.deeper _) hg hsp
    have I := inv_start (CX := CX0) (P := P) (w := w) (K := K) (mg := mg) (base := base) (E := E) S hr.hd e0 hl r hx
    refine wpAny_mono ((PSs.nox ht).run [] s1 (start N vs) H { nx := fun _ H' => Q .non H', rt := Q } I hq) (fun fl s' hs => ?_) fun e s' hs => hs
    cases fl with
    | next =>
      obtain ⟨σ', H', J, q⟩ := hs
      exact ⟨.non, H', J.os, J.bare, J.base, J.hok, rfl, q⟩
    | brk =>
      obtain ⟨σ', H', J, q⟩ := hs
      exact False.elim q
    | cont =>
      obtain ⟨σ', H', J, q⟩ := hs
      exact False.elim q
    | ret u =>
      obtain ⟨v, σ', H', J, rv, q⟩ := hs
      exact ⟨v, H', J.os, J.bare, J.base, J.hok, rv, q⟩
end
theorem law_callG {P : Program} {w : World} {K : PySem.W.Frag} {mg mb : Str → Option Value} {k : Nat} {fa a : Addr} {fd : FuncData} {x : Str} {sp : Sp} {s₁ : Shared} {vs : List Value} {ns : List Int} (KX : K.In s₁.heap) (hns : s₁.heap.Ns mainGlobals mg) (hb : s₁.heap.Ns builtinsNs mb)
    (hbb : ∀ x : Str, x ≠ Str.ofString "__name__" → mb x = bootBuiltins x) (hlim : s₁.heap.NoLimit) (hg : s₁.gens = #[]) (ha : s₁.heap.get? a = some { cls := .type "list", data := .seq vs.toArray }) (hi : IntsAre vs ns) (hl : ns.length ≤ sizeLine) (hr : Room k callerA)
    (F : ∀ base : Heap, K.In base → base.Ns mainGlobals mg → FnG P w K mg base k fa fd [x] sp) (hbind : ∀ (s : Shared) (u : Value), BindsTo s fd ⟨[u], []⟩ [(x, u)])
    (hsp : ∀ H : Hp, Only H → SqL K H a (ns.map V.int) → sp [.ref a] H (fun v _ => v = .bl true) fun _ _ _ => False) :
    codeAny (model P w) callerA (Code.call (.ref fa) ⟨[.ref a], []⟩) (fun r s' => r = .ok (.ret (.bool true)) ∧ OldK s₁.heap s'.heap ∧ s'.os = s₁.os ∧ AllBare s'.gens) s₁ := by
  have rv := vals_ints hi
  have core : ∀ H : Hp, Only H → SqL K H a (ns.map V.int) → HOk P w H s₁.heap → (∀ b, H b ≠ none → b = a) → (H a ≠ none → List.lookup a K = none) →
      codeAny (model P w) callerA (Code.call (.ref fa) ⟨[.ref a], []⟩) (fun r s' => r = .ok (.ret (.bool true)) ∧ OldK s₁.heap s'.heap ∧ s'.os = s₁.os ∧ AllBare s'.gens) s₁ := by
    intro H hO hS hok hA hK
    have noA : ∀ {b : Addr} {o : Obj} {es : Array DictEntry} {ep : Nat}, s₁.heap.get? b = some o → o.data = .dict es ep → H b = none := fun {b o es ep} e d => by
      cases q : H b with
      | none => rfl
      | some u =>
        have e' := hA b (by rw [q]; simp)
        subst e'
        rw [ha] at e
        cases e
        cases d
    have nsK : ∀ {b : Addr} {m : Str → Option Value}, s₁.heap.Ns b m → (hidT s₁.heap H).Ns b m := fun {b m} z => by
      obtain ⟨o, es, ep, e, d, r⟩ := z
      exact ⟨o, es, ep, hidT_get e (noA e d), d, r⟩
    have hKb : K.In (hidT s₁.heap H) := fun b o e => hidT_get (KX b o e) (by
      cases q : H b with
      | none => rfl
      | some u =>
        have e' := hA b (by rw [q]; simp)
        subst e'
        rw [hK (by rw [q]; simp)] at e
        cases e)
    have hM : L2.Mod K mg (hidT s₁.heap H) := { kin := hKb, glob := nsK hns, blt := ⟨mb, nsK hb, hbb⟩, nolimit := by obtain ⟨mc, h1, h2⟩ := hlim; exact ⟨mc, nsK h1, h2⟩ }
    have e0 : Env0 P w K mg (hidT s₁.heap H) callerA [] s₁ H := { frames := rfl, mod := hM, bs := fun b o e => of_hidT e, bsz := Nat.le_of_eq (hidT_size s₁.heap H), funs := trivial, frf := fun b hb => absurd hb (by intro z; cases z), hok := hok, bare := AllBare.of_eq hg }
    refine codeAny_mono ((F (hidT s₁.heap H) hKb (nsK hns)).run callerA [] s₁ H ⟨[.ref a], []⟩ [.ref a] [.ref a] (fun v _ => v = .bl true) (fun _ _ _ => False) hr rfl e0 (hbind s₁ (.ref a)) (.cons rfl .nil) (hsp H hO hS)) fun r s' h => ?_
    cases r with
    | error e => exact False.elim h
    | ok fl =>
      cases fl with
      | next => exact False.elim h
      | brk => exact False.elim h
      | cont => exact False.elim h
      | ret u =>
        obtain ⟨v, H', os, bare, un, hok', r', q⟩ := h
        subst q
        cases r'
        refine ⟨rfl, OldK.of_keep fun b o e => ?_, os, bare⟩
        cases q : H b with
        | none => exact un.keep b o e q (by intro z; cases z) (by intro z; cases z)
        | some u =>
          rcases hO b with z | ⟨ob, xs, z⟩
          · rw [z] at q; cases q
          · have z2 := un.frzs b ob _ z
            have e1 := (hok b _ z).1
            have e2 := (hok' b _ z2).1
            rw [e] at e1
            cases e1
            exact e2
  cases hk : List.lookup a K with
  | none =>
    refine core (fun b => if b = a then some (.frz { cls := .type "list", data := .seq vs.toArray } (.lst (ns.map V.int))) else none) (fun b => ?_) (.inl (.inr ⟨_, if_pos rfl⟩)) (fun b u z => ?_) (fun b z => ?_) fun _ => hk
    · by_cases e : b = a
      · exact .inr ⟨_, _, if_pos e⟩
      · exact .inl (if_neg e)
    · by_cases e : b = a
      · have z' := (if_pos e).symm.trans z
        cases z'
        subst e
        exact ⟨ha, by rw [List.length_map]; exact hl, vs, 0, rv, ha⟩
      · have z' := (if_neg e).symm.trans z
        cases z'
    · by_cases e : b = a
      · exact e
      · exact absurd (if_neg e) z
  | some o =>
    have e := KX a o hk
    rw [ha] at e
    cases e
    refine core (fun _ => none) (fun _ => .inl rfl) (.inr ⟨_, vs.toArray, 0, hk, rfl, rfl, rfl, ?_, rv⟩) (fun b u z => (by cases z)) (fun b z => absurd rfl z) fun z => absurd rfl z
    have := IntsAre.length hi
    rw [List.size_toArray, this]
    exact hl
theorem walk_ofG {l : PySem.W.OpenLaw} {n k : Nat} {q : Program} {loose : List Str} {XP : (Str → Option Value) → Heap → Prop} {YP : World → Heap → Prop} {d : DefRec} {K : Params → PySem.W.Frag} {sp : World → Sp} {x : Str} (hn : l.most = some n) (hn2 : n ≤ sizeLine) (hdf : d.params.defaults = []) (hr : Room k callerA)
    (hY : ∀ (w : World) (h : Heap), YP w h → (K w.params).In h)
    (F : ∀ (w : World) (mg : Str → Option Value) (fa : Addr) (h : Heap), (K w.params).In h → h.Ns mainGlobals mg → mg d.name = some (.ref fa) →
      ∃ fd : FuncData, (∀ (s : Shared) (u : Value), BindsTo s fd ⟨[u], []⟩ [(x, u)]) ∧ ∀ base : Heap, (K w.params).In base → base.Ns mainGlobals mg → FnG l.prog w (K w.params) mg base k fa fd [x] (sp w))
    (hsp : ∀ (w : World) (H : Hp) (a : Addr) (ns : List Int), ns.length ≤ n → Only H → SqL (K w.params) H a (ns.map V.int) → sp w [.ref a] H (fun v _ => v = .bl true) fun _ _ _ => False) :
    PySem.W.WalkO q loose XP YP l.row.toRowW d [] (fun f vs => PySem.call f vs) :=
  Att.attach_call hn hdf fun w s₀ s₁ mg mb fa o pm cd doc a vs ns G Y ho hd hcd hmg hobj hints hlen hg => by
    have KX := hY w s₁.heap Y
    obtain ⟨fd, hb, hF⟩ := F w mg fa s₁.heap KX G.T.g hmg
    exact law_callG KX G.T.g G.T.b G.T.builtins G.T.nolimit hg hobj hints (Nat.le_trans hlen hn2) hr hF hb fun H hO hS => hsp w H a ns hlen hO hS
end Fo

set_option maxRecDepth 100000
set_option maxHeartbeats 2000000
namespace Fo
open PySem PySem.Spec PyProof.Rows L2
theorem ns_one {h : Heap} {a : Addr} {m m' : Str → Option Value} (x : h.Ns a m) (y : h.Ns a m') : m = m' := by
  obtain ⟨o, es, ep, e, d, _, r⟩ := x
  obtain ⟨o', es', ep', e', d', _, r'⟩ := y
  rw [e] at e'
  cases e'
  rw [d] at d'
  cases d'
  funext n
  rw [← r n, ← r' n]
theorem get_lt {h : Heap} {b : Addr} {o : Obj} (e : h.get? b = some o) : b < h.objs.size := by
  by_cases c : b < h.objs.size
  · exact c
  · unfold Heap.get? at e
    rw [Array.getElem?_eq_none (Nat.le_of_not_lt c)] at e
    cases e
/-- all that stands in h, but what stands at L or was there at first -/
def allNews (base : Heap) (L : Addr) (h : Heap) : List (Addr × Obj) :=
  (List.range h.objs.size).filterMap fun b => if b ≠ L ∧ base.get? b = none then (h.get? b).map fun o => (b, o) else none
theorem mem_allNews {base : Heap} {L : Addr} {h : Heap} {b : Addr} {o : Obj} (e : h.get? b = some o) (n : b ≠ L) (z : base.get? b = none) : (b, o) ∈ allNews base L h :=
  List.mem_filterMap.mpr ⟨b, List.mem_range.mpr (get_lt e), by rw [if_pos ⟨n, z⟩, e]; rfl⟩
theorem news_all (base : Heap) (L : Addr) (h : Heap) : News base L h (allNews base L h) := by
  rintro ⟨b, o⟩ hp
  obtain ⟨c, _, q⟩ := List.mem_filterMap.mp hp
  by_cases e : c ≠ L ∧ base.get? c = none
  · rw [if_pos e] at q
    cases g : h.get? c with
    | none => rw [g] at q; cases q
    | some u =>
      rw [g] at q
      cases q
      exact ⟨g, e.1, e.2⟩
  · rw [if_neg e] at q
    cases q
/-- what stands is kept by all that keeps the frame and the news -/
theorem Inv.framed {X : Cx} {pins : List (Addr × Obj)} {σ : L2.St} {H : Hp} {s : Shared} {m : Str → Option Value} {h' : Heap} {tk : Nat} (I : L2.Inv X pins σ H s) (F : Fr X.base X.env.locals s.heap m) (F' : Fr X.base X.env.locals h' m) (N : News X.base X.env.locals h' (allNews X.base X.env.locals s.heap)) :
    L2.Inv X pins σ H { heap := h', gens := s.gens, drawn := s.drawn, toks := tk, os := s.os } := by
  have keep : ∀ b o, b ≠ X.env.locals → s.heap.get? b = some o → h'.get? b = some o := fun b o n e => by
    cases z : X.base.get? b with
    | none => exact (N _ (mem_allNews e n z)).1
    | some u =>
      have e1 := F.keep b u z
      rw [e] at e1
      cases e1
      exact F'.keep b o z
  refine I.step (ch := []) (fun b z => by cases z) (fun b o n _ _ e _ => keep b o n e) (fun b o n _ _ e _ => ⟨o.slots, keep b o n e⟩) (fun b o _ _ e => e) (fun b o _ e => ?_) (fun _ _ e => e) (fun _ _ _ e => e) (fun b ps e => ⟨#[], by rw [e]; simp⟩) (fun m' q => ?_) ?_ I.bare
  · by_cases n : b = X.env.locals
    · subst n
      obtain ⟨o', _, _, q, _⟩ := F'.ns
      exact ⟨o', q⟩
    · exact ⟨o, keep b o n e⟩
  · rw [ns_one q F.ns]
    exact F'.ns
  · intro a o ha
    have na : a ≠ X.env.locals := fun e => by rw [e, I.free] at ha; cases ha
    refine ObjOk.stay (I.hok a o ha) (fun b u q e => keep b u ?_ e) (fun _ e => e) (fun _ _ e => e)
    rcases q with q | q
    · rw [q]; exact na
    · intro e
      rw [e, I.free] at q
      cases q
/-- repr of a list or a tuple -/
def rRepr (K : PySem.W.Frag) (B : Nat) : List V → Hp → VK → Prop := fun xs H Q => ∃ (a : Addr) (d : PyData), xs = [.ref a] ∧ Dp K H (.ref a) d ∧ d.hasDict = false ∧ d.showable = true ∧ d.depth ≤ B ∧ d.shown.length ≤ sizeLine ∧ Q (.str d.shown) H
theorem cr_repr {X : Cx} {B : Nat} (hg : X.A.guards = some []) (hu : X.A.units + (B + 1) < cLine) : CallR X (.builtin "repr") (rRepr X.K B) := by
  intro pins s σ H xs us Q I r h
  obtain ⟨a, d, rfl, hd, h1, h2, h3, h4, q⟩ := h
  cases r with
  | cons r0 r1 =>
    cases r1
    cases r0
    obtain ⟨as, R⟩ := Dp.reads I d _ _ hd rfl
    obtain ⟨m, hF⟩ := I.fr
    refine repr_HN hF (news_all _ _ _) R h1 h2 hg (Nat.lt_of_le_of_lt (Nat.add_le_add_left (Nat.add_le_add_right h3 1) _) hu) (fun h' u tk F' N => ?_) h4
    exact ⟨.str d.shown, H, Inv.framed I hF F' N, ⟨u, rfl⟩, q⟩
end Fo

set_option maxRecDepth 100000
set_option maxHeartbeats 4000000
namespace Fo
open PySem PySem.Spec PyProof.Rows L2
section
variable {P : Program} {w : World} {K : PySem.W.Frag} {mg : Str → Option Value} {base : Heap} {C : Addr}
theorem catA {a b : Addr} {xs ys : List V} {H : Hp} {Q : VK} (ha : SqT K H a xs) (hb : SqT K H b ys) (hz : xs.length + ys.length ≤ 100000) (k : ∀ p H', Same H H' → SqT K H' p (xs ++ ys) → Q (.ref p) H') : rCatA K (.ref a) (.ref b) H Q := by
  refine ⟨a, b, xs, ys, rfl, rfl, ha, hb, small_le hz, fun h => ?_, fun _ h => ?_, fun _ _ p hp => k p _ (same_new hp) (SqT.of upd_same)⟩
  · subst h
    exact k b H (Same.refl H) hb
  · subst h
    exact k a H (Same.refl H) (by rw [List.append_nil]; exact ha)
theorem slA {a : Addr} {xs : List V} {lo hi : Option Int} {H : Hp} {Q : VK} (ha : SqT K H a xs) (k : ∀ p H', Same H H' → SqT K H' p (cutV xs lo hi) → Q (.ref p) H') : rSlA K (.ref a) lo hi H Q := by
  refine ⟨a, xs, rfl, ha, fun hw => k a H (Same.refl H) ?_, fun _ p hp => k p _ (same_new hp) (SqT.of upd_same)⟩
  have e : cutV xs lo hi = xs := by
    unfold cutV
    rw [hw.1, hw.2]
    simp
  rw [e]
  exact ha
theorem cut_to {xs : List V} {n : Nat} (h : n ≤ xs.length) : cutV xs none (some (n : Int)) = xs.take n := by
  unfold cutV
  rw [HT.sIx_none, HT.sIx_nat, show min n xs.length = n by omega]
  rfl
theorem cut_from {xs : List V} {n : Nat} (h : n ≤ xs.length) : cutV xs (some (n : Int)) none = xs.drop n := by
  unfold cutV
  rw [HT.sIx_none, HT.sIx_nat, show min n xs.length = n by omega]
  rw [List.take_of_length_le]
  rw [List.length_drop]
  omega
theorem RowsT.app {H : Hp} : ∀ {vs ws : List V} {rs ss : List (List Int)}, RowsT K H vs rs → RowsT K H ws ss → RowsT K H (vs ++ ws) (rs ++ ss)
  | _, _, _, _, .nil, s => s
  | _, _, _, _, .cons h r, s => .cons h (r.app s)
theorem RowsT.takeN {H : Hp} : ∀ {vs : List V} {rs : List (List Int)} (n : Nat), RowsT K H vs rs → RowsT K H (vs.take n) (rs.take n)
  | _, _, 0, _ => .nil
  | _, _, _ + 1, .nil => .nil
  | _, _, n + 1, .cons h r => .cons h (r.takeN n)
theorem RowsT.dropN {H : Hp} : ∀ {vs : List V} {rs : List (List Int)} (n : Nat), RowsT K H vs rs → RowsT K H (vs.drop n) (rs.drop n)
  | _, _, 0, r => r
  | _, _, _ + 1, .nil => .nil
  | _, _, n + 1, .cons _ r => r.dropN n
theorem set_eq {α : Type} : ∀ (l : List α) (n : Nat) (x : α), n < l.length → l.set n x = l.take n ++ [x] ++ l.drop (n + 1)
  | _ :: _, 0, _, _ => rfl
  | y :: l, n + 1, x, h => by
    show y :: l.set n x = y :: (l.take n ++ [x] ++ l.drop (n + 1))
    rw [set_eq l n x (by simpa using h)]
end
theorem ext_by {α : Type} (f : α → Int) : ∀ {l1 l2 : List α}, l1.Pairwise (fun a b => f a < f b) → l2.Pairwise (fun a b => f a < f b) → (∀ x, x ∈ l1 ↔ x ∈ l2) → l1 = l2
  | [], [], _, _, _ => rfl
  | [], y :: r, _, _, h => absurd ((h y).mpr List.mem_cons_self) (by simp)
  | x :: r, [], _, _, h => absurd ((h x).mp List.mem_cons_self) (by simp)
  | x :: r, y :: q, h1, h2, h => by
    have p1 := List.pairwise_cons.mp h1
    have p2 := List.pairwise_cons.mp h2
    have e : x = y := by
      rcases List.mem_cons.mp ((h x).mp List.mem_cons_self) with e | m
      · exact e
      · rcases List.mem_cons.mp ((h y).mpr List.mem_cons_self) with e | m2
        · exact e.symm
        · have a := p2.1 x m
          have b := p1.1 y m2
          omega
    subst e
    have t : r = q := ext_by f p1.2 p2.2 fun z => by
      constructor
      · intro hz
        rcases List.mem_cons.mp ((h z).mp (List.mem_cons_of_mem _ hz)) with e | m
        · have := p1.1 z hz
          rw [e] at this
          omega
        · exact m
      · intro hz
        rcases List.mem_cons.mp ((h z).mpr (List.mem_cons_of_mem _ hz)) with e | m
        · have := p2.1 z hz
          rw [e] at this
          omega
        · exact m
    rw [t]
theorem asc_ext {l1 l2 : List Int} (h1 : l1.Pairwise (· < ·)) (h2 : l2.Pairwise (· < ·)) (h : ∀ x, x ∈ l1 ↔ x ∈ l2) : l1 = l2 := ext_by id h1 h2 h
theorem good_set {rows : List (List Int)} {i : Nat} {r' : List Int} (G : Good rows) (h1 : r'.Pairwise (· < ·)) (h2 : ∀ x ∈ r', 0 ≤ x ∧ x < (rows.length : Int)) : Good (rows.set i r') := by
  refine ⟨by rw [List.length_set]; exact G.pos, fun r hr => ?_, fun r hr x hx => ?_⟩
  · rcases List.mem_or_eq_of_mem_set hr with h | h
    · exact G.asc r h
    · rw [h]; exact h1
  · rw [List.length_set]
    rcases List.mem_or_eq_of_mem_set hr with h | h
    · exact G.rng r h x hx
    · rw [h] at hx; exact h2 x hx
theorem set_same {rows : List (List Int)} {i : Nat} {r : List Int} (h : rows[i]? = some r) : rows.set i r = rows := by
  apply List.ext_getElem?
  intro j
  rw [List.getElem?_set]
  by_cases e : i = j
  · subst e
    rw [if_pos rfl, if_pos (List.getElem?_eq_some_iff.mp h).1, h]
  · rw [if_neg e]
theorem set_get {rows : List (List Int)} {i : Nat} {r' : List Int} (h : i < rows.length) : (rows.set i r')[i]? = some r' := by
  rw [List.getElem?_set, if_pos rfl, if_pos h]
theorem set_set' {rows : List (List Int)} {i : Nat} {r' r2 : List Int} : (rows.set i r').set i r2 = rows.set i r2 := by rw [List.set_set]
section
variable {K : PySem.W.Frag} {H : Hp}
theorem RowsT.keys : ∀ {vs : List V} {rs : List (List Int)}, RowsT K H vs rs → ∃ ks : List (Addr × List Int), vs = ks.map (fun p => V.ref p.1) ∧ rs = ks.map (·.2) ∧ ∀ p ∈ ks, SqT K H p.1 (p.2.map V.int)
  | _, _, .nil => ⟨[], rfl, rfl, fun _ h => (by cases h)⟩
  | _, _, .cons (a := a) (r := r) h t => by
    obtain ⟨ks, e1, e2, h3⟩ := t.keys
    refine ⟨(a, r) :: ks, by rw [e1]; rfl, by rw [e2]; rfl, fun p hp => ?_⟩
    rcases List.mem_cons.mp hp with q | q
    · rw [q]; exact h
    · exact h3 p q
theorem rows_keys : ∀ {ks : List (Addr × List Int)}, (∀ p ∈ ks, SqT K H p.1 (p.2.map V.int)) → RowsT K H (ks.map fun p => V.ref p.1) (ks.map (·.2))
  | [], _ => .nil
  | p :: ks, h => .cons (h p List.mem_cons_self) (rows_keys fun q hq => h q (List.mem_cons_of_mem _ hq))
end
theorem dp_LU {K : PySem.W.Frag} {H : Hp} {z : Addr} {vs : List V} {rs : List (List Int)} (r : RowsT K (upd H z (.lst vs)) vs rs) : Dp K (upd H z (.lst vs)) (.ref z) (.list (rs.map dI)) := dp_L upd_same r
end Fo

set_option maxRecDepth 100000
set_option maxHeartbeats 2000000
namespace Fo
open PySem PySem.Spec PyProof.Rows L2
/-! ### lists of rows of small numbers have a text -/
theorem small_int : ∀ m : Fin 100, (PyData.int (m.val : Int)).shown.length ≤ 13 ∧ (PyData.int (m.val : Int)).weight ≤ 7 ∧ (PyData.int (m.val : Int)).showable = true := by decide +kernel
theorem small_of {n : Int} (h : 0 ≤ n ∧ n < 100) : (PyData.int n).shown.length ≤ 13 ∧ (PyData.int n).weight ≤ 7 ∧ (PyData.int n).showable = true := by
  have := small_int ⟨n.toNat, by omega⟩
  have e : ((n.toNat : Nat) : Int) = n := by omega
  rw [e] at this
  exact this
structure Lay (w : Nat) (d : PyData) : Prop where
  hd : d.hasDict = false
  sh : d.showable = true
  dp : d.depth ≤ w
  can : d.canLay0 = true
  ish : PyData.intsShort 13 d = true
structure LayAll (w : Nat) (ds : List PyData) : Prop where
  hd : PyData.hasDictAll ds = false
  sh : PyData.showableAll ds = true
  dp : PyData.depthAll ds ≤ w
  can : PyData.canLayAll0 ds = true
  ish : PyData.intsShortAll 13 ds = true
theorem LayAll.nil {w : Nat} : LayAll w [] := ⟨rfl, rfl, Nat.zero_le _, rfl, rfl⟩
theorem LayAll.cons {w : Nat} {d : PyData} {ds : List PyData} (a : Lay w d) (b : LayAll w ds) : LayAll w (d :: ds) := by
  refine ⟨?_, ?_, ?_, ?_, ?_⟩
  · show (d.hasDict || PyData.hasDictAll ds) = false
    rw [a.hd, b.hd]; rfl
  · show (d.showable && PyData.showableAll ds) = true
    rw [a.sh, b.sh]; rfl
  · show max d.depth (PyData.depthAll ds) ≤ w
    have := a.dp; have := b.dp; omega
  · show (d.canLay0 && PyData.canLayAll0 ds) = true
    rw [a.can, b.can]; rfl
  · show (PyData.intsShort 13 d && PyData.intsShortAll 13 ds) = true
    rw [a.ish, b.ish]; rfl
theorem LayAll.tup {w : Nat} {ds : List PyData} (a : LayAll w ds) : Lay (w + 1) (.tuple ds) := ⟨a.hd, a.sh, Nat.succ_le_succ a.dp, a.can, a.ish⟩
theorem LayAll.lst {w : Nat} {ds : List PyData} (a : LayAll w ds) : Lay (w + 1) (.list ds) := ⟨a.hd, a.sh, Nat.succ_le_succ a.dp, a.can, a.ish⟩
theorem lay_int {n : Int} (h : 0 ≤ n ∧ n < 100) : Lay 0 (.int n) := ⟨rfl, (small_of h).2.2, Nat.le_refl _, rfl, decide_eq_true (small_of h).1⟩
theorem layAll_ints : ∀ {r : List Int}, (∀ x ∈ r, 0 ≤ x ∧ x < 100) → LayAll 0 (r.map PyData.int)
  | [], _ => .nil
  | x :: r, h => .cons (lay_int (h x List.mem_cons_self)) (layAll_ints fun y hy => h y (List.mem_cons_of_mem _ hy))
theorem weight_ints : ∀ {r : List Int}, (∀ x ∈ r, 0 ≤ x ∧ x < 100) → PyData.weightAll (r.map PyData.int) ≤ 8 * r.length
  | [], _ => Nat.le_refl _
  | x :: r, h => by
    show (PyData.int x).weight + 1 + PyData.weightAll (r.map PyData.int) ≤ 8 * (r.length + 1)
    have a := (small_of (h x List.mem_cons_self)).2.1
    have b := weight_ints (r := r) fun y hy => h y (List.mem_cons_of_mem _ hy)
    omega
theorem layR_rows : ∀ {rs : List (List Int)}, (∀ r ∈ rs, ∀ x ∈ r, 0 ≤ x ∧ x < 100) → LayAll 1 (rs.map dI)
  | [], _ => .nil
  | r :: rs, h => .cons (layAll_ints (h r List.mem_cons_self)).tup (layR_rows fun q hq => h q (List.mem_cons_of_mem _ hq))
theorem weight_rows {b : Nat} : ∀ {rs : List (List Int)}, (∀ r ∈ rs, r.length ≤ b ∧ ∀ x ∈ r, 0 ≤ x ∧ x < 100) → PyData.weightAll (rs.map dI) ≤ (8 * b + 1) * rs.length
  | [], _ => Nat.le_refl _
  | r :: rs, h => by
    show PyData.weightAll (r.map PyData.int) + 1 + PyData.weightAll (rs.map dI) ≤ (8 * b + 1) * (rs.length + 1)
    have h1 := h r List.mem_cons_self
    have a := weight_ints (r := r) h1.2
    have c := weight_rows (rs := rs) fun q hq => h q (List.mem_cons_of_mem _ hq)
    rw [Nat.mul_add, Nat.mul_one]
    have := Nat.mul_le_mul_left 8 h1.1
    omega
theorem Lay.shown {w : Nat} {d : PyData} (a : Lay w d) (hw : w ≤ 64) (hg : d.weight ≤ 2 ^ 20) : d.shown.length ≤ sizeLine := by
  refine Nat.le_trans (shown_le13 ?_ a.ish) (by decide)
  show (d.canLay0 && decide (d.depth ≤ 64) && decide (d.weight ≤ 2 ^ 20)) = true
  rw [a.can, decide_eq_true (Nat.le_trans a.dp hw), decide_eq_true hg]
  rfl
theorem shown_ties {rs : List (List Int)} (h : ∀ r ∈ rs, r.length ≤ 2 ∧ ∀ x ∈ r, 0 ≤ x ∧ x < 100) (hl : rs.length ≤ 10000) : (PyData.list (rs.map dI)).hasDict = false ∧ (PyData.list (rs.map dI)).showable = true ∧ (PyData.list (rs.map dI)).depth ≤ 8 ∧ (PyData.list (rs.map dI)).shown.length ≤ sizeLine := by
  have L : Lay 2 (.list (rs.map dI)) := (layR_rows fun r hr => (h r hr).2).lst
  refine ⟨L.hd, L.sh, Nat.le_trans L.dp (by decide), L.shown (by decide) ?_⟩
  have w := weight_rows (b := 2) h
  show PyData.weightAll (rs.map dI) ≤ 2 ^ 20
  have e : (2 : Nat) ^ 20 = 1048576 := by decide
  omega
theorem room_repr {k : Nat} {A : Around} (hr : Room k A) : A.units + (8 + 1) < cLine := by
  have := hr.un
  omega
end Fo

set_option maxRecDepth 100000
set_option maxHeartbeats 2000000
namespace Fo
open PySem PySem.Spec PyProof.Rows L2
/-! ### texts of numbers -/
def nw (n : Int) : Str := Str.ofString (toString n)
theorem small_word : ∀ m : Fin 100, let w : Str := nw (m.val : Int); ¬ 32 ∈ w.cps.toList ∧ ¬ 10 ∈ w.cps.toList ∧ intText? w = some (m.val : Int) ∧ 1 ≤ w.length ∧ w.length ≤ 2 ∧ (∀ c ∈ w.cps.toList, c ∈ ("0123456789" : Str).cps.toList) ∧ (w = "0" ∨ w.cps.toList[0]? ≠ ("0" : Str).cps.toList[0]?) ∧ w ≠ "-" := by decide +kernel
structure NW (w : Str) (n : Int) : Prop where
  b : ¬ 32 ∈ w.cps.toList
  l : ¬ 10 ∈ w.cps.toList
  i : intText? w = some n
  p : 1 ≤ w.length
  s : w.length ≤ 2
  d : ∀ c ∈ w.cps.toList, c ∈ ("0123456789" : Str).cps.toList
  z : w = "0" ∨ w.cps.toList[0]? ≠ ("0" : Str).cps.toList[0]?
  m : w ≠ "-"
theorem nw_ok {n : Int} (h : 0 ≤ n ∧ n < 100) : NW (nw n) n := by
  have := small_word ⟨n.toNat, by omega⟩
  have e : ((n.toNat : Nat) : Int) = n := by omega
  rw [e] at this
  obtain ⟨a1, a2, a3, a4, a5, a6, a7, a8⟩ := this
  exact ⟨a1, a2, a3, a4, a5, a6, a7, a8⟩
theorem nw_log {n : Int} (h : 0 ≤ n ∧ n < 100) : n.natAbs.log2 < 1920 := by
  have : n.natAbs < 2 ^ 7 := by omega
  have h2 : n.natAbs.log2 ≤ n.natAbs := Nat.log2_le_self _
  omega
abbrev OI := Option Int
def word : OI → Str
  | none => "-"
  | some n => nw n
def optV : OI → V
  | none => .non
  | some n => .int n
def optD : OI → PyData
  | none => .none
  | some n => .int n
def SmO (o : OI) : Prop := ∀ n, o = some n → 0 ≤ n ∧ n < 100
theorem word_ok {o : OI} (h : SmO o) : ¬ 32 ∈ (word o).cps.toList ∧ ¬ 10 ∈ (word o).cps.toList ∧ 1 ≤ (word o).length ∧ (word o).length ≤ 2 := by
  cases o with
  | none => exact ⟨by decide +kernel, by decide +kernel, by decide +kernel, by decide +kernel⟩
  | some n =>
    have w := nw_ok (h n rfl)
    exact ⟨w.b, w.l, w.p, w.s⟩
def dText (os : List OI) : Str := Txt.join " " (os.map word)
theorem sum_le {α : Type} (f : α → Nat) (b : Nat) : ∀ (l : List α), (∀ x ∈ l, f x ≤ b) → (l.map f).sum ≤ l.length * b
  | [], _ => Nat.zero_le _
  | x :: l, h => by
    rw [List.map_cons, List.sum_cons, List.length_cons, Nat.add_mul, Nat.one_mul]
    have := h x List.mem_cons_self
    have := sum_le f b l fun y hy => h y (List.mem_cons_of_mem _ hy)
    omega
theorem words_sum {os : List OI} (h : ∀ o ∈ os, SmO o) : ((os.map word).map fun x : Str => x.length).sum ≤ os.length * 2 := by
  rw [List.map_map]
  exact sum_le _ 2 os fun o ho => (word_ok (h o ho)).2.2.2
theorem dText_len {os : List OI} (h : ∀ o ∈ os, SmO o) : (dText os).length ≤ os.length * 3 := by
  show (Builtin.Str.glued " " (os.map word)).length ≤ _
  rw [size_glued, List.length_map]
  have := words_sum h
  have e : (" " : Str).length = 1 := by decide +kernel
  rw [e]
  omega
theorem dText_split {os : List OI} (h : ∀ o ∈ os, SmO o) (hn : os ≠ []) : Txt.split (dText os) " " = os.map word := by
  refine TL.split_join (s := 32) (S := []) (by decide +kernel) (by decide +kernel) (by simpa using hn) fun p hp => ?_
  obtain ⟨o, ho, rfl⟩ := List.mem_map.mp hp
  exact (word_ok (h o ho)).1
/-- the numbers of a row -/
def rowO (r : List Int) : List OI := r.map some
theorem rowO_sm {r : List Int} (h : ∀ x ∈ r, 0 ≤ x ∧ x < 100) : ∀ o ∈ rowO r, SmO o := fun o ho n e => by
  obtain ⟨x, hx, rfl⟩ := List.mem_map.mp ho
  injection e with e
  rw [← e]; exact h x hx
def rText (r : List Int) : Str := if r = [] then "-" else dText (rowO r)
def lText (r : List Int) : Str := rText r ++ "\n"
theorem join_tl (y : Str) (parts : List Str) : (Txt.join y parts).cps.toList = TL.joinL y.cps.toList (parts.map fun p => p.cps.toList) := by
  rw [TL.join_eq]
  exact TL.tl_join y parts
theorem joinL_mem {S : List Nat} {c : Nat} (hS : ¬ c ∈ S) : ∀ (ps : List (List Nat)), (∀ p ∈ ps, ¬ c ∈ p) → ¬ c ∈ TL.joinL S ps
  | [], _ => by intro h; cases h
  | [p], h => by
    have := h p List.mem_cons_self
    simpa [TL.joinL] using this
  | p :: q :: r, h => by
    have h1 := h p List.mem_cons_self
    have h2 := joinL_mem hS (q :: r) fun z hz => h z (List.mem_cons_of_mem _ hz)
    intro hc
    rw [TL.joinL] at hc
    simp only [List.mem_append] at hc
    rcases hc with hc | hc | hc
    · exact h1 hc
    · exact hS hc
    · exact h2 hc
theorem dText_line {os : List OI} (h : ∀ o ∈ os, SmO o) : ¬ 10 ∈ (dText os).cps.toList := by
  unfold dText
  rw [join_tl]
  refine joinL_mem (by decide +kernel) _ fun p hp => ?_
  obtain ⟨w, hw, rfl⟩ := List.mem_map.mp hp
  obtain ⟨o, ho, rfl⟩ := List.mem_map.mp hw
  exact (word_ok (h o ho)).2.1
theorem rText_line {r : List Int} (h : ∀ x ∈ r, 0 ≤ x ∧ x < 100) : ¬ 10 ∈ (rText r).cps.toList := by
  unfold rText
  split
  · decide +kernel
  · exact dText_line (rowO_sm h)
theorem rText_len {r : List Int} (h : ∀ x ∈ r, 0 ≤ x ∧ x < 100) : (rText r).length ≤ r.length * 3 + 1 := by
  unfold rText
  split
  · have e : ("-" : Str).length = 1 := by decide +kernel
    omega
  · have := dText_len (rowO_sm h)
    have e : (rowO r).length = r.length := List.length_map ..
    omega
def tText (rows : List (List Int)) : Str := Txt.join "" (rows.map lText)
theorem str_ext {x y : Str} (h : x.cps.toList = y.cps.toList) : x = y := by
  obtain ⟨⟨a⟩⟩ := x
  obtain ⟨⟨b⟩⟩ := y
  have e : a = b := h
  rw [e]
theorem cps_app (x y : Str) : (x ++ y).cps.toList = x.cps.toList ++ y.cps.toList := by
  show (x.cps ++ y.cps).toList = _
  rw [Array.toList_append]
theorem joinL_nil : ∀ ps : List (List Nat), TL.joinL [] ps = ps.flatten
  | [] => rfl
  | [p] => by
    rw [TL.joinL]
    simp
  | p :: q :: r => by
    rw [TL.joinL, joinL_nil (q :: r)]
    · simp
theorem joinL_end (c : Nat) : ∀ ps : List (List Nat), TL.joinL [c] (ps ++ [[]]) = (ps.map fun p => p ++ [c]).flatten
  | [] => rfl
  | [p] => by
    show TL.joinL [c] [p, []] = _
    simp [TL.joinL]
  | p :: q :: r => by
    have := joinL_end c (q :: r)
    show TL.joinL [c] (p :: q :: (r ++ [[]])) = _
    rw [TL.joinL]
    · rw [show q :: (r ++ [[]]) = (q :: r) ++ [[]] from rfl, this]
      simp
theorem tText_cps (rows : List (List Int)) : (tText rows).cps.toList = (rows.map fun r => (rText r).cps.toList ++ [10]).flatten := by
  unfold tText
  rw [join_tl]
  have e : ("" : Str).cps.toList = [] := by decide +kernel
  rw [e, joinL_nil, List.map_map]
  congr 1
  apply List.map_congr_left
  intro r _
  show (rText r ++ "\n").cps.toList = _
  rw [cps_app]
  rfl
theorem tText_end (rows : List (List Int)) : tText rows = Txt.join "\n" (rows.map rText ++ [("" : Str)]) := by
  apply str_ext
  rw [tText_cps, join_tl, List.map_append, List.map_map]
  have e1 : ("\n" : Str).cps.toList = [10] := by decide +kernel
  have e2 : [("" : Str)].map (fun p => p.cps.toList) = [[]] := by decide +kernel
  rw [e1, e2, joinL_end, List.map_map]
  rfl
theorem tText_split {rows : List (List Int)} (h : ∀ r ∈ rows, ∀ x ∈ r, 0 ≤ x ∧ x < 100) : Txt.split (tText rows) "\n" = rows.map rText ++ [("" : Str)] := by
  rw [tText_end]
  refine TL.split_join (s := 10) (S := []) (by decide +kernel) (by decide +kernel) (by simp) fun p hp => ?_
  rcases List.mem_append.mp hp with q | q
  · obtain ⟨r, hr, rfl⟩ := List.mem_map.mp q
    exact rText_line (h r hr)
  · rw [List.mem_singleton.mp q]
    decide +kernel
theorem tText_snoc (rows : List (List Int)) (r : List Int) : tText (rows ++ [r]) = tText rows ++ rText r ++ "\n" := by
  apply str_ext
  rw [tText_cps, cps_app, cps_app, tText_cps, List.map_append, List.flatten_append]
  have e1 : ("\n" : Str).cps.toList = [10] := by decide +kernel
  rw [e1]
  simp
theorem tText_len {rows : List (List Int)} (h : ∀ r ∈ rows, r.length ≤ 100 ∧ ∀ x ∈ r, 0 ≤ x ∧ x < 100) : (tText rows).length ≤ rows.length * 302 := by
  show (Builtin.Str.glued "" (rows.map lText)).length ≤ _
  rw [size_glued, List.map_map]
  have e : ("" : Str).length = 0 := by decide +kernel
  rw [e, Nat.mul_zero, Nat.add_zero]
  refine sum_le _ 302 rows fun r hr => ?_
  have h1 := rText_len (h r hr).2
  have h2 := (h r hr).1
  have h3 : (lText r).length = (rText r).length + 1 := by
    show (rText r ++ "\n").cps.size = _
    show ((rText r).cps ++ ("\n" : Str).cps).size = _
    rw [Array.size_append]
    rfl
  show (lText r).length ≤ 302
  omega
end Fo

set_option maxRecDepth 100000
set_option maxHeartbeats 2000000
namespace Fo
open PySem PySem.Spec PyProof.Rows L2
section
variable {X : Cx}
def rStrI : List V → Hp → VK → Prop := fun xs H Q => ∃ i : Int, xs = [.int i] ∧ i.natAbs.log2 < 1920 ∧ Q (.str (Str.ofString (toString i))) H
theorem c_strI : CallR X (.type "str") rStrI := call_str_int
def rIntStr : List V → Hp → VK → Prop := fun xs H Q => ∃ a n, xs = [.str a] ∧ intText? a = some n ∧ a.length ≤ 640 ∧ Q (.int n) H
theorem c_intStr : CallR X (.type "int") rIntStr := call_int_str
def rLenStr : List V → Hp → VK → Prop := fun xs H Q => ∃ z : Str, xs = [.str z] ∧ z.length ≤ sizeLine ∧ Q (.int z.length) H
theorem c_lenStr : CallR X (.builtin "len") rLenStr := call_len_str
def rIsNo : R2 := fun x y H Q => y = .non ∧ Q (.bl (decide (x = .non))) H
theorem op_isNo : OpR X (compareOp .Is) rIsNo := op_isN
def rInSg : R2 := fun x y H Q => ∃ (c : Nat) (z : Str), x = .str ⟨#[c]⟩ ∧ y = .str z ∧ Q (.bl (decide (c ∈ z.cps.toList))) H
theorem op_inSg : OpR X (compareOp .In) rInSg := op_in_sign
def rAddT : R2 := fun x y H Q => ∃ i j : Str, x = .str i ∧ y = .str j ∧ i.length + j.length ≤ sizeLine ∧ Q (.str (i ++ j)) H
theorem op_addT : OpR X (binaryOp .Add) rAddT := op_add_str
end
/-! loops over a list counted from k on, and over the signs of a text -/
theorem for_enumS {K : PySem.W.Frag} {a : Addr} {k : Nat} {xs : List V} {g : TG} {tb : TS} {D : Ends} {σ : L2.St} {H : Hp} (Pv : Nat → L2.St → Hp → Prop) (h0 : Pv 0 σ H) (hl : ∀ i σ H, i ≤ xs.length → Pv i σ H → SqL K H a xs)
    (hs : ∀ i x σ H T, xs[i]? = some x → Pv i σ H → H T = none → g (.ref T) σ (upd H T (.tup [.int ((i + k : Nat) : Int), x])) fun σ2 H2 => tb { D with nx := Pv (i + 1), ct := Pv (i + 1), bk := D.nx } σ2 H2) (hd : ∀ σ H, Pv xs.length σ H → D.nx σ H) :
    ∃ W : Nat → Nat → L2.St → Hp → Prop, (∃ m, W 0 m σ H) ∧ ∀ i m σ H, W i m σ H →
      ((IteS K a k).stop i H ∧ D.nx σ H) ∨ ((IteS K a k).go i H ∧ ∃ N : L2.St → Hp → Prop, (∀ σ' H', N σ' H' → ∃ m', m' < m ∧ W (i + 1) m' σ' H') ∧ ∀ x H', (IteS K a k).yld i H x H' → g x σ H' fun σ2 H2 => tb { D with nx := N, ct := N, bk := D.nx } σ2 H2) := by
  refine ⟨fun i m σ H => m = xs.length - i ∧ i ≤ xs.length ∧ Pv i σ H, ⟨xs.length, by simp, Nat.zero_le _, h0⟩, ?_⟩
  rintro i m σ H ⟨rfl, hi, p⟩
  have q := hl i σ H hi p
  by_cases hlt : i < xs.length
  · refine .inr ⟨⟨xs, xs[i], q, by simp [hlt]⟩, Pv (i + 1), fun σ' H' p' => ⟨xs.length - (i + 1), by omega, rfl, hlt, p'⟩, fun x H' y => ?_⟩
    obtain ⟨T, x', rfl, nT, rfl, y⟩ := y
    exact hs i x' σ H T (y xs q) p nT
  · have e : i = xs.length := by omega
    subst e
    exact .inl ⟨⟨xs, q, Nat.le_refl _⟩, hd σ H p⟩
theorem lc_signs {z : Str} {g : TG} {tt : TT} {te : TE} {vs : List Nat} {σ : L2.St} {H1 : Hp} {D : Addr} {Qd : Hp → Prop} (Pv : Nat → Hp → Prop) (h0 : Pv 0 (upd H1 D (.lst [])))
    (hs : ∀ i c H, z.cps.toList[i]? = some c → Pv i H → g (.str ⟨#[c]⟩) (wipe σ vs) H fun σ2 H2 => wipe σ2 vs = wipe σ vs ∧ tt σ2 H2 fun b H3 =>
      if b = true then te σ2 H3 fun y H4 => ∃ acc, H4 D = some (.lst acc) ∧ acc.length < sizeLine ∧ Pv (i + 1) (upd H4 D (.lst (acc ++ [y]))) else Pv (i + 1) H3) (hd : ∀ H, Pv z.length H → Qd H) :
    ∃ W : Nat → Nat → Hp → Prop, (∃ m, W 0 m (upd H1 D (.lst []))) ∧ ∀ i m H, W i m H →
      ((Its z).stop i H ∧ Qd H) ∨ ((Its z).go i H ∧ ∃ Nx : Hp → Prop, (∀ H', Nx H' → ∃ m', m' < m ∧ W (i + 1) m' H') ∧ ∀ x H', (Its z).yld i H x H' → g x (wipe σ vs) H' fun σ2 H2 => wipe σ2 vs = wipe σ vs ∧ tt σ2 H2 fun b H3 =>
        if b = true then te σ2 H3 fun y H4 => ∃ acc, H4 D = some (.lst acc) ∧ acc.length < sizeLine ∧ Nx (upd H4 D (.lst (acc ++ [y]))) else Nx H3) := by
  have hz : z.cps.size = z.length := rfl
  refine ⟨fun i m H => m = z.length - i ∧ i ≤ z.length ∧ Pv i H, ⟨z.length, by simp, Nat.zero_le _, h0⟩, ?_⟩
  rintro i m H ⟨rfl, hi, p⟩
  by_cases hlt : i < z.length
  · refine .inr ⟨hlt, Pv (i + 1), fun H' p' => ⟨z.length - (i + 1), by omega, rfl, hlt, p'⟩, fun x H' y => ?_⟩
    obtain ⟨rfl, c, hc, rfl⟩ := y
    exact hs i c _ (by rw [Array.getElem?_toList]; exact hc) p
  · have e : i = z.length := by omega
    subst e
    exact .inl ⟨Nat.le_refl _, hd H p⟩
end Fo

set_option maxRecDepth 100000
set_option maxHeartbeats 4000000
namespace Fo
open PySem PySem.Spec PyProof.Rows L2
abbrev s_dealing_text : Stmt := top 24
abbrev n_dealing_text : List Str := ["dealing", "one"]
theorem sc_dealing_text : FnScope n_dealing_text ["dealing"] (defScope s_dealing_text) := ⟨rfl, rfl, rfl, by decide +kernel, rfl, by decide +kernel, by decide +kernel⟩
abbrev s_row_text : Stmt := top 23
abbrev n_row_text : List Str := ["row"]
theorem sc_row_text : FnScope n_row_text ["row"] (defScope s_row_text) := ⟨rfl, rfl, rfl, by decide +kernel, rfl, by decide +kernel, by decide +kernel⟩
abbrev s_table_text : Stmt := top 22
abbrev n_table_text : List Str := ["table", "row"]
theorem sc_table_text : FnScope n_table_text ["table"] (defScope s_table_text) := ⟨rfl, rfl, rfl, by decide +kernel, rfl, by decide +kernel, by decide +kernel⟩
theorem strs_snoc (l : List OI) (o : OI) : (l.map fun o => V.str (word o)) ++ [V.str (word o)] = (l ++ [o]).map fun o => V.str (word o) := by rw [List.map_append]; rfl
section
variable {P : Program} {w : World} {K : PySem.W.Frag} {mg : Str → Option Value} {base : Heap} {C : Addr}
def spDText (K : PySem.W.Frag) : Sp := fun vs H Q _ => ∃ (a : Addr) (os : List OI), vs = [.ref a] ∧ SqT K H a (os.map optV) ∧ os.length ≤ 100 ∧ (∀ o ∈ os, SmO o) ∧ ∀ H', Same H H' → Q (.str (dText os)) H'
theorem ok_dtext (A : At K mg "dealing_text" s_dealing_text ["dealing"]) (T : Tx mg) : Dfn P w K mg base "dealing_text" ["dealing"] 1 (spDText K) := by
  refine A.ok sc_dealing_text (fun vs H Q E h => ?_) (fun f cdv A outer s H vs Q E hr h => ?_)
  · obtain ⟨a, os, rfl, _⟩ := h
    rfl
  · obtain ⟨a, os, rfl, ha, hl, hs, k⟩ := h
    refine ⟨_, (pss_one (ps_ret (pe_join pe_str (pe_lc (own := [("one", 1)]) (g := (gName 1)) (tt := tYes) (te := (tIf (tTest (tOp rIsN (tVar 1) (tC V.non))) (tC (V.str "-")) (tCB rStrI (tCons (tVar 1) tNil)))) (by rfl) sc_dealing_text.nd (pi_tup (pv 0)) (blkOk_by (own := [("one", 1)]) (N := n_dealing_text) (sc := (defScope s_dealing_text)) (by decide +kernel)) (fun _ _ _ _ _ => (pg_name (i := 1) sc_dealing_text.nd rfl (Or.inl rfl))) (fun _ _ _ _ _ => pts_nil) (fun _ _ _ _ _ => (pe_ifExp (pt_cmpR op_isN (pv 1) pe_non (nomark _)) pe_str (pe_callTy c_strI (by rfl) T.str (by decide +kernel) (pa_cons (pv 1) pa_nil)))))))), ?_⟩
    refine ⟨⟨_, rfl⟩, _, rfl, a, rfl, ⟨_, ha⟩, fun D hD => ?_⟩
    refine lc_tup (xs := os.map optV) (fun i H' => H' D = some (.lst ((os.take i).map fun o => V.str (word o))) ∧ Same H H') ⟨upd_same, same_new hD⟩ (fun i H' _ h => sqT_same h.2 ha) ?_ ?_
    · rintro i y H1 hy ⟨h1, s1⟩
      have hil : i < os.length := by
        have := (List.getElem?_eq_some_iff.mp hy).1
        rw [List.length_map] at this
        exact this
      have hoi := List.getElem?_eq_getElem hil
      rw [List.getElem?_map, hoi] at hy
      have ey : optV os[i] = y := Option.some.inj hy
      subst ey
      have ho := hs _ (List.getElem_mem hil)
      have et : ((os.take (i + 1)).map fun o => V.str (word o)) = ((os.take i).map fun o => V.str (word o)) ++ [V.str (word os[i])] := by
        rw [List.take_add_one, hoi, List.map_append]; rfl
      have go : ∃ acc, H1 D = some (.lst acc) ∧ acc.length < sizeLine ∧ ((upd H1 D (.lst (acc ++ [V.str (word os[i])]))) D = some (.lst ((os.take (i + 1)).map fun o => V.str (word o))) ∧ Same H (upd H1 D (.lst (acc ++ [V.str (word os[i])])))) :=
        ⟨_, h1, by rw [List.length_map, List.length_take]; exact small_lt (by omega), by rw [upd_same, et], same_mut s1 hD⟩
      generalize os[i] = o at ho go
      cases o with
      | none => exact ⟨rfl, _, rfl, rfl, _, rfl, go⟩
      | some n => exact ⟨rfl, _, rfl, rfl, _, rfl, _, rfl, n, rfl, nw_log (ho n rfl), go⟩
    · rintro H1 ⟨h1, s1⟩
      rw [List.length_map, List.take_length] at h1
      refine ⟨_, D, os.map word, rfl, rfl, .inl (SqL.of (by rw [h1, List.map_map]; rfl)), ?_, k H1 s1⟩
      have := words_sum hs
      have e : (" " : Str).length = 1 := by decide +kernel
      rw [List.length_map, e]
      omega
def spRowText (K : PySem.W.Frag) : Sp := fun vs H Q _ => ∃ (a : Addr) (r : List Int), vs = [.ref a] ∧ SqT K H a (r.map V.int) ∧ r.length ≤ 100 ∧ (∀ x ∈ r, 0 ≤ x ∧ x < 100) ∧ ∀ H', Same H H' → Q (.str (rText r)) H'
theorem ok_rowtext (A : At K mg "_row_text" s_row_text ["row"]) (T : Tx mg) (G_dealing_text : Dfn P w K mg base "dealing_text" ["dealing"] 1 (spDText K)) : Dfn P w K mg base "_row_text" ["row"] 2 (spRowText K) := by
  refine A.ok sc_row_text (fun vs H Q E h => ?_) (fun f cdv A outer s H vs Q E hr h => ?_)
  · obtain ⟨a, r, rfl, _⟩ := h
    rfl
  · obtain ⟨a, r, rfl, ha, hl, hs, k⟩ := h
    refine ⟨_, (pss_one (ps_ret (pe_ifExp (pt_truth (pv 0) (by intro _; rfl)) (pe_d G_dealing_text (hr.mono (by decide)) (pa_cons (pv 0) pa_nil)) pe_str))), ?_⟩
    refine ⟨_, rfl, !(r.map V.int).isEmpty, (.inr (.inl ⟨_, ha, rfl⟩)), ?_⟩
    cases r with
    | nil => exact k H (Same.refl H)
    | cons x r =>
      refine ⟨_, rfl, a, rowO (x :: r), rfl, by rw [show (rowO (x :: r)).map optV = (x :: r).map V.int by unfold rowO; rw [List.map_map]; rfl]; exact ha, by unfold rowO; rw [List.length_map]; exact hl, rowO_sm hs, fun H' s' => ?_⟩
      have e : rText (x :: r) = dText (rowO (x :: r)) := if_neg (by simp)
      rw [← e]
      exact k H' s'
def spTText (K : PySem.W.Frag) (C : Addr) : Sp := fun vs H Q _ => ∃ (x : V) (rows : List (List Int)), vs = [x] ∧ TableAt K C H x rows ∧ rows.length ≤ 100 ∧ (∀ r ∈ rows, r.length ≤ 100 ∧ ∀ x ∈ r, 0 ≤ x ∧ x < 100) ∧ ∀ H', Same H H' → Q (.str (tText rows)) H'
theorem ok_ttext (A : At K mg "table_text" s_table_text ["table"]) (T : Tx mg) (tc : TC K C) (G_row_text : Dfn P w K mg base "_row_text" ["row"] 2 (spRowText K)) : Dfn P w K mg base "table_text" ["table"] 3 (spTText K C) := by
  refine A.ok sc_table_text (fun vs H Q E h => ?_) (fun f cdv A outer s H vs Q E hr h => ?_)
  · obtain ⟨x, rows, rfl, _⟩ := h
    rfl
  · obtain ⟨x, rows, rfl, ⟨p, dx, v, rfl, hp, ⟨a, vs, rfl, ha, hrs⟩⟩, hl, hs, k⟩ := h
    have vl := hrs.len
    refine ⟨_, (pss_one (ps_ret (pe_join pe_str (pe_lc (own := [("row", 1)]) (g := (gName 1)) (tt := tYes) (te := (tOp rAddT (tCall (spRowText K) [] E0 (tCons (tVar 1) tNil)) (tC (V.str "\n")))) (by rfl) sc_table_text.nd (pi_tup (pe_fld (pv 0) rfl)) (blkOk_by (own := [("row", 1)]) (N := n_table_text) (sc := (defScope s_table_text)) (by decide +kernel)) (fun _ _ _ _ _ => (pg_name (i := 1) sc_table_text.nd rfl (Or.inl rfl))) (fun _ _ _ _ _ => pts_nil) (fun _ _ _ _ _ => (pe_op op_addT (pe_d G_row_text (hr.mono (by decide)) (pa_cons (pv 1) pa_nil)) pe_str)))))), ?_⟩
    refine ⟨⟨_, rfl⟩, _, rfl, p, C, dx, _, .ref a, rfl, hp, tc.cl, tc.nR, tf_rows _ _, a, rfl, ⟨_, ha⟩, fun D hD => ?_⟩
    refine lc_tup (xs := vs) (fun i H' => H' D = some (.lst ((rows.take i).map fun r => V.str (lText r))) ∧ Same H H') ⟨upd_same, same_new hD⟩ (fun i H' _ h => sqT_same h.2 ha) ?_ ?_
    · rintro i y H1 hy ⟨h1, s1⟩
      have hir : i < rows.length := by have := (List.getElem?_eq_some_iff.mp hy).1; omega
      have hri := List.getElem?_eq_getElem hir
      obtain ⟨q, hq1, hq2⟩ := hrs.get hri
      rw [hy] at hq1
      have ey : y = .ref q := Option.some.inj hq1
      subst ey
      have hr' := hs _ (List.getElem_mem hir)
      have et : ((rows.take (i + 1)).map fun r => V.str (lText r)) = ((rows.take i).map fun r => V.str (lText r)) ++ [V.str (lText rows[i])] := by
        rw [List.take_add_one, hri, List.map_append]; rfl
      refine ⟨rfl, _, rfl, q, rows[i], rfl, sqT_same s1 hq2, hr'.1, hr'.2, fun H2 s2 => ?_⟩
      have h2 := s2 _ _ h1
      refine ⟨_, _, rfl, rfl, ?_, _, h2, by rw [List.length_map, List.length_take]; exact small_lt (by omega), by rw [upd_same]; exact (congrArg (fun z => some (HO.lst z)) et).symm, same_mut (s1.trans s2) hD⟩
      have := rText_len hr'.2
      have e : ("\n" : Str).length = 1 := by decide +kernel
      rw [e]
      exact small_le (by omega)
    · rintro H1 ⟨h1, s1⟩
      rw [vl, List.take_length] at h1
      refine ⟨_, D, rows.map lText, rfl, rfl, .inl (SqL.of (by rw [h1, List.map_map]; rfl)), ?_, k H1 s1⟩
      have h2 := tText_len hs
      have h3 : (tText rows).length = ((rows.map lText).map fun x : Str => x.length).sum + ((rows.map lText).length - 1) * ("" : Str).length := size_glued "" (rows.map lText)
      have e : ("" : Str).length = 0 := by decide +kernel
      rw [e] at h3 ⊢
      omega
end
end Fo

set_option maxRecDepth 100000
set_option maxHeartbeats 4000000
namespace Fo
open PySem PySem.Spec PyProof.Rows L2
abbrev s_BadTable___init : Stmt := inClass (top 2) 0
abbrev n_BadTable___init : List Str := ["self", "part", "at"]
theorem sc_BadTable___init : FnScope n_BadTable___init ["self", "part", "at"] (defScope s_BadTable___init) := ⟨rfl, rfl, rfl, by decide +kernel, rfl, by decide +kernel, by decide +kernel⟩
section
variable {P : Program} {w : World} {K : PySem.W.Frag} {mg : Str → Option Value} {base : Heap} {C B : Addr}
def badF (u v : V) : List (Str × V) := [("at", v), ("part", u)]
def spBad (B : Addr) : Sp := fun vs H Q _ => ∃ (a : Addr) (u v : V), vs = [.ref a, u, v] ∧ H a = some (exo a B none) ∧ ∀ (d : Addr) (H' : Hp), (∀ b o, b ≠ a → H b = some o → H' b = some o) → H d = none → d ≠ a → H' a = some (exo a B (some d)) → H' d = some (exd d (badF u v)) → Q .non H'
theorem ok_badinit {f : Addr} {fd : FuncData} (F : Fun K "__init__" "BadTable.__init__" s_BadTable___init f fd) (X : OexC K B) (nP : PySem.W.findIn K (.ref B) "part" = some none) (nA : PySem.W.findIn K (.ref B) "at" = some none) : FnOk P w K mg base CX0 1 f fd ["self", "part", "at"] (spBad B) := by
  refine F.ok sc_BadTable___init (fun vs H Q E h => ?_) (fun cdv A outer s H vs Q E hr h => ?_)
  · obtain ⟨a, u, v, rfl, _⟩ := h
    rfl
  · obtain ⟨a, u, v, rfl, ha, k⟩ := h
    refine ⟨_, (pss_cons (ps_ost (pv 0) (pv 1)) (pss_one (ps_ost (pv 0) (pv 2)))), ?_⟩
    refine ⟨_, rfl, _, rfl, a, B, rfl, X, nP, .inl ⟨ha, fun d hd hne => ?_⟩⟩
    refine ⟨_, rfl, _, rfl, a, B, rfl, X, nA, .inr ⟨d, _, upd_same, Eq.trans (upd_ne hne) upd_same, by show 1 ≤ 900; decide, ?_⟩⟩
    refine k d _ (fun b o n e => ?_) hd hne ?_ upd_same
    · have nbd : b ≠ d := ne_of_none e hd
      rw [upd_ne nbd, upd_ne n, upd_ne nbd]
      exact e
    · rw [upd_ne hne.symm, upd_same]
/-- the first row, from the i-th on, that is no ascending tuple of numbers -/
def firstBad (b : Int) : Nat → List (Option (List V)) → Option Nat
  | _, [] => none
  | i, o :: os => if ascOf b o = true then firstBad b (i + 1) os else some i
inductive TgAll (K : PySem.W.Frag) (C : Addr) (H : Hp) : List V → List (Option (List V)) → Prop
  | nil : TgAll K C H [] []
  | cons {x : V} {o : Option (List V)} {xs : List V} {os : List (Option (List V))} (h : Tg K C H x o) (t : TgAll K C H xs os) : TgAll K C H (x :: xs) (o :: os)
theorem TgAll.same {H H' : Hp} (e : Same H H') : ∀ {xs : List V} {os : List (Option (List V))}, TgAll K C H xs os → TgAll K C H' xs os
  | _, _, .nil => .nil
  | _, _, .cons h t => .cons (h.same e) (t.same e)
theorem TgAll.len {H : Hp} : ∀ {xs : List V} {os : List (Option (List V))}, TgAll K C H xs os → xs.length = os.length
  | _, _, .nil => rfl
  | _, _, .cons _ t => congrArg (· + 1) t.len
theorem TgAll.get {H : Hp} : ∀ {xs : List V} {os : List (Option (List V))} {i : Nat} {x : V}, TgAll K C H xs os → xs[i]? = some x → ∃ o, os[i]? = some o ∧ Tg K C H x o
  | _, _, _, _, .nil, h => by simp at h
  | _, _, 0, _, .cons h _, e => ⟨_, rfl, by cases Option.some.inj e; exact h⟩
  | _, _, i + 1, _, .cons _ t, e => t.get (i := i) e
theorem firstBad_all {b : Int} : ∀ (os : List (Option (List V))) (i : Nat), (∀ o ∈ os, ascOf b o = true) → firstBad b i os = none
  | [], _, _ => rfl
  | o :: os, i, h => by
    show (if ascOf b o = true then firstBad b (i + 1) os else some i) = none
    rw [if_pos (h o List.mem_cons_self)]
    exact firstBad_all os (i + 1) fun q hq => h q (List.mem_cons_of_mem _ hq)
theorem firstBad_at {b : Int} : ∀ (os : List (Option (List V))) (i j : Nat) (o : Option (List V)), os[j]? = some o → (∀ q ∈ os.take j, ascOf b q = true) → ¬ ascOf b o = true → firstBad b i os = some (i + j)
  | [], _, _, _, h, _, _ => by simp at h
  | q :: os, i, 0, o, h, _, n => by
    cases Option.some.inj h
    show (if ascOf b q = true then firstBad b (i + 1) os else some i) = some (i + 0)
    rw [if_neg n]
    rfl
  | q :: os, i, j + 1, o, h, a, n => by
    show (if ascOf b q = true then firstBad b (i + 1) os else some i) = some (i + (j + 1))
    rw [if_pos (a q List.mem_cons_self), firstBad_at os (i + 1) j o h (fun z hz => a z (List.mem_cons_of_mem _ hz)) n]
    congr 1
    omega
/-- a thing that is handed in as rows -/
inductive Tgg (K : PySem.W.Frag) (C : Addr) (H : Hp) : V → Option (List (Option (List V))) → Prop
  | tup {a : Addr} {xs : List V} {os : List (Option (List V))} (h : SqT K H a xs) (g : TgAll K C H xs os) (hz : xs.length ≤ 100000) : Tgg K C H (.ref a) (some os)
  | no {x : V} {t : Value} (ty : TyX K H x t) (hk : PySem.W.kitOne K t (.type "tuple") = some false) : Tgg K C H x none
def dueRows : Option (List (Option (List V))) → Option (Str × Int)
  | none => some ("rows", -1)
  | some os => if 1 ≤ os.length ∧ os.length ≤ 12 then (firstBad os.length 0 os).map fun (i : Nat) => (("row" : Str), (i : Int)) else some ("rows", -1)
def spCheckX (K : PySem.W.Frag) (C B : Addr) : Sp := fun vs H Q E => ∃ (v : V) (oo : Option (List (Option (List V)))), vs = [v] ∧ Tgg K C H v oo ∧ (dueRows oo = none → ∀ H', Same H H' → Q .non H') ∧ ∀ u n, dueRows oo = some (u, n) → ∀ d H', Same H H' → H d = none → H' d = some (.xd (badF (.str u) (.int n))) → E (.ref B) (some d) H'
theorem ok_checkX {f fB : Addr} {fd fdB : FuncData} (F : Fun K "_check_rows" "_check_rows" s_check_rows f fd) (T : Tx mg) {tk : Tok} (hMR : mg "MOST_ROWS" = some (.int 12 tk)) (G_is_ascending : Dfn P w K mg base "is_ascending" ["bound", "thing"] 4 (spAsc K C))
    (oex : OexC K B) (iC : PySem.W.findIn K (.ref B) "__init__" = some (some (.ref fB))) (tI : PySem.W.typeIn K (.ref fB) = some (.type "function")) (F1 : FnOk P w K mg base CX0 1 fB fdB ["self", "part", "at"] (spBad B)) (hb : Binds K fdB ["self", "part", "at"] []) (gB : mg "BadTable" = some (.ref B)) :
    FnOk P w K mg base (CX P w) 5 f fd ["rows"] (spCheckX K C B) := by
  refine F.okX sc_check_rows (fun vs H Q E h => ?_) (fun cdv A outer s H vs Q E hr h => ?_)
  · obtain ⟨v, oo, rfl, _⟩ := h
    rfl
  · obtain ⟨v, oo, rfl, hv, k1, k2⟩ := h
    refine ⟨_, (pss_cons (ps_if (PW.pt (pw_or (pt_not (pt_val (pe_callB call_isi (by rfl) T.isinstance (by decide +kernel) (pa_cons (pv 0) (pa_cons (pe_bltn (v := V.ty "tuple") (by rfl) T.tuple (by decide +kernel) rfl) pa_nil))))) (pw_or1 (pt_not (pt_chain op_le op_le pe_int (pe_callB c_len (by rfl) T.len (by decide +kernel) (pa_cons (pv 0) pa_nil)) (pe_glob (v := V.int 12) (by rfl) hMR ⟨_, rfl⟩)))))) (pss_one (ps_raise rfl (takes_of rfl rfl rfl rfl) (pmk_oex oex iC tI F1 (hr.mono (by decide)) hb .nil pass0 rfl gB (pa_cons pe_str (pa_cons (pe_un un_neg pe_int) pa_nil))))) pss_nil)
      (pss_one (ps_for PassesOwn.leaving rfl (pi_enumT (by rfl) T.enumerate (pa_cons (pv 0) pa_nil)) (pg_tup rfl (pgs_cons (pg_name (i := 1) sc_check_rows.nd rfl (Or.inl rfl)) (pgs_cons (pg_name (i := 2) sc_check_rows.nd rfl (Or.inl rfl)) pgs_nil)))
      (pss_one (ps_if (pt_not (pt_val (pe_d G_is_ascending (hr.mono (by decide)) (pa_cons (pe_callB c_len (by rfl) T.len (by decide +kernel) (pa_cons (pv 0) pa_nil)) (pa_cons (pv 2) pa_nil))))) (pss_one (ps_raise rfl (takes_of rfl rfl rfl rfl) (pmk_oex oex iC tI F1 (hr.mono (by decide)) hb .nil pass0 rfl gB (pa_cons pe_str (pa_cons (pv 1) pa_nil))))) pss_nil))))), ?_⟩
    have bad : ∀ (u : Str) (n : Int) (H1 : Hp), dueRows oo = some (u, n) → Same H H1 → [V.str u, V.int n].length ≤ 1000 ∧ ∀ a, H1 a = none → spBad B (.ref a :: ([V.str u, V.int n] ++ [])) (upd H1 a (exo a B none)) (fun v H2 => v = .non ∧ ∃ (d : Addr) (fs : List (Str × V)), H2 a = some (exo a B (some d)) ∧ H2 d = some (exd d fs) ∧ H1 d = none ∧ E (.ref B) (some d) (upd (del H2 a) d (HO.xd fs))) fun _ _ _ => False := by
      intro u n H1 hd s1
      refine ⟨by show 2 ≤ 1000; decide, fun a ha => ⟨a, _, _, rfl, upd_same, fun d H' hk hdn hne h1 h2 => ⟨rfl, d, _, h1, h2, ?_, ?_⟩⟩⟩
      · rw [upd_ne hne] at hdn
        exact hdn
      · refine k2 u n hd d _ (fun b o e => ?_) ?_ upd_same
        · have e1 := s1 _ _ e
          have hba : b ≠ a := ne_of_none e1 ha
          have hdn' : H1 d = none := by rw [upd_ne hne] at hdn; exact hdn
          have hbd : b ≠ d := ne_of_none e1 hdn'
          rw [upd_ne hbd, del_ne hba]
          exact hk b o hba (by rw [upd_ne hba]; exact e1)
        · have hdn' : H1 d = none := by rw [upd_ne hne] at hdn; exact hdn
          exact s1.free hdn'
    cases hv with
    | no ty hk =>
      refine ⟨_, rfl, v, .ty "tuple", _, .type "tuple", false, rfl, .ty "tuple", ty, hk, false, rfl, ?_⟩
      exact ⟨_, rfl, bad "rows" (-1) H rfl (Same.refl H)⟩
    | tup h g hz =>
      rename_i a xs os
      have gl := g.len
      refine ⟨_, rfl, .ref a, .ty "tuple", _, .type "tuple", true, rfl, .ty "tuple", tyX_sqT h, kit_ty (by decide +kernel), true, rfl, ?_⟩
      refine ⟨_, rfl, a, xs, rfl, .inr h, 1, _, rfl, rfl, _, rfl, ?_⟩
      by_cases c1 : 1 ≤ os.length
      · have d1 : decide ((1 : Int) ≤ (xs.length : Nat)) = true := decide_eq_true (by omega)
        rw [d1]
        refine ⟨_, 12, rfl, rfl, ?_⟩
        refine ⟨_, rfl, ?_⟩
        by_cases c2 : os.length ≤ 12
        · have d2 : decide (((xs.length : Nat) : Int) ≤ 12) = true := decide_eq_true (by omega)
          rw [d2]
          have due : dueRows (some os) = (firstBad os.length 0 os).map fun (i : Nat) => (("row" : Str), (i : Int)) := if_pos ⟨c1, c2⟩
          refine ⟨_, rfl, a, xs, rfl, h, for_enumT (xs := xs) (fun i σ' H' => (∃ x1 x2, σ' = [some (.ref a), x1, x2]) ∧ Same H H' ∧ ∀ q ∈ os.take i, ascOf os.length q = true) ⟨⟨_, _, rfl⟩, Same.refl H, fun q hq => (by cases hq)⟩ (fun i σ' H' _ hp => sqT_same hp.2.1 h) ?_ ?_⟩
          · rintro i x σ' H' T' hx ⟨⟨x1, x2, rfl⟩, s1, ha⟩ hT
            obtain ⟨o, ho, hto⟩ := g.get hx
            have s2 : Same H (upd H' T' (.tup [.int (i : Nat), x])) := s1.trans (same_new hT)
            refine ⟨T', _, rfl, SqT.of upd_same, rfl, _, _, rfl, _, _, rfl, rfl, ?_⟩
            refine ⟨_, rfl, a, xs, rfl, .inr (sqT_same s2 h), _, rfl, _, _, o, rfl, hto.same s2, fun H3 s3 => ⟨_, rfl, ?_⟩⟩
            rw [gl]
            by_cases c3 : ascOf os.length o = true
            · rw [c3]
              refine ⟨⟨_, _, rfl⟩, s2.trans s3, fun q hq => ?_⟩
              rw [List.take_add_one, ho] at hq
              rcases List.mem_append.mp hq with hq | hq
              · exact ha q hq
              · rw [List.mem_singleton.mp hq]; exact c3
            · have c4 : ascOf os.length o = false := by
                cases e : ascOf (os.length : Int) o with
                | true => exact absurd e c3
                | false => rfl
              rw [c4]
              have fb := firstBad_at os 0 i o ho ha c3
              rw [Nat.zero_add] at fb
              exact ⟨_, rfl, bad "row" (i : Int) H3 (by rw [due, fb]; rfl) (s2.trans s3)⟩
          · rintro σ' H' ⟨⟨x1, x2, rfl⟩, s1, ha⟩
            rw [gl, List.take_length] at ha
            exact k1 (by rw [due, firstBad_all os 0 ha]; rfl) H' s1
        · have d2 : decide (((xs.length : Nat) : Int) ≤ 12) = false := decide_eq_false (by omega)
          rw [d2]
          exact ⟨_, rfl, bad "rows" (-1) H (if_neg fun q => c2 q.2) (Same.refl H)⟩
      · have d1 : decide ((1 : Int) ≤ (xs.length : Nat)) = false := decide_eq_false (by omega)
        rw [d1]
        exact ⟨_, rfl, _, rfl, bad "rows" (-1) H (if_neg fun q => c1 q.1) (Same.refl H)⟩
def spInitX (K : PySem.W.Frag) (C B : Addr) : Sp := fun vs H Q E => ∃ (p dx : Addr) (v : V) (oo : Option (List (Option (List V)))), vs = [.ref p, v] ∧ H p = some (.ins C dx []) ∧ Tgg K C H v oo ∧
  (dueRows oo = none → ∀ (a : Addr) (xs : List V) (H' : Hp), v = .ref a → SqT K H a xs → (∀ b o, b ≠ p → H b = some o → H' b = some o) → H' p = some (.ins C dx (tf v xs.length)) → Q .non H') ∧
  ∀ u n, dueRows oo = some (u, n) → ∀ d H', Same H H' → H d = none → H' d = some (.xd (badF (.str u) (.int n))) → E (.ref B) (some d) H'
theorem ok_initX {f fK : Addr} {fd fdK : FuncData} (F : Fun K "__init__" "Table.__init__" s_Table___init f fd) (T : Tx mg) (tc : TC K C) (FC : FnOk P w K mg base (CX P w) 5 fK fdK ["rows"] (spCheckX K C B)) (hm : mg "_check_rows" = some (.ref fK)) (hk : PySem.W.keepIn K (.ref fK) = true) (hb : Binds K fdK ["rows"] []) : FnOk P w K mg base (CX P w) 6 f fd ["self", "rows"] (spInitX K C B) := by
  refine F.okX sc_Table___init (fun vs H Q E h => ?_) (fun cdv A outer s H vs Q E hr h => ?_)
  · obtain ⟨p, dx, v, oo, rfl, _⟩ := h
    rfl
  · obtain ⟨p, dx, v, oo, rfl, hp, hv, k1, k2⟩ := h
    refine ⟨_, (pss_cons (ps_expr (pe_call FC hr rfl hm hk hb .nil (fun pins σ H s e s' I h => passAt (takes_of rfl rfl rfl rfl) σ pins H s e s' I h) (pa_cons (pv 1) pa_nil)))
      (pss_cons (ps_fld (pv 0) (pv 1) rfl)
      (pss_one (ps_fld (pv 0) (pe_callB c_len (by rfl) T.len (by decide +kernel) (pa_cons (pv 1) pa_nil)) rfl)))), ?_⟩
    refine ⟨_, rfl, v, oo, rfl, hv, fun h0 H1 s1 => ?_, k2⟩
    cases hv with
    | no ty hk => cases h0
    | tup ha g hz =>
      rename_i a xs os
      have ha1 := sqT_same s1 ha
      have hp1 := s1 _ _ hp
      refine ⟨_, rfl, _, rfl, p, C, dx, [], rfl, hp1, tc.cl, tc.nR, by decide, ?_⟩
      have ha2 : SqT K (upd H1 p (.ins C dx (putF "rows" (.ref a) []))) a xs := sqT_ins ha1 hp1 fun b o n e => by rw [upd_ne n]; exact e
      refine ⟨_, rfl, a, xs, rfl, .inr ha2, _, rfl, p, C, dx, _, rfl, upd_same, tc.cl, tc.nS, by show 1 < 1000; decide, ?_⟩
      refine k1 h0 a xs _ rfl ha (fun b o n e => ?_) ?_
      · rw [upd_ne n, upd_ne n]
        exact s1 _ _ e
      · rw [upd_same]
        rfl
end
end Fo

set_option maxRecDepth 100000
set_option maxHeartbeats 2000000
/-! x.replace('..', '..') of two written texts, behind a written text; words of figures. -/
namespace Fo
open PySem PySem.Spec PyProof.Rows L2
section
variable {X : Cx}
def tRepC (ik : Nat) (y z : Str) : TE := fun σ H Q => ∃ x : Str, σ[ik]? = some (some (.str x)) ∧ x.length + (x.length + 1) * z.length ≤ 16777216 ∧ Q (.str (Txt.replace x y z)) H
theorem pet_repC {ik : Nat} {kx y z : Str} {j0 j1 : Nat} {p1 c0 c1 apos pos : Pos} (hNk : X.N[ik]? = some kx) (hvk : Vis X.env.scope kx) (hyz : (y == z) = false)
    (hdk : (kx == ("__debug__" : Str)) = false := by decide) (hck : (kx == ("__classdict__" : Str)) = false := by decide)
    (hst : starEach [.Constant (.str y) j0 c0, .Constant (.str z) j1 c1] X.env = [(false, eval (.Constant (.str y) j0 c0) X.env), (false, eval (.Constant (.str z) j1 c1) X.env)] := by rfl)
    (hbase : attributeBase (.Name kx p1) "replace" X.env (eval (.Name kx p1) X.env) = eval (.Name kx p1) X.env := by rfl) (hline : (apos.endLine == pos.line) = true := by rfl) :
    PET X (.Call (.Attribute (.Name kx p1) "replace" apos) [.Constant (.str y) j0 c0, .Constant (.str z) j1 c1] [] pos) (tRepC ik y z) := by
  intro pins s σ H Q h0 I h
  obtain ⟨x, hx, hb, q⟩ := h
  refine PySem.Call_method2 hbase hst hline (raw_name hNk hvk I hx (fun v r => ?_) hdk hck)
  obtain ⟨tx, e⟩ := r
  subst e
  refine ⟨"str", _, F.plainAttrs_str, F.slot_str_replace, F.type_str_replace, typeIs_str _ _ _, (fun _ e => nomatch e), Calls.callWith_builtin rfl (Calls.evalArgs_plain (Calls.spliced_cons ?_))⟩
  refine Calls.Constant_str (Calls.spliced_cons (Calls.Constant_str (Calls.spliced_nil ?_)))
  exact PySem.SC.replace (u := s.toks) (v := s.toks + 1) (show s.toks ≠ 0 by omega) (show s.toks + 1 ≠ 0 by omega) (show s.toks ≠ s.toks + 1 by omega) hyz hb fun t' k => ⟨.str (Txt.replace x y z), H, I.tok k, ⟨t', rfl⟩, q⟩
theorem pet_of {e : Expr} {t : TE} (h : PE X e t) : PET X e t := fun pins s σ H Q _ I q => h.run pins s σ H Q I q
theorem pe_opC {op : Operator} {r : R2} {y : Str} {j : Nat} {cp pos : Pos} {b : Expr} {tb : TE} (ho : OpR X (binaryOp op) r) (hb : PET X b tb) : PE X (.BinOp (.Constant (.str y) j cp) op b pos) (tOp r (tC (.str y)) tb) := by
  refine ⟨fun pins s σ H Q I h => wpAny_BinOp (Calls.Constant_str ?_)⟩
  refine thn (hb pins { s with toks := s.toks + 1 } σ H _ (Nat.le_add_left 1 s.toks) (I.tok _) h) fun u s2 ⟨y', H2, I2, r2, q2⟩ => ?_
  exact ho pins s2 σ H2 (.str y) y' _ u Q I2 ⟨_, rfl⟩ r2 q2
theorem pa_strT {y : Str} {j : Nat} {cp : Pos} {es : List Expr} {t : TA} (hr : PAT X es t) (hs : starEach (.Constant (.str y) j cp :: es) X.env = (false, eval (.Constant (.str y) j cp) X.env) :: starEach es X.env := by rfl) : PA X (.Constant (.str y) j cp :: es) (tCons (tC (.str y)) t) := by
  refine ⟨fun pos pins s σ H Q I h => ?_⟩
  rw [hs]
  show wpAny _ _ (spliced ((false, eval (.Constant (.str y) j cp) X.env) :: backTo pos (starEach es X.env))) _ _ s
  refine Calls.spliced_cons (Calls.Constant_str ?_)
  exact thn (hr pos pins { s with toks := s.toks + 1 } σ H _ (Nat.le_add_left 1 s.toks) (I.tok _) h) fun us s2 ⟨xs, H2, I2, r2, q2⟩ => ⟨.str y :: xs, H2, I2, .cons ⟨_, rfl⟩ r2, q2⟩
end
/-! ### words -/
def figC (c : Nat) : Bool := decide (c ∈ ("0123456789" : Str).cps.toList)
theorem figC_iff {c : Nat} : figC c = true ↔ 48 ≤ c ∧ c ≤ 57 := by
  have e : ("0123456789" : Str).cps.toList = [48, 49, 50, 51, 52, 53, 54, 55, 56, 57] := by decide +kernel
  unfold figC
  rw [decide_eq_true_iff, e]
  simp only [List.mem_cons, List.not_mem_nil, or_false]
  omega
def zeroOk (z : Str) : Bool := decide (z = "0") || !decide (z.cps.toList[0]? = some 48)
def isNW (z : Str) : Bool := decide (1 ≤ z.length ∧ z.length ≤ 4) && z.cps.toList.all figC && zeroOk z
def nwv (z : Str) : Int := (NumText.digitsVal z.cps.toList : Nat)
theorem NumText.digitsVal_lt : ∀ (cs : List Nat), (∀ c ∈ cs, 48 ≤ c ∧ c ≤ 57) → NumText.digitsVal cs < 10 ^ cs.length := by
  intro cs h
  have gen : ∀ (cs : List Nat) (acc : Nat), (∀ c ∈ cs, 48 ≤ c ∧ c ≤ 57) → cs.foldl (fun acc c => acc * 10 + (c - 48)) acc < (acc + 1) * 10 ^ cs.length := by
    intro cs
    induction cs with
    | nil => intro acc _; simp
    | cons c cs ih =>
      intro acc h
      have hc := h c List.mem_cons_self
      have h1 := ih (acc * 10 + (c - 48)) fun d hd => h d (List.mem_cons_of_mem _ hd)
      rw [List.foldl_cons, List.length_cons, Nat.pow_succ]
      refine Nat.lt_of_lt_of_le h1 ?_
      have h2 : (acc * 10 + (c - 48) + 1) * 10 ^ cs.length ≤ ((acc + 1) * 10) * 10 ^ cs.length := Nat.mul_le_mul_right _ (by omega)
      have h3 : ((acc + 1) * 10) * 10 ^ cs.length = (acc + 1) * (10 ^ cs.length * 10) := by rw [Nat.mul_assoc, Nat.mul_comm 10]
      omega
  have := gen cs 0 h
  rw [Nat.zero_add, Nat.one_mul] at this
  exact this
structure NWs (z : Str) : Prop where
  p : 1 ≤ z.length
  s : z.length ≤ 4
  d : ∀ c ∈ z.cps.toList, 48 ≤ c ∧ c ≤ 57
theorem nws {z : Str} (h : isNW z = true) : NWs z := by
  unfold isNW at h
  rw [Bool.and_eq_true, Bool.and_eq_true] at h
  have h1 := of_decide_eq_true h.1.1
  exact ⟨h1.1, h1.2, fun c hc => figC_iff.mp (List.all_eq_true.mp h.1.2 c hc)⟩
theorem NWs.i {z : Str} (N : NWs z) : intText? z = some (nwv z) := PySem.intText_digits N.d (fun e => by
  have h := N.p
  have e2 : z.length = z.cps.toList.length := rfl
  rw [e2, e] at h
  exact absurd h (by decide)) (by have := N.s; omega)
theorem NWs.lt {z : Str} (N : NWs z) : 0 ≤ nwv z ∧ nwv z < 10000 := by
  have h := NumText.digitsVal_lt z.cps.toList N.d
  have e2 : z.cps.toList.length = z.length := rfl
  have h2 : 10 ^ z.cps.toList.length ≤ 10 ^ 4 := Nat.pow_le_pow_right (by decide) (by rw [e2]; exact N.s)
  unfold nwv
  have e4 : (10 : Nat) ^ 4 = 10000 := by decide
  omega
theorem NWs.zero {z : Str} (N : NWs z) : intText? ("0" ++ z) = some (nwv z) := by
  have e : ("0" ++ z : Str).cps.toList = 48 :: z.cps.toList := by
    rw [cps_app]
    rfl
  have hl : ("0" ++ z : Str).length = z.length + 1 := by
    have e2 : ("0" ++ z : Str).length = ("0" ++ z : Str).cps.toList.length := rfl
    rw [e2, e]
    rfl
  have := PySem.intText_digits (x := "0" ++ z) (by rw [e]; exact fun c hc => (List.mem_cons.mp hc).elim (fun q => by omega) (N.d c)) (by rw [e]; simp) (by rw [hl]; have := N.s; omega)
  rw [this, e]
  rfl
theorem NWs.dash {z : Str} (N : NWs z) : z ≠ "-" := fun q => by
  have h := N.d 45 (by rw [q]; decide +kernel)
  omega
theorem occ_none {z : Str} (h : ∀ c ∈ z.cps.toList, c ≠ 45) : Txt.replace z "-" "" = z := by
  have e1 : ("-" : Str) = ⟨#[45]⟩ := by decide +kernel
  rw [e1, StrLaws.replace_one]
  have sp : Txt.split (Txt.join ⟨#[45]⟩ [z]) ⟨#[45]⟩ = [z] := TL.split_join (s := 45) (S := []) rfl (by decide +kernel) (by simp) fun p hp => by
    rw [List.mem_singleton.mp hp]
    exact fun q => h 45 q rfl
  have j1 : Txt.join ⟨#[45]⟩ [z] = z := by
    apply str_ext
    rw [join_tl]
    simp [TL.joinL]
  rw [j1] at sp
  rw [sp]
  rw [← TL.join_eq]
  apply str_ext
  rw [join_tl]
  simp [TL.joinL]
theorem NWs.repl {z : Str} (N : NWs z) : Txt.replace z "-" "" = z := occ_none fun c hc q => by have := N.d c hc; omega
theorem dash_repl : Txt.replace "-" "-" "" = ("" : Str) := by decide +kernel
/-! ### lines and texts -/
def lineV (z : Str) : Option (List Int) := if z = "-" then some [] else if (Txt.split z " ").all isNW = true then some ((Txt.split z " ").map nwv) else none
theorem split_len (z y : Str) : (Txt.split z y).length ≤ z.length + 2 := PyProof.Rows.split_le z y
/-- what reading a text for a table comes to: the lines' rows, or the number of the first wrong line -/
def firstLine : Nat → List Str → Option Nat
  | _, [] => none
  | i, l :: ls => if (lineV l).isSome = true then firstLine (i + 1) ls else some i
theorem firstLine_all : ∀ (ls : List Str) (i : Nat), (∀ l ∈ ls, (lineV l).isSome = true) → firstLine i ls = none
  | [], _, _ => rfl
  | l :: ls, i, h => by
    show (if (lineV l).isSome = true then firstLine (i + 1) ls else some i) = none
    rw [if_pos (h l List.mem_cons_self)]
    exact firstLine_all ls (i + 1) fun q hq => h q (List.mem_cons_of_mem _ hq)
theorem firstLine_at : ∀ (ls : List Str) (i j : Nat) (l : Str), ls[j]? = some l → (∀ q ∈ ls.take j, (lineV q).isSome = true) → ¬ (lineV l).isSome = true → firstLine i ls = some (i + j)
  | [], _, _, _, h, _, _ => by simp at h
  | q :: ls, i, 0, l, h, _, n => by
    cases Option.some.inj h
    show (if (lineV q).isSome = true then firstLine (i + 1) ls else some i) = some (i + 0)
    rw [if_neg n]
    rfl
  | q :: ls, i, j + 1, l, h, a, n => by
    show (if (lineV q).isSome = true then firstLine (i + 1) ls else some i) = some (i + (j + 1))
    rw [if_pos (a q List.mem_cons_self), firstLine_at ls (i + 1) j l h (fun z hz => a z (List.mem_cons_of_mem _ hz)) n]
    congr 1
    omega
def rowOf (l : Str) : List Int := (lineV l).getD []
inductive RV
  | text (n : Int)
  | rows (rs : List (List Int))
def readV (z : Str) : RV := match firstLine 0 (Txt.split z "\n").dropLast with
  | some i => .text ((i : Int) + 1)
  | none => if (Txt.split z "\n").getLast? ≠ some ("" : Str) ∨ (Txt.split z "\n").dropLast = [] then .text ((Txt.split z "\n").length : Nat) else .rows ((Txt.split z "\n").dropLast.map rowOf)
/-- the words of a dealing -/
def dWord (z : Str) : Bool := decide (z = "-") || isNW z
def dOpt (z : Str) : OI := if z = "-" then none else some (nwv z)
def dealV (z : Str) : Option (List OI) := if (Txt.split z " ").all dWord = true then some ((Txt.split z " ").map dOpt) else none
end Fo

set_option maxRecDepth 100000
set_option maxHeartbeats 2000000
namespace Fo
open PySem PySem.Spec PyProof.Rows L2
theorem isi_exact {prog : Program} {w : World} {A : Around} {E : Value → Shared → Prop} {s : Shared} {a : Addr} {o : Obj} {Q : Value → Shared → Prop} (ho : s.heap.get? a = some o) (h : Q (.bool true) s) :
    wpAny (model prog w) A (call (.builtin "isinstance") [.ref a, o.cls]) Q E s := by
  refine call_isinstance (S := fun _ R s' => s'.heap.get? a = some o ∧ R (.ok (.ret (.bool true))) s') (fun prog w A R s hs => isinstance_outer ?_) ⟨ho, h⟩
  obtain ⟨h1, h2⟩ := hs
  unfold Builtin.«isinstance.nested»
  refine wpAny_bind (wpAny_typeOf_ref h1 ?_)
  refine wpAny_ite_true (by simp) ?_
  refine wpAny_bind ?_
  wp_step
  exact wpAny_pure h2
/-- isinstance of a caught error and its own class -/
def rIsX (cls : Value) (a : Addr) : List V → Hp → VK → Prop := fun xs H Q => ∃ D : Addr, cls = .ref D ∧ xs = [.ref a, .ref D] ∧ Q (.bl true) H
theorem call_isX {X : Cx} {a : Addr} {oe : Obj} {pn : List (Addr × Obj)} {cls : Value} {d : Option Addr} (hz : Zc cls d oe) : CallR (X.suite a ((a, oe) :: pn)) (.builtin "isinstance") (rIsX cls a) := by
  intro pins s σ H xs us Q I r h
  obtain ⟨D, rfl, rfl, q⟩ := h
  cases r with
  | cons r0 r1 =>
    cases r1 with
    | cons r2 r3 =>
      cases r3
      cases r0
      cases r2
      have hp := (I.pin (a, oe) (by simp)).1
      have e := isi_exact (prog := X.prog) (w := X.w) (A := (X.suite a ((a, oe) :: pn)).A) (E := (X.suite a ((a, oe) :: pn)).xe) (Q := EP (X.suite a ((a, oe) :: pn)) pins σ Q) hp ⟨.bl true, H, I, rfl, q⟩
      rw [hz.1] at e
      exact e
end Fo

set_option maxRecDepth 100000
set_option maxHeartbeats 2000000
/-! isinstance of a caught error that has a dict of its own, true or false. -/
namespace Fo
open PySem PySem.Spec PyProof.Rows L2
structure XcC (K : PySem.W.Frag) (D : Addr) : Prop where
  hc : (PySem.W.clsIn K D).isSome = true
  hg : PySem.W.findIn K (.ref D) "__getattribute__" = some (some (.builtin "BaseException.__getattribute__"))
  hk : PySem.W.findIn K (.ref D) "__getattr__" = some none
  hs : PySem.W.subIn K (.ref D) (.type "BaseException") = some true
  ha : PySem.W.findIn K (.ref D) "__class__" = some (some (.builtin "object.__class__"))
  hn : PySem.W.specialIn K (.builtin "object.__class__") "__get__" = some (some (.builtin "getset_descriptor.__get__"))
  ht : PySem.W.takesIn K (.builtin "object.__class__") = some true
  hm : PySem.W.mroIn K D (.type "object") = some true
def rIsX2 (K : PySem.W.Frag) (cls : Value) (d : Option Addr) (a : Addr) : List V → Hp → VK → Prop := fun xs H Q => ∃ (D D2 dd : Addr) (b : Bool) (fs : List (Str × V)), cls = .ref D ∧ xs = [.ref a, .ref D2] ∧ d = some dd ∧ H dd = some (.xd fs) ∧ XcC K D ∧ PySem.W.kitOne K (.ref D) (.ref D2) = some b ∧ Q (.bl b) H
theorem call_isX2 {X : Cx} {a : Addr} {oe : Obj} {pn : List (Addr × Obj)} {cls : Value} {d : Option Addr} (hz : Zc cls d oe) (hf : ∃ vs, oe.data = .fields vs) : CallR (X.suite a ((a, oe) :: pn)) (.builtin "isinstance") (rIsX2 X.K cls d a) := by
  intro pins s σ H xs us Q I r h
  obtain ⟨D, D2, dd, b, fs, rfl, rfl, rfl, ed, C, e, q⟩ := h
  cases r with
  | cons r0 r1 =>
    cases r1 with
    | cons r2 r3 =>
      cases r3
      cases r0
      cases r2
      obtain ⟨hget, _⟩ := I.pin (a, oe) (List.mem_append.mpr (.inl List.mem_cons_self))
      obtain ⟨vs, hv⟩ := hf
      have hx : ObjOk X.prog X.w H s.heap dd (.xd fs) := I.hok dd _ ed
      obtain ⟨mA, hns, hr⟩ := hx
      obtain ⟨od, ho, hl⟩ := lookIn_ns hns
      have J : PySem.W.InstAt s.heap a oe D (some od) := ⟨hget, hz.1, by unfold PySem.W.notCls; rw [hv] <;> rfl, by rw [hz.2]; exact ho⟩
      exact PySem.W.kia_one (PySem.W.kitx_exc C.hc C.hg C.hk C.hs C.ha C.hn C.ht C.hm) I.kIn J e (fun z => nomatch z) fun tk => ⟨.bl b, H, I.kept (t' := tk) fun _ _ z => z, rfl, q⟩
theorem kit_same {K : PySem.W.Frag} {D : Addr} : PySem.W.kitOne K (.ref D) (.ref D) = some true := by
  unfold PySem.W.kitOne
  rw [if_pos (beq_self_eq_true _)]
theorem kit_other {K : PySem.W.Frag} {D D2 : Addr} (h1 : (PySem.W.clsIn K D2).isSome = true) (h2 : PySem.W.typeIn K (.ref D2) = some (.type "type")) (h3 : PySem.W.subIn K (.ref D) (.ref D2) = some false) (h4 : PySem.W.subIn K (.ref D2) (.ref D2) = some true) : PySem.W.kitOne K (.ref D) (.ref D2) = some false := by
  have ne : (Value.ref D == Value.ref D2) = false := by
    rw [beq_eq_false_iff_ne]
    intro q
    cases q
    rw [h3] at h4
    cases h4
  have e2 : ((PySem.W.clsIn K D2).isSome && PySem.W.typeIn K (.ref D2) == some (.type "type")) = true := by rw [h1, h2] <;> rfl
  unfold PySem.W.kitOne
  rw [ne, if_neg (by decide)]
  show (if ((PySem.W.clsIn K D2).isSome && PySem.W.typeIn K (.ref D2) == some (.type "type")) = true then PySem.W.subIn K (.ref D) (.ref D2) else none) = some false
  rw [if_pos e2]
  exact h3
end Fo

set_option maxRecDepth 100000
set_option maxHeartbeats 4000000
namespace Fo
open PySem PySem.Spec PyProof.Rows L2
abbrev s_BadText___init : Stmt := inClass (top 3) 0
abbrev n_BadText___init : List Str := ["self", "line"]
theorem sc_BadText___init : FnScope n_BadText___init ["self", "line"] (defScope s_BadText___init) := ⟨rfl, rfl, rfl, by decide +kernel, rfl, by decide +kernel, by decide +kernel⟩
abbrev s_check_string : Stmt := top 17
abbrev n_check_string : List Str := ["text"]
theorem sc_check_string : FnScope n_check_string ["text"] (defScope s_check_string) := ⟨rfl, rfl, rfl, by decide +kernel, rfl, by decide +kernel, by decide +kernel⟩
abbrev s_is_number_word : Stmt := top 20
abbrev n_is_number_word : List Str := ["word", "sign"]
theorem sc_is_number_word : FnScope n_is_number_word ["word"] (defScope s_is_number_word) := ⟨rfl, rfl, rfl, by decide +kernel, rfl, by decide +kernel, by decide +kernel⟩
abbrev s_is_line : Stmt := top 18
abbrev n_is_line : List Str := ["line", "word"]
theorem sc_is_line : FnScope n_is_line ["line"] (defScope s_is_line) := ⟨rfl, rfl, rfl, by decide +kernel, rfl, by decide +kernel, by decide +kernel⟩
abbrev s_read_line : Stmt := top 19
abbrev n_read_line : List Str := ["line", "word"]
theorem sc_read_line : FnScope n_read_line ["line"] (defScope s_read_line) := ⟨rfl, rfl, rfl, by decide +kernel, rfl, by decide +kernel, by decide +kernel⟩
abbrev s_read_dealing : Stmt := top 16
abbrev n_read_dealing : List Str := ["text", "words", "word"]
theorem sc_read_dealing : FnScope n_read_dealing ["text"] (defScope s_read_dealing) := ⟨rfl, rfl, rfl, by decide +kernel, rfl, by decide +kernel, by decide +kernel⟩
abbrev s_read_table : Stmt := top 15
abbrev n_read_table : List Str := ["text", "lines", "behind", "rows", "at", "line"]
theorem sc_read_table : FnScope n_read_table ["text"] (defScope s_read_table) := ⟨rfl, rfl, rfl, by decide +kernel, rfl, by decide +kernel, by decide +kernel⟩
theorem lit_figs {z : Str} : ("0123456789" : Str) = ("0123456789" : Str) := rfl
theorem zero_iff {z : Str} {c : Nat} (h : z.cps.toList[0]? = some c) : (V.str ⟨#[c]⟩ = V.str "0") ↔ z.cps.toList[0]? = some 48 := by
  rw [h]
  have q5 : ("0" : Str).cps.toList[0]? = some 48 := by decide +kernel
  constructor
  · intro q
    injection q with q
    have q3 : (⟨#[c]⟩ : Str).cps.toList[0]? = ("0" : Str).cps.toList[0]? := by rw [q]
    have q4 : some c = ("0" : Str).cps.toList[0]? := q3
    rw [q4, q5]
  · intro q
    cases Option.some.inj q
    congr 1
theorem isNW_eq {z : Str} (h1 : 1 ≤ z.length) (h2 : z.length ≤ 4) : isNW z = (z.cps.toList.all figC && zeroOk z) := by
  unfold isNW
  rw [decide_eq_true ⟨h1, h2⟩, Bool.true_and]
theorem isNW_no {z : Str} (h : ¬ (1 ≤ z.length ∧ z.length ≤ 4)) : isNW z = false := by
  unfold isNW
  rw [decide_eq_false h, Bool.false_and, Bool.false_and]
theorem split_line {z y : Str} {p : Str} (h : p ∈ Txt.split z y) : p.length ≤ z.length := PyProof.Rows.part_short h
theorem get_strs {ws : List Str} {i : Nat} {y : V} (hy : (ws.map V.str)[i]? = some y) : ∃ z, ws[i]? = some z ∧ y = .str z := by
  rw [List.getElem?_map] at hy
  cases e : ws[i]? with
  | none => rw [e] at hy; cases hy
  | some z => rw [e] at hy; exact ⟨z, rfl, (Option.some.inj hy).symm⟩
theorem blank1' : ((" " : Str).length == 0) = false := by decide +kernel
section
variable {P : Program} {w : World} {K : PySem.W.Frag} {mg : Str → Option Value} {base : Heap} {C B : Addr}
def btF (v : V) : List (Str × V) := [("line", v)]
def spBT (B : Addr) : Sp := fun vs H Q _ => ∃ (a : Addr) (v : V), vs = [.ref a, v] ∧ H a = some (exo a B none) ∧ ∀ (d : Addr) (H' : Hp), (∀ b o, b ≠ a → H b = some o → H' b = some o) → H d = none → d ≠ a → H' a = some (exo a B (some d)) → H' d = some (exd d (btF v)) → Q .non H'
theorem ok_btinit {f : Addr} {fd : FuncData} (F : Fun K "__init__" "BadText.__init__" s_BadText___init f fd) (X : OexC K B) (nL : PySem.W.findIn K (.ref B) "line" = some none) : FnOk P w K mg base CX0 1 f fd ["self", "line"] (spBT B) := by
  refine F.ok sc_BadText___init (fun vs H Q E h => ?_) (fun cdv A outer s H vs Q E hr h => ?_)
  · obtain ⟨a, v, rfl, _⟩ := h
    rfl
  · obtain ⟨a, v, rfl, ha, k⟩ := h
    refine ⟨_, (pss_one (ps_ost (pv 0) (pv 1))), ?_⟩
    refine ⟨_, rfl, _, rfl, a, B, rfl, X, nL, .inl ⟨ha, fun d hd hne => ?_⟩⟩
    refine k d _ (fun b o n e => ?_) hd hne upd_same (Eq.trans (upd_ne hne) upd_same)
    rw [upd_ne n, upd_ne (ne_of_none e hd)]
    exact e
def RaiseT (B : Addr) (H : Hp) (n : Int) (E : XK) : Prop := ∀ d H', Same H H' → H d = none → H' d = some (.xd (btF (.int n))) → E (.ref B) (some d) H'
theorem raise_bt {H H1 : Hp} {n : Int} {E : XK} (R : RaiseT B H n E) (s1 : Same H H1) : [V.int n].length ≤ 1000 ∧ ∀ a, H1 a = none → spBT B (.ref a :: ([V.int n] ++ [])) (upd H1 a (exo a B none)) (fun v H2 => v = .non ∧ ∃ (d : Addr) (fs : List (Str × V)), H2 a = some (exo a B (some d)) ∧ H2 d = some (exd d fs) ∧ H1 d = none ∧ E (.ref B) (some d) (upd (del H2 a) d (HO.xd fs))) fun _ _ _ => False := by
  refine ⟨by show 1 ≤ 1000; decide, fun a ha => ⟨a, _, rfl, upd_same, fun d H' hk hdn hne h1 h2 => ⟨rfl, d, _, h1, h2, ?_, ?_⟩⟩⟩
  · rw [upd_ne hne] at hdn
    exact hdn
  · have hdn' : H1 d = none := by rw [upd_ne hne] at hdn; exact hdn
    refine R d _ (fun b o e => ?_) (s1.free hdn') upd_same
    have e1 := s1 _ _ e
    have hba : b ≠ a := ne_of_none e1 ha
    have hbd : b ≠ d := ne_of_none e1 hdn'
    rw [upd_ne hbd, del_ne hba]
    exact hk b o hba (by rw [upd_ne hba]; exact e1)
def spChkS (K : PySem.W.Frag) (B : Addr) : Sp := fun vs H Q E => ∃ (v : V) (t : Value) (b : Bool), vs = [v] ∧ TyX K H v t ∧ PySem.W.kitOne K t (.type "str") = some b ∧ (b = true → Q .non H) ∧ (b = false → RaiseT B H 0 E)
theorem ok_checkS {f fB : Addr} {fd fdB : FuncData} (F : Fun K "_check_string" "_check_string" s_check_string f fd) (T : Tx mg)
    (oex : OexC K B) (iC : PySem.W.findIn K (.ref B) "__init__" = some (some (.ref fB))) (tI : PySem.W.typeIn K (.ref fB) = some (.type "function")) (F1 : FnOk P w K mg base CX0 1 fB fdB ["self", "line"] (spBT B)) (hb : Binds K fdB ["self", "line"] []) (gB : mg "BadText" = some (.ref B)) :
    FnOk P w K mg base (CX P w) 3 f fd ["text"] (spChkS K B) := by
  refine F.okX sc_check_string (fun vs H Q E h => ?_) (fun cdv A outer s H vs Q E hr h => ?_)
  · obtain ⟨v, t, b, rfl, _⟩ := h
    rfl
  · obtain ⟨v, t, b, rfl, ty, hk, k1, k2⟩ := h
    refine ⟨_, (pss_one (ps_if (pt_not (pt_val (pe_callB call_isi (by rfl) T.isinstance (by decide +kernel) (pa_cons (pv 0) (pa_cons (pe_bltn (v := V.ty "str") (by rfl) T.str (by decide +kernel) rfl) pa_nil))))) (pss_one (ps_raise rfl (takes_of rfl rfl rfl rfl) (pmk_oex oex iC tI F1 (hr.mono (by decide)) hb .nil pass0 rfl gB (pa_cons pe_int pa_nil)))) pss_nil)), ?_⟩
    refine ⟨_, rfl, v, .ty "str", t, .type "str", b, rfl, .ty "str", ty, hk, _, rfl, ?_⟩
    cases b with
    | true => exact k1 rfl
    | false => exact raise_bt (k2 rfl) (Same.refl H)
def spNumWord : Sp := fun vs H Q _ => ∃ z : Str, vs = [.str z] ∧ z.length ≤ 100000 ∧ ∀ H', Same H H' → Q (.bl (isNW z)) H'
theorem ok_numword (A : At K mg "is_number_word" s_is_number_word ["word"]) (T : Tx mg) {tk : Tok} (hMF : mg "MOST_FIGURES" = some (.int 4 tk)) : Dfn P w K mg base "is_number_word" ["word"] 1 spNumWord := by
  refine A.ok sc_is_number_word (fun vs H Q E h => ?_) (fun f cdv A outer s H vs Q E hr h => ?_)
  · obtain ⟨z, rfl, _⟩ := h
    rfl
  · obtain ⟨z, rfl, hz, k⟩ := h
    have zl : z.length ≤ sizeLine := small_le hz
    refine ⟨_, (pss_cons (ps_if (PW.pt (pw_or (pt_not (pt_chain op_le op_le pe_int (pe_callB c_lenStr (by rfl) T.len (by decide +kernel) (pa_cons (pv 0) pa_nil)) (pe_glob (v := V.int 4) (by rfl) hMF ⟨_, rfl⟩))) (pw_or1 (pt_not (pt_val (pe_callB (cr_all rfl) (by rfl) T.all (by decide +kernel) (pa_cons (pe_lc (own := [("sign", 1)]) (g := (gName 1)) (tt := tYes) (te := (tOp rInSg (tVar 1) (tC (V.str "0123456789")))) (by rfl) sc_is_number_word.nd (pi_str (pv 0)) (blkOk_by (own := [("sign", 1)]) (N := n_is_number_word) (sc := (defScope s_is_number_word)) (by decide +kernel)) (fun _ _ _ _ _ => (pg_name (i := 1) sc_is_number_word.nd rfl (Or.inl rfl))) (fun _ _ _ _ _ => pts_nil) (fun _ _ _ _ _ => (pe_cmpR op_inSg (pv 1) pe_str rfl))) pa_nil))))))) (pss_one (ps_ret pe_bl)) pss_nil)
      (pss_one (ps_ret (pe_or (pe_cmpR op_eq (pv 0) pe_str (nomark _)) (pe_one (pe_cmpR op_ne (pe_ix ix_str (pv 0) pe_int (fun _ _ => rfl)) pe_str (nomark _))))))), ?_⟩
    refine ⟨_, rfl, z, rfl, zl, _, _, rfl, rfl, _, rfl, ?_⟩
    by_cases n1 : 1 ≤ z.length
    · have d1 : decide ((1 : Int) ≤ (z.length : Int)) = true := decide_eq_true (by omega)
      rw [d1]
      refine ⟨_, _, rfl, rfl, _, rfl, ?_⟩
      by_cases n2 : z.length ≤ 4
      · have d2 : decide ((z.length : Int) ≤ (4 : Int)) = true := decide_eq_true (by omega)
        rw [d2]
        rw [isNW_eq n1 n2] at k
        refine ⟨_, rfl, z, rfl, fun D hD => ?_⟩
        refine lc_signs (fun i H' => H' D = some (.lst (((z.cps.toList.take i).map figC).map V.bl)) ∧ Same H H') ⟨upd_same, same_new hD⟩ ?_ ?_
        · rintro i c H1 hc ⟨h1, s1⟩
          have hil : i < z.length := (List.getElem?_eq_some_iff.mp hc).1
          refine ⟨rfl, _, rfl, c, _, rfl, rfl, ?_⟩
          refine ⟨_, h1, by rw [List.length_map, List.length_map, List.length_take]; exact small_lt (by omega), ?_, same_mut s1 hD⟩
          rw [upd_same, List.take_add_one, hc, List.map_append, List.map_append]
          rfl
        · rintro H1 ⟨h1, s1⟩
          have el : z.cps.toList.take z.length = z.cps.toList := List.take_of_length_le (Nat.le_refl _)
          rw [el] at h1
          refine ⟨D, z.cps.toList.map figC, rfl, SqL.of h1, _, rfl, ?_⟩
          have ea : (z.cps.toList.map figC).all id = z.cps.toList.all figC := by rw [List.all_map]; rfl
          rw [ea]
          cases hf : z.cps.toList.all figC with
          | false =>
            rw [hf, Bool.false_and] at k
            exact k H1 s1
          | true =>
            rw [hf, Bool.true_and] at k
            refine ⟨_, rfl, rfl, _, rfl, ?_⟩
            unfold zeroOk at k
            refine ite2 (fun hc => ?_) (fun hc => ?_)
            · have hz0 : z = "0" := by
                have := of_decide_eq_true hc
                injection this
              rw [decide_eq_true hz0, Bool.true_or] at k
              exact k H1 s1
            have hz0 : ¬ z = "0" := fun q => hc (decide_eq_true (by rw [q]))
            rw [decide_eq_false hz0, Bool.false_or] at k
            obtain ⟨c, hc0⟩ : ∃ c, z.cps.toList[0]? = some c := by
              have : 0 < z.cps.toList.length := by show 0 < z.length; omega
              exact ⟨_, List.getElem?_eq_getElem this⟩
            refine ⟨_, rfl, z, 0, c, rfl, rfl, zl, atI_nat (j := 0) hc0, rfl, ?_⟩
            have dz : (!decide (V.str ⟨#[c]⟩ = V.str "0")) = !decide (z.cps.toList[0]? = some 48) := by
              congr 1
              exact decide_eq_decide.mpr (zero_iff hc0)
            rw [dz]
            exact k H1 s1
      · have d2 : decide ((z.length : Int) ≤ (4 : Int)) = false := decide_eq_false (by omega)
        rw [d2]
        rw [isNW_no (fun q => n2 q.2)] at k
        exact k H (Same.refl H)
    · have d1 : decide ((1 : Int) ≤ (z.length : Int)) = false := decide_eq_false (by omega)
      rw [d1]
      rw [isNW_no (fun q => n1 q.1)] at k
      exact ⟨_, rfl, k H (Same.refl H)⟩
def spIsLine : Sp := fun vs H Q _ => ∃ z : Str, vs = [.str z] ∧ z.length ≤ 90000 ∧ ∀ H', Same H H' → Q (.bl (lineV z).isSome) H'
theorem lineV_dash : lineV "-" = some [] := if_pos rfl
theorem lineV_some {z : Str} (h : z ≠ "-") : (lineV z).isSome = (Txt.split z " ").all isNW := by
  unfold lineV
  rw [if_neg h]
  cases e : (Txt.split z " ").all isNW with
  | true => rw [if_pos rfl]; rfl
  | false => rw [if_neg (by decide)]; rfl
theorem ok_isline (A : At K mg "_is_line" s_is_line ["line"]) (T : Tx mg) (G_is_number_word : Dfn P w K mg base "is_number_word" ["word"] 1 spNumWord) : Dfn P w K mg base "_is_line" ["line"] 2 spIsLine := by
  refine A.ok sc_is_line (fun vs H Q E h => ?_) (fun f cdv A outer s H vs Q E hr h => ?_)
  · obtain ⟨z, rfl, _⟩ := h
    rfl
  · obtain ⟨z, rfl, hz, k⟩ := h
    refine ⟨_, (pss_one (ps_ret (pe_or (pe_cmpR op_eq (pv 0) pe_str (nomark _)) (pe_one (pe_callB (cr_all rfl) (by rfl) T.all (by decide +kernel) (pa_cons (pe_lc (own := [("word", 1)]) (g := (gName 1)) (tt := tYes) (te := (tCall spNumWord [] E0 (tCons (tVar 1) tNil))) (by rfl) sc_is_line.nd (pi_list (pe_split (pv 0) pe_str)) (blkOk_by (own := [("word", 1)]) (N := n_is_line) (sc := (defScope s_is_line)) (by decide +kernel)) (fun _ _ _ _ _ => (pg_name (i := 1) sc_is_line.nd rfl (Or.inl rfl))) (fun _ _ _ _ _ => pts_nil) (fun _ _ _ _ _ => (pe_d G_is_number_word (hr.mono (by decide)) (pa_cons (pv 1) pa_nil)))) pa_nil)))))), ?_⟩
    refine ⟨_, rfl, rfl, _, rfl, ?_⟩
    refine ite2 (fun hc => ?_) (fun hc => ?_)
    · have hz0 : z = "-" := by
        have := of_decide_eq_true hc
        injection this
      rw [hz0, lineV_dash] at k
      exact k H (Same.refl H)
    have hne : z ≠ "-" := fun q => hc (decide_eq_true (by rw [q]))
    rw [lineV_some hne] at k
    have sl := split_len z " "
    refine ⟨_, rfl, ⟨_, rfl⟩, _, " ", rfl, rfl, blank1', small_le (by omega), fun p hp => ?_⟩
    obtain ⟨ws, ew⟩ : ∃ ws, ws = Txt.split z " " := ⟨_, rfl⟩
    have hws : ∀ x ∈ ws, x.length ≤ z.length := fun x hx => split_line (y := " ") (by rw [← ew]; exact hx)
    rw [← ew] at k sl ⊢
    refine ⟨p, rfl, ⟨_, SqL.of upd_same⟩, fun D hD => ?_⟩
    have s0 := same_new (o := .lst (ws.map V.str)) hp
    refine lc_list (xs := ws.map V.str) (fun i H' => H' D = some (.lst (((ws.take i).map isNW).map V.bl)) ∧ Same (upd H p (.lst (ws.map V.str))) H') ⟨upd_same, same_new hD⟩ (fun i H' _ h => SqL.of (h.2 _ _ upd_same)) ?_ ?_
    · rintro i y H1 hy ⟨h1, s1⟩
      obtain ⟨o, ho, rfl⟩ := get_strs hy
      have hil : i < ws.length := (List.getElem?_eq_some_iff.mp ho).1
      have ol := hws o (List.mem_of_getElem? ho)
      refine ⟨rfl, _, rfl, o, rfl, by omega, fun H2 s2 => ?_⟩
      have h2 := s2 _ _ h1
      refine ⟨_, h2, by rw [List.length_map, List.length_map, List.length_take]; exact small_lt (by omega), ?_, same_mut (s1.trans s2) hD⟩
      rw [upd_same, List.take_add_one, ho, List.map_append, List.map_append]
      rfl
    · rintro H1 ⟨h1, s1⟩
      rw [List.length_map, List.take_length] at h1
      refine ⟨D, ws.map isNW, rfl, SqL.of h1, ?_⟩
      have ea : (ws.map isNW).all id = ws.all isNW := by rw [List.all_map]; rfl
      rw [ea]
      exact k H1 (s0.trans s1)
def spReadLine (K : PySem.W.Frag) : Sp := fun vs H Q _ => ∃ (z : Str) (r : List Int), vs = [.str z] ∧ z.length ≤ 90000 ∧ lineV z = some r ∧ ∀ p H', Same H H' → SqT K H' p (r.map V.int) → Q (.ref p) H'
theorem ok_readline (A : At K mg "_read_line" s_read_line ["line"]) (T : Tx mg) : Dfn P w K mg base "_read_line" ["line"] 1 (spReadLine K) := by
  refine A.ok sc_read_line (fun vs H Q E h => ?_) (fun f cdv A outer s H vs Q E hr h => ?_)
  · obtain ⟨z, r, rfl, _⟩ := h
    rfl
  · obtain ⟨z, r, rfl, hz, hl, k⟩ := h
    refine ⟨_, (pss_one (ps_ret (pe_ifExp (pt_cmpR op_eq (pv 0) pe_str (nomark _)) (pe_tup pa_nil) (pe_callTy c_tuple (by rfl) T.tuple (by decide +kernel) (pa_cons (pe_lc (own := [("word", 1)]) (g := (gName 1)) (tt := tYes) (te := (tCB rIntStr (tCons (tVar 1) tNil))) (by rfl) sc_read_line.nd (pi_list (pe_split (pv 0) pe_str)) (blkOk_by (own := [("word", 1)]) (N := n_read_line) (sc := (defScope s_read_line)) (by decide +kernel)) (fun _ _ _ _ _ => (pg_name (i := 1) sc_read_line.nd rfl (Or.inl rfl))) (fun _ _ _ _ _ => pts_nil) (fun _ _ _ _ _ => (pe_callTy c_intStr (by rfl) T.int (by decide +kernel) (pa_cons (pv 1) pa_nil)))) pa_nil))))), ?_⟩
    refine ⟨_, rfl, rfl, _, rfl, ?_⟩
    refine ite2 (fun hc => ?_) (fun hc => ?_)
    · have hz0 : z = "-" := by
        have := of_decide_eq_true hc
        injection this
      rw [hz0, lineV_dash] at hl
      cases hl
      exact ⟨by show 0 ≤ sizeLine; decide, fun p hp => k p _ (same_new hp) (SqT.of upd_same)⟩
    · have hne : z ≠ "-" := fun q => hc (decide_eq_true (by rw [q]))
      have sl := split_len z " "
      have hall : (Txt.split z " ").all isNW = true ∧ r = (Txt.split z " ").map nwv := by
        unfold lineV at hl
        rw [if_neg hne] at hl
        by_cases c : (Txt.split z " ").all isNW = true
        · rw [if_pos c] at hl
          exact ⟨c, (Option.some.inj hl).symm⟩
        · rw [if_neg c] at hl
          cases hl
      refine ⟨_, rfl, ⟨_, rfl⟩, _, " ", rfl, rfl, blank1', small_le (by omega), fun p hp => ?_⟩
      obtain ⟨ws, ew⟩ : ∃ ws, ws = Txt.split z " " := ⟨_, rfl⟩
      rw [← ew] at hall sl ⊢
      obtain ⟨ha, rfl⟩ := hall
      refine ⟨p, rfl, ⟨_, SqL.of upd_same⟩, fun D hD => ?_⟩
      have s0 := same_new (o := .lst (ws.map V.str)) hp
      refine lc_list (xs := ws.map V.str) (fun i H' => H' D = some (.lst (((ws.take i).map nwv).map V.int)) ∧ Same (upd H p (.lst (ws.map V.str))) H') ⟨upd_same, same_new hD⟩ (fun i H' _ h => SqL.of (h.2 _ _ upd_same)) ?_ ?_
      · rintro i y H1 hy ⟨h1, s1⟩
        obtain ⟨o, ho, rfl⟩ := get_strs hy
        have hil : i < ws.length := (List.getElem?_eq_some_iff.mp ho).1
        have N := nws (List.all_eq_true.mp ha o (List.mem_of_getElem? ho))
        have n4 := N.s
        refine ⟨rfl, _, rfl, o, nwv o, rfl, N.i, by omega, _, h1, by rw [List.length_map, List.length_map, List.length_take]; exact small_lt (by omega), ?_, same_mut s1 hD⟩
        rw [upd_same, List.take_add_one, ho, List.map_append, List.map_append]
        rfl
      · rintro H1 ⟨h1, s1⟩
        rw [List.length_map, List.take_length] at h1
        exact ⟨D, _, rfl, .inl ⟨SqL.of h1, fun q hq => k q _ ((s0.trans s1).trans (same_new hq)) (SqT.of upd_same)⟩⟩
end
end Fo

set_option maxRecDepth 100000
set_option maxHeartbeats 4000000
namespace Fo
open PySem PySem.Spec PyProof.Rows L2
theorem line1' : (("\n" : Str).length == 0) = false := by decide +kernel
theorem readV_of {z : Str} {ls : List Str} {b : Str} (h : Txt.split z "\n" = ls ++ [b]) : readV z = match firstLine 0 ls with
    | some i => .text ((i : Int) + 1)
    | none => if b ≠ "" ∨ ls = [] then .text ((ls.length + 1 : Nat) : Int) else .rows (ls.map rowOf) := by
  have e1 : (ls ++ [b]).dropLast = ls := List.dropLast_concat
  have e2 : (ls ++ [b]).getLast? = some b := List.getLast?_concat
  have e3 : (ls ++ [b]).length = ls.length + 1 := by rw [List.length_append]; rfl
  unfold readV
  rw [h, e1, e2, e3]
  cases firstLine 0 ls with
  | some i => rfl
  | none =>
    show (if some b ≠ some ("" : Str) ∨ ls = [] then _ else _) = (if b ≠ "" ∨ ls = [] then _ else _)
    by_cases c : b ≠ "" ∨ ls = []
    · rw [if_pos c, if_pos (c.imp (fun q e => q (Option.some.inj e)) id)]
    · rw [if_neg c, if_neg (fun q => c (q.imp (fun q e => q (by rw [e])) id))]
theorem split_cut (z : Str) : ∃ ls b, Txt.split z "\n" = ls ++ [b] := by
  have h := PyProof.Rows.split_pos z "\n"
  rcases List.eq_nil_or_concat (Txt.split z "\n") with e | ⟨ls, b, e⟩
  · rw [e] at h
    exact absurd h (by decide)
  · exact ⟨ls, b, by rw [e, List.concat_eq_append]⟩
theorem rowOf_some {l : Str} {r : List Int} (h : lineV l = some r) : rowOf l = r := by unfold rowOf; rw [h]; rfl
theorem lineV_len {l : Str} {r : List Int} (h : lineV l = some r) : r.length ≤ l.length + 2 := by
  unfold lineV at h
  by_cases c : l = "-"
  · rw [if_pos c] at h
    cases h
    exact Nat.zero_le _
  · rw [if_neg c] at h
    by_cases c2 : (Txt.split l " ").all isNW = true
    · rw [if_pos c2] at h
      cases h
      rw [List.length_map]
      exact split_len l " "
    · rw [if_neg c2] at h
      cases h
def optRows (rs : List (List Int)) : List (Option (List V)) := rs.map fun r => some (r.map V.int)
section
variable {P : Program} {w : World} {K : PySem.W.Frag} {mg : Str → Option Value} {base : Heap} {C B BB : Addr}
theorem RowsT.tgs' {H : Hp} : ∀ {vs : List V} {rs : List (List Int)}, RowsT K H vs rs → (∀ r ∈ rs, r.length ≤ 100000) → TgAll K C H vs (optRows rs)
  | _, _, .nil, _ => .nil
  | _, _, .cons h r, hl => .cons (Tg.ints h (hl _ List.mem_cons_self)) (r.tgs' fun z hz => hl z (List.mem_cons_of_mem _ hz))
def spReadT (K : PySem.W.Frag) (C B BB : Addr) : Sp := fun vs H Q E => ∃ (v : V) (t : Value) (b : Bool), vs = [v] ∧ TyX K H v t ∧ PySem.W.kitOne K t (.type "str") = some b ∧ (b = false → RaiseT B H 0 E) ∧ (b = true → ∃ z : Str, v = .str z ∧ z.length ≤ 50000 ∧ (∀ n, readV z = .text n → RaiseT B H n E) ∧
  ∀ rs, readV z = .rows rs → (∀ u n, dueRows (some (optRows rs)) = some (u, n) → ∀ d H', Same H H' → H d = none → H' d = some (.xd (badF (.str u) (.int n))) → E (.ref BB) (some d) H') ∧
    (dueRows (some (optRows rs)) = none → ∀ p dx a n vs H', Same H H' → H p = none → H' p = some (.ins C dx (tf (.ref a) n)) → SqT K H' a vs → RowsT K H' vs rs → Q (.ref p) H'))
theorem ok_readT {f fB fS fI : Addr} {fd fdB fdS fdI : FuncData} (F : Fun K "read_table" "read_table" s_read_table f fd) (T : Tx mg)
    (oex : OexC K B) (iC : PySem.W.findIn K (.ref B) "__init__" = some (some (.ref fB))) (tI : PySem.W.typeIn K (.ref fB) = some (.type "function")) (F1 : FnOk P w K mg base CX0 1 fB fdB ["self", "line"] (spBT B)) (hb : Binds K fdB ["self", "line"] []) (gB : mg "BadText" = some (.ref B))
    (FCS : FnOk P w K mg base (CX P w) 3 fS fdS ["text"] (spChkS K B)) (mCS : mg "_check_string" = some (.ref fS)) (kCS : PySem.W.keepIn K (.ref fS) = true) (bCS : Binds K fdS ["text"] [])
    (MI : Mk K C fI) (FX : FnOk P w K mg base (CX P w) 6 fI fdI ["self", "rows"] (spInitX K C BB)) (bI : Binds K fdI ["self", "rows"] []) (gC : mg "Table" = some (.ref C))
    (G_is_line : Dfn P w K mg base "_is_line" ["line"] 2 spIsLine) (G_read_line : Dfn P w K mg base "_read_line" ["line"] 1 (spReadLine K)) :
    FnOk P w K mg base (CX P w) 8 f fd ["text"] (spReadT K C B BB) := by
  refine F.okX sc_read_table (fun vs H Q E h => ?_) (fun cdv A outer s H vs Q E hr h => ?_)
  · obtain ⟨v, t, b, rfl, _⟩ := h
    rfl
  · obtain ⟨v, t, b, rfl, ty, hk, k0, k1⟩ := h
    refine ⟨_, (pss_cons (ps_expr (pe_call FCS (hr.mono (by decide)) rfl mCS kCS bCS .nil (fun pins σ H s e s' I h => passAt (takes_of rfl rfl rfl rfl) σ pins H s e s' I h) (pa_cons (pv 0) pa_nil)))
      (pss_cons (ps_set (i := 1) sc_read_table.nd rfl (Or.inl rfl) (pe_split (pv 0) pe_str))
      (pss_cons (ps_set (i := 2) sc_read_table.nd rfl (Or.inl rfl) (pe_bm0 PySem.F.plainAttrs_list PySem.F.slot_list_pop PySem.F.type_list_pop mt_pop (pv 1)))
      (pss_cons (ps_set (i := 3) sc_read_table.nd rfl (Or.inl rfl) (pe_lst pa_nil))
      (pss_cons (ps_for PassesOwn.leaving rfl (pi_enumS (k := 1) (by decide) (by rfl) T.enumerate (pa_cons (pv 1) pa_nil)) (pg_tup rfl (pgs_cons (pg_name (i := 4) sc_read_table.nd rfl (Or.inl rfl)) (pgs_cons (pg_name (i := 5) sc_read_table.nd rfl (Or.inl rfl)) pgs_nil)))
      (pss_cons (ps_if (pt_not (pt_val (pe_d G_is_line (hr.mono (by decide)) (pa_cons (pv 5) pa_nil)))) (pss_one (ps_raise rfl (takes_of rfl rfl rfl rfl) (pmk_oex oex iC tI F1 (hr.mono (by decide)) hb .nil pass0 rfl gB (pa_cons (pv 4) pa_nil)))) pss_nil)
      (pss_one (ps_expr (pe_bm PySem.F.plainAttrs_list PySem.F.slot_list_append PySem.F.type_list_append mt_append (pv 3) (pa_cons (pe_d G_read_line (hr.mono (by decide)) (pa_cons (pv 5) pa_nil)) pa_nil))))))
      (pss_cons (ps_if (PW.pt (pw_or (pt_cmpR op_ne (pv 2) pe_str (nomark _)) (pw_or1 (pt_cmpR op_eq (pe_callB c_len (by rfl) T.len (by decide +kernel) (pa_cons (pv 1) pa_nil)) pe_int (nomark _))))) (pss_one (ps_raise rfl (takes_of rfl rfl rfl rfl) (pmk_oex oex iC tI F1 (hr.mono (by decide)) hb .nil pass0 rfl gB (pa_cons (pe_op op_add pe_int (pe_callB c_len (by rfl) T.len (by decide +kernel) (pa_cons (pv 1) pa_nil))) pa_nil)))) pss_nil)
      (pss_one (ps_ret (pe_make MI FX (hr.mono (by decide)) rfl gC bI .nil (fun pins σ H s e s' I h => passAt (takes_of rfl rfl rfl rfl) σ pins H s e s' I h) (pa_cons (pe_callTy c_tuple (by rfl) T.tuple (by decide +kernel) (pa_cons (pv 3) pa_nil)) pa_nil)))))))))), ?_⟩
    refine ⟨_, rfl, v, t, b, rfl, ty, hk, fun hb => ?_, k0⟩
    obtain ⟨z, rfl, hz, k1, k2⟩ := k1 hb
    obtain ⟨ls, bh, ez⟩ := split_cut z
    have sl := split_len z "\n"
    have hln : ∀ x ∈ ls, x.length ≤ z.length := fun x hx => split_line (y := "\n") (by rw [ez]; exact List.mem_append_left _ hx)
    have er := readV_of ez
    rw [ez, List.length_append] at sl
    have sl' : ls.length ≤ z.length + 1 := by
      have : [bh].length = 1 := rfl
      omega
    refine ⟨_, rfl, ⟨_, rfl⟩, _, "\n", rfl, rfl, line1', small_le (by omega), fun p hp => ?_⟩
    rw [ez]
    have e1 : ((ls ++ [bh]).map V.str)[((ls ++ [bh]).map V.str).length - 1]? = some (V.str bh) := by
      rw [List.map_append, List.length_append]
      simp
    have e2 : ((ls ++ [bh]).map V.str).dropLast = ls.map V.str := by
      rw [List.map_append]
      exact List.dropLast_concat
    refine ⟨_, rfl, .inl ⟨rfl, _, SqL.of upd_same⟩, p, _, _, rfl, rfl, upd_same, e1, ?_⟩
    rw [e2]
    obtain ⟨H1, eH⟩ : ∃ H1, H1 = upd (upd H p (.lst ((ls ++ [bh]).map V.str))) p (.lst (ls.map V.str)) := ⟨_, rfl⟩
    have hp1 : H1 p = some (.lst (ls.map V.str)) := by rw [eH]; exact upd_same
    have s1 : Same H H1 := by rw [eH]; exact same_mut (same_new hp) hp
    rw [← eH]
    refine ⟨Nat.zero_le _, fun fa hf => ?_⟩
    have sf := same_new (o := .lst []) hf
    refine ⟨_, rfl, p, _, rfl, SqL.of (sf _ _ hp1), for_enumS (k := 1) (xs := ls.map V.str) (fun i σ' H' => (∃ x4 x5, σ' = [some (.str z), some (.ref p), some (.str bh), some (.ref fa), x4, x5]) ∧ ∃ ws, H' fa = some (.lst ws) ∧ RowsT K H' ws ((ls.take i).map rowOf) ∧ Same H1 H' ∧ ∀ q ∈ ls.take i, (lineV q).isSome = true) ⟨⟨_, _, rfl⟩, [], upd_same, .nil, sf, fun q hq => (by cases hq)⟩ (fun i σ' H' _ h => by obtain ⟨_, _, _, _, s2, _⟩ := h; exact SqL.of (s2 _ _ hp1)) ?_ ?_⟩
    · rintro i u σ' H2 c hu ⟨⟨x4, x5, rfl⟩, ws, h2, hw, s2, hall⟩ hc
      obtain ⟨o, ho, rfl⟩ := get_strs hu
      have hir : i < ls.length := (List.getElem?_eq_some_iff.mp ho).1
      have ol := hln o (List.mem_of_getElem? ho)
      have hfz : fa ≠ c := ne_of_none h2 hc
      have s3 := s2.trans (same_new (o := .tup [.int ((i + 1 : Nat) : Int), V.str o]) hc)
      have h3 : (upd H2 c (.tup [.int ((i + 1 : Nat) : Int), V.str o])) fa = some (.lst ws) := by rw [upd_ne hfz]; exact h2
      have hw3 := hw.same (same_new (o := .tup [.int ((i + 1 : Nat) : Int), V.str o]) hc)
      refine ⟨c, _, rfl, SqT.of upd_same, rfl, _, _, rfl, _, _, rfl, rfl, ?_⟩
      refine ⟨_, rfl, o, rfl, by omega, fun H4 s4 => ⟨_, rfl, ?_⟩⟩
      have h4 := s4 _ _ h3
      cases hso : lineV o with
      | none =>
        have hr1 : readV z = .text ((i : Int) + 1) := by
          rw [er, firstLine_at ls 0 i o ho hall (by rw [hso]; decide), Nat.zero_add]
        have R := k1 _ hr1
        rw [show (i : Int) + 1 = ((i + 1 : Nat) : Int) by omega] at R
        exact ⟨_, rfl, raise_bt R (s1.trans (s3.trans s4))⟩
      | some r =>
        refine ⟨_, rfl, .inl ⟨rfl, _, SqL.of h4⟩, _, rfl, o, r, rfl, by omega, hso, fun q H5 s5 hq => ?_⟩
        have h5 := s5 _ _ h4
        refine ⟨fa, ws, .ref q, rfl, rfl, h5, small_lt (by rw [hw.len, List.length_map, List.length_take]; omega), ⟨_, _, rfl⟩, ws ++ [.ref q], upd_same, ?_, same_mut ((s3.trans s4).trans s5) hf, fun q' hq' => ?_⟩
        · rw [List.take_add_one, ho, List.map_append]
          have e9 : (some o).toList.map rowOf = [r] := by rw [← rowOf_some hso]; rfl
          rw [e9]
          exact RowsT.snoc (r := r) (sqT_put hq h5) (((hw3.same s4).same s5).put h5)
        · rw [List.take_add_one, ho] at hq'
          rcases List.mem_append.mp hq' with g | g
          · exact hall q' g
          · rw [List.mem_singleton.mp g, hso]; rfl
    · rintro σ' H2 ⟨⟨x4, x5, rfl⟩, ws, h2, hw, s2, hall⟩
      rw [List.length_map, List.take_length] at hw hall
      have ef := firstLine_all ls 0 hall
      rw [ef] at er
      have s02 := s1.trans s2
      refine ⟨_, rfl, rfl, _, rfl, ?_⟩
      by_cases cb : bh = ""
      · have db : (!decide (V.str bh = V.str "")) = false := by rw [cb, decide_eq_true rfl]; rfl
        rw [db]
        refine ⟨_, rfl, p, _, rfl, .inl (SqL.of (s2 _ _ hp1)), rfl, _, rfl, ?_⟩
        by_cases cl : ls = []
        · have d0 : decide (V.int ((ls.map V.str).length : Nat) = V.int 0) = true := by rw [cl]; exact decide_eq_true rfl
          rw [d0]
          have hr1 : readV z = .text ((ls.length + 1 : Nat) : Int) := er.trans (if_pos (.inr cl))
          have R := k1 _ hr1
          refine ⟨_, rfl, p, _, rfl, .inl (SqL.of (s2 _ _ hp1)), ?_⟩
          rw [show ((ls.length + 1 : Nat) : Int) = 1 + ((ls.map V.str).length : Nat) by rw [List.length_map]; omega] at R
          exact ⟨_, _, rfl, rfl, raise_bt R s02⟩
        · have d0 : decide (V.int ((ls.map V.str).length : Nat) = V.int 0) = false := decide_eq_false fun q => by
            injection q with q
            rw [List.length_map] at q
            have : ls.length = 0 := by omega
            exact cl (List.length_eq_zero_iff.mp this)
          rw [d0]
          have hr1 : readV z = .rows (ls.map rowOf) := er.trans (if_neg (fun q => q.elim (fun q => q cb) cl))
          obtain ⟨kE, kQ⟩ := k2 _ hr1
          refine ⟨_, rfl, fa, ws, rfl, .inl ⟨SqL.of h2, fun c hc => fun x dx nx ndx nex => ?_⟩⟩
          have s3 := s02.trans (same_new (o := .tup ws) hc)
          have sx : Same (upd H2 c (.tup ws)) (upd (upd (upd H2 c (.tup ws)) dx (.own x)) x (.ins C dx [])) := (same_new ndx).trans (same_new (by rw [upd_ne nex.symm]; exact nx))
          have hcx := sqT_same sx (SqT.of (K := K) (upd_same (H := H2) (a := c) (o := .tup ws)))
          have hwx := (hw.same (same_new (o := .tup ws) hc)).same sx
          have rl : ∀ r ∈ ls.map rowOf, r.length ≤ 100000 := fun r hr => by
            obtain ⟨l, hl, rfl⟩ := List.mem_map.mp hr
            have h9 := hall l hl
            cases e : lineV l with
            | none => rw [e] at h9; cases h9
            | some r =>
              rw [rowOf_some e]
              have := lineV_len e
              have := hln l hl
              omega
          refine ⟨x, dx, .ref c, some (optRows (ls.map rowOf)), rfl, upd_same, .tup hcx (hwx.tgs' rl) (by rw [hw.len, List.length_map]; omega), fun h0 a xs H3 ev hS kp h3 => ?_, fun u n hd d H3 s4 hdn h3 => kE u n hd d H3 ((s3.trans sx).trans s4) ((s3.trans sx).free hdn) h3⟩
          have sy : Same (upd H2 c (.tup ws)) H3 := fun b o e => kp b o (ne_of_none e nx) (sx _ _ e)
          refine ⟨rfl, kQ h0 x dx c xs.length ws H3 (s3.trans sy) (s3.free nx) h3 (sqT_same sy (SqT.of upd_same)) ((hw.same (same_new (o := .tup ws) hc)).same sy)⟩
      · have db : (!decide (V.str bh = V.str "")) = true := by
          rw [decide_eq_false (fun q => cb (by injection q))]; rfl
        rw [db]
        have hr1 : readV z = .text ((ls.length + 1 : Nat) : Int) := er.trans (if_pos (.inl cb))
        have R := k1 _ hr1
        refine ⟨_, rfl, p, _, rfl, .inl (SqL.of (s2 _ _ hp1)), ?_⟩
        rw [show ((ls.length + 1 : Nat) : Int) = 1 + ((ls.map V.str).length : Nat) by rw [List.length_map]; omega] at R
        exact ⟨_, _, rfl, rfl, raise_bt R s02⟩
end
end Fo

set_option maxRecDepth 100000
set_option maxHeartbeats 4000000
namespace Fo
open PySem PySem.Spec PyProof.Rows L2
section
variable {P : Program} {w : World} {K : PySem.W.Frag} {mg : Str → Option Value} {base : Heap} {C B BB : Addr}
theorem str_inj {x y : Str} : (V.str x = V.str y) ↔ x = y := ⟨fun q => by injection q, fun q => by rw [q]⟩
def spReadD (K : PySem.W.Frag) (B : Addr) : Sp := fun vs H Q E => ∃ (v : V) (t : Value) (b : Bool), vs = [v] ∧ TyX K H v t ∧ PySem.W.kitOne K t (.type "str") = some b ∧ (b = false → RaiseT B H 0 E) ∧ (b = true → ∃ z : Str, v = .str z ∧ z.length ≤ 50000 ∧ (dealV z = none → RaiseT B H 1 E) ∧
  ∀ os, dealV z = some os → ∀ p H', Same H H' → SqT K H' p (os.map optV) → Q (.ref p) H')
theorem ok_readD {f fB fS : Addr} {fd fdB fdS : FuncData} (F : Fun K "read_dealing" "read_dealing" s_read_dealing f fd) (T : Tx mg)
    (oex : OexC K B) (iC : PySem.W.findIn K (.ref B) "__init__" = some (some (.ref fB))) (tI : PySem.W.typeIn K (.ref fB) = some (.type "function")) (F1 : FnOk P w K mg base CX0 1 fB fdB ["self", "line"] (spBT B)) (hb : Binds K fdB ["self", "line"] []) (gB : mg "BadText" = some (.ref B))
    (FCS : FnOk P w K mg base (CX P w) 3 fS fdS ["text"] (spChkS K B)) (mCS : mg "_check_string" = some (.ref fS)) (kCS : PySem.W.keepIn K (.ref fS) = true) (bCS : Binds K fdS ["text"] [])
    (G_is_number_word : Dfn P w K mg base "is_number_word" ["word"] 1 spNumWord) :
    FnOk P w K mg base (CX P w) 4 f fd ["text"] (spReadD K B) := by
  refine F.okX sc_read_dealing (fun vs H Q E h => ?_) (fun cdv A outer s H vs Q E hr h => ?_)
  · obtain ⟨v, t, b, rfl, _⟩ := h
    rfl
  · obtain ⟨v, t, b, rfl, ty, hk, k0, k1⟩ := h
    refine ⟨_, (pss_cons (ps_expr (pe_call FCS (hr.mono (by decide)) rfl mCS kCS bCS .nil (fun pins σ H s e s' I h => passAt (takes_of rfl rfl rfl rfl) σ pins H s e s' I h) (pa_cons (pv 0) pa_nil)))
      (pss_cons (ps_set (i := 1) sc_read_dealing.nd rfl (Or.inl rfl) (pe_split (pv 0) pe_str))
      (pss_cons (ps_if (pt_not (pt_val (pe_callB (cr_all rfl) (by rfl) T.all (by decide +kernel) (pa_cons (pe_lc (own := [("word", 2)]) (g := (gName 2)) (tt := tYes) (te := (tOrV (tOp rEq (tVar 2) (tC (V.str "-"))) (tCall spNumWord [] E0 (tCons (tVar 2) tNil)))) (by rfl) sc_read_dealing.nd (pi_list (pv 1)) (blkOk_by (own := [("word", 2)]) (N := n_read_dealing) (sc := (defScope s_read_dealing)) (by decide +kernel)) (fun _ _ _ _ _ => (pg_name (i := 2) sc_read_dealing.nd rfl (Or.inl rfl))) (fun _ _ _ _ _ => pts_nil) (fun _ _ _ _ _ => (pe_or (pe_cmpR op_eq (pv 2) pe_str (nomark _)) (pe_one (pe_d G_is_number_word (hr.mono (by decide)) (pa_cons (pv 2) pa_nil)))))) pa_nil)))) (pss_one (ps_raise rfl (takes_of rfl rfl rfl rfl) (pmk_oex oex iC tI F1 (hr.mono (by decide)) hb .nil pass0 rfl gB (pa_cons pe_int pa_nil)))) pss_nil)
      (pss_one (ps_ret (pe_callTy c_tuple (by rfl) T.tuple (by decide +kernel) (pa_cons (pe_lc (own := [("word", 2)]) (g := (gName 2)) (tt := tYes) (te := (tIf (tTest (tOp rEq (tVar 2) (tC (V.str "-")))) (tC V.non) (tCB rIntStr (tCons (tVar 2) tNil)))) (by rfl) sc_read_dealing.nd (pi_list (pv 1)) (blkOk_by (own := [("word", 2)]) (N := n_read_dealing) (sc := (defScope s_read_dealing)) (by decide +kernel)) (fun _ _ _ _ _ => (pg_name (i := 2) sc_read_dealing.nd rfl (Or.inl rfl))) (fun _ _ _ _ _ => pts_nil) (fun _ _ _ _ _ => (pe_ifExp (pt_cmpR op_eq (pv 2) pe_str (nomark _)) pe_non (pe_callTy c_intStr (by rfl) T.int (by decide +kernel) (pa_cons (pv 2) pa_nil))))) pa_nil))))))), ?_⟩
    refine ⟨_, rfl, v, t, b, rfl, ty, hk, fun hb => ?_, k0⟩
    obtain ⟨z, rfl, hz, k1, k2⟩ := k1 hb
    have sl := split_len z " "
    refine ⟨_, rfl, ⟨_, rfl⟩, _, " ", rfl, rfl, blank1', small_le (by omega), fun p hp => ?_⟩
    have er : dealV z = if (Txt.split z " ").all dWord = true then some ((Txt.split z " ").map dOpt) else none := rfl
    have hws : ∀ x ∈ Txt.split z " ", x.length ≤ z.length := fun x hx => split_line hx
    obtain ⟨ws, ew⟩ : ∃ ws, ws = Txt.split z " " := ⟨_, rfl⟩
    rw [← ew] at er sl hws ⊢
    have s0 := same_new (o := .lst (ws.map V.str)) hp
    obtain ⟨H1, e1⟩ : ∃ H1, H1 = upd H p (.lst (ws.map V.str)) := ⟨_, rfl⟩
    have hp1 : H1 p = some (.lst (ws.map V.str)) := by rw [e1]; exact upd_same
    rw [← e1] at s0 ⊢
    refine ⟨_, rfl, p, rfl, ⟨_, SqL.of hp1⟩, fun D hD => ?_⟩
    refine lc_list (xs := ws.map V.str) (fun i H' => H' D = some (.lst (((ws.take i).map dWord).map V.bl)) ∧ Same H1 H') ⟨upd_same, same_new hD⟩ (fun i H' _ h => SqL.of (h.2 _ _ hp1)) ?_ ?_
    · rintro i y H2 hy ⟨h2, s2⟩
      obtain ⟨o, ho, rfl⟩ := get_strs hy
      have hil : i < ws.length := (List.getElem?_eq_some_iff.mp ho).1
      have ol := hws o (List.mem_of_getElem? ho)
      have go : ∀ H3 b, b = dWord o → Same H2 H3 → ∃ acc, H3 D = some (.lst acc) ∧ acc.length < sizeLine ∧ ((upd H3 D (.lst (acc ++ [V.bl b]))) D = some (.lst (((ws.take (i + 1)).map dWord).map V.bl)) ∧ Same H1 (upd H3 D (.lst (acc ++ [V.bl b])))) := fun H3 b eb s3 => by
        refine ⟨_, s3 _ _ h2, by rw [List.length_map, List.length_map, List.length_take]; exact small_lt (by omega), ?_, same_mut (s2.trans s3) hD⟩
        rw [upd_same, List.take_add_one, ho, List.map_append, List.map_append, eb]
        rfl
      refine ⟨rfl, _, rfl, rfl, _, rfl, ?_⟩
      refine ite2 (fun hc => go H2 _ ?_ (Same.refl _)) (fun hc => ?_)
      · unfold dWord
        rw [decide_eq_true (str_inj.mp (of_decide_eq_true hc)), Bool.true_or]

      · refine ⟨_, rfl, o, rfl, by omega, fun H3 s3 => go H3 _ ?_ s3⟩
        unfold dWord
        rw [decide_eq_false (fun q => hc (decide_eq_true (str_inj.mpr q))), Bool.false_or]
    · rintro H2 ⟨h2, s2⟩
      rw [List.length_map, List.take_length] at h2
      refine ⟨D, ws.map dWord, rfl, SqL.of h2, _, rfl, ?_⟩
      have ea : (ws.map dWord).all id = ws.all dWord := by rw [List.all_map]; rfl
      rw [ea]
      cases ha : ws.all dWord with
      | false =>
        rw [ha, if_neg (by decide)] at er
        exact raise_bt (k1 er) (s0.trans s2)
      | true =>
        rw [ha, if_pos rfl] at er
        refine ⟨_, rfl, p, rfl, ⟨_, SqL.of (s2 _ _ hp1)⟩, fun D2 hD2 => ?_⟩
        refine lc_list (xs := ws.map V.str) (fun i H' => H' D2 = some (.lst (((ws.take i).map dOpt).map optV)) ∧ Same H2 H') ⟨upd_same, same_new hD2⟩ (fun i H' _ h => SqL.of (h.2 _ _ (s2 _ _ hp1))) ?_ ?_
        · rintro i y H3 hy ⟨h3, s3⟩
          obtain ⟨o, ho, rfl⟩ := get_strs hy
          have hil : i < ws.length := (List.getElem?_eq_some_iff.mp ho).1
          have hdw := List.all_eq_true.mp ha o (List.mem_of_getElem? ho)
          have go : ∀ u, u = optV (dOpt o) → ∃ acc, H3 D2 = some (.lst acc) ∧ acc.length < sizeLine ∧ ((upd H3 D2 (.lst (acc ++ [u]))) D2 = some (.lst (((ws.take (i + 1)).map dOpt).map optV)) ∧ Same H2 (upd H3 D2 (.lst (acc ++ [u])))) := fun u eu => by
            refine ⟨_, h3, by rw [List.length_map, List.length_map, List.length_take]; exact small_lt (by omega), ?_, same_mut s3 hD2⟩
            rw [upd_same, List.take_add_one, ho, List.map_append, List.map_append, eu]
            rfl
          refine ⟨rfl, _, rfl, rfl, _, rfl, ?_⟩
          refine ite2 (fun hc => go _ ?_) (fun hc => ?_)
          · have e9 : dOpt o = none := if_pos (str_inj.mp (of_decide_eq_true hc))
            rw [e9]; rfl
          · have hno : o ≠ "-" := fun q => hc (decide_eq_true (str_inj.mpr q))
            have hnw : isNW o = true := by
              unfold dWord at hdw
              rw [decide_eq_false hno, Bool.false_or] at hdw
              exact hdw
            have N := nws hnw
            have n4 := N.s
            have e9 : dOpt o = some (nwv o) := if_neg hno
            exact ⟨_, rfl, o, nwv o, rfl, N.i, by omega, go _ (by rw [e9]; rfl)⟩
        · rintro H3 ⟨h3, s3⟩
          rw [List.length_map, List.take_length] at h3
          exact ⟨D2, _, rfl, .inl ⟨SqL.of h3, fun q hq => k2 _ er q _ (((s0.trans s2).trans s3).trans (same_new hq)) (SqT.of upd_same)⟩⟩
end
end Fo

set_option maxRecDepth 100000
set_option maxHeartbeats 2000000
namespace Fo
open PySem PySem.Spec PyProof.Rows L2
/-- a set of the ints of a tuple; how many there are is left open but for the bound -/
def rSetI (K : PySem.W.Frag) (w : World) : List V → Hp → VK → Prop := fun xs H Q => ∃ (p : Addr) (ns : List Int), xs = [.ref p] ∧ SqT K H p (ns.map V.int) ∧ ns.length ≤ 1000 ∧ ∀ (a : Addr) (n : Nat), H a = none → n ≤ ns.length → Q (.ref a) (upd H a (SetO w a (fun j => decide (j ∈ ns)) n))
theorem ints_of : ∀ {ns : List Int} {us : List Value}, Vals (ns.map V.int) us → IntsAre us ns
  | [], [], _ => .nil
  | n :: ns, u :: us, .cons r t => by
    obtain ⟨k, rfl⟩ := r
    exact .cons n k (ints_of t)
theorem cr_setI {X : Cx} (hc : X.calm = true) : CallR X (.type "set") (rSetI X.K X.w) := by
  intro pins s σ H xs us Q I r h
  obtain ⟨p, ns, rfl, hS, hl, q⟩ := h
  cases r with
  | cons r0 r1 =>
    cases r1
    cases r0
    obtain ⟨its, rv, hT, hz⟩ := I.tuple hS
    refine call_set_tupI ns (I.ok.hd hc) hT (by simpa using ints_of rv) (by have : (1002 : Nat) < scanBound := by decide
                                                                            omega) fun h' tk c hR hcn hk => ?_
    refine ⟨.ref s.heap.objs.size, _, I.laid (a := s.heap.objs.size) (o := SetO X.w s.heap.objs.size (fun j => decide (j ∈ ns)) c) hk (Nat.le_refl _) ?_, rfl, q _ c (I.hok.fresh (Nat.le_refl _)) hcn⟩
    refine ⟨hR, ?_, fun h1 h2 a b => ?_⟩
    · obtain ⟨o, _, _, _, g, _⟩ := hR
      exact ⟨o, g⟩
    · obtain ⟨o, es, ep, t, g, r⟩ := a
      exact ⟨o, es, ep, t, b o g, r⟩
end Fo

set_option maxRecDepth 100000
set_option maxHeartbeats 2000000
/-! sorted of a set of ints, however many there are -/
namespace Fo
open PySem PySem.Spec PyProof.Rows L2
section
variable {P : Program} {w : World} {A : Around} {E : Value → Shared → Prop} {s : Shared} {a : Addr}
theorem sorted_setA {M : Int → Bool} {many : Nat} {Want : Value → Shared → Prop} (set : SetR w s.heap a M many) (calm : A.handled = none) (small : many ≤ 100000)
    (go : ∀ (s2 : Shared) (L : Addr) (vals : Array Value) (u : Nat) (ks : List Int), (∀ b o, s.heap.get? b = some o → s2.heap.get? b = some o) → s2.gens = s.gens → s2.os = s.os → s.heap.objs.size ≤ L →
      s2.heap.get? L = some (seqObj "list" vals u) → IntsAre vals.toList ks → ks.Pairwise (· < ·) → (∀ k, k ∈ ks ↔ M k = true) → ks.length = many → Want (.ref L) s2) :
    wpAny (model P w) A (call (.builtin "sorted") [.ref a]) Want E s := by
  obtain ⟨ob, ents, ep, tt, at1, ex1, dat1, raws, one1, mem1, bnd1, fil1, cnt1, rr1, ll1⟩ := set
  refine Calls.call_function_entry kind_sorted plain_sorted entry_sorted (args_sorted1 _) ?_
  unfold Builtin.«sorted»
  refine wpAny_bind (m := checkCount "sorted" 1 1 _) (wpAny_pure ?_)
  refine wpAny_bind (collect_set (A := A.in1) calm ⟨ob, at1, ex1.1, dat1⟩ fil1 bnd1 rr1 ll1 fun s3 items kept sz gens3 os3 perm => ?_)
  have count : items.length = many := Eq.trans perm.length_eq (by rw [List.length_map, Array.length_toList]; exact cnt1)
  have lim : items.length ≤ sizeLine := by rw [count]; exact small_le small
  have allInts := L2.ints_of items fun v hv => by
    obtain ⟨en, hen, q⟩ := List.mem_map.mp (perm.mem_iff.mp hv)
    obtain ⟨k, tk, h1, _⟩ := raws en hen
    exact ⟨k, tk, q.symm.trans h1⟩
  have keys : (items.map Builtin.Re.reRawOf).Perm (ents.toList.map keyOf) := by
    have q := perm.map Builtin.Re.reRawOf
    rw [List.map_map] at q
    exact q
  refine wpAny_bind (wpAny_newList ?_ lim)
  have new := Heap.get?_push_size s3.heap (o := seqObj "list" items.toArray 0) rfl
  refine wpAny_bind (wpAny_holding (wpAny_call_entry slot_list_sort ⟨_, new, rfl⟩ entry_list_sort (list_sort_treeAny new allInts lim fun vals ks are pm up => ⟨_, rfl, ?_⟩) (args_list_sort _)))
  obtain ⟨u, hu⟩ := sortedHeap_at (vs := items) (out := vals) new
  have all : ks.Perm (ents.toList.map keyOf) := pm.trans keys
  have less := L2.lt_of_le_nodup ks up (all.nodup_iff.mpr one1)
  refine wpAny_pure ⟨_, rfl, go _ s3.heap.objs.size vals u ks ?_ gens3 os3 sz hu are less (fun k => by rw [mem1 k, all.mem_iff]) ?_⟩
  · intro b o e
    have old := kept b o e
    have lt := Heap.lt_size old
    have ne : b ≠ s3.heap.objs.size := Nat.ne_of_lt lt
    exact (sortedHeap_old ne (by rw [size_push']; exact Nat.lt_succ_of_lt lt)).trans (Heap.get?_push_of_some _ old)
  · exact all.length_eq.trans (by rw [List.length_map, Array.length_toList]; exact cnt1)
end
def rSortSetA (w : World) : List V → Hp → VK → Prop := fun xs H Q => ∃ (a : Addr) (M : Int → Bool) (many : Nat), xs = [.ref a] ∧ H a = some (SetO w a M many) ∧ many ≤ 100000 ∧
  ∀ (ks : List Int) (L : Addr), ks.Pairwise (· < ·) → (∀ k : Int, k ∈ ks ↔ M k = true) → ks.length = many → H L = none → Q (.ref L) (upd H L (.lst (ks.map V.int)))
theorem cr_sortSetA {X : Cx} (calm : X.calm = true) : CallR X (.builtin "sorted") (rSortSetA X.w) := by
  intro pins s σ H xs us Q I r h
  obtain ⟨a, M, many, rfl, at1, small, q⟩ := h
  have R := setO_get I at1
  rw [Vals.ref1 r]
  refine sorted_setA R (I.ok.hd calm) small fun s2 L vals u ks kept gens2 os2 sz at2 are up mem len => ?_
  have fit : (ks.map V.int).length ≤ sizeLine := by rw [List.length_map, len]; exact small_le small
  have free : H L = none := I.hok.fresh sz
  have J : Inv X pins σ (upd H L (.lst (ks.map V.int))) { s with heap := s2.heap, gens := s2.gens, drawn := s2.drawn, toks := s2.toks } :=
    I.call (ch := []) (Un.laid kept sz free) (I.hok.laid kept sz ⟨fit, vals.toList, u, vals_of_ints are, at2⟩) (by rw [gens2]; exact I.bare) (fun _ z => nomatch z)
  have same : s2 = { s with heap := s2.heap, gens := s2.gens, drawn := s2.drawn, toks := s2.toks } := by
    cases s2
    cases s
    cases os2
    rfl
  rw [same]
  exact ⟨.ref L, _, J, rfl, q ks L up mem len free⟩
end Fo

set_option maxRecDepth 100000
set_option maxHeartbeats 4000000
/-! t[::-1] of a tuple: always a new one. -/
namespace Fo
open PySem PySem.Spec PyProof.Rows HT
section
variable {prog : Program} {w : World} {A : Around} {E : Value → Shared → Prop} {s : Shared}
theorem adjust_back (n : Nat) : Builtin.Slice.sliceAdjust none none (-1) (n : Int) = ((n : Int) - 1, -1) := by
  unfold Builtin.Slice.sliceAdjust
  have h1 : ((-1 : Int) < 0) := by omega
  simp only [h1, if_true]
theorem places_back (n : Nat) : Builtin.Slice.slicePlaces ((n : Int) - 1) (-1) (-1) = n := by
  unfold Builtin.Slice.slicePlaces
  have h1 : ¬ ((-1 : Int) > 0) := by omega
  have h2 : (- (-1) : Int) = 1 := by omega
  simp only [h1, if_false, h2, Int.ediv_one]
  split <;> omega
theorem applied_back {sl : Addr} {vl vu vs : Value} {n : Nat} {Q : Int × Int × Nat → Shared → Prop} (hs : s.heap.IsSliceOf sl vl vu vs) (pl : IsPart vl none) (pu : IsPart vu none) (ps : IsPart vs (some (-1)))
    (h : Q ((n : Int) - 1, -1, n) s) : wpAny (model prog w) A (Builtin.Slice.sliceApplied (.ref sl) (pure (n : Int))) Q E s := by
  obtain ⟨os, hos, hcs, hds⟩ := id hs
  unfold Builtin.Slice.sliceApplied Builtin.Slice.sliceFields
  refine wpAny_bind (wpAny_bind (wpAny_field hos hds (x := vl) rfl (wpAny_bind (wpAny_field hos hds (x := vu) rfl (wpAny_bind (wpAny_field hos hds (x := vs) rfl (wpAny_pure ?_)))))))
  refine wpAny_bind (slicePart_ ps ?_)
  show wpAny _ _ (if ((-1 : Int) == 0) = true then _ else _) _ _ s
  rw [if_neg (by decide)]
  refine wpAny_bind (slicePart_ pl (wpAny_bind (slicePart_ pu (wpAny_bind (wpAny_pure ?_)))))
  show wpAny _ _ (match Builtin.Slice.sliceAdjust none none (-1) (n : Int) with | (lo, hi) => pure (lo, (-1 : Int), Builtin.Slice.slicePlaces lo hi (-1))) _ _ s
  rw [adjust_back n]
  show wpAny _ _ (pure ((n : Int) - 1, (-1 : Int), Builtin.Slice.slicePlaces ((n : Int) - 1) (-1) (-1))) _ _ s
  rw [places_back]
  exact wpAny_pure h
theorem pick_back (xs : Array Value) : ((List.range xs.size).filterMap fun (m : Nat) => xs[(((xs.size : Int) - 1) + (m : Int) * (-1)).toNat]?).toArray = xs.toList.reverse.toArray := by
  have e : ((List.range xs.size).filterMap fun (m : Nat) => xs[(((xs.size : Int) - 1) + (m : Int) * (-1)).toNat]?) = ((List.range xs.size).map fun k => xs.size - 1 - k).filterMap (xs[·]?) := by
    rw [List.filterMap_map]
    have aux : ∀ (l : List Nat) (f g : Nat → Option Value), (∀ x ∈ l, f x = g x) → l.filterMap f = l.filterMap g := by
      intro l f g hfg
      induction l with
      | nil => rfl
      | cons x l ih =>
        rw [List.filterMap_cons, List.filterMap_cons, hfg x List.mem_cons_self, ih fun y hy => hfg y (List.mem_cons_of_mem _ hy)]
    refine aux _ _ _ fun m hm => ?_
    have hm := List.mem_range.mp hm
    have e1 : (((xs.size : Int) - 1) + (m : Int) * (-1)).toNat = xs.size - 1 - m := by omega
    show xs[(((xs.size : Int) - 1) + (m : Int) * (-1)).toNat]? = xs[xs.size - 1 - m]?
    rw [e1]
  rw [e, PySem.W.krv_range, List.filterMap_reverse, PySem.W.krv_all]
theorem getItem_tuple_back {t sl : Addr} {items : Array Value} {vl vu vs : Value} {Q : Value → Shared → Prop} (ht : IsTup s.heap t items) (hs : s.heap.IsSliceOf sl vl vu vs) (pl : IsPart vl none) (pu : IsPart vu none) (ps : IsPart vs (some (-1)))
    (h : Q (.ref s.heap.objs.size) { s with heap := s.heap.push { cls := .type "tuple", data := .seq items.toList.reverse.toArray } })
    (hsz : items.size ≤ sizeLine) : wpAny (model prog w) A (getItem (.ref t) (.ref sl)) Q E s := by
  have htake : sizeOk (.seq items.toList.reverse.toArray) := by
    show items.toList.reverse.toArray.size ≤ sizeLine
    rw [List.size_toArray, List.length_reverse, Array.length_toList]
    exact hsz
  obtain ⟨os, hos, hcs, hds⟩ := id hs
  have hTs : s.TypeIs (.ref sl) "slice" := ⟨os, hos, hcs⟩
  unfold getItem
  try with_reducible refine wpAny_holding ?_
  first | refine wpAny_bind (wpAny_pure ?_) | skip
  refine wpAny_bind (wpAny_sequenceKey ht.typeIs (by decide) ?_)
  refine wpAny_bind (wpAny_callSpecial?_slot (name := Str.ofString "__getitem__") ht.typeIs PyProof.Rows.slot_tuple_getitem
    (wpAny_call_entry PyProof.Rows.slot_tuple_getitem ht.typeIs entry_tuple_getitem ?_ (args_tuple_getitem _ _)))
  show wpAny _ _ (Builtin.Tuple.tupleItemsOf (.ref t) >>= _) _ _ s
  refine wpAny_bind (tupleItemsOf_ ht ?_)
  refine wpAny_bind (wpAny_typeOf hTs ?_)
  rw [if_pos (by decide)]
  refine wpAny_bind (applied_back hs pl pu ps ?_)
  have hno : ¬ ((((items.size : Int) - 1) == 0 && (-1 : Int) == 1 && items.size == items.size) = true) := by
    intro q
    rw [Bool.and_eq_true, Bool.and_eq_true] at q
    exact absurd q.1.2 (by decide)
  show wpAny _ _ (if (((items.size : Int) - 1) == 0 && (-1 : Int) == 1 && items.size == items.size) = true then _ else _) _ _ s
  rw [if_neg hno, pick_back]
  first
    | exact wpAny_bind (m := Builtin.Tuple.tupleExact _) (wpAny_newObj_type (wpAny_pure ⟨_, rfl, wpAny_pure h⟩) htake)
    | exact wpAny_bind (m := Builtin.Tuple.tupleExact _) (wpAny_newObj_type (wpAny_bind (wpAny_pure (wpAny_pure ⟨_, rfl, wpAny_pure h⟩))) htake)
    | exact wpAny_bind (wpAny_bind (m := Builtin.Tuple.tupleExact _) (wpAny_newObj_type (wpAny_pure (wpAny_pure ⟨_, rfl, wpAny_pure h⟩)) htake))
    | exact wpAny_bind (wpAny_bind (m := Builtin.Tuple.tupleExact _) (wpAny_newObj_type (wpAny_pure ⟨_, rfl, wpAny_pure h⟩) htake))
end
end Fo
namespace Fo
open PySem PySem.Spec PyProof.Rows L2
def tRevA (K : PySem.W.Frag) (te : TE) : TE := fun σ H Q => te σ H fun x H1 => ∃ a xs, x = .ref a ∧ SqT K H1 a xs ∧ ∀ p, H1 p = none → Q (.ref p) (upd H1 p (.tup xs.reverse))
theorem pe_revA {X : Cx} {e : Expr} {te : TE} {k : Nat} {p1 p2 p3 pos : Pos} (he : PE X e te) : PE X (.Subscript e (.Slice none none (some (.UnaryOp .USub (.Constant (.int 1) k p1) p2)) p3) pos) (tRevA X.K te) := by
  refine ⟨fun pins s σ H Q I h => ?_⟩
  refine Subscript_ (thn (he.run pins s σ H _ I h) fun v s1 ⟨x, H1, I1, r1, q1⟩ => ?_)
  obtain ⟨a, xs, ex, hx, q⟩ := q1
  subst ex
  cases r1
  have hst : PO X (some (.UnaryOp .USub (.Constant (.int 1) k p1) p2)) (tPart (tUn (rU fun i => .int (-i)) (tC (.int 1)))) := po_some (pe_un un_neg pe_int)
  refine wpAny_Slice (thn (po_none.run pins s1 σ H1 (fun o H2 => o = none ∧ H2 = H1) I1 ⟨rfl, rfl⟩) fun vl s2 ⟨l, H2, I2, pl, el, e2⟩ => ?_)
  subst el e2
  refine thn (po_none.run pins s2 σ H2 (fun o H3 => o = none ∧ H3 = H2) I2 ⟨rfl, rfl⟩) fun vu s3 ⟨u, H3, I3, pu, eu, e3⟩ => ?_
  subst eu e3
  refine thn (hst.run pins s3 σ H3 (fun o H4 => o = some (-1) ∧ H4 = H3) I3 ⟨1, rfl, -1, rfl, rfl, rfl⟩) fun vs s4 ⟨o, H4, I4, ps, eo, e4⟩ => ?_
  subst eo e4
  have I5 : Inv X pins σ H4 { s4 with heap := s4.heap.push { cls := .type "slice", data := .fields #[vl, vu, vs] } } := I4.kept (t' := s4.toks) fun b ob q => Heap.get?_push_of_some _ q
  obtain ⟨its, r, ht, hz⟩ := I5.tuple hx
  have hlen : its.toArray.size = xs.length := by rw [List.size_toArray]; exact r.length.symm
  show wpAny (model X.prog X.w) X.A (subscriptTail e (.Slice none none (some (.UnaryOp .USub (.Constant (.int 1) k p1) p2)) p3) (.ref a) (.ref s4.heap.objs.size)) (EP X pins σ Q) X.xe { s4 with heap := s4.heap.push { cls := .type "slice", data := .fields #[vl, vu, vs] } }
  refine tail_any (ops := [.ref a, .ref s4.heap.objs.size]) ht.typeIs PyProof.Rows.slot_tuple_getitem.lookup ?_ (by with_unfolding_all rfl)
  refine getItem_tuple_back ht (Heap.IsSliceOf.new _ vl vu vs) pl pu ps ?_ (by rw [hlen]; exact hz)
  refine ⟨.ref _, _, I5.laid (t' := s4.toks) (o := .tup xs.reverse) (fun b ob q => Heap.get?_push_of_some _ q) (Nat.le_refl _) ?_, rfl, q _ (I5.hok.fresh (Nat.le_refl _))⟩
  exact ⟨by rw [List.length_reverse]; exact hz, _, r.reverse, IsTup.new _ _⟩
end Fo

set_option maxRecDepth 100000
set_option maxHeartbeats 4000000
/-! Things that are nested: to a depth, none longer than a bound, whatever the tape does. -/
namespace Fo
open PySem PySem.Spec PyProof.Rows L2
section
variable {K : PySem.W.Frag} {C : Addr} {t l : Addr} {m : Nat}
def Ng (K : PySem.W.Frag) (C t : Addr) (m : Nat) : Nat → Hp → V → Prop
  | 0, H, x => ∀ H', Gr t H H' → Th K C H' x
  | n + 1, H, x => (∀ H', Gr t H H' → ∃ ty, TyX K H' x ty ∧ (∀ c, ty = .ref c → c = C) ∧ PySem.W.kitOne K ty (.type "tuple") = some false) ∨ ∃ a xs, x = .ref a ∧ SqT K H a xs ∧ xs.length ≤ m ∧ ∀ y ∈ xs, Ng K C t m n H y
theorem Ng.gr : ∀ {n : Nat} {H H' : Hp} {x : V}, Gr t H H' → Tape H t l → Ng K C t m n H x → Ng K C t m n H' x
  | 0, _, _, _, g, _, h => fun H3 g3 => h H3 (g.trans g3)
  | n + 1, _, _, _, g, T, h => by
    rcases h with h | ⟨a, xs, e, hs, hl, hy⟩
    · exact .inl fun H3 g3 => h H3 (g.trans g3)
    · exact .inr ⟨a, xs, e, gr_T g T hs, hl, fun y hy' => (hy y hy').gr g T⟩
theorem Ng.le {m' : Nat} (hm : m ≤ m') : ∀ {n : Nat} {H : Hp} {x : V}, Ng K C t m n H x → Ng K C t m' n H x
  | 0, _, _, h => h
  | n + 1, _, _, h => by
    rcases h with h | ⟨a, xs, e, hs, hl, hy⟩
    · exact .inl h
    · exact .inr ⟨a, xs, e, hs, Nat.le_trans hl hm, fun y hy' => (hy y hy').le hm⟩
theorem th_sqT {H : Hp} {a : Addr} {xs : List V} (h : SqT K H a xs) : Th K C H (.ref a) := ⟨_, tyX_sqT h, fun c e => by cases e⟩
theorem Ng.down : ∀ {n : Nat} {H : Hp} {x : V}, Tape H t l → Ng K C t m (n + 1) H x → Ng K C t m n H x
  | 0, _, _, T, h => by
    rcases h with h | ⟨a, xs, e, hs, hl, hy⟩
    · exact fun H3 g3 => let ⟨ty, h1, h2, _⟩ := h H3 g3; ⟨ty, h1, h2⟩
    · intro H3 g3
      rw [e]
      exact th_sqT (gr_T g3 T hs)
  | n + 1, _, _, T, h => by
    rcases h with h | ⟨a, xs, e, hs, hl, hy⟩
    · exact .inl h
    · exact .inr ⟨a, xs, e, hs, hl, fun y hy' => (hy y hy').down T⟩
theorem Ng.th {n : Nat} {H : Hp} {x : V} (T : Tape H t l) (h : Ng K C t m n H x) : Th K C H x := by
  induction n with
  | zero => exact h H (Gr.refl H)
  | succ n ih => exact ih (h.down T)
theorem Ng.tup {n : Nat} {H : Hp} {a : Addr} {xs : List V} (T : Tape H t l) (hs : SqT K H a xs) (hl : xs.length ≤ m) (h : ∀ y ∈ xs, Ng K C t m n H y) : Ng K C t m (n + 1) H (.ref a) := .inr ⟨a, xs, rfl, hs, hl, h⟩
theorem Ng.no {H : Hp} {x : V} {s : String} (ty : ∀ H', Gr t H H' → TyX K H' x (.type s)) (hk : kitB s "tuple" = some false) : ∀ n, Ng K C t m n H x
  | 0 => fun H' g => ⟨_, ty H' g, fun c e => by cases e⟩
  | n + 1 => .inl fun H' g => ⟨_, ty H' g, fun c e => (by cases e), kit_ty hk⟩
theorem Ng.int {n : Nat} {H : Hp} {i : Int} : Ng K C t m n H (.int i) := Ng.no (fun _ _ => .base (.int i)) (by decide +kernel) n
theorem Ng.bl {n : Nat} {H : Hp} {i : Bool} : Ng K C t m n H (.bl i) := Ng.no (fun _ _ => .base (.bl i)) (by decide +kernel) n
theorem Ng.str {n : Nat} {H : Hp} {i : Str} : Ng K C t m n H (.str i) := Ng.no (fun _ _ => .base (.str i)) (by decide +kernel) n
theorem Ng.non {n : Nat} {H : Hp} : Ng K C t m n H .non := Ng.no (fun _ _ => .base .non) (by decide +kernel) n
theorem Ng.lst {n : Nat} {H : Hp} {a : Addr} {xs : List V} (h : H a = some (.lst xs)) (ne : a ≠ t) : Ng K C t m n H (.ref a) := Ng.no (fun H' g => .base (.lst (g _ _ ne h))) (by decide +kernel) n
theorem Ng.dK {n : Nat} {H : Hp} {a : Addr} (h : H a = some (.dK [])) (ne : a ≠ t) : Ng K C t m n H (.ref a) := Ng.no (fun H' g => .base (.dK (g _ _ ne h))) (by decide +kernel) n
theorem Ng.table {n : Nat} {H : Hp} {x : V} {rows : List (List Int)} (tc : TC K C) (T : Tape H t l) (h : TableAt K C H x rows) : Ng K C t m n H x := by
  cases n with
  | zero => exact fun H' g => ⟨_, (h.gr g T).tyx tc, fun c e => by cases e; rfl⟩
  | succ n => exact .inl fun H' g => ⟨_, (h.gr g T).tyx tc, fun c e => (by cases e; rfl), tc.kT⟩
theorem Ng.row {n : Nat} {H : Hp} {a : Addr} {ns : List Int} (T : Tape H t l) (h : SqT K H a (ns.map V.int)) (hl : ns.length ≤ m) : Ng K C t m n H (.ref a) := by
  cases n with
  | zero => exact fun H' g => th_sqT (gr_T g T h)
  | succ n => exact .inr ⟨a, _, rfl, h, by rw [List.length_map]; exact hl, fun y hy => by
      obtain ⟨i, _, rfl⟩ := List.mem_map.mp hy
      exact .int⟩
/-- tuples within tuples, one or none in each -/
def Tn (K : PySem.W.Frag) : Nat → Hp → V → Prop
  | 0, H, x => ∃ a xs, x = .ref a ∧ SqT K H a xs
  | n + 1, H, x => ∃ a xs, x = .ref a ∧ SqT K H a xs ∧ xs.length ≤ 1 ∧ ∀ y ∈ xs, Tn K n H y
theorem Tn.same : ∀ {n : Nat} {H H' : Hp} {x : V}, Same H H' → Tn K n H x → Tn K n H' x
  | 0, _, _, _, s, ⟨a, xs, e, h⟩ => ⟨a, xs, e, sqT_same s h⟩
  | n + 1, _, _, _, s, ⟨a, xs, e, h, hl, hy⟩ => ⟨a, xs, e, sqT_same s h, hl, fun y q => (hy y q).same s⟩
theorem Tn.ng : ∀ {n : Nat} {H : Hp} {x : V}, Tape H t l → 1 ≤ m → Tn K n H x → Ng K C t m n H x
  | 0, _, _, T, _, ⟨a, xs, e, h⟩ => fun H' g => by
    rw [e]
    exact th_sqT (gr_T g T h)
  | n + 1, _, _, T, h1, ⟨a, xs, e, h, hl, hy⟩ => .inr ⟨a, xs, e, h, Nat.le_trans hl h1, fun y q => (hy y q).ng T h1⟩
theorem cut_from' {xs : List V} {n : Nat} : cutV xs (some (n : Int)) none = xs.drop n := by
  by_cases h : n ≤ xs.length
  · exact cut_from h
  · unfold cutV
    rw [HT.sIx_none, HT.sIx_nat, show min n xs.length = xs.length by omega, List.drop_of_length_le (Nat.le_refl _), List.drop_of_length_le (by omega), List.take_nil]
/-- xs[:i] + (y,) + xs[j:] -/
theorem cat3 {σ : L2.St} {H : Hp} {Q : VK} {a : Addr} {xs : List V} {v u i j : Nat} {Y D : TE} {Pr : V → Hp → Prop} (e1 : σ[v]? = some (some (.ref a))) (e2 : σ[u]? = some (some (.int (i : Nat)))) (T : Tape H t l) (hs : SqT K H a xs) (hl : xs.length ≤ 1000) (hi : i ≤ xs.length)
    (hD : ∀ (H2 : Hp) (Q' : VK), Q' (.int (j : Nat)) H2 → D σ H2 Q')
    (hY : ∀ (H1 : Hp) (Q' : VK), Same H H1 → (∀ y H2, Gr t H1 H2 → Tape H2 t l → Pr y H2 → Q' y H2) → Y σ H1 Q')
    (k : ∀ y H2 p H3, Gr t H H2 → Tape H2 t l → Pr y H2 → Same H2 H3 → SqT K H3 p (xs.take i ++ [y] ++ xs.drop j) → Q (.ref p) H3) :
    tOp (rCatA K) (tOp (rCatA K) (tSl (rSlA K) (tVar v) tNoPart (tPart (tVar u))) (tTup (tCons Y tNil))) (tSl (rSlA K) (tVar v) (tPart D) tNoPart) σ H Q := by
  refine ⟨_, e1, _, e2, _, rfl, slA hs fun d H1 s1 hd => ?_⟩
  rw [cut_to hi] at hd
  refine hY H1 _ s1 fun y H2 g2 T2 hy => ⟨by show 1 ≤ sizeLine; decide, fun o ho => ?_⟩
  have hd2 := gr_T g2 (T.keep s1) hd
  have so := same_new (o := .tup [y]) ho
  refine catA (sqT_same so hd2) (SqT.of upd_same) (by rw [List.length_take]; show _ + 1 ≤ 100000; omega) fun p H4 s4 hp => ?_
  refine ⟨_, e1, hD H4 _ ⟨_, rfl, ?_⟩⟩
  delta tNoPart
  have s24 := so.trans s4
  refine slA (sqT_same s24 (gr_T g2 (T.keep s1) (sqT_same s1 hs))) fun q H5 s5 hq => ?_
  rw [cut_from'] at hq
  refine catA (sqT_same s5 hp) hq (by rw [List.length_append, List.length_take, List.length_drop]; show _ + 1 + _ ≤ 100000; omega) fun r H6 s6 hr => ?_
  exact k y H2 r H6 ((Gr.of s1).trans g2) T2 hy ((s24.trans s5).trans s6) hr
theorem mem_cat3 {α : Type} {xs : List α} {y z : α} {i j : Nat} (h : z ∈ xs.take i ++ [y] ++ xs.drop j) : z ∈ xs ∨ z = y := by
  rcases List.mem_append.mp h with h | h
  · rcases List.mem_append.mp h with h | h
    · exact .inl (List.mem_of_mem_take h)
    · exact .inr (List.mem_singleton.mp h)
  · exact .inl (List.mem_of_mem_drop h)
theorem len_cat3 {α : Type} {xs : List α} {y : α} {i j m : Nat} (h : xs.length ≤ m) (hi : i ≤ j) : (xs.take i ++ [y] ++ xs.drop j).length ≤ m + 1 := by
  rw [List.length_append, List.length_append, List.length_take, List.length_drop]
  show _ + 1 + _ ≤ m + 1
  omega
end
end Fo

set_option maxRecDepth 100000
set_option maxHeartbeats 4000000
namespace Fo
open PySem PySem.Spec PyProof.Rows L2
abbrev s_law_is_number : Stmt := top 33
abbrev n_law_is_number : List Str := ["thing", "many"]
theorem sc_law_is_number : FnScope n_law_is_number ["thing", "many"] (defScope s_law_is_number) := ⟨rfl, rfl, rfl, by decide +kernel, rfl, by decide +kernel, by decide +kernel⟩
abbrev s_law_deep : Stmt := top 35
abbrev n_law_deep : List Str := ["deep", "k"]
theorem sc_law_deep : FnScope n_law_deep [] (defScope s_law_deep) := ⟨rfl, rfl, rfl, by decide +kernel, rfl, by decide +kernel, by decide +kernel⟩
abbrev s_law_is_lot : Stmt := top 34
abbrev n_law_is_lot : List Str := ["thing", "many", "one"]
theorem sc_law_is_lot : FnScope n_law_is_lot ["thing", "many"] (defScope s_law_is_lot) := ⟨rfl, rfl, rfl, by decide +kernel, rfl, by decide +kernel, by decide +kernel⟩
section
variable {P : Program} {w : World} {K : PySem.W.Frag} {mg : Str → Option Value} {base : Heap} {C : Addr}
def spLawNum (K : PySem.W.Frag) (C : Addr) : Sp := fun vs H Q _ => ∃ (b : Int) (x : V), vs = [x, .int b] ∧ Th K C H x ∧ Q (.bl (numV b x)) H
theorem ok_lawnum (A : At K mg "_law_is_number" s_law_is_number ["thing", "many"]) (T : Tx mg) (tc : TC K C) : Dfn P w K mg base "_law_is_number" ["thing", "many"] 1 (spLawNum K C) := by
  refine A.ok sc_law_is_number (fun vs H Q E h => ?_) (fun f cdv A outer s H vs Q E hr h => ?_)
  · obtain ⟨b, x, rfl, _⟩ := h
    rfl
  · obtain ⟨b, x, rfl, hx, k⟩ := h
    obtain ⟨t, b1, b2, ty, h1, h2, h3⟩ := th_kit tc hx
    refine ⟨_, (pss_one (ps_ret (pe_and (pe_callB call_isi (by rfl) T.isinstance (by decide +kernel) (pa_cons (pv 0) (pa_cons (pe_bltn (v := V.ty "int") (by rfl) T.int (by decide +kernel) rfl) pa_nil))) (pe_and (pe_not (pe_callB call_isi (by rfl) T.isinstance (by decide +kernel) (pa_cons (pv 0) (pa_cons (pe_bltn (v := V.ty "bool") (by rfl) T.bool (by decide +kernel) rfl) pa_nil)))) (pe_one (pe_chain op_le op_lt pe_int (pv 0) (pv 1))))))), ?_⟩
    refine ⟨_, rfl, x, .ty "int", t, .type "int", b1, rfl, .ty "int", ty, h1, b1, rfl, ?_⟩
    have no : isIntV x = false → numV b x = false := fun q => by
      cases x <;> first | rfl | (simp [isIntV] at q)
    cases b1 with
    | false =>
      rw [Bool.false_and] at h3
      rw [no h3.symm] at k
      exact k
    | true =>
      refine ⟨_, rfl, x, .ty "bool", t, .type "bool", b2, rfl, .ty "bool", ty, h2, b2, rfl, ?_⟩
      rw [Bool.true_and] at h3
      cases b2 with
      | true =>
        rw [no h3.symm] at k
        exact ⟨_, rfl, k⟩
      | false =>
        obtain ⟨i, rfl⟩ : ∃ i, x = .int i := by
          cases x <;> first | exact ⟨_, rfl⟩ | (simp [isIntV] at h3)
        refine ⟨_, rfl, _, rfl, _, _, rfl, rfl, _, rfl, ?_⟩
        by_cases c : 0 ≤ i
        · rw [decide_eq_true c]
          refine ⟨_, rfl, _, _, rfl, rfl, ?_⟩
          have e : numV b (.int i) = decide (i < b) := by
            show (decide (0 ≤ i) && decide (i < b)) = _
            rw [decide_eq_true c, Bool.true_and]
          rw [e] at k
          exact k
        · rw [decide_eq_false c]
          have e : numV b (.int i) = false := by
            show (decide (0 ≤ i) && decide (i < b)) = _
            rw [decide_eq_false c, Bool.false_and]
          rw [e] at k
          exact k
def spDeep (K : PySem.W.Frag) (C : Addr) : Sp := fun vs H Q _ => vs = [] ∧ ∀ (x : V) (H' : Hp), Same H H' → (∀ n, Tn K n H' x) → Q x H'
theorem ok_lawdeep (A : At K mg "_law_deep" s_law_deep []) (T : Tx mg) : Dfn P w K mg base "_law_deep" [] 1 (spDeep K C) := by
  refine A.ok sc_law_deep (fun vs H Q E h => ?_) (fun f cdv A outer s H vs Q E hr h => ?_)
  · obtain ⟨rfl, _⟩ := h
    rfl
  · obtain ⟨rfl, k⟩ := h
    refine ⟨_, (pss_cons (ps_set (i := 0) sc_law_deep.nd rfl (Or.inl rfl) (pe_tup pa_nil))
      (pss_cons (ps_for PassesOwn.never rfl (pi_range1 rfl T.range (pa_cons pe_int pa_nil)) (pg_name (i := 1) sc_law_deep.nd rfl (Or.inl rfl))
      (pss_one (ps_set (i := 0) sc_law_deep.nd rfl (Or.inl rfl) (pe_tup (pa_cons (pv 0) pa_nil)))))
      (pss_one (ps_ret (pv 0))))), ?_⟩
    refine ⟨by show 0 ≤ sizeLine; decide, fun a0 ha0 => ?_⟩
    refine ⟨_, rfl, by decide, by decide, for_range (lo := 0) (n := 36) (fun i σ' H' => ∃ (x : V) (x1 : Option V), σ' = [some x, x1] ∧ Same H H' ∧ ∀ n, Tn K n H' x) ⟨.ref a0, _, rfl, same_new ha0, fun n => ?_⟩ ?_ ?_⟩
    · cases n with
      | zero => exact ⟨a0, [], rfl, SqT.of upd_same⟩
      | succ n => exact ⟨a0, [], rfl, SqT.of upd_same, by decide, fun _ h => (by cases h)⟩
    · rintro i σ' H1 hi ⟨x, x1, rfl, s1, hx⟩
      refine ⟨_, rfl, by show 1 ≤ sizeLine; decide, fun c hc => ?_⟩
      refine ⟨.ref c, _, rfl, s1.trans (same_new hc), fun n => ?_⟩
      cases n with
      | zero => exact ⟨c, [x], rfl, SqT.of upd_same⟩
      | succ n => exact ⟨c, [x], rfl, SqT.of upd_same, Nat.le_refl 1, fun y h => by rw [List.mem_singleton.mp h]; exact (hx n).same (same_new hc)⟩
    · rintro σ' H1 ⟨x, x1, rfl, s1, hx⟩
      exact ⟨_, rfl, k x H1 s1 hx⟩
theorem eqv_LI (a b : List Int) : PyData.eqv (.list (a.map PyData.int)) (.list (b.map PyData.int)) = decide (a = b) := by
  rw [PyData.eqv]
  exact PySem.W.ked_eqvAll a b
theorem sh_LI (ns : List Int) : SeqAt.shaped (.list (ns.map PyData.int)) = true := sh_I ns
theorem nums_ints {b : Int} : ∀ {xs : List V}, xs.all (numV b) = true → ∃ ns : List Int, xs = ns.map V.int ∧ ∀ x ∈ ns, 0 ≤ x ∧ x < b
  | [], _ => ⟨[], rfl, fun _ h => (by cases h)⟩
  | x :: xs, h => by
    rw [List.all_cons, Bool.and_eq_true] at h
    obtain ⟨ns, e, hn⟩ := nums_ints h.2
    cases x with
    | int i =>
      have h1 : (decide (0 ≤ i) && decide (i < b)) = true := h.1
      rw [Bool.and_eq_true] at h1
      refine ⟨i :: ns, by rw [e]; rfl, fun z hz => ?_⟩
      rcases List.mem_cons.mp hz with q | q
      · rw [q]; exact ⟨of_decide_eq_true h1.1, of_decide_eq_true h1.2⟩
      · exact hn z q
    | _ => exact absurd h.1 (by simp [numV])
theorem asc_of_V {b : Int} : ∀ {ns : List Int}, ascV b (ns.map V.int) = true → ns.Pairwise (· < ·)
  | [], _ => .nil
  | [x], _ => List.pairwise_singleton _ _
  | x :: y :: r, h => by
    have h' : (numV b (.int x) && decide (x < y) && ascV b ((y :: r).map V.int)) = true := h
    rw [Bool.and_eq_true, Bool.and_eq_true] at h'
    have p := asc_of_V h'.2
    have xy := of_decide_eq_true h'.1.2
    refine List.pairwise_cons.mpr ⟨fun z hz => ?_, p⟩
    rcases List.mem_cons.mp hz with q | q
    · rw [q]; exact xy
    · have := (List.pairwise_cons.mp p).1 z q
      omega
def spLawLot (K : PySem.W.Frag) (C : Addr) : Sp := fun vs H Q _ => ∃ (b : Int) (x : V) (o : Option (List V)), vs = [x, .int b] ∧ Tg K C H x o ∧ (∀ xs, o = some xs → xs.length ≤ 900) ∧ ∀ H', Same H H' → Q (.bl (ascOf b o)) H'
theorem ok_lawlot (A : At K mg "_law_is_lot" s_law_is_lot ["thing", "many"]) (T : Tx mg) (G_law_is_number : Dfn P w K mg base "_law_is_number" ["thing", "many"] 1 (spLawNum K C)) : Dfn P w K mg base "_law_is_lot" ["thing", "many"] 2 (spLawLot K C) := by
  refine A.ok sc_law_is_lot (fun vs H Q E h => ?_) (fun f cdv A outer s H vs Q E hr h => ?_)
  · obtain ⟨b, x, o, rfl, _⟩ := h
    rfl
  · obtain ⟨b, x, o, rfl, hx, hl, k⟩ := h
    refine ⟨_, (pss_cons (ps_if (PW.pt (pw_or (pt_not (pt_val (pe_callB call_isi (by rfl) T.isinstance (by decide +kernel) (pa_cons (pv 0) (pa_cons (pe_bltn (v := V.ty "tuple") (by rfl) T.tuple (by decide +kernel) rfl) pa_nil))))) (pw_or1 (pt_not (pt_val (pe_callB (cr_all rfl) (by rfl) T.all (by decide +kernel) (pa_cons (pe_lc (own := [("one", 2)]) (g := (gName 2)) (tt := tYes) (te := (tCall (spLawNum K C) [] E0 (tCons (tVar 2) (tCons (tVar 1) tNil)))) (by rfl) sc_law_is_lot.nd (pi_tup (pv 0)) (blkOk_by (own := [("one", 2)]) (N := n_law_is_lot) (sc := (defScope s_law_is_lot)) (by decide +kernel)) (fun _ _ _ _ _ => (pg_name (i := 2) sc_law_is_lot.nd rfl (Or.inl rfl))) (fun _ _ _ _ _ => pts_nil) (fun _ _ _ _ _ => (pe_d G_law_is_number (hr.mono (by decide)) (pa_cons (pv 2) (pa_cons (pv 1) pa_nil))))) pa_nil))))))) (pss_one (ps_ret pe_bl)) pss_nil)
      (pss_one (ps_ret (pe_cmpR (op_eqD hr.units) (pe_callTy c_list (by rfl) T.list (by decide +kernel) (pa_cons (pv 0) pa_nil)) (pe_callB (cr_sortSetA rfl) (by rfl) T.sorted (by decide +kernel) (pa_cons (pe_callTy (cr_setI rfl) (by rfl) T.set (by decide +kernel) (pa_cons (pv 0) pa_nil)) pa_nil)) (nomark _))))), ?_⟩
    cases hx with
    | no ty hk =>
      refine ⟨_, rfl, x, .ty "tuple", _, .type "tuple", false, rfl, .ty "tuple", ty, hk, false, rfl, ?_⟩
      exact k H (Same.refl H)
    | tup hq hi hz =>
      rename_i a xs
      have hl' := hl xs rfl
      refine ⟨_, rfl, .ref a, .ty "tuple", _, .type "tuple", true, rfl, .ty "tuple", tyX_sqT hq, kit_ty (by decide +kernel), true, rfl, ?_⟩
      refine ⟨_, rfl, a, rfl, ⟨xs, hq⟩, fun D hD => ?_⟩
      refine lc_tup (xs := xs) (fun i H' => H' D = some (.lst ((xs.take i).map fun x => V.bl (numV b x))) ∧ Same H H') ⟨upd_same, same_new hD⟩ (fun i H' _ p => sqT_same p.2 hq) ?_ ?_
      · rintro i y H1 hy ⟨h1, s1⟩
        refine ⟨rfl, _, rfl, _, rfl, b, y, rfl, (hi y (List.mem_of_getElem? hy)).same s1, _, h1, by rw [List.length_map, List.length_take]; exact small_lt (by omega), ?_, same_mut s1 hD⟩
        rw [upd_same, List.take_add_one, hy, List.map_append]
        rfl
      · rintro H1 ⟨h1, s1⟩
        rw [List.take_length] at h1
        refine ⟨D, xs.map (numV b), rfl, SqL.of (by rw [h1, List.map_map]; rfl), _, rfl, ?_⟩
        have e : (xs.map (numV b)).all id = xs.all (numV b) := by rw [List.all_map]; rfl
        rw [e]
        cases ha : xs.all (numV b) with
        | false =>
          have e2 : ascOf b (some xs) = false := by
            show ascV b xs = false
            rw [ascV_eq, ha, Bool.false_and]
          rw [e2] at k
          exact k H1 s1
        | true =>
          obtain ⟨ns, rfl, hn⟩ := nums_ints ha
          rw [List.length_map] at hl'
          refine ⟨_, rfl, a, _, rfl, .inr (sqT_same s1 hq), fun q hq0 => ?_⟩
          have s2 := s1.trans (same_new (o := .lst (ns.map V.int)) hq0)
          refine ⟨_, rfl, a, ns, rfl, sqT_same s2 hq, by omega, fun c n hc hn' => ?_⟩
          refine ⟨c, _, n, rfl, upd_same, by omega, fun ns' p pw mem len hp => ?_⟩
          have hqc : q ≠ c := ne_of_none (upd_same (H := H1) (a := q) (o := .lst (ns.map V.int))) hc
          have s3 := s2.trans (same_new (o := SetO w c (fun j => decide (j ∈ ns)) n) hc)
          have hqp : q ≠ p := ne_of_none (by rw [upd_ne hqc]; exact upd_same) hp
          refine ⟨.list (ns.map PyData.int), .list (ns'.map PyData.int), .lst (SqL.of (by rw [upd_ne hqp, upd_ne hqc]; exact upd_same)) (dpAll_ints ns), .lst (SqL.of upd_same) (dpAll_ints ns'), sh_LI _, sh_LI _, ?_⟩
          rw [eqv_LI]
          have e3 : decide (ns = ns') = ascOf b (some (ns.map V.int)) := by
            show _ = ascV b (ns.map V.int)
            by_cases c1 : ns = ns'
            · rw [decide_eq_true c1, ascV_ints (by rw [c1]; exact pw) hn]
            · rw [decide_eq_false c1]
              cases e4 : ascV b (ns.map V.int) with
              | false => rfl
              | true =>
                exfalso
                refine c1 (asc_ext (asc_of_V e4) pw fun z => ?_)
                rw [mem z]
                exact decide_eq_true_iff.symm
          rw [e3]
          exact k _ (s3.trans (same_new hp))
end
end Fo

set_option maxRecDepth 100000
set_option maxHeartbeats 4000000
namespace Fo
open PySem PySem.Spec PyProof.Rows L2
abbrev s_law_number_word : Stmt := top 37
abbrev n_law_number_word : List Str := ["word", "sign"]
theorem sc_law_number_word : FnScope n_law_number_word ["word"] (defScope s_law_number_word) := ⟨rfl, rfl, rfl, by decide +kernel, rfl, by decide +kernel, by decide +kernel⟩
abbrev s_law_row : Stmt := top 38
abbrev n_law_row : List Str := ["line", "words", "word"]
theorem sc_law_row : FnScope n_law_row ["line"] (defScope s_law_row) := ⟨rfl, rfl, rfl, by decide +kernel, rfl, by decide +kernel, by decide +kernel⟩
abbrev s_law_due : Stmt := top 39
abbrev n_law_due : List Str := ["text", "lines", "rows", "at", "row", "person"]
theorem sc_law_due : FnScope n_law_due ["text"] (defScope s_law_due) := ⟨rfl, rfl, rfl, by decide +kernel, rfl, by decide +kernel, by decide +kernel⟩
abbrev s_law_dealing_due : Stmt := top 41
abbrev n_law_dealing_due : List Str := ["text", "words", "found", "word"]
theorem sc_law_dealing_due : FnScope n_law_dealing_due ["text"] (defScope s_law_dealing_due) := ⟨rfl, rfl, rfl, by decide +kernel, rfl, by decide +kernel, by decide +kernel⟩
theorem atI_last {α : Type} (xs : List α) (y : α) : atI (xs ++ [y]) (-1) = some y := by
  have e : ixN (xs ++ [y]).length (-1) = some xs.length := by
    unfold ixN
    rw [if_neg (by decide), if_pos (by rw [List.length_append]; show -((xs.length + 1 : Nat) : Int) ≤ -1; omega)]
    congr 1
    rw [List.length_append]
    show (-1 + ((xs.length + 1 : Nat) : Int)).toNat = _
    omega
  show (ixN (xs ++ [y]).length (-1)).bind (fun j => (xs ++ [y])[j]?) = some y
  rw [e]
  show (xs ++ [y])[xs.length]? = some y
  simp
theorem at_of' {α : Type} {xs : List α} {x : α} {k : Int} {j : Nat} (e : k = (j : Int)) (h : xs[j]? = some x) : atI xs k = some x := by rw [e]; exact atI_nat h
/-- what reading a text for a table comes to, as data -/
def resT (z : Str) : PyData := match readV z with
  | .text n => .tuple [.str "text", .int n]
  | .rows rs => match dueRows (some (optRows rs)) with
    | some (u, n) => .tuple [.str "table", .str u, .int n]
    | none => .tuple [.str "rows", dR rs]
def resN : PyData := .tuple [.str "text", .int 0]
theorem resT_text {z : Str} {n : Int} (h : readV z = .text n) : resT z = .tuple [.str "text", .int n] := by unfold resT; rw [h]
theorem resT_table {z : Str} {rs : List (List Int)} {u : Str} {n : Int} (h : readV z = .rows rs) (d : dueRows (some (optRows rs)) = some (u, n)) : resT z = .tuple [.str "table", .str u, .int n] := by unfold resT; rw [h]; show (match dueRows (some (optRows rs)) with | some (u, n) => PyData.tuple [.str "table", .str u, .int n] | none => .tuple [.str "rows", dR rs]) = _; rw [d]
theorem resT_rows {z : Str} {rs : List (List Int)} (h : readV z = .rows rs) (d : dueRows (some (optRows rs)) = none) : resT z = .tuple [.str "rows", dR rs] := by unfold resT; rw [h]; show (match dueRows (some (optRows rs)) with | some (u, n) => PyData.tuple [.str "table", .str u, .int n] | none => .tuple [.str "rows", dR rs]) = _; rw [d]
section
variable {P : Program} {w : World} {K : PySem.W.Frag} {mg : Str → Option Value} {base : Heap} {C B BB : Addr}
theorem dp2 {H : Hp} {p : Addr} {u : Str} {n : Int} (h : SqT K H p [.str u, .int n]) : Dp K H (.ref p) (.tuple [.str u, .int n]) := .tup h (.cons (.str u) (.cons (.int n) .nil))
theorem dp3 {H : Hp} {p : Addr} {t u : Str} {n : Int} (h : SqT K H p [.str t, .str u, .int n]) : Dp K H (.ref p) (.tuple [.str t, .str u, .int n]) := .tup h (.cons (.str t) (.cons (.str u) (.cons (.int n) .nil)))
theorem dpR {H : Hp} {p : Addr} {t : Str} {v : V} {rs : List (List Int)} (h : SqT K H p [.str t, v]) (hr : RowsAt K H v rs) : Dp K H (.ref p) (.tuple [.str t, dR rs]) := .tup h (.cons (.str t) (.cons hr.dp .nil))
def spLNW : Sp := fun vs H Q _ => ∃ z : Str, vs = [.str z] ∧ z.length ≤ 100000 ∧ ∀ H', Same H H' → Q (.bl (isNW z)) H'
theorem ok_lnw (A : At K mg "_law_number_word" s_law_number_word ["word"]) (T : Tx mg) : Dfn P w K mg base "_law_number_word" ["word"] 1 spLNW := by
  refine A.ok sc_law_number_word (fun vs H Q E h => ?_) (fun f cdv A outer s H vs Q E hr h => ?_)
  · obtain ⟨z, rfl, _⟩ := h
    rfl
  · obtain ⟨z, rfl, hz, k⟩ := h
    have zl : z.length ≤ sizeLine := small_le hz
    refine ⟨_, (pss_cons (ps_if (PW.pt (pw_or (pt_not (pt_chain op_le op_le pe_int (pe_callB c_lenStr (by rfl) T.len (by decide +kernel) (pa_cons (pv 0) pa_nil)) pe_int)) (pw_or1 (pt_not (pt_val (pe_callB (cr_all rfl) (by rfl) T.all (by decide +kernel) (pa_cons (pe_lc (own := [("sign", 1)]) (g := (gName 1)) (tt := tYes) (te := (tOp rInSg (tVar 1) (tC (V.str "0123456789")))) (by rfl) sc_law_number_word.nd (pi_str (pv 0)) (blkOk_by (own := [("sign", 1)]) (N := n_law_number_word) (sc := (defScope s_law_number_word)) (by decide +kernel)) (fun _ _ _ _ _ => (pg_name (i := 1) sc_law_number_word.nd rfl (Or.inl rfl))) (fun _ _ _ _ _ => pts_nil) (fun _ _ _ _ _ => (pe_cmpR op_inSg (pv 1) pe_str rfl))) pa_nil))))))) (pss_one (ps_ret pe_bl)) pss_nil)
      (pss_one (ps_ret (pe_or (pe_cmpR op_eq (pv 0) pe_str (nomark _)) (pe_one (pe_cmpR op_ne (pe_ix ix_str (pv 0) pe_int (fun _ _ => rfl)) pe_str (nomark _))))))), ?_⟩
    refine ⟨_, rfl, z, rfl, zl, _, _, rfl, rfl, _, rfl, ?_⟩
    by_cases n1 : 1 ≤ z.length
    · have d1 : decide ((1 : Int) ≤ (z.length : Int)) = true := decide_eq_true (by omega)
      rw [d1]
      refine ⟨_, _, rfl, rfl, _, rfl, ?_⟩
      by_cases n2 : z.length ≤ 4
      · have d2 : decide ((z.length : Int) ≤ (4 : Int)) = true := decide_eq_true (by omega)
        rw [d2]
        rw [isNW_eq n1 n2] at k
        refine ⟨_, rfl, z, rfl, fun D hD => ?_⟩
        refine lc_signs (fun i H' => H' D = some (.lst (((z.cps.toList.take i).map figC).map V.bl)) ∧ Same H H') ⟨upd_same, same_new hD⟩ ?_ ?_
        · rintro i c H1 hc ⟨h1, s1⟩
          have hil : i < z.length := (List.getElem?_eq_some_iff.mp hc).1
          refine ⟨rfl, _, rfl, c, _, rfl, rfl, ?_⟩
          refine ⟨_, h1, by rw [List.length_map, List.length_map, List.length_take]; exact small_lt (by omega), ?_, same_mut s1 hD⟩
          rw [upd_same, List.take_add_one, hc, List.map_append, List.map_append]
          rfl
        · rintro H1 ⟨h1, s1⟩
          have el : z.cps.toList.take z.length = z.cps.toList := List.take_of_length_le (Nat.le_refl _)
          rw [el] at h1
          refine ⟨D, z.cps.toList.map figC, rfl, SqL.of h1, _, rfl, ?_⟩
          have ea : (z.cps.toList.map figC).all id = z.cps.toList.all figC := by rw [List.all_map]; rfl
          rw [ea]
          cases hf : z.cps.toList.all figC with
          | false =>
            rw [hf, Bool.false_and] at k
            exact k H1 s1
          | true =>
            rw [hf, Bool.true_and] at k
            refine ⟨_, rfl, rfl, _, rfl, ?_⟩
            unfold zeroOk at k
            refine ite2 (fun hc => ?_) (fun hc => ?_)
            · have hz0 : z = "0" := by
                have := of_decide_eq_true hc
                injection this
              rw [decide_eq_true hz0, Bool.true_or] at k
              exact k H1 s1
            have hz0 : ¬ z = "0" := fun q => hc (decide_eq_true (by rw [q]))
            rw [decide_eq_false hz0, Bool.false_or] at k
            obtain ⟨c, hc0⟩ : ∃ c, z.cps.toList[0]? = some c := by
              have : 0 < z.cps.toList.length := by show 0 < z.length; omega
              exact ⟨_, List.getElem?_eq_getElem this⟩
            refine ⟨_, rfl, z, 0, c, rfl, rfl, zl, atI_nat (j := 0) hc0, rfl, ?_⟩
            have dz : (!decide (V.str ⟨#[c]⟩ = V.str "0")) = !decide (z.cps.toList[0]? = some 48) := by
              congr 1
              exact decide_eq_decide.mpr (zero_iff hc0)
            rw [dz]
            exact k H1 s1
      · have d2 : decide ((z.length : Int) ≤ (4 : Int)) = false := decide_eq_false (by omega)
        rw [d2]
        rw [isNW_no (fun q => n2 q.2)] at k
        exact k H (Same.refl H)
    · have d1 : decide ((1 : Int) ≤ (z.length : Int)) = false := decide_eq_false (by omega)
      rw [d1]
      rw [isNW_no (fun q => n1 q.1)] at k
      exact ⟨_, rfl, k H (Same.refl H)⟩
def spLRow (K : PySem.W.Frag) : Sp := fun vs H Q _ => ∃ z : Str, vs = [.str z] ∧ z.length ≤ 90000 ∧ (lineV z = none → ∀ H', Same H H' → Q .non H') ∧ ∀ r, lineV z = some r → ∀ p H', Same H H' → SqT K H' p (r.map V.int) → Q (.ref p) H'
theorem ok_lrow (A : At K mg "_law_row" s_law_row ["line"]) (T : Tx mg) (G_law_number_word : Dfn P w K mg base "_law_number_word" ["word"] 1 spLNW) : Dfn P w K mg base "_law_row" ["line"] 2 (spLRow K) := by
  refine A.ok sc_law_row (fun vs H Q E h => ?_) (fun f cdv A outer s H vs Q E hr h => ?_)
  · obtain ⟨z, rfl, _⟩ := h
    rfl
  · obtain ⟨z, rfl, hz, k1, k2⟩ := h
    refine ⟨_, (pss_cons (ps_if (pt_cmpR op_eq (pv 0) pe_str (nomark _)) (pss_one (ps_ret (pe_tup pa_nil))) pss_nil)
      (pss_cons (ps_set (i := 1) sc_law_row.nd rfl (Or.inl rfl) (pe_split (pv 0) pe_str))
      (pss_cons (ps_if (pt_not (pt_val (pe_callB (cr_all rfl) (by rfl) T.all (by decide +kernel) (pa_cons (pe_lc (own := [("word", 2)]) (g := (gName 2)) (tt := tYes) (te := (tCall spLNW [] E0 (tCons (tVar 2) tNil))) (by rfl) sc_law_row.nd (pi_list (pv 1)) (blkOk_by (own := [("word", 2)]) (N := n_law_row) (sc := (defScope s_law_row)) (by decide +kernel)) (fun _ _ _ _ _ => (pg_name (i := 2) sc_law_row.nd rfl (Or.inl rfl))) (fun _ _ _ _ _ => pts_nil) (fun _ _ _ _ _ => (pe_d G_law_number_word (hr.mono (by decide)) (pa_cons (pv 2) pa_nil)))) pa_nil)))) (pss_one (ps_ret pe_non)) pss_nil)
      (pss_one (ps_ret (pe_callTy c_tuple (by rfl) T.tuple (by decide +kernel) (pa_cons (pe_lc (own := [("word", 2)]) (g := (gName 2)) (tt := tYes) (te := (tCB rIntStr (tCons (tVar 2) tNil))) (by rfl) sc_law_row.nd (pi_list (pv 1)) (blkOk_by (own := [("word", 2)]) (N := n_law_row) (sc := (defScope s_law_row)) (by decide +kernel)) (fun _ _ _ _ _ => (pg_name (i := 2) sc_law_row.nd rfl (Or.inl rfl))) (fun _ _ _ _ _ => pts_nil) (fun _ _ _ _ _ => (pe_callTy c_intStr (by rfl) T.int (by decide +kernel) (pa_cons (pv 2) pa_nil)))) pa_nil))))))), ?_⟩
    refine ⟨_, rfl, rfl, _, rfl, ?_⟩
    refine ite2 (fun hc => ?_) (fun hc => ?_)
    · have hz0 := str_inj.mp (of_decide_eq_true hc)
      exact ⟨by show 0 ≤ sizeLine; decide, fun p hp => k2 [] (by rw [hz0]; exact lineV_dash) p _ (same_new hp) (SqT.of upd_same)⟩
    · have hne : z ≠ "-" := fun q => hc (decide_eq_true (by rw [q]))
      have sl := split_len z " "
      have er : lineV z = if (Txt.split z " ").all isNW = true then some ((Txt.split z " ").map nwv) else none := if_neg hne
      refine ⟨_, rfl, ⟨_, rfl⟩, _, " ", rfl, rfl, blank1', small_le (by omega), fun p hp => ?_⟩
      have hws : ∀ x ∈ Txt.split z " ", x.length ≤ z.length := fun x hx => split_line hx
      obtain ⟨ws, ew⟩ : ∃ ws, ws = Txt.split z " " := ⟨_, rfl⟩
      rw [← ew] at er sl hws ⊢
      have s0 := same_new (o := .lst (ws.map V.str)) hp
      obtain ⟨H1, e1⟩ : ∃ H1, H1 = upd H p (.lst (ws.map V.str)) := ⟨_, rfl⟩
      have hp1 : H1 p = some (.lst (ws.map V.str)) := by rw [e1]; exact upd_same
      rw [← e1] at s0 ⊢
      refine ⟨_, rfl, p, rfl, ⟨_, SqL.of hp1⟩, fun D hD => ?_⟩
      refine lc_list (xs := ws.map V.str) (fun i H' => H' D = some (.lst (((ws.take i).map isNW).map V.bl)) ∧ Same H1 H') ⟨upd_same, same_new hD⟩ (fun i H' _ h => SqL.of (h.2 _ _ hp1)) ?_ ?_
      · rintro i y H2 hy ⟨h2, s2⟩
        obtain ⟨o, ho, rfl⟩ := get_strs hy
        have hil : i < ws.length := (List.getElem?_eq_some_iff.mp ho).1
        have ol := hws o (List.mem_of_getElem? ho)
        refine ⟨rfl, _, rfl, o, rfl, by omega, fun H3 s3 => ?_⟩
        refine ⟨_, s3 _ _ h2, by rw [List.length_map, List.length_map, List.length_take]; exact small_lt (by omega), ?_, same_mut (s2.trans s3) hD⟩
        rw [upd_same, List.take_add_one, ho, List.map_append, List.map_append]
        rfl
      · rintro H2 ⟨h2, s2⟩
        rw [List.length_map, List.take_length] at h2
        refine ⟨D, ws.map isNW, rfl, SqL.of h2, _, rfl, ?_⟩
        have ea : (ws.map isNW).all id = ws.all isNW := by rw [List.all_map]; rfl
        rw [ea]
        cases ha : ws.all isNW with
        | false =>
          rw [ha, if_neg (by decide)] at er
          exact k1 er H2 (s0.trans s2)
        | true =>
          rw [ha, if_pos rfl] at er
          refine ⟨_, rfl, p, rfl, ⟨_, SqL.of (s2 _ _ hp1)⟩, fun D2 hD2 => ?_⟩
          refine lc_list (xs := ws.map V.str) (fun i H' => H' D2 = some (.lst (((ws.take i).map nwv).map V.int)) ∧ Same H2 H') ⟨upd_same, same_new hD2⟩ (fun i H' _ h => SqL.of (h.2 _ _ (s2 _ _ hp1))) ?_ ?_
          · rintro i y H3 hy ⟨h3, s3⟩
            obtain ⟨o, ho, rfl⟩ := get_strs hy
            have hil : i < ws.length := (List.getElem?_eq_some_iff.mp ho).1
            have N := nws (List.all_eq_true.mp ha o (List.mem_of_getElem? ho))
            have n4 := N.s
            refine ⟨rfl, _, rfl, o, nwv o, rfl, N.i, by omega, _, h3, by rw [List.length_map, List.length_map, List.length_take]; exact small_lt (by omega), ?_, same_mut s3 hD2⟩
            rw [upd_same, List.take_add_one, ho, List.map_append, List.map_append]
            rfl
          · rintro H3 ⟨h3, s3⟩
            rw [List.length_map, List.take_length] at h3
            exact ⟨D2, _, rfl, .inl ⟨SqL.of h3, fun q hq => k2 _ er q _ (((s0.trans s2).trans s3).trans (same_new hq)) (SqT.of upd_same)⟩⟩
def spDue8 (K : PySem.W.Frag) : Sp := fun vs H Q _ => ∃ (v : V) (t : Value) (b : Bool), vs = [v] ∧ TyX K H v t ∧ PySem.W.kitOne K t (.type "str") = some b ∧ (b = false → ∀ p H', Same H H' → Dp K H' (.ref p) resN → Q (.ref p) H') ∧ (b = true → ∃ z : Str, v = .str z ∧ z.length ≤ 800 ∧ ∀ p H', Same H H' → Dp K H' (.ref p) (resT z) → Q (.ref p) H')
theorem tup2 {H : Hp} {c : Addr} {u v : V} (h : H c = some (.tup [u, v])) : SqT K H c [u, v] := SqT.of h
theorem ok_due8 (A : At K mg "_law_due" s_law_due ["text"]) (T : Tx mg) (tc : TC K C) (G_law_row : Dfn P w K mg base "_law_row" ["line"] 2 (spLRow K)) (G_law_is_lot : Dfn P w K mg base "_law_is_lot" ["thing", "many"] 2 (spLawLot K C)) : Dfn P w K mg base "_law_due" ["text"] 3 (spDue8 K) := by
  refine A.ok sc_law_due (fun vs H Q E h => ?_) (fun f cdv A outer s H vs Q E hr h => ?_)
  · obtain ⟨v, t, b, rfl, _⟩ := h
    rfl
  · obtain ⟨v, t, b, rfl, ty, hk, k0, k1⟩ := h
    refine ⟨_, (pss_cons (ps_if (pt_not (pt_val (pe_callB call_isi (by rfl) T.isinstance (by decide +kernel) (pa_cons (pv 0) (pa_cons (pe_bltn (v := V.ty "str") (by rfl) T.str (by decide +kernel) rfl) pa_nil))))) (pss_one (ps_ret (pe_tup (pa_cons pe_str (pa_cons pe_int pa_nil))))) pss_nil)
      (pss_cons (ps_set (i := 1) sc_law_due.nd rfl (Or.inl rfl) (pe_split (pv 0) pe_str))
      (pss_cons (ps_set (i := 2) sc_law_due.nd rfl (Or.inl rfl) (pe_lst pa_nil))
      (pss_cons (ps_for PassesOwn.never rfl (pi_range1 rfl T.range (pa_cons (pe_op op_sub (pe_callB c_len (by rfl) T.len (by decide +kernel) (pa_cons (pv 1) pa_nil)) pe_int) pa_nil)) (pg_name (i := 3) sc_law_due.nd rfl (Or.inl rfl))
      (pss_cons (ps_set (i := 4) sc_law_due.nd rfl (Or.inl rfl) (pe_d G_law_row (hr.mono (by decide)) (pa_cons (pe_ix ix_list (pv 1) (pv 3) (fun _ _ => rfl)) pa_nil)))
      (pss_cons (ps_if (pt_cmpR op_isN (pv 4) pe_non (nomark _)) (pss_one (ps_ret (pe_tup (pa_cons pe_str (pa_cons (pe_op op_add (pv 3) pe_int) pa_nil))))) pss_nil)
      (pss_one (ps_expr (pe_bm PySem.F.plainAttrs_list PySem.F.slot_list_append PySem.F.type_list_append mt_append (pv 2) (pa_cons (pv 4) pa_nil)))))))
      (pss_cons (ps_if (PW.pt (pw_or (pt_cmpR op_ne (pe_ix ix_list (pv 1) (pe_un un_neg pe_int) (fun _ _ => rfl)) pe_str (nomark _)) (pw_or1 (pt_cmpR op_eq (pe_callB c_len (by rfl) T.len (by decide +kernel) (pa_cons (pv 2) pa_nil)) pe_int (nomark _))))) (pss_one (ps_ret (pe_tup (pa_cons pe_str (pa_cons (pe_callB c_len (by rfl) T.len (by decide +kernel) (pa_cons (pv 1) pa_nil)) pa_nil))))) pss_nil)
      (pss_cons (ps_if (pt_cmpR op_gt (pe_callB c_len (by rfl) T.len (by decide +kernel) (pa_cons (pv 2) pa_nil)) pe_int (nomark _)) (pss_one (ps_ret (pe_tup (pa_cons pe_str (pa_cons pe_str (pa_cons (pe_un un_neg pe_int) pa_nil)))))) pss_nil)
      (pss_cons (ps_for PassesOwn.never rfl (pi_range1 rfl T.range (pa_cons (pe_callB c_len (by rfl) T.len (by decide +kernel) (pa_cons (pv 2) pa_nil)) pa_nil)) (pg_name (i := 5) sc_law_due.nd rfl (Or.inl rfl))
      (pss_one (ps_if (pt_not (pt_val (pe_d G_law_is_lot (hr.mono (by decide)) (pa_cons (pe_ix ix_list (pv 2) (pv 5) (fun _ _ => rfl)) (pa_cons (pe_callB c_len (by rfl) T.len (by decide +kernel) (pa_cons (pv 2) pa_nil)) pa_nil))))) (pss_one (ps_ret (pe_tup (pa_cons pe_str (pa_cons pe_str (pa_cons (pv 5) pa_nil)))))) pss_nil)))
      (pss_one (ps_ret (pe_tup (pa_cons pe_str (pa_cons (pe_callTy c_tuple (by rfl) T.tuple (by decide +kernel) (pa_cons (pv 2) pa_nil)) pa_nil)))))))))))), ?_⟩
    refine ⟨_, rfl, v, .ty "str", t, .type "str", b, rfl, .ty "str", ty, hk, _, rfl, ?_⟩
    cases b with
    | false => exact ⟨by show 2 ≤ sizeLine; decide, fun p hp => k0 rfl p _ (same_new hp) (dp2 (SqT.of upd_same))⟩
    | true =>
    obtain ⟨z, rfl, hz, k⟩ := k1 rfl
    obtain ⟨ls, bh, ez⟩ := split_cut z
    have sl := split_len z "\n"
    have hln : ∀ x ∈ ls, x.length ≤ z.length := fun x hx => split_line (y := "\n") (by rw [ez]; exact List.mem_append_left _ hx)
    have er := readV_of ez
    rw [ez, List.length_append] at sl
    have sl' : ls.length ≤ z.length + 1 := by
      have : [bh].length = 1 := rfl
      omega
    refine ⟨_, rfl, ⟨_, rfl⟩, _, "\n", rfl, rfl, line1', small_le (by omega), fun p hp => ?_⟩
    rw [ez]
    have ev : (ls ++ [bh]).map V.str = ls.map V.str ++ [V.str bh] := by rw [List.map_append]; rfl
    rw [ev]
    have lv : (ls.map V.str ++ [V.str bh]).length = ls.length + 1 := by rw [List.length_append, List.length_map]; rfl
    obtain ⟨H1, eH⟩ : ∃ H1, H1 = upd H p (.lst (ls.map V.str ++ [V.str bh])) := ⟨_, rfl⟩
    have hp1 : H1 p = some (.lst (ls.map V.str ++ [V.str bh])) := by rw [eH]; exact upd_same
    have s1 : Same H H1 := by rw [eH]; exact same_new hp
    rw [← eH]
    refine ⟨Nat.zero_le _, fun fa hf => ?_⟩
    have sf := same_new (o := .lst []) hf
    refine ⟨_, rfl, p, _, rfl, .inl (SqL.of (sf _ _ hp1)), _, _, rfl, rfl, _, rfl, by rw [lv]; omega, by rw [lv]; omega, ?_⟩
    rw [lv]
    have en : (((ls.length + 1 : Nat) : Int) - 1).toNat = ls.length := by omega
    rw [en]
    refine for_range (lo := 0) (n := ls.length) (fun i σ' H' => (∃ x3 x4 x5, σ' = [some (.str z), some (.ref p), some (.ref fa), x3, x4, x5]) ∧ ∃ ws, H' fa = some (.lst ws) ∧ RowsT K H' ws ((ls.take i).map rowOf) ∧ Same H1 H' ∧ ∀ q ∈ ls.take i, (lineV q).isSome = true) ⟨⟨_, _, _, rfl⟩, [], upd_same, .nil, sf, fun q hq => (by cases hq)⟩ ?_ ?_
    · rintro i σ' H2 hir ⟨⟨x3, x4, x5, rfl⟩, ws, h2, hw, s2, hall⟩
      have ho := List.getElem?_eq_getElem hir
      obtain ⟨o, eo⟩ : ∃ o, o = ls[i] := ⟨_, rfl⟩
      rw [← eo] at ho
      have ol := hln o (List.mem_of_getElem? ho)
      have hat : atI (ls.map V.str ++ [V.str bh]) (0 + (i : Int)) = some (.str o) := at_of' (j := i) (by omega) (by rw [List.getElem?_append_left (by rw [List.length_map]; exact hir), List.getElem?_map, ho]; rfl)
      refine ⟨_, rfl, _, rfl, p, _, _, _, rfl, rfl, SqL.of (s2 _ _ hp1), hat, o, rfl, by omega, fun hn H3 s3 => ?_, fun r hso q H3 s3 hq => ?_⟩
      · refine ⟨_, rfl, rfl, _, rfl, ?_⟩
        have hr1 : readV z = .text ((i : Int) + 1) := by
          rw [er, firstLine_at ls 0 i o ho hall (by rw [hn]; decide), Nat.zero_add]
        refine ⟨_, rfl, _, _, rfl, rfl, by show 2 ≤ sizeLine; decide, fun c hc => k c _ ((s1.trans (s2.trans s3)).trans (same_new hc)) ?_⟩
        rw [resT_text hr1, show (i : Int) + 1 = 0 + (i : Int) + 1 by omega]
        exact dp2 (SqT.of upd_same)
      · refine ⟨_, rfl, rfl, _, rfl, ?_⟩
        have h3 := s3 _ _ h2
        refine ⟨_, rfl, .inl ⟨rfl, _, SqL.of h3⟩, _, rfl, fa, ws, .ref q, rfl, rfl, h3, small_lt (by rw [hw.len, List.length_map, List.length_take]; omega), ⟨_, _, _, rfl⟩, ws ++ [.ref q], upd_same, ?_, same_mut (s2.trans s3) hf, fun q' hq' => ?_⟩
        · rw [List.take_add_one, ho, List.map_append]
          have e9 : (some o).toList.map rowOf = [r] := by rw [← rowOf_some hso]; rfl
          rw [e9]
          exact RowsT.snoc (r := r) (sqT_put hq h3) ((hw.same s3).put h3)
        · rw [List.take_add_one, ho] at hq'
          rcases List.mem_append.mp hq' with g | g
          · exact hall q' g
          · rw [List.mem_singleton.mp g, hso]; rfl
    · rintro σ' H2 ⟨⟨x3, x4, x5, rfl⟩, ws, h2, hw, s2, hall⟩
      rw [List.take_length] at hw hall
      have ef := firstLine_all ls 0 hall
      rw [ef] at er
      have s02 := s1.trans s2
      have wl : ws.length = ls.length := by rw [hw.len, List.length_map]
      refine ⟨_, rfl, _, rfl, p, _, _, _, rfl, rfl, SqL.of (s2 _ _ hp1), atI_last _ _, rfl, _, rfl, ?_⟩
      have bad : readV z = .text ((ls.length + 1 : Nat) : Int) → ∀ c, H2 c = none → Q (.ref c) (upd H2 c (.tup [V.str "text", V.int ((ls.length + 1 : Nat) : Int)])) := fun hr1 c hc => by
        refine k c _ (s02.trans (same_new hc)) ?_
        rw [resT_text hr1]
        exact dp2 (SqT.of upd_same)
      by_cases cb : bh = ""
      · have db : (!decide (V.str bh = V.str "")) = false := by rw [cb, decide_eq_true rfl]; rfl
        rw [db]
        refine ⟨_, rfl, fa, _, rfl, .inl (SqL.of h2), rfl, _, rfl, ?_⟩
        by_cases cl : ls = []
        · have d0 : decide (V.int (ws.length : Nat) = V.int 0) = true := by rw [wl, cl]; exact decide_eq_true rfl
          rw [d0]
          refine ⟨_, rfl, p, _, rfl, .inl (SqL.of (s2 _ _ hp1)), by show 2 ≤ sizeLine; decide, fun c hc => ?_⟩
          rw [lv]
          exact bad (er.trans (if_pos (.inr cl))) c hc
        · have l1 : 1 ≤ ls.length := by
            cases ls with
            | nil => exact absurd rfl cl
            | cons x r => exact Nat.le_add_left 1 _
          have d0 : decide (V.int (ws.length : Nat) = V.int 0) = false := decide_eq_false fun q => by
            injection q with q
            omega
          rw [d0]
          have hr1 : readV z = .rows (ls.map rowOf) := er.trans (if_neg (fun q => q.elim (fun q => q cb) cl))
          have lR : (optRows (ls.map rowOf)).length = ls.length := by unfold optRows; rw [List.length_map, List.length_map]
          refine ⟨_, rfl, fa, _, rfl, .inl (SqL.of h2), _, _, rfl, rfl, _, rfl, ?_⟩
          by_cases c12 : ls.length ≤ 12
          · have d12 : decide ((12 : Int) < (ws.length : Nat)) = false := decide_eq_false (by omega)
            rw [d12]
            have due : dueRows (some (optRows (ls.map rowOf))) = (firstBad (optRows (ls.map rowOf)).length 0 (optRows (ls.map rowOf))).map fun (i : Nat) => (("row" : Str), (i : Int)) := if_pos ⟨by rw [lR]; exact l1, by rw [lR]; exact c12⟩
            rw [lR] at due
            refine ⟨_, rfl, fa, _, rfl, .inl (SqL.of h2), _, rfl, by omega, by omega, ?_⟩
            have en2 : ((ws.length : Nat) : Int).toNat = ls.length := by omega
            rw [en2]
            have rl : ∀ r ∈ ls.map rowOf, r.length ≤ 900 := fun r hr => by
              obtain ⟨l, hl, rfl⟩ := List.mem_map.mp hr
              have h9 := hall l hl
              cases e : lineV l with
              | none => rw [e] at h9; cases h9
              | some r =>
                rw [rowOf_some e]
                have := lineV_len e
                have := hln l hl
                omega
            refine for_range (lo := 0) (n := ls.length) (fun i σ' H' => (∃ x3 x4 x5, σ' = [some (.str z), some (.ref p), some (.ref fa), x3, x4, x5]) ∧ Same H2 H' ∧ ∀ q ∈ (optRows (ls.map rowOf)).take i, ascOf ls.length q = true) ⟨⟨_, _, _, rfl⟩, Same.refl H2, fun q hq => (by cases hq)⟩ ?_ ?_
            · rintro i σ' H3 hi ⟨⟨x3, x4, x5, rfl⟩, s3, ha⟩
              have hri : (ls.map rowOf)[i]? = some (rowOf ls[i]) := by rw [List.getElem?_map, List.getElem?_eq_getElem hi]; rfl
              obtain ⟨q, hq1, hq2⟩ := hw.get hri
              have ho : (optRows (ls.map rowOf))[i]? = some (some ((rowOf ls[i]).map V.int)) := by unfold optRows; rw [List.getElem?_map, hri]; rfl
              have hlr := rl _ (List.mem_of_getElem? hri)
              generalize rowOf ls[i] = r at hq2 ho hlr
              have h3 := s3 _ _ h2
              refine ⟨_, rfl, _, rfl, fa, ws, _, _, rfl, rfl, SqL.of h3, at_of' (j := i) (by omega) hq1, _, rfl, fa, _, rfl, .inl (SqL.of h3), _, _, some (r.map V.int), rfl, Tg.ints (sqT_same s3 hq2) (by omega), fun xs e => (by cases e; rw [List.length_map]; exact hlr), fun H4 s4 => ⟨_, rfl, ?_⟩⟩
              rw [wl]
              by_cases c3 : ascOf (ls.length : Int) (some (r.map V.int)) = true
              · rw [c3]
                refine ⟨⟨_, _, _, rfl⟩, s3.trans s4, fun q' hq' => ?_⟩
                rw [List.take_add_one, ho] at hq'
                rcases List.mem_append.mp hq' with g | g
                · exact ha q' g
                · rw [List.mem_singleton.mp g]; exact c3
              · have c4 : ascOf (ls.length : Int) (some (r.map V.int)) = false := by
                  cases e : ascOf (ls.length : Int) (some (r.map V.int)) with
                  | true => exact absurd e c3
                  | false => rfl
                rw [c4]
                have fb := firstBad_at (optRows (ls.map rowOf)) 0 i _ ho ha c3
                rw [Nat.zero_add] at fb
                refine ⟨_, rfl, by show 3 ≤ sizeLine; decide, fun c hc => k c _ (((s02.trans s3).trans s4).trans (same_new hc)) ?_⟩
                rw [resT_table (n := 0 + (i : Int)) hr1 (by rw [due, fb, Int.zero_add]; rfl)]
                exact dp3 (SqT.of upd_same)
            · rintro σ' H3 ⟨⟨x3, x4, x5, rfl⟩, s3, ha⟩
              have e0 : (optRows (ls.map rowOf)).take ls.length = optRows (ls.map rowOf) := List.take_of_length_le (by rw [lR]; exact Nat.le_refl _)
              rw [e0] at ha
              have hd : dueRows (some (optRows (ls.map rowOf))) = none := by rw [due, firstBad_all _ 0 ha]; rfl
              refine ⟨_, rfl, fa, ws, rfl, .inl ⟨SqL.of (s3 _ _ h2), fun c hc => ⟨by show 2 ≤ sizeLine; decide, fun c2 hc2 => ?_⟩⟩⟩
              have s4 := (s02.trans s3).trans ((same_new (o := .tup ws) hc).trans (same_new (o := .tup [V.str "rows", V.ref c]) hc2))
              refine k c2 _ s4 ?_
              rw [resT_rows hr1 hd]
              have hcw : SqT K (upd H3 c (.tup ws)) c ws := SqT.of upd_same
              exact dpR (SqT.of upd_same) ⟨c, ws, rfl, sqT_same (same_new hc2) hcw, ((hw.same s3).same (same_new hc)).same (same_new hc2)⟩
          · have d12 : decide ((12 : Int) < (ws.length : Nat)) = true := decide_eq_true (by omega)
            rw [d12]
            have due : dueRows (some (optRows (ls.map rowOf))) = some (("rows" : Str), (-1 : Int)) := if_neg (by rw [lR]; exact fun q => c12 q.2)
            refine ⟨_, rfl, by show 3 ≤ sizeLine; decide, fun c hc => k c _ (s02.trans (same_new hc)) ?_⟩
            rw [resT_table hr1 due]
            exact dp3 (SqT.of upd_same)
      · have db : (!decide (V.str bh = V.str "")) = true := by
          rw [decide_eq_false (fun q => cb (by injection q))]; rfl
        rw [db]
        refine ⟨_, rfl, p, _, rfl, .inl (SqL.of (s2 _ _ hp1)), by show 2 ≤ sizeLine; decide, fun c hc => ?_⟩
        rw [lv]
        exact bad (er.trans (if_pos (.inl cb))) c hc

/-- what reading a text for a dealing comes to, as data -/
def resD (z : Str) : PyData := match dealV z with
  | none => .tuple [.str "text", .int 1]
  | some os => .tuple [.str "told", .tuple (os.map optD)]
theorem resD_none {z : Str} (h : dealV z = none) : resD z = .tuple [.str "text", .int 1] := by unfold resD; rw [h]
theorem resD_some {z : Str} {os : List OI} (h : dealV z = some os) : resD z = .tuple [.str "told", .tuple (os.map optD)] := by unfold resD; rw [h]
theorem dpAll_opt : ∀ {H : Hp} (os : List OI), DpAll K H (os.map optV) (os.map optD)
  | _, [] => .nil
  | _, none :: os => .cons .non (dpAll_opt os)
  | _, some n :: os => .cons (.int n) (dpAll_opt os)
theorem dpD {H : Hp} {p q : Addr} {os : List OI} (h : SqT K H p [.str "told", .ref q]) (hr : SqT K H q (os.map optV)) : Dp K H (.ref p) (.tuple [.str "told", .tuple (os.map optD)]) := .tup h (.cons (.str _) (.cons (.tup hr (dpAll_opt os)) .nil))
def spDDue (K : PySem.W.Frag) : Sp := fun vs H Q _ => ∃ (v : V) (t : Value) (b : Bool), vs = [v] ∧ TyX K H v t ∧ PySem.W.kitOne K t (.type "str") = some b ∧ (b = false → ∀ p H', Same H H' → Dp K H' (.ref p) resN → Q (.ref p) H') ∧ (b = true → ∃ z : Str, v = .str z ∧ z.length ≤ 50000 ∧ ∀ p H', Same H H' → Dp K H' (.ref p) (resD z) → Q (.ref p) H')
theorem ok_ddue (A : At K mg "_law_dealing_due" s_law_dealing_due ["text"]) (T : Tx mg) (G_law_number_word : Dfn P w K mg base "_law_number_word" ["word"] 1 spLNW) : Dfn P w K mg base "_law_dealing_due" ["text"] 2 (spDDue K) := by
  refine A.ok sc_law_dealing_due (fun vs H Q E h => ?_) (fun f cdv A outer s H vs Q E hr h => ?_)
  · obtain ⟨v, t, b, rfl, _⟩ := h
    rfl
  · obtain ⟨v, t, b, rfl, ty, hk, k0, k1⟩ := h
    refine ⟨_, (pss_cons (ps_if (pt_not (pt_val (pe_callB call_isi (by rfl) T.isinstance (by decide +kernel) (pa_cons (pv 0) (pa_cons (pe_bltn (v := V.ty "str") (by rfl) T.str (by decide +kernel) rfl) pa_nil))))) (pss_one (ps_ret (pe_tup (pa_cons pe_str (pa_cons pe_int pa_nil))))) pss_nil)
      (pss_cons (ps_set (i := 1) sc_law_dealing_due.nd rfl (Or.inl rfl) (pe_split (pv 0) pe_str))
      (pss_cons (ps_if (pt_not (pt_val (pe_callB (cr_all rfl) (by rfl) T.all (by decide +kernel) (pa_cons (pe_lc (own := [("word", 3)]) (g := (gName 3)) (tt := tYes) (te := (tOrV (tOp rEq (tVar 3) (tC (V.str "-"))) (tCall spLNW [] E0 (tCons (tVar 3) tNil)))) (by rfl) sc_law_dealing_due.nd (pi_list (pv 1)) (blkOk_by (own := [("word", 3)]) (N := n_law_dealing_due) (sc := (defScope s_law_dealing_due)) (by decide +kernel)) (fun _ _ _ _ _ => (pg_name (i := 3) sc_law_dealing_due.nd rfl (Or.inl rfl))) (fun _ _ _ _ _ => pts_nil) (fun _ _ _ _ _ => (pe_or (pe_cmpR op_eq (pv 3) pe_str (nomark _)) (pe_one (pe_d G_law_number_word (hr.mono (by decide)) (pa_cons (pv 3) pa_nil)))))) pa_nil)))) (pss_one (ps_ret (pe_tup (pa_cons pe_str (pa_cons pe_int pa_nil))))) pss_nil)
      (pss_cons (ps_set (i := 2) sc_law_dealing_due.nd rfl (Or.inl rfl) (pe_lst pa_nil))
      (pss_cons (ps_for PassesOwn.never rfl (pi_list (pv 1)) (pg_name (i := 3) sc_law_dealing_due.nd rfl (Or.inl rfl))
      (pss_one (ps_expr (pe_bm PySem.F.plainAttrs_list PySem.F.slot_list_append PySem.F.type_list_append mt_append (pv 2) (pa_cons (pe_ix ix_list (pe_lst (pa_cons pe_non (pa_cons (pe_callTy c_intStr (by rfl) T.int (by decide +kernel) (pa_cons (pe_opC op_addT (pet_repC (ik := 3) rfl (Or.inl rfl) (by decide +kernel))) pa_nil)) pa_nil))) (pe_callTy c_int (by rfl) T.int (by decide +kernel) (pa_cons (pe_cmpR op_ne (pv 3) pe_str (nomark _)) pa_nil)) (fun _ _ => rfl)) pa_nil)))))
      (pss_one (ps_ret (pe_tup (pa_cons pe_str (pa_cons (pe_callTy c_tuple (by rfl) T.tuple (by decide +kernel) (pa_cons (pv 2) pa_nil)) pa_nil)))))))))), ?_⟩
    refine ⟨_, rfl, v, .ty "str", t, .type "str", b, rfl, .ty "str", ty, hk, _, rfl, ?_⟩
    cases b with
    | false => exact ⟨by show 2 ≤ sizeLine; decide, fun p hp => k0 rfl p _ (same_new hp) (dp2 (SqT.of upd_same))⟩
    | true =>
    obtain ⟨z, rfl, hz, k⟩ := k1 rfl
    have sl := split_len z " "
    refine ⟨_, rfl, ⟨_, rfl⟩, _, " ", rfl, rfl, blank1', small_le (by omega), fun p hp => ?_⟩
    have er : dealV z = if (Txt.split z " ").all dWord = true then some ((Txt.split z " ").map dOpt) else none := rfl
    have hws : ∀ x ∈ Txt.split z " ", x.length ≤ z.length := fun x hx => split_line hx
    obtain ⟨ws, ew⟩ : ∃ ws, ws = Txt.split z " " := ⟨_, rfl⟩
    rw [← ew] at er sl hws ⊢
    have s0 := same_new (o := .lst (ws.map V.str)) hp
    obtain ⟨H1, e1⟩ : ∃ H1, H1 = upd H p (.lst (ws.map V.str)) := ⟨_, rfl⟩
    have hp1 : H1 p = some (.lst (ws.map V.str)) := by rw [e1]; exact upd_same
    rw [← e1] at s0 ⊢
    refine ⟨_, rfl, p, rfl, ⟨_, SqL.of hp1⟩, fun D hD => ?_⟩
    refine lc_list (xs := ws.map V.str) (fun i H' => H' D = some (.lst (((ws.take i).map dWord).map V.bl)) ∧ Same H1 H') ⟨upd_same, same_new hD⟩ (fun i H' _ h => SqL.of (h.2 _ _ hp1)) ?_ ?_
    · rintro i y H2 hy ⟨h2, s2⟩
      obtain ⟨o, ho, rfl⟩ := get_strs hy
      have hil : i < ws.length := (List.getElem?_eq_some_iff.mp ho).1
      have ol := hws o (List.mem_of_getElem? ho)
      have go : ∀ H3 b, b = dWord o → Same H2 H3 → ∃ acc, H3 D = some (.lst acc) ∧ acc.length < sizeLine ∧ ((upd H3 D (.lst (acc ++ [V.bl b]))) D = some (.lst (((ws.take (i + 1)).map dWord).map V.bl)) ∧ Same H1 (upd H3 D (.lst (acc ++ [V.bl b])))) := fun H3 b eb s3 => by
        refine ⟨_, s3 _ _ h2, by rw [List.length_map, List.length_map, List.length_take]; exact small_lt (by omega), ?_, same_mut (s2.trans s3) hD⟩
        rw [upd_same, List.take_add_one, ho, List.map_append, List.map_append, eb]
        rfl
      refine ⟨rfl, _, rfl, rfl, _, rfl, ?_⟩
      refine ite2 (fun hc => go H2 _ ?_ (Same.refl _)) (fun hc => ?_)
      · unfold dWord
        rw [decide_eq_true (str_inj.mp (of_decide_eq_true hc)), Bool.true_or]
      · refine ⟨_, rfl, o, rfl, by omega, fun H3 s3 => go H3 _ ?_ s3⟩
        unfold dWord
        rw [decide_eq_false (fun q => hc (decide_eq_true (str_inj.mpr q))), Bool.false_or]
    · rintro H2 ⟨h2, s2⟩
      rw [List.length_map, List.take_length] at h2
      refine ⟨D, ws.map dWord, rfl, SqL.of h2, _, rfl, ?_⟩
      have ea : (ws.map dWord).all id = ws.all dWord := by rw [List.all_map]; rfl
      rw [ea]
      cases ha : ws.all dWord with
      | false =>
        rw [ha, if_neg (by decide)] at er
        refine ⟨by show 2 ≤ sizeLine; decide, fun c hc => k c _ ((s0.trans s2).trans (same_new hc)) ?_⟩
        rw [resD_none er]
        exact dp2 (SqT.of upd_same)
      | true =>
        rw [ha, if_pos rfl] at er
        have hp2 := s2 _ _ hp1
        refine ⟨Nat.zero_le _, fun fa hf => ?_⟩
        have sf := same_new (o := .lst []) hf
        refine ⟨_, rfl, p, rfl, ⟨_, SqL.of (sf _ _ hp2)⟩, for_list (K := K) (a := p) (xs := ws.map V.str) (fun i σ' H' => (∃ x3, σ' = [some (.str z), some (.ref p), some (.ref fa), x3]) ∧ H' fa = some (.lst (((ws.take i).map dOpt).map optV)) ∧ Same H2 H') ⟨⟨_, rfl⟩, upd_same, sf⟩ (fun i σ' H' _ h => SqL.of (h.2.2 _ _ hp2)) ?_ ?_⟩
        · rintro i y σ' H3 hy ⟨⟨x3, rfl⟩, h3, s3⟩
          obtain ⟨o, ho, rfl⟩ := get_strs hy
          have hil : i < ws.length := (List.getElem?_eq_some_iff.mp ho).1
          have hdw := List.all_eq_true.mp ha o (List.mem_of_getElem? ho)
          have z1 : ("0" : Str).length = 1 := by decide +kernel
          have z0 : ("" : Str).length = 0 := by decide +kernel
          have ol : o.length ≤ 4 := by
            by_cases hd : o = "-"
            · rw [hd]; decide +kernel
            · unfold dWord at hdw
              rw [decide_eq_false hd, Bool.false_or] at hdw
              exact (nws hdw).s
          obtain ⟨n, hrep, hn⟩ : ∃ n : Int, intText? ("0" ++ Txt.replace o "-" "") = some n ∧ (o ≠ "-" → n = nwv o) ∧ (Txt.replace o "-" "").length ≤ 4 := by
            by_cases hd : o = "-"
            · refine ⟨0, ?_, fun q => absurd hd q, ?_⟩
              · rw [hd, dash_repl]; decide +kernel
              · rw [hd, dash_repl]; decide +kernel
            · unfold dWord at hdw
              rw [decide_eq_false hd, Bool.false_or] at hdw
              have N := nws hdw
              exact ⟨nwv o, by rw [N.repl]; exact N.zero, fun _ => rfl, by rw [N.repl]; exact N.s⟩
          have lz : ("0" ++ Txt.replace o "-" "" : Str).length ≤ 640 := by
            have e : ("0" ++ Txt.replace o "-" "" : Str).length = ("0" : Str).length + (Txt.replace o "-" "").length := by
              show (("0" : Str).cps ++ (Txt.replace o "-" "").cps).size = _
              rw [Array.size_append]
              rfl
            have := hn.2
            omega
          refine ⟨_, rfl, .inl ⟨rfl, _, SqL.of h3⟩, ?_⟩
          refine ⟨o, rfl, by rw [z0]; omega, _, _, rfl, rfl, by rw [z1]; exact small_le (by have := hn.2; omega), _, n, rfl, hrep, lz, by show 2 ≤ sizeLine; decide, fun q hq => ?_⟩
          have sq := same_new (o := .lst [V.non, V.int n]) hq
          have h3q := sq _ _ h3
          refine ⟨_, rfl, rfl, .inr ⟨_, rfl, ?_⟩⟩
          have fin : ∀ u, u = optV (dOpt o) → ∃ l acc x, V.ref fa = .ref l ∧ [u] = [x] ∧ (upd H3 q (.lst [V.non, V.int n])) l = some (.lst acc) ∧ acc.length < sizeLine ∧ ((∃ x3, [some (V.str z), some (.ref p), some (.ref fa), some (.str o)] = [some (.str z), some (.ref p), some (.ref fa), x3]) ∧ (upd (upd H3 q (.lst [V.non, V.int n])) l (.lst (acc ++ [x]))) fa = some (.lst (((ws.take (i + 1)).map dOpt).map optV)) ∧ Same H2 (upd (upd H3 q (.lst [V.non, V.int n])) l (.lst (acc ++ [x])))) := fun u eu => by
            refine ⟨fa, _, u, rfl, rfl, h3q, by rw [List.length_map, List.length_map, List.length_take]; exact small_lt (by omega), ⟨_, rfl⟩, ?_, same_mut (s3.trans sq) hf⟩
            rw [upd_same, List.take_add_one, ho, List.map_append, List.map_append, eu]
            rfl
          by_cases hd : o = "-"
          · have d : (!decide (V.str o = V.str "-")) = false := by rw [decide_eq_true (str_inj.mpr hd)]; rfl
            rw [d]
            refine ⟨q, _, 0, .non, rfl, rfl, SqL.of upd_same, rfl, fin _ ?_⟩
            rw [show dOpt o = none from if_pos hd]
            rfl
          · have d : (!decide (V.str o = V.str "-")) = true := by rw [decide_eq_false (fun e => hd (str_inj.mp e))]; rfl
            rw [d]
            refine ⟨q, _, 1, .int n, rfl, rfl, SqL.of upd_same, rfl, fin _ ?_⟩
            rw [show dOpt o = some (nwv o) from if_neg hd, hn.1 hd]
            rfl
        · rintro σ' H3 ⟨⟨x3, rfl⟩, h3, s3⟩
          rw [List.length_map, List.take_length] at h3
          refine ⟨_, rfl, fa, _, rfl, .inl ⟨SqL.of h3, fun c hc => ⟨by show 2 ≤ sizeLine; decide, fun c2 hc2 => ?_⟩⟩⟩
          have hcw : SqT K (upd H3 c (.tup ((ws.map dOpt).map optV))) c ((ws.map dOpt).map optV) := SqT.of upd_same
          refine k c2 _ ((s0.trans (s2.trans s3)).trans ((same_new hc).trans (same_new hc2))) ?_
          rw [resD_some er]
          exact dpD (SqT.of upd_same) (sqT_same (same_new hc2) hcw)
end
end Fo

set_option maxRecDepth 100000
set_option maxHeartbeats 4000000
namespace Fo
open PySem PySem.Spec PyProof.Rows L2
abbrev s_law_told : Stmt := top 40
abbrev n_law_told : List Str := ["text", "found", "e"]
theorem sc_law_told : FnScope n_law_told ["text"] (defScope s_law_told) := ⟨rfl, rfl, rfl, by decide +kernel, rfl, by decide +kernel, by decide +kernel⟩
abbrev s_law_dealing_told : Stmt := top 42
abbrev n_law_dealing_told : List Str := ["text", "found", "e"]
theorem sc_law_dealing_told : FnScope n_law_dealing_told ["text"] (defScope s_law_dealing_told) := ⟨rfl, rfl, rfl, by decide +kernel, rfl, by decide +kernel, by decide +kernel⟩
theorem cx_mono {P : Program} {w : World} {outer : List Env} {H : Hp} {s : Shared} {E E' : XK} {e : Value} {s' : Shared} (h : CX P w outer H s E e s') (m : ∀ cls d H, E cls d H → E' cls d H) : CX P w outer H s E' e s' := by
  obtain ⟨a, B, H', cls, d, h1, h2, h3, h4, h5, h6, h7, h8⟩ := h
  exact ⟨a, B, H', cls, d, h1, h2, h3, h4, h5, h6, h7, m _ _ _ h8⟩
theorem lk_part (u v : V) : (badF u v).lookup ("part" : Str) = some u := by
  have e : (("part" : Str) == ("at" : Str)) = false := by decide +kernel
  have e2 : (("part" : Str) == ("part" : Str)) = true := by decide +kernel
  unfold badF
  rw [List.lookup_cons, e, List.lookup_cons, e2]
theorem lk_at (u v : V) : (badF u v).lookup ("at" : Str) = some v := by
  have e2 : (("at" : Str) == ("at" : Str)) = true := by decide +kernel
  unfold badF
  rw [List.lookup_cons, e2]
theorem lk_line (v : V) : (btF v).lookup ("line" : Str) = some v := by
  have e2 : (("line" : Str) == ("line" : Str)) = true := by decide +kernel
  unfold btF
  rw [List.lookup_cons, e2]
section
variable {P : Program} {w : World} {K : PySem.W.Frag} {mg : Str → Option Value} {base : Heap} {C B BB DE : Addr}
def spTold8 (K : PySem.W.Frag) : Sp := fun vs H Q _ => ∃ (v : V) (t : Value) (b : Bool), vs = [v] ∧ TyX K H v t ∧ PySem.W.kitOne K t (.type "str") = some b ∧ (b = false → ∀ p H', Same H H' → Dp K H' (.ref p) resN → Q (.ref p) H') ∧ (b = true → ∃ z : Str, v = .str z ∧ z.length ≤ 50000 ∧ ∀ p H', Same H H' → Dp K H' (.ref p) (resT z) → Q (.ref p) H')
theorem ok_told8 {fR : Addr} {fdR : FuncData} (A : At K mg "_law_told" s_law_told ["text"]) (T : Tx mg) (tc : TC K C) (FR : FnOk P w K mg base (CX P w) 8 fR fdR ["text"] (spReadT K C B BB)) (mR : mg "read_table" = some (.ref fR)) (kR : PySem.W.keepIn K (.ref fR) = true) (bR : Binds K fdR ["text"] [])
    (gDE : mg "DrawError" = some (.ref DE)) (gB : mg "BadText" = some (.ref B)) (gBB : mg "BadTable" = some (.ref BB)) (xm : PySem.W.exmOne K (.ref B) (.ref DE) = some true) (xmB : PySem.W.exmOne K (.ref BB) (.ref DE) = some true)
    (xf : XfC K B) (xfB : XfC K BB) (nL : PySem.W.findIn K (.ref B) "line" = some none) (nP : PySem.W.findIn K (.ref BB) "part" = some none) (nA : PySem.W.findIn K (.ref BB) "at" = some none) (xc : XcC K B) (xcB : XcC K BB)
    (k1 : PySem.W.kitOne K (.ref B) (.ref BB) = some false) (k2 : PySem.W.kitOne K (.ref BB) (.ref B) = some false) : Dfn P w K mg base "_law_told" ["text"] 9 (spTold8 K) := by
  refine A.ok sc_law_told (fun vs H Q E h => ?_) (fun f cdv A outer s H vs Q E hr h => ?_)
  · obtain ⟨v, t, b, rfl, _⟩ := h
    rfl
  · obtain ⟨v, t, b, rfl, ty, hk, q0, q1⟩ := h
    refine ⟨_, (pss_cons (ps_set (i := 1) sc_law_told.nd rfl (Or.inl rfl) pe_non)
      (pss_cons (ps_try_as (i := 2) rfl rfl sc_law_told.nd rfl rfl ⟨rfl, by decide, .inl gDE⟩ takes0 (fun W pn xe tk po => pss_one (ps_set (i := 1) sc_law_told.nd rfl (Or.inl rfl) (pe_tup (pa_cons pe_str (pa_cons (show PE _ _ (tFld K (tCall (spReadT K C B BB) [] (fun cls d H => ∀ σ : L2.St, σ.length = 3 → W cls d σ H) (tCons (tVar 0) tNil)) "rows") from pe_fld (pe_call (E := fun cls d H => ∀ σ : L2.St, σ.length = 3 → W cls d σ H) FR (hr.mono (by decide)) (by rfl) mR kR bR .nil (fun pins σ H s e s' I h => passAt tk σ pins H s e s' I (cx_mono h fun cls d H q => q σ I.len)) (pa_cons (pv 0) pa_nil)) rfl) pa_nil)))))
        (fun a oe cls d pn hz hf => pss_cons (ps_set (i := 1) sc_law_told.nd rfl (Or.inl rfl) pe_str)
          (pss_cons (ps_if (pt_val (pe_callB (call_isX2 hz hf) (by rfl) T.isinstance (by decide +kernel) (pa_cons (pv 2) (pa_cons (pe_glob (v := V.ref B) (by rfl) gB rfl) pa_nil)))) (pss_one (ps_set (i := 1) sc_law_told.nd rfl (Or.inl rfl) (pe_tup (pa_cons pe_str (pa_cons (pe_xf xf nL hz hf (pv 2)) pa_nil))))) pss_nil)
          (pss_one (ps_if (pt_val (pe_callB (call_isX2 hz hf) (by rfl) T.isinstance (by decide +kernel) (pa_cons (pv 2) (pa_cons (pe_glob (v := V.ref BB) (by rfl) gBB rfl) pa_nil)))) (pss_one (ps_set (i := 1) sc_law_told.nd rfl (Or.inl rfl) (pe_tup (pa_cons pe_str (pa_cons (pe_xf xfB nP hz hf (pv 2)) (pa_cons (pe_xf xfB nA hz hf (pv 2)) pa_nil)))))) pss_nil)))))
      (pss_one (ps_ret (pv 1))))), ?_⟩
    refine ⟨_, rfl, v, t, b, rfl, ty, hk, fun hb d H1 s1 hdn h1 σ hσ => ?_, fun hb => ?_⟩
    · refine ⟨true, xm, fun _ a ha => ?_, fun q => Bool.noConfusion q⟩
      match σ, hσ with
      | [y0, y1, y2], _ =>
        refine ⟨_, rfl, B, B, d, true, _, rfl, rfl, rfl, h1, xc, kit_same, _, rfl, ?_⟩
        refine ⟨_, rfl, rfl, rfl, d, _, .int 0, rfl, h1, lk_line _, by show 2 ≤ sizeLine; decide, fun p hp => ?_⟩
        have h1' : (upd H1 p (.tup [V.str "text", V.int 0])) d = some (.xd (btF (.int 0))) := by rw [upd_ne (ne_of_none h1 hp)]; exact h1
        refine ⟨_, rfl, B, BB, d, false, _, rfl, rfl, rfl, h1', xc, k1, _, rfl, ?_⟩
        exact ⟨_, rfl, q0 hb p _ (s1.trans (same_new hp)) (dp2 (SqT.of upd_same))⟩
    · obtain ⟨z, rfl, hz, q⟩ := q1 hb
      refine ⟨z, rfl, hz, fun n hn d H1 s1 hdn h1 σ hσ => ?_, fun rs hrs => ⟨fun u n hd d H1 s1 hdn h1 σ hσ => ?_, fun hd p dx a n vs H1 s1 hpn hp ha hv => ?_⟩⟩
      · refine ⟨true, xm, fun _ a ha => ?_, fun q => Bool.noConfusion q⟩
        match σ, hσ with
        | [y0, y1, y2], _ =>
          refine ⟨_, rfl, B, B, d, true, _, rfl, rfl, rfl, h1, xc, kit_same, _, rfl, ?_⟩
          refine ⟨_, rfl, rfl, rfl, d, _, .int n, rfl, h1, lk_line _, by show 2 ≤ sizeLine; decide, fun p hp => ?_⟩
          have h1' : (upd H1 p (.tup [V.str "text", V.int n])) d = some (.xd (btF (.int n))) := by rw [upd_ne (ne_of_none h1 hp)]; exact h1
          refine ⟨_, rfl, B, BB, d, false, _, rfl, rfl, rfl, h1', xc, k1, _, rfl, ?_⟩
          exact ⟨_, rfl, q p _ (s1.trans (same_new hp)) (by rw [resT_text hn]; exact dp2 (SqT.of upd_same))⟩
      · refine ⟨true, xmB, fun _ a ha => ?_, fun q => Bool.noConfusion q⟩
        match σ, hσ with
        | [y0, y1, y2], _ =>
          refine ⟨_, rfl, BB, B, d, false, _, rfl, rfl, rfl, h1, xcB, k2, _, rfl, ?_⟩
          refine ⟨_, rfl, BB, BB, d, true, _, rfl, rfl, rfl, h1, xcB, kit_same, _, rfl, ?_⟩
          refine ⟨_, rfl, rfl, rfl, d, _, .str u, rfl, h1, lk_part _ _, _, rfl, rfl, rfl, d, _, .int n, rfl, h1, lk_at _ _, by show 3 ≤ sizeLine; decide, fun p hp => ?_⟩
          exact ⟨_, rfl, q p _ (s1.trans (same_new hp)) (by rw [resT_table hrs hd]; exact dp3 (SqT.of upd_same))⟩
      · refine ⟨p, C, dx, _, _, rfl, hp, tc.cl, tc.nR, tf_rows _ _, by show 2 ≤ sizeLine; decide, fun c hc => ?_⟩
        refine ⟨_, rfl, q c _ (s1.trans (same_new hc)) (by rw [resT_rows hrs hd]; exact dpR (SqT.of upd_same) ⟨a, vs, rfl, sqT_same (same_new hc) ha, hv.same (same_new hc)⟩)⟩
def spDTold (K : PySem.W.Frag) : Sp := fun vs H Q _ => ∃ (v : V) (t : Value) (b : Bool), vs = [v] ∧ TyX K H v t ∧ PySem.W.kitOne K t (.type "str") = some b ∧ (b = false → ∀ p H', Same H H' → Dp K H' (.ref p) resN → Q (.ref p) H') ∧ (b = true → ∃ z : Str, v = .str z ∧ z.length ≤ 50000 ∧ ∀ p H', Same H H' → Dp K H' (.ref p) (resD z) → Q (.ref p) H')
theorem ok_dtold {fR : Addr} {fdR : FuncData} (A : At K mg "_law_dealing_told" s_law_dealing_told ["text"]) (T : Tx mg) (FR : FnOk P w K mg base (CX P w) 4 fR fdR ["text"] (spReadD K B)) (mR : mg "read_dealing" = some (.ref fR)) (kR : PySem.W.keepIn K (.ref fR) = true) (bR : Binds K fdR ["text"] [])
    (gDE : mg "DrawError" = some (.ref DE)) (gB : mg "BadText" = some (.ref B)) (xm : PySem.W.exmOne K (.ref B) (.ref DE) = some true)
    (xf : XfC K B) (nL : PySem.W.findIn K (.ref B) "line" = some none) (xc : XcC K B) : Dfn P w K mg base "_law_dealing_told" ["text"] 5 (spDTold K) := by
  refine A.ok sc_law_dealing_told (fun vs H Q E h => ?_) (fun f cdv A outer s H vs Q E hr h => ?_)
  · obtain ⟨v, t, b, rfl, _⟩ := h
    rfl
  · obtain ⟨v, t, b, rfl, ty, hk, q0, q1⟩ := h
    refine ⟨_, (pss_cons (ps_set (i := 1) sc_law_dealing_told.nd rfl (Or.inl rfl) pe_non)
      (pss_cons (ps_try_as (i := 2) rfl rfl sc_law_dealing_told.nd rfl rfl ⟨rfl, by decide, .inl gDE⟩ takes0 (fun W pn xe tk po => pss_one (ps_set (i := 1) sc_law_dealing_told.nd rfl (Or.inl rfl) (pe_tup (pa_cons pe_str (pa_cons (pe_call (E := fun cls d H => ∀ σ : L2.St, σ.length = 3 → W cls d σ H) FR (hr.mono (by decide)) (by rfl) mR kR bR .nil (fun pins σ H s e s' I h => passAt tk σ pins H s e s' I (cx_mono h fun cls d H q => q σ I.len)) (pa_cons (pv 0) pa_nil)) pa_nil)))))
        (fun a oe cls d pn hz hf => pss_cons (ps_set (i := 1) sc_law_dealing_told.nd rfl (Or.inl rfl) pe_str)
          (pss_one (ps_if (pt_val (pe_callB (call_isX2 hz hf) (by rfl) T.isinstance (by decide +kernel) (pa_cons (pv 2) (pa_cons (pe_glob (v := V.ref B) (by rfl) gB rfl) pa_nil)))) (pss_one (ps_set (i := 1) sc_law_dealing_told.nd rfl (Or.inl rfl) (pe_tup (pa_cons pe_str (pa_cons (pe_xf xf nL hz hf (pv 2)) pa_nil))))) pss_nil))))
      (pss_one (ps_ret (pv 1))))), ?_⟩
    refine ⟨_, rfl, v, t, b, rfl, ty, hk, fun hb d H1 s1 hdn h1 σ hσ => ?_, fun hb => ?_⟩
    · refine ⟨true, xm, fun _ a ha => ?_, fun q => Bool.noConfusion q⟩
      match σ, hσ with
      | [y0, y1, y2], _ =>
        refine ⟨_, rfl, B, B, d, true, _, rfl, rfl, rfl, h1, xc, kit_same, _, rfl, ?_⟩
        refine ⟨_, rfl, rfl, rfl, d, _, .int 0, rfl, h1, lk_line _, by show 2 ≤ sizeLine; decide, fun p hp => ?_⟩
        exact ⟨_, rfl, q0 hb p _ (s1.trans (same_new hp)) (dp2 (SqT.of upd_same))⟩
    · obtain ⟨z, rfl, hz, q⟩ := q1 hb
      refine ⟨z, rfl, hz, fun hn d H1 s1 hdn h1 σ hσ => ?_, fun os hos p H1 s1 hp => ?_⟩
      · refine ⟨true, xm, fun _ a ha => ?_, fun q => Bool.noConfusion q⟩
        match σ, hσ with
        | [y0, y1, y2], _ =>
          refine ⟨_, rfl, B, B, d, true, _, rfl, rfl, rfl, h1, xc, kit_same, _, rfl, ?_⟩
          refine ⟨_, rfl, rfl, rfl, d, _, .int 1, rfl, h1, lk_line _, by show 2 ≤ sizeLine; decide, fun p hp => ?_⟩
          exact ⟨_, rfl, q p _ (s1.trans (same_new hp)) (by rw [resD_none hn]; exact dp2 (SqT.of upd_same))⟩
      · refine ⟨by show 2 ≤ sizeLine; decide, fun c hc => ?_⟩
        exact ⟨_, rfl, q c _ (s1.trans (same_new hc)) (by rw [resD_some hos]; exact dpD (SqT.of upd_same) (sqT_same (same_new hc) hp))⟩
end
end Fo

set_option maxRecDepth 100000
set_option maxHeartbeats 4000000
namespace Fo
open PySem PySem.Spec PyProof.Rows L2
abbrev s_law_bent : Stmt := top 43
abbrev n_law_bent : List Str := ["tape", "text", "at", "sign", "kind"]
theorem sc_law_bent : FnScope n_law_bent ["tape", "text"] (defScope s_law_bent) := ⟨rfl, rfl, rfl, by decide +kernel, rfl, by decide +kernel, by decide +kernel⟩
theorem cutS_len (z : Str) (lo hi : Option Int) : (cutS z lo hi).length ≤ z.length := by
  have e : (cutS z lo hi).length = ((z.cps.toList.drop (HT.sIx z.length 0 lo)).take (HT.sIx z.length z.length hi - HT.sIx z.length 0 lo)).length := by
    show (List.toArray _).size = _
    rw [List.size_toArray]
  rw [e, List.length_take, List.length_drop]
  have : z.cps.toList.length = z.length := rfl
  omega
theorem len_app8 (x y : Str) : (x ++ y).length = x.length + y.length := by
  show (x.cps ++ y.cps).size = _
  rw [Array.size_append]
  rfl
def signs13 : List Str := ["0", "1", " ", "-", "\n", "00", "12345", "9", "x", "\t", ".", "\n\n", " 3"]
theorem signs_len : ∀ s ∈ signs13, s.length ≤ 5 := by decide +kernel
section
variable {P : Program} {w : World} {K : PySem.W.Frag} {mg : Str → Option Value} {base : Heap} {C B : Addr}
def spBent : Sp := fun vs H Q _ => ∃ (t l : Addr) (z : Str), vs = [.ref t, .str z] ∧ Tape H t l ∧ z.length ≤ 300 ∧ ∀ (z' : Str) (H' : Hp), z'.length ≤ 3 * z.length + 5 → Gr t H H' → Tape H' t l → Q (.str z') H'
theorem ok_bent (A : At K mg "_law_bent" s_law_bent ["tape", "text"]) (T : Tx mg) (G_law_pick : Dfn P w K mg base "_law_pick" ["tape", "size"] 1 spPick) : Dfn P w K mg base "_law_bent" ["tape", "text"] 2 spBent := by
  refine A.ok sc_law_bent (fun vs H Q E h => ?_) (fun f cdv A outer s H vs Q E hr h => ?_)
  · obtain ⟨t, l, z, rfl, _⟩ := h
    rfl
  · obtain ⟨t, l, z, rfl, hT, hz, k⟩ := h
    have zl : z.length ≤ sizeLine := small_le (by omega)
    refine ⟨_, (pss_cons (ps_set (i := 2) sc_law_bent.nd rfl (Or.inl rfl) (pe_d G_law_pick (hr.mono (by decide)) (pa_cons (pv 0) (pa_cons (pe_op op_add (pe_callB c_lenStr (by rfl) T.len (by decide +kernel) (pa_cons (pv 1) pa_nil)) pe_int) pa_nil))))
      (pss_cons (ps_set (i := 3) sc_law_bent.nd rfl (Or.inl rfl) (pe_ix ix_list (pe_lst (pa_cons pe_str (pa_cons pe_str (pa_cons pe_str (pa_cons pe_str (pa_cons pe_str (pa_cons pe_str (pa_cons pe_str (pa_cons pe_str (pa_cons pe_str (pa_cons pe_str (pa_cons pe_str (pa_cons pe_str (pa_cons pe_str pa_nil)))))))))))))) (pe_d G_law_pick (hr.mono (by decide)) (pa_cons (pv 0) (pa_cons pe_int pa_nil))) (fun _ _ => rfl)))
      (pss_cons (ps_set (i := 4) sc_law_bent.nd rfl (Or.inl rfl) (pe_d G_law_pick (hr.mono (by decide)) (pa_cons (pv 0) (pa_cons pe_int pa_nil))))
      (pss_cons (ps_if (pt_cmpR op_eq (pv 4) pe_int (nomark _)) (pss_one (ps_ret (pe_op op_addT (pe_op op_addT (pe_slice sl_str (pv 1) po_none (po_some (pv 2))) (pv 3)) (pe_slice sl_str (pv 1) (po_some (pv 2)) po_none)))) pss_nil)
      (pss_cons (ps_if (pt_cmpR op_eq (pv 4) pe_int (nomark _)) (pss_one (ps_ret (pe_op op_addT (pe_slice sl_str (pv 1) po_none (po_some (pv 2))) (pe_slice sl_str (pv 1) (po_some (pe_op op_add (pv 2) pe_int)) po_none)))) pss_nil)
      (pss_cons (ps_if (pt_cmpR op_eq (pv 4) pe_int (nomark _)) (pss_one (ps_ret (pe_op op_addT (pe_op op_addT (pe_slice sl_str (pv 1) po_none (po_some (pv 2))) (pv 3)) (pe_slice sl_str (pv 1) (po_some (pe_op op_add (pv 2) pe_int)) po_none)))) pss_nil)
      (pss_one (ps_ret (pe_ix ix_list (pe_lst (pa_cons (pe_op op_addT (pv 1) (pv 1)) (pa_cons (pe_slice sl_str (pv 1) po_none (po_some (pe_un un_neg pe_int))) (pa_cons pe_str (pa_strT (pat_cons (pet_of (pe_op op_addT (pv 1) pe_str)) (pat_cons (pet_of (pv 3)) (pat_cons (pet_repC (ik := 1) rfl (Or.inl rfl) (by decide +kernel)) pat_nil)))))))) (pe_d G_law_pick (hr.mono (by decide)) (pa_cons (pv 0) (pa_cons pe_int pa_nil))) (fun _ _ => rfl)))))))))), ?_⟩
    refine ⟨_, rfl, _, rfl, z, rfl, zl, _, _, rfl, rfl, t, l, _, rfl, hT, by omega, by omega, fun at' H1 a0 a1 g1 T1 => ?_⟩
    refine ⟨by show 13 ≤ sizeLine; decide, fun o ho => ?_⟩
    have no := T1.free ho
    refine ⟨_, rfl, t, l, 13, rfl, T1.new ho, by decide, by decide, fun j H2 j0 j1 g2 T2 => ?_⟩
    have ho2 : H2 o = some (.lst (signs13.map V.str)) := g2 _ _ no.1 upd_same
    have hjl : j.toNat < signs13.length := by
      have : signs13.length = 13 := rfl
      omega
    have hjs := List.getElem?_eq_getElem hjl
    obtain ⟨sg, esg⟩ : ∃ sg, sg = signs13[j.toNat] := ⟨_, rfl⟩
    have sgl : sg.length ≤ 5 := by rw [esg]; exact signs_len _ (List.getElem_mem hjl)
    rw [← esg] at hjs
    have hat : atI (signs13.map V.str) j = some (.str sg) := at_of' (j := j.toNat) (by omega) (by rw [List.getElem?_map, hjs]; rfl)
    refine ⟨o, _, j, _, rfl, rfl, SqL.of ho2, hat, ?_⟩
    have g12 := g1.trans ((Gr.new ho).trans g2)
    refine ⟨_, rfl, t, l, 4, rfl, T2, by decide, by decide, fun kd H3 k0 k1 g3 T3 => ?_⟩
    have g13 := g12.trans g3
    have fin : ∀ z' : Str, z'.length ≤ 3 * z.length + 5 → Q (.str z') H3 := fun z' h => k z' H3 h g13 T3
    have cl := fun lo hi => cutS_len z lo hi
    refine ⟨_, rfl, rfl, _, rfl, ?_⟩
    refine ite2 (fun _ => ?_) (fun _ => ?_)
    · delta tNoPart
      refine ⟨_, rfl, _, rfl, at', rfl, z, rfl, zl, _, rfl, _, _, rfl, rfl, small_le (by have := cl none (some at'); omega), ?_⟩
      refine ⟨_, rfl, _, rfl, at', rfl, z, rfl, zl, _, _, rfl, rfl, small_le (by rw [len_app8]; have := cl none (some at'); have := cl (some at') none; omega), fin _ ?_⟩
      rw [len_app8, len_app8]
      have := cl none (some at')
      have := cl (some at') none
      omega
    refine ⟨_, rfl, rfl, _, rfl, ?_⟩
    refine ite2 (fun _ => ?_) (fun _ => ?_)
    · delta tNoPart
      refine ⟨_, rfl, _, rfl, at', rfl, z, rfl, zl, _, rfl, _, rfl, _, _, rfl, rfl, _, rfl, z, rfl, zl, _, _, rfl, rfl, small_le (by have := cl none (some at'); have := cl (some (at' + 1)) none; omega), fin _ ?_⟩
      rw [len_app8]
      have := cl none (some at')
      have := cl (some (at' + 1)) none
      omega
    refine ⟨_, rfl, rfl, _, rfl, ?_⟩
    refine ite2 (fun _ => ?_) (fun _ => ?_)
    · delta tNoPart
      refine ⟨_, rfl, _, rfl, at', rfl, z, rfl, zl, _, rfl, _, _, rfl, rfl, small_le (by have := cl none (some at'); omega), ?_⟩
      refine ⟨_, rfl, _, rfl, _, _, rfl, rfl, _, rfl, z, rfl, zl, _, _, rfl, rfl, small_le (by rw [len_app8]; have := cl none (some at'); have := cl (some (at' + 1)) none; omega), fin _ ?_⟩
      rw [len_app8, len_app8]
      have := cl none (some at')
      have := cl (some (at' + 1)) none
      omega
    · delta tNoPart
      have z2 : ("  " : Str).length = 2 := by decide +kernel
      have z1 : ("0" : Str).length = 1 := by decide +kernel
      have zn : ("\n" : Str).length = 1 := by decide +kernel
      have z0 : ("" : Str).length = 0 := by decide +kernel
      refine ⟨_, rfl, _, rfl, _, _, rfl, rfl, small_le (by omega), ?_⟩
      refine ⟨_, rfl, _, rfl, _, rfl, z, rfl, zl, _, rfl, _, _, rfl, rfl, small_le (by omega), _, rfl, z, rfl, by rw [z2]; omega, by show 7 ≤ sizeLine; decide, fun o2 ho2 => ?_⟩
      have no2 := T3.free ho2
      refine ⟨_, rfl, t, l, 7, rfl, T3.new ho2, by decide, by decide, fun q H4 q0 q1 g4 T4 => ?_⟩
      have h4 := g4 _ _ no2.1 upd_same
      have g14 := g13.trans ((Gr.new ho2).trans g4)
      have fin4 : ∀ z' : Str, z'.length ≤ 3 * z.length + 5 → Q (.str z') H4 := fun z' h => k z' H4 h g14 T4
      have hq : q = 0 ∨ q = 1 ∨ q = 2 ∨ q = 3 ∨ q = 4 ∨ q = 5 ∨ q = 6 := by omega
      rcases hq with rfl | rfl | rfl | rfl | rfl | rfl | rfl
      · exact ⟨o2, _, _, _, rfl, rfl, SqL.of h4, rfl, fin4 _ (by rw [len_app8]; omega)⟩
      · exact ⟨o2, _, _, _, rfl, rfl, SqL.of h4, rfl, fin4 _ (by have := cl none (some (-1)); omega)⟩
      · exact ⟨o2, _, _, _, rfl, rfl, SqL.of h4, rfl, fin4 _ (by rw [z0]; omega)⟩
      · exact ⟨o2, _, _, _, rfl, rfl, SqL.of h4, rfl, fin4 _ (by rw [zn]; omega)⟩
      · exact ⟨o2, _, _, _, rfl, rfl, SqL.of h4, rfl, fin4 _ (by rw [len_app8, z1]; omega)⟩
      · exact ⟨o2, _, _, _, rfl, rfl, SqL.of h4, rfl, fin4 _ (by omega)⟩
      · exact ⟨o2, _, _, _, rfl, rfl, SqL.of h4, rfl, fin4 _ (by have := TK.replace_len z " " "  "; rw [z2] at this; omega)⟩
end
end Fo

set_option maxRecDepth 100000
set_option maxHeartbeats 2000000
/-! data that has a text: ints of up to a million, flags, words -/
namespace Fo
open PySem PySem.Spec PyProof.Rows L2
theorem log_lt {n : Nat} (h : n < 1048576) : n.log2 < 20 := by
  by_cases z : n = 0
  · rw [z]; decide
  · exact (Nat.log2_lt z).mpr h
theorem big_of {n : Int} (h : n.natAbs < 1048576) : (PyData.int n).shown.length ≤ 13 ∧ (PyData.int n).weight ≤ 20 ∧ (PyData.int n).showable = true := by
  have hl := log_lt h
  refine ⟨PyData.shown_int_le (by have e : (10 : Nat) ^ 12 = 1000000000000 := by decide
                                  omega), ?_, decide_eq_true (by omega)⟩
  show (if n == 0 then 0 else n.natAbs.log2 + 1) ≤ 20
  split
  · decide
  · omega
theorem lay_big {n : Int} (h : n.natAbs < 1048576) : Lay 0 (.int n) := ⟨rfl, (big_of h).2.2, Nat.le_refl _, rfl, decide_eq_true (big_of h).1⟩
theorem lay_str {x : Str} (h : PyData.strOk x = true) : Lay 0 (.str x) := ⟨rfl, rfl, Nat.le_refl _, h, rfl⟩
theorem lay_non : Lay 0 .none := ⟨rfl, rfl, Nat.le_refl _, rfl, rfl⟩
theorem lay_bl {b : Bool} : Lay 0 (.bool b) := ⟨rfl, rfl, Nat.le_refl _, rfl, rfl⟩
theorem Lay.up {w v : Nat} {d : PyData} (a : Lay w d) (h : w ≤ v) : Lay v d := ⟨a.hd, a.sh, Nat.le_trans a.dp h, a.can, a.ish⟩
theorem Lay.shaped {w : Nat} {d : PyData} (a : Lay w d) (h : w ≤ 64) : SeqAt.shaped d = true := by
  unfold SeqAt.shaped
  rw [a.can, decide_eq_true (Nat.le_trans a.dp h)]
  rfl
theorem Lay.refl {w : Nat} {d : PyData} (a : Lay w d) : PyData.eqv d d = true := SeqAt.eqv_refl d a.can
theorem Lay.show {w : Nat} {d : PyData} (a : Lay w d) (h : w ≤ 8) (hg : d.weight ≤ 2 ^ 20) : d.hasDict = false ∧ d.showable = true ∧ d.depth ≤ 8 ∧ d.shown.length ≤ sizeLine := ⟨a.hd, a.sh, Nat.le_trans a.dp h, a.shown (by omega) hg⟩
theorem can_lay_I : ∀ ns : List Int, PyData.canLayAll0 (ns.map PyData.int) = true := lay_ints
theorem refl_of_shaped {d : PyData} (h : SeqAt.shaped d = true) : PyData.eqv d d = true := by
  unfold SeqAt.shaped at h
  rw [Bool.and_eq_true] at h
  exact SeqAt.eqv_refl d h.1
end Fo

set_option maxRecDepth 100000
set_option maxHeartbeats 4000000
namespace Fo
open PySem PySem.Spec PyProof.Rows L2
abbrev s_law : Stmt := top 44
abbrev n_law : List Str := ["script", "tape", "table", "text", "words", "turn", "bent", "odd", "k"]
theorem sc_law : FnScope n_law ["script"] (defScope s_law) := ⟨rfl, rfl, rfl, by decide +kernel, rfl, by decide +kernel, by decide +kernel⟩
/-! what is due of a right text -/
theorem small_nw : ∀ m : Fin 100, isNW (nw (m.val : Int)) = true ∧ nwv (nw (m.val : Int)) = (m.val : Int) := by decide +kernel
theorem nw_is {n : Int} (h : 0 ≤ n ∧ n < 100) : isNW (nw n) = true ∧ nwv (nw n) = n := by
  have := small_nw ⟨n.toNat, by omega⟩
  have e : ((n.toNat : Nat) : Int) = n := by omega
  rw [e] at this
  exact this
theorem rText_dash {r : List Int} (hs : ∀ x ∈ r, 0 ≤ x ∧ x < 100) (h : rText r = "-") : r = [] := by
  cases r with
  | nil => rfl
  | cons x r =>
    exfalso
    have e : rText (x :: r) = dText (rowO (x :: r)) := if_neg (by simp)
    rw [e] at h
    have sp := dText_split (rowO_sm hs) (by unfold rowO; simp)
    rw [h] at sp
    have e2 : Txt.split "-" " " = [("-" : Str)] := by decide +kernel
    rw [e2] at sp
    have h0 := congrArg (fun l => l[0]?) sp
    have h1 : some ("-" : Str) = some (nw x) := h0
    exact (nw_ok (hs x List.mem_cons_self)).m (Option.some.inj h1).symm
theorem lineV_row {r : List Int} (hs : ∀ x ∈ r, 0 ≤ x ∧ x < 100) : lineV (rText r) = some r := by
  by_cases c : r = []
  · rw [c]
    exact if_pos rfl
  · have hne : rText r ≠ "-" := fun q => c (rText_dash hs q)
    have et : rText r = dText (rowO r) := if_neg c
    have sp := dText_split (rowO_sm hs) (by intro q; exact c (List.map_eq_nil_iff.mp q))
    have ew : (rowO r).map word = r.map nw := by unfold rowO; rw [List.map_map]; rfl
    unfold lineV
    rw [if_neg hne, et, sp, ew]
    have ha : (r.map nw).all isNW = true := by
      rw [List.all_eq_true]
      intro x hx
      obtain ⟨n, hn, rfl⟩ := List.mem_map.mp hx
      exact (nw_is (hs n hn)).1
    rw [if_pos ha, List.map_map]
    congr 1
    have : r.map (nwv ∘ nw) = r.map id := List.map_congr_left fun n hn => (nw_is (hs n hn)).2
    rw [this, List.map_id]
theorem readV_text {rows : List (List Int)} (hp : 1 ≤ rows.length) (hs : ∀ r ∈ rows, ∀ x ∈ r, 0 ≤ x ∧ x < 100) : readV (tText rows) = .rows rows := by
  rw [readV_of (tText_split hs)]
  have ha : firstLine 0 (rows.map rText) = none := firstLine_all _ 0 fun l hl => by
    obtain ⟨r, hr, rfl⟩ := List.mem_map.mp hl
    rw [lineV_row (hs r hr)]
    rfl
  rw [ha]
  have hc : ¬ (("" : Str) ≠ "" ∨ rows.map rText = []) := by
    rintro (q | q)
    · exact q rfl
    · rw [List.map_eq_nil_iff.mp q] at hp
      exact absurd hp (by decide)
  show (if ("" : Str) ≠ "" ∨ rows.map rText = [] then _ else RV.rows ((rows.map rText).map rowOf)) = _
  rw [if_neg hc, List.map_map]
  congr 1
  have : rows.map (rowOf ∘ rText) = rows.map id := List.map_congr_left fun r hr => rowOf_some (lineV_row (hs r hr))
  rw [this, List.map_id]
theorem due_good {rows : List (List Int)} (G : Good rows) (hl : rows.length ≤ 12) : dueRows (some (optRows rows)) = none := by
  have lR : (optRows rows).length = rows.length := List.length_map ..
  have e : dueRows (some (optRows rows)) = (firstBad (optRows rows).length 0 (optRows rows)).map fun (i : Nat) => (("row" : Str), (i : Int)) := if_pos ⟨by rw [lR]; exact G.pos, by rw [lR]; exact hl⟩
  rw [e, firstBad_all _ 0 fun o ho => ?_]
  · rfl
  · obtain ⟨r, hr, rfl⟩ := List.mem_map.mp ho
    rw [lR]
    exact ascV_ints (G.asc r hr) (G.rng r hr)
theorem tText_len5 {rows : List (List Int)} (hl : rows.length ≤ 5) (h : ∀ r ∈ rows, r.length ≤ 5 ∧ ∀ x ∈ r, 0 ≤ x ∧ x < 100) : (tText rows).length ≤ 85 := by
  show (Builtin.Str.glued "" (rows.map lText)).length ≤ _
  rw [size_glued, List.map_map]
  have e : ("" : Str).length = 0 := by decide +kernel
  rw [e, Nat.mul_zero, Nat.add_zero]
  refine Nat.le_trans (sum_le _ 17 rows fun r hr => ?_) (by omega)
  have h1 := rText_len (h r hr).2
  have h2 := (h r hr).1
  have h3 : (lText r).length = (rText r).length + 1 := by
    show (rText r ++ "\n").cps.size = _
    show ((rText r).cps ++ ("\n" : Str).cps).size = _
    rw [Array.size_append]
    rfl
  show (lText r).length ≤ 17
  omega
/-! shapes of what is compared -/
theorem sh_R3 (t : Str) (ht : PyData.strOk t = true) (rs : List (List Int)) : SeqAt.shaped (.tuple [.str t, dR rs]) = true := by
  have h := sh_R rs
  unfold SeqAt.shaped at h ⊢
  rw [Bool.and_eq_true] at h
  have hd := dep_rows rs
  have h1 : PyData.canLay0 (.tuple [.str t, dR rs]) = true := by
    show (PyData.canLay0 (.str t) && (PyData.canLay0 (dR rs) && true)) = true
    rw [h.1]
    show (PyData.strOk t && (true && true)) = true
    rw [ht]
    rfl
  rw [h1, Bool.true_and]
  refine decide_eq_true ?_
  show max (PyData.depth (.str t)) (max (PyData.depth (dR rs)) 0) + 1 ≤ 64
  have e2 : PyData.depth (dR rs) = PyData.depthAll (rs.map dI) + 1 := by
    show PyData.depth (.tuple _) = _
    rw [PyData.depth]
  have e1 : PyData.depth (.str t) = 0 := by rw [PyData.depth]
  rw [e1, e2]
  omega
theorem shT (z : Str) : SeqAt.shaped (resT z) = true := by
  cases h : readV z with
  | text n =>
    rw [resT_text h]
    exact ((LayAll.cons (lay_str (x := "text") (by decide +kernel)) .nil).tup).shaped (by decide) |> fun _ => by
      unfold SeqAt.shaped
      simp [PyData.canLay0, PyData.depth, PyData.canLayAll0, PyData.depthAll, (by decide +kernel : PyData.strOk "text" = true)]
  | rows rs =>
    cases d : dueRows (some (optRows rs)) with
    | none =>
      rw [resT_rows h d]
      exact sh_R3 _ (by decide +kernel) rs
    | some q =>
      obtain ⟨u, n⟩ := q
      rw [resT_table h d]
      have hu : u = "rows" ∨ u = "row" := by
        by_cases c : 1 ≤ (optRows rs).length ∧ (optRows rs).length ≤ 12
        · have e : dueRows (some (optRows rs)) = (firstBad (optRows rs).length 0 (optRows rs)).map fun (i : Nat) => (("row" : Str), (i : Int)) := if_pos c
          rw [e] at d
          cases e2 : firstBad (optRows rs).length 0 (optRows rs) with
          | none => rw [e2] at d; cases d
          | some i => rw [e2] at d; cases d; exact .inr rfl
        · have e : dueRows (some (optRows rs)) = some (("rows" : Str), (-1 : Int)) := if_neg c
          rw [e] at d
          cases d
          exact .inl rfl
      have ok : PyData.strOk u = true := by
        rcases hu with e | e <;> rw [e] <;> decide +kernel
      unfold SeqAt.shaped
      simp [PyData.canLay0, PyData.depth, PyData.canLayAll0, PyData.depthAll, ok, (by decide +kernel : PyData.strOk "table" = true)]
theorem shN : SeqAt.shaped resN = true := by
  unfold resN SeqAt.shaped
  simp [PyData.canLay0, PyData.depth, PyData.canLayAll0, PyData.depthAll, (by decide +kernel : PyData.strOk "text" = true)]
theorem lay_opts : ∀ {os : List OI}, (∀ o ∈ os, ∀ n, o = some n → n.natAbs < 1048576) → LayAll 0 (os.map optD)
  | [], _ => .nil
  | none :: os, h => .cons lay_non (lay_opts fun o ho => h o (List.mem_cons_of_mem _ ho))
  | some n :: os, h => .cons (lay_big (h _ List.mem_cons_self n rfl)) (lay_opts fun o ho => h o (List.mem_cons_of_mem _ ho))
theorem weight_opts : ∀ {os : List OI}, (∀ o ∈ os, ∀ n, o = some n → n.natAbs < 1048576) → PyData.weightAll (os.map optD) ≤ 21 * os.length
  | [], _ => Nat.le_refl _
  | none :: os, h => by
    show (PyData.none).weight + 1 + PyData.weightAll (os.map optD) ≤ 21 * (os.length + 1)
    have e : (PyData.none).weight ≤ 10 := by decide +kernel
    have b := weight_opts (os := os) fun o ho => h o (List.mem_cons_of_mem _ ho)
    omega
  | some n :: os, h => by
    show (PyData.int n).weight + 1 + PyData.weightAll (os.map optD) ≤ 21 * (os.length + 1)
    have a := (big_of (h _ List.mem_cons_self n rfl)).2.1
    have b := weight_opts (os := os) fun o ho => h o (List.mem_cons_of_mem _ ho)
    omega
theorem shownD {z : Str} (hz : z.length ≤ 100) : (resD z).hasDict = false ∧ (resD z).showable = true ∧ (resD z).depth ≤ 8 ∧ (resD z).shown.length ≤ sizeLine := by
  cases h : dealV z with
  | none =>
    rw [resD_none h]
    have L : Lay 1 (.tuple [.str "text", .int 1]) := (LayAll.cons (lay_str (by decide +kernel)) (LayAll.cons (lay_big (by decide)) .nil)).tup
    exact L.show (by decide) (by decide +kernel)
  | some os =>
    rw [resD_some h]
    have hos : (∀ o ∈ os, ∀ n, o = some n → n.natAbs < 1048576) ∧ os.length ≤ 102 := by
      unfold dealV at h
      by_cases c : (Txt.split z " ").all dWord = true
      · rw [if_pos c] at h
        cases h
        refine ⟨fun o ho n e => ?_, by rw [List.length_map]; have := split_len z " "; omega⟩
        obtain ⟨x, hx, rfl⟩ := List.mem_map.mp ho
        have hd := List.all_eq_true.mp c x hx
        by_cases cx : x = "-"
        · rw [show dOpt x = none from if_pos cx] at e
          cases e
        · rw [show dOpt x = some (nwv x) from if_neg cx] at e
          injection e with e
          unfold dWord at hd
          rw [decide_eq_false cx, Bool.false_or] at hd
          have := (nws hd).lt
          omega
      · rw [if_neg c] at h
        cases h
    have L : Lay 2 (.tuple [.str "told", .tuple (os.map optD)]) := (LayAll.cons ((lay_str (by decide +kernel)).up (by decide)) (LayAll.cons (lay_opts hos.1).tup .nil)).tup
    refine L.show (by decide) ?_
    have w := weight_opts hos.1
    show (PyData.str "told").weight + 1 + (PyData.weightAll (os.map optD) + 1 + 0) ≤ 2 ^ 20
    have e1 : (PyData.str "told").weight = 4 := by decide +kernel
    have e2 : (2 : Nat) ^ 20 = 1048576 := by decide
    have := hos.2
    omega
section
variable {P : Program} {w : World} {K : PySem.W.Frag} {mg : Str → Option Value} {base : Heap} {C B BB DE : Addr}
theorem kitS_tup : PySem.W.kitOne K (.type "tuple") (.type "str") = some false := kit_ty (by decide +kernel)
def spLaw (K : PySem.W.Frag) : Sp := fun vs H Q _ => ∃ (a : Addr) (ns : List Int), vs = [.ref a] ∧ SqL K H a (ns.map V.int) ∧ ns.length ≤ 63 ∧ ∀ H', Q (.bl true) H'
theorem ok_law {f : Addr} {fd : FuncData} (F : Fun K "law" "law" s_law f fd) (T : Tx mg) (G_Table : MkT P w K mg base C 6 1 (spInit K C) (spEqT K C))
    (G_law_tape : Dfn P w K mg base "_law_tape" ["script"] 1 (spTape K)) (G_law_pick : Dfn P w K mg base "_law_pick" ["tape", "size"] 1 spPick) (G_law_rows : Dfn P w K mg base "_law_rows" ["tape", "most"] 4 (spRows K))
    (G_table_text : Dfn P w K mg base "table_text" ["table"] 3 (spTText K C)) (G_dealing_text : Dfn P w K mg base "dealing_text" ["dealing"] 1 (spDText K)) (G_law_deep : Dfn P w K mg base "_law_deep" [] 1 (spDeep K C)) (G_law_bent : Dfn P w K mg base "_law_bent" ["tape", "text"] 2 spBent)
    (G_law_told : Dfn P w K mg base "_law_told" ["text"] 9 (spTold8 K)) (G_law_due : Dfn P w K mg base "_law_due" ["text"] 3 (spDue8 K)) (G_law_dealing_told : Dfn P w K mg base "_law_dealing_told" ["text"] 5 (spDTold K)) (G_law_dealing_due : Dfn P w K mg base "_law_dealing_due" ["text"] 2 (spDDue K)) : FnG P w K mg base 10 f fd ["script"] (spLaw K) := by
  have tc := G_Table.tc
  refine fun_okG F sc_law (fun vs H Q E h => ?_) (fun cdv A outer s H vs Q E hr hg h => ?_)
  · obtain ⟨a, ns, rfl, _⟩ := h
    rfl
  · obtain ⟨sa, ns, rfl, hS, hlen, k⟩ := h
    refine ⟨_, (pss_cons (ps_set (i := 1) sc_law.nd rfl (Or.inr rfl) (pe_d G_law_tape (hr.mono (by decide)) (pa_cons (pv 0) pa_nil)))
      (pss_cons (ps_set (i := 2) sc_law.nd rfl (Or.inl rfl) (pe_makeTable G_Table (hr.mono (by decide)) (pe_d G_law_rows (hr.mono (by decide)) (pa_cons (pv 1) (pa_cons pe_int pa_nil)))))
      (pss_cons (ps_set (i := 3) sc_law.nd rfl (Or.inl rfl) (pe_d G_table_text (hr.mono (by decide)) (pa_cons (pv 2) pa_nil)))
      (pss_cons (ps_set (i := 4) sc_law.nd rfl (Or.inl rfl) (pe_d G_dealing_text (hr.mono (by decide)) (pa_cons (pe_callTy c_tuple (by rfl) T.tuple (by decide +kernel) (pa_cons (pe_lc (own := [("k", 8)]) (g := (gName 8)) (tt := tYes) (te := (tOp (rIxL K) (tLst (tCons (tC V.non) (tCons (tVar 8) tNil))) (tCall spPick [] E0 (tCons (tVar 1) (tCons (tC (V.int 2)) tNil))))) (by rfl) sc_law.nd (pi_range1 rfl T.range (pa_cons (pe_op op_add pe_int (pe_d G_law_pick (hr.mono (by decide)) (pa_cons (pv 1) (pa_cons pe_int pa_nil)))) pa_nil)) (blkOk_by (own := [("k", 8)]) (N := n_law) (sc := (defScope s_law)) (by decide +kernel)) (fun _ _ _ _ _ => (pg_name (i := 8) sc_law.nd rfl (Or.inl rfl))) (fun _ _ _ _ _ => pts_nil) (fun _ _ _ _ _ => (pe_ix ix_list (pe_lst (pa_cons pe_non (pa_cons (pv 8) pa_nil))) (pe_d G_law_pick (hr.mono (by decide)) (pa_cons (pv 1) (pa_cons pe_int pa_nil))) (fun _ _ => rfl)))) pa_nil)) pa_nil)))
      (pss_cons (ps_for PassesOwn.never rfl (pi_range1 rfl T.range (pa_cons pe_int pa_nil)) (pg_name (i := 5) sc_law.nd rfl (Or.inl rfl))
      (pss_cons (ps_set (i := 6) sc_law.nd rfl (Or.inl rfl) (pe_d G_law_bent (hr.mono (by decide)) (pa_cons (pv 1) (pa_cons (pv 3) pa_nil))))
      (Evl.pss_cut (ps_if (pt_cmpR op_eq (pe_d G_law_pick (hr.mono (by decide)) (pa_cons (pv 1) (pa_cons pe_int pa_nil))) pe_int (nomark _)) (pss_one (ps_set (i := 6) sc_law.nd rfl (Or.inl rfl) (pe_d G_law_bent (hr.mono (by decide)) (pa_cons (pv 1) (pa_cons (pv 6) pa_nil))))) pss_nil)
      (pss_cons (ps_if (pt_cmpR (op_neD hr.units) (pe_d G_law_told (hr.mono (by decide)) (pa_cons (pv 6) pa_nil)) (pe_d G_law_due (hr.mono (by decide)) (pa_cons (pv 6) pa_nil)) (nomark _)) (pss_one (ps_ret pe_bl)) pss_nil)
      (pss_cons (ps_set (i := 6) sc_law.nd rfl (Or.inl rfl) (pe_d G_law_bent (hr.mono (by decide)) (pa_cons (pv 1) (pa_cons (pv 4) pa_nil))))
      (pss_one (ps_if (pt_cmpR op_ne (pe_callB (cr_repr (B := 8) hg (room_repr hr)) (by rfl) T.repr (by decide +kernel) (pa_cons (pe_d G_law_dealing_told (hr.mono (by decide)) (pa_cons (pv 6) pa_nil)) pa_nil)) (pe_callB (cr_repr (B := 8) hg (room_repr hr)) (by rfl) T.repr (by decide +kernel) (pa_cons (pe_d G_law_dealing_due (hr.mono (by decide)) (pa_cons (pv 6) pa_nil)) pa_nil)) (nomark _)) (pss_one (ps_ret pe_bl)) pss_nil)))))))
      (pss_cons (ps_set (i := 7) sc_law.nd rfl (Or.inl rfl) (pe_ix ix_list (pe_lst (pa_cons pe_non (pa_cons pe_int (pa_cons pe_bl (pa_cons (pe_lst (pa_cons (pv 3) pa_nil)) (pa_cons (pe_tup (pa_cons (pv 3) pa_nil)) (pa_cons pe_dnewK (pa_cons (pv 2) (pa_cons (pe_d0 G_law_deep (hr.mono (by decide))) pa_nil))))))))) (pe_d G_law_pick (hr.mono (by decide)) (pa_cons (pv 1) (pa_cons pe_int pa_nil))) (fun _ _ => rfl)))
      (pss_cons (ps_if (PW.pt (pw_or (pt_cmpR (op_neD hr.units) (pe_d G_law_told (hr.mono (by decide)) (pa_cons (pv 7) pa_nil)) (pe_tup (pa_cons pe_str (pa_cons pe_int pa_nil))) (nomark _)) (pw_or1 (pt_cmpR (op_neD hr.units) (pe_d G_law_dealing_told (hr.mono (by decide)) (pa_cons (pv 7) pa_nil)) (pe_tup (pa_cons pe_str (pa_cons pe_int pa_nil))) (nomark _))))) (pss_one (ps_ret pe_bl)) pss_nil)
      (pss_one (ps_ret (pe_cmpR (op_eqD hr.units) (pe_d G_law_told (hr.mono (by decide)) (pa_cons (pv 3) pa_nil)) (pe_tup (pa_cons pe_str (pa_cons (pe_fld (pv 2) rfl) pa_nil))) (nomark _))))))))))), ?_⟩
    refine ⟨_, rfl, sa, ns, rfl, hS, fun t l H1 s1 _ _ T1 => ?_⟩
    refine ⟨_, rfl, t, l, 5, rfl, T1, by decide, by decide, fun rv rows H2 G hlm g2 T2 R2 => ?_⟩
    have hl5 : rows.length ≤ 5 := by omega
    have hl12 : rows.length ≤ 12 := by omega
    refine ⟨rows, G, hl12, R2, fun p1 d1 H3 s3 _ h1 => ?_⟩
    have T3 := T2.keep s3
    have R3 := R2.same s3
    have t3 : TableAt K C H3 (.ref p1) rows := ⟨p1, d1, rv, rfl, h1, R3⟩
    have rb : ∀ r ∈ rows, r.length ≤ 5 ∧ ∀ x ∈ r, 0 ≤ x ∧ x < 100 := fun r hr => ⟨by have := row_len (G.asc r hr) (G.rng r hr); omega, fun x hx => by have := G.rng r hr x hx; omega⟩
    have tl := tText_len5 hl5 rb
    refine ⟨_, rfl, .ref p1, rows, rfl, t3, by omega, fun r hr => ⟨by have := (rb r hr).1; omega, (rb r hr).2⟩, fun H4 s4 => ?_⟩
    have T4 := T3.keep s4
    have t4 := t3.same s4
    -- words
    refine ⟨_, rfl, t, l, 4, rfl, T4, by decide, by decide, fun sz H5 z0 z1 g5 T5 => ⟨_, _, rfl, rfl, _, rfl, by omega, by omega, fun D hD => ?_⟩⟩
    have nD := T5.free hD
    refine lc_range (lo := 0) (n := (1 + sz).toNat) (fun j H' => ∃ os : List OI, H' D = some (.lst (os.map optV)) ∧ os.length = j ∧ (∀ o ∈ os, SmO o) ∧ Gr t H5 H' ∧ Tape H' t l) ⟨[], upd_same, rfl, fun _ h => (by cases h), Gr.new hD, T5.new hD⟩ ?_ ?_
    · rintro j H6 hj ⟨os, hDo, hol, hos, g6, T6⟩
      refine ⟨rfl, _, rfl, by show 2 ≤ sizeLine; decide, fun c hc => ?_⟩
      have hDc : D ≠ c := ne_of_none hDo hc
      have nc := T6.free hc
      refine ⟨_, rfl, t, l, 2, rfl, T6.new hc, by decide, by decide, fun y H7 y0 y1 g7 T7 => ?_⟩
      have hc7 : H7 c = some (.lst [.non, .int (0 + (j : Int))]) := g7 _ _ nc.1 upd_same
      have hD7 : H7 D = some (.lst (os.map optV)) := g7 _ _ nD.1 (by rw [upd_ne hDc]; exact hDo)
      have gg : Gr t H6 H7 := (Gr.new hc).trans g7
      have go : ∀ u : OI, SmO u → ∃ acc, H7 D = some (.lst acc) ∧ acc.length < sizeLine ∧ ∃ os' : List OI, (upd H7 D (.lst (acc ++ [optV u]))) D = some (.lst (os'.map optV)) ∧ os'.length = j + 1 ∧ (∀ o ∈ os', SmO o) ∧ Gr t H5 (upd H7 D (.lst (acc ++ [optV u]))) ∧ Tape (upd H7 D (.lst (acc ++ [optV u]))) t l := fun u hu => by
        refine ⟨_, hD7, by rw [List.length_map]; exact small_lt (by omega), os ++ [u], by rw [upd_same, List.map_append]; rfl, by rw [List.length_append, hol]; rfl, fun o ho => ?_, gr_mut (g6.trans gg) hD, T7.mut nD⟩
        rcases List.mem_append.mp ho with h | h
        · exact hos o h
        · rw [List.mem_singleton.mp h]; exact hu
      have hy : y = 0 ∨ y = 1 := by omega
      rcases hy with rfl | rfl
      · exact ⟨c, _, 0, .non, rfl, rfl, SqL.of hc7, rfl, go none fun q e => by cases e⟩
      · exact ⟨c, _, 1, .int _, rfl, rfl, SqL.of hc7, rfl, go (some (0 + (j : Int))) fun q e => by injection e with e; omega⟩
    · rintro H6 ⟨os, hDo, hol, hos, g6, T6⟩
      have osl : os.length ≤ 4 := by omega
      refine ⟨D, _, rfl, .inl ⟨SqL.of hDo, fun z hz => ?_⟩⟩
      have sz6 := same_new (o := .tup (os.map optV)) hz
      refine ⟨z, os, rfl, SqT.of upd_same, by omega, hos, fun H7 s7 => ?_⟩
      have g47 := g5.trans (g6.trans (Gr.of (sz6.trans s7)))
      have T7 := (T6.keep sz6).keep s7
      have t7 := t4.gr g47 T4
      have dl := dText_len hos
      obtain ⟨wd, ewd⟩ : ∃ wd, wd = dText os := ⟨_, rfl⟩
      have wl : wd.length ≤ 12 := by rw [ewd]; omega
      rw [← ewd]
      have tty : ∀ (H' : Hp) (x : Str), TyX K H' (.str x) (.type "str") := fun H' x => .base (.str x)
      have tks : PySem.W.kitOne K (.type "str") (.type "str") = some true := kit_ty (by decide +kernel)
      -- eight turns
      refine ⟨_, rfl, by decide, by decide, for_range (lo := 0) (n := 8) (fun i σ' H' => (∃ x5 x6 x7 x8, σ' = [some (.ref sa), some (.ref t), some (.ref p1), some (.str (tText rows)), some (.str wd), x5, x6, x7, x8]) ∧ Tape H' t l ∧ TableAt K C H' (.ref p1) rows) ⟨⟨_, _, _, _, rfl⟩, T7, t7⟩ ?_ ?_⟩
      · rintro i σ' H8 hi ⟨⟨x5, x6, x7, x8, rfl⟩, T8, t8⟩
        refine ⟨_, rfl, _, rfl, t, l, tText rows, rfl, T8, by omega, fun z1 H9 lz1 g9 T9 => ?_⟩
        refine ⟨fun σ' H' => ∃ z2 : Str, z2.length ≤ 800 ∧ σ' = [some (.ref sa), some (.ref t), some (.ref p1), some (.str (tText rows)), some (.str wd), some (.int (0 + (i : Int))), some (.str z2), x7, x8] ∧ Tape H' t l ∧ TableAt K C H' (.ref p1) rows, ?_, ?_⟩
        · refine ⟨_, rfl, t, l, 3, rfl, T9, by decide, by decide, fun q H10 q0 q1 g10 T10 => ⟨rfl, _, rfl, ?_⟩⟩
          refine ite2 (fun _ => ?_) (fun _ => ?_)
          · refine ⟨_, rfl, _, rfl, t, l, z1, rfl, T10, by omega, fun z2 H11 lz2 g11 T11 => ?_⟩
            exact ⟨z2, by omega, rfl, T11, t8.gr (g9.trans (g10.trans g11)) T8⟩
          · exact ⟨z1, by omega, rfl, T10, t8.gr (g9.trans g10) T8⟩
        · rintro σ' H10 ⟨z2, lz2, rfl, T10, t10⟩
          refine ⟨_, rfl, .str z2, _, true, rfl, tty _ _, tks, fun q => Bool.noConfusion q, fun _ => ⟨z2, rfl, by omega, fun pA H11 s11 hA => ?_⟩⟩
          refine ⟨_, rfl, .str z2, _, true, rfl, tty _ _, tks, fun q => Bool.noConfusion q, fun _ => ⟨z2, rfl, lz2, fun pB H12 s12 hB => ?_⟩⟩
          refine ⟨_, _, dp_same s12 hA, hB, shT z2, shT z2, _, rfl, ?_⟩
          rw [refl_of_shaped (shT z2)]
          have s02 := s11.trans s12
          refine ⟨_, rfl, _, rfl, t, l, wd, rfl, T10.keep s02, by omega, fun z3 H13 lz3 g13 T13 => ?_⟩
          have t13 := (t10.same s02).gr g13 (T10.keep s02)
          obtain ⟨w1, w2, w3, w4⟩ := shownD (z := z3) (by omega)
          refine ⟨_, rfl, .str z3, _, true, rfl, tty _ _, tks, fun q => Bool.noConfusion q, fun _ => ⟨z3, rfl, by omega, fun pC H14 s14 hC => ?_⟩⟩
          refine ⟨pC, resD z3, rfl, hC, w1, w2, w3, w4, ?_⟩
          refine ⟨_, rfl, .str z3, _, true, rfl, tty _ _, tks, fun q => Bool.noConfusion q, fun _ => ⟨z3, rfl, by omega, fun pD H15 s15 hD' => ?_⟩⟩
          refine ⟨pD, resD z3, rfl, hD', w1, w2, w3, w4, rfl, _, rfl, ?_⟩
          have dr : (!decide (V.str (resD z3).shown = V.str (resD z3).shown)) = false := by rw [decide_eq_true rfl]; rfl
          rw [dr]
          exact ⟨⟨_, _, _, _, rfl⟩, T13.keep (s14.trans s15), t13.same (s14.trans s15)⟩
      · rintro σ' H8 ⟨⟨x5, x6, x7, x8, rfl⟩, T8, t8⟩
        -- another thing
        refine ⟨_, rfl, by show 1 ≤ sizeLine; decide, fun a1 h1' => ?_⟩
        refine ⟨_, rfl, by show 1 ≤ sizeLine; decide, fun a2 h2' => fun a3 h3' => ⟨_, rfl, rfl, fun d H9 s9 hd => ⟨by show 8 ≤ sizeLine; decide, fun o ho => ?_⟩⟩⟩
        have sA := same_new (o := .lst [V.str (tText rows)]) h1'
        have sB := same_new (o := .tup [V.str (tText rows)]) h2'
        have sC := same_new (o := .dK []) h3'
        have n1 := T8.free h1'
        have n2 := (T8.keep sA).free h2'
        have n3 := ((T8.keep sA).keep sB).free h3'
        have s89 := ((sA.trans sB).trans sC).trans s9
        have b1 := (sC.trans s9) _ _ (sB _ _ (upd_same (H := H8) (a := a1) (o := .lst [V.str (tText rows)])))
        have b2 := s9 _ _ (sC _ _ (upd_same (H := upd H8 a1 (.lst [V.str (tText rows)])) (a := a2) (o := .tup [V.str (tText rows)])))
        have b3 := s9 _ _ (upd_same (H := upd (upd H8 a1 (.lst [V.str (tText rows)])) a2 (.tup [V.str (tText rows)])) (a := a3) (o := .dK []))
        have T9 := T8.keep s89
        have no := T9.free ho
        have so := same_new (o := .lst [V.non, V.int 0, V.bl true, V.ref a1, V.ref a2, V.ref a3, V.ref p1, d]) ho
        refine ⟨_, rfl, t, l, 8, rfl, T9.keep so, by decide, by decide, fun j H10 j0 j1 g10 T10 => ?_⟩
        have ho10 := g10 _ _ no.1 upd_same
        have t10 := (t8.same (s89.trans so)).gr g10 (T9.keep so)
        obtain ⟨p1', d1', v1, e1, hp1, hR1⟩ := id t10
        injection e1 with e1
        subst e1
        obtain ⟨v, ty, hat, hty, hk⟩ : ∃ v ty, atI [V.non, V.int 0, V.bl true, V.ref a1, V.ref a2, V.ref a3, V.ref p1, d] j = some v ∧ TyX K H10 v ty ∧ PySem.W.kitOne K ty (.type "str") = some false := by
          have hj : j = 0 ∨ j = 1 ∨ j = 2 ∨ j = 3 ∨ j = 4 ∨ j = 5 ∨ j = 6 ∨ j = 7 := by omega
          rcases hj with rfl | rfl | rfl | rfl | rfl | rfl | rfl | rfl
          · exact ⟨_, _, rfl, .base .non, kit_ty (by decide +kernel)⟩
          · exact ⟨_, _, rfl, .base (.int 0), kit_ty (by decide +kernel)⟩
          · exact ⟨_, _, rfl, .base (.bl true), kit_ty (by decide +kernel)⟩
          · exact ⟨_, _, rfl, .base (.lst (g10 _ _ n1.1 (so _ _ b1))), kit_ty (by decide +kernel)⟩
          · exact ⟨_, _, rfl, .base (.tup (g10 _ _ n2.1 (so _ _ b2))), kit_ty (by decide +kernel)⟩
          · exact ⟨_, _, rfl, .base (.dK (g10 _ _ n3.1 (so _ _ b3))), kit_ty (by decide +kernel)⟩
          · exact ⟨_, _, rfl, tc.ty hp1, tc.kS⟩
          · obtain ⟨a, xs, ed, hs⟩ := hd 0
            refine ⟨_, _, rfl, ?_, kitS_tup⟩
            rw [ed]
            exact tyX_sqT (gr_T g10 (T9.keep so) (sqT_same so hs))
        refine ⟨o, _, j, v, rfl, rfl, SqL.of ho10, hat, ?_⟩
        refine ⟨_, rfl, v, ty, false, rfl, hty, hk, fun _ pA H11 s11 hA => ⟨by show 2 ≤ sizeLine; decide, fun pB hB => ?_⟩, fun q => Bool.noConfusion q⟩
        refine ⟨resN, resN, dp_same (same_new hB) hA, dp2 (SqT.of upd_same), shN, shN, _, rfl, ?_⟩
        rw [refl_of_shaped shN]
        have s11' := s11.trans (same_new (o := .tup [V.str "text", V.int 0]) hB)
        refine ⟨_, rfl, v, ty, false, rfl, tyX_same s11' hty, hk, fun _ pC H12 s12 hC => ⟨by show 2 ≤ sizeLine; decide, fun pD hD' => ?_⟩, fun q => Bool.noConfusion q⟩
        refine ⟨resN, resN, dp_same (same_new hD') hC, dp2 (SqT.of upd_same), shN, shN, _, rfl, ?_⟩
        rw [refl_of_shaped shN]
        have s13 := (s11'.trans s12).trans (same_new (o := .tup [V.str "text", V.int 0]) hD')
        refine ⟨_, rfl, .str (tText rows), _, true, rfl, tty _ _, tks, fun q => Bool.noConfusion q, fun _ => ⟨tText rows, rfl, by omega, fun pE H14 s14 hE => ?_⟩⟩
        have s14' := s13.trans s14
        rw [resT_rows (readV_text G.pos fun r hr => (rb r hr).2) (due_good G hl12)] at hE
        refine ⟨_, rfl, p1, C, d1', _, v1, rfl, s14' _ _ hp1, tc.cl, tc.nR, tf_rows _ _, by show 2 ≤ sizeLine; decide, fun pF hF => ?_⟩
        have shr := sh_R3 ("rows" : Str) (by decide +kernel) rows
        refine ⟨_, _, dp_same (same_new hF) hE, dpR (SqT.of upd_same) ((hR1.same s14').same (same_new hF)), shr, shr, ?_⟩
        rw [refl_of_shaped shr]
        exact k _
theorem exm_two (h1 : PySem.W.subIn K (.ref DE) (.type "BaseException") = some true) (h2 : PySem.W.isClsIn K DE = true) (h3 : PySem.W.typeIn K (.ref DE) = some (.type "type")) (h4 : PySem.W.subIn K (.ref B) (.ref DE) = some true) : PySem.W.exmOne K (.ref B) (.ref DE) = some true := by
  have e1 : (PySem.W.subIn K (.ref DE) (.type "BaseException") == some true) = true := by rw [h1] <;> rfl
  have e2 : ((PySem.W.clsIn K DE).isSome && PySem.W.typeIn K (.ref DE) == some (.type "type")) = true := by
    have h2' : (PySem.W.clsIn K DE).isSome = true := h2
    rw [h2', h3] <;> rfl
  show (if (PySem.W.subIn K (.ref DE) (.type "BaseException") == some true) = true then (if ((PySem.W.clsIn K DE).isSome && PySem.W.typeIn K (.ref DE) == some (.type "type")) = true then PySem.W.subIn K (.ref B) (.ref DE) else none) else none) = some true
  rw [if_pos e1, if_pos e2]
  exact h4
theorem compose {fa fI fE fB fBB : Addr} {fd fdI fdE fdB fdBB : FuncData} {tk tk2 : Tok} (T : Tx mg) (tc : TC K C) (gDE : mg "DrawError" = some (.ref DE))
    (gBB : mg "BadTable" = some (.ref BB)) (xmB : PySem.W.exmOne K (.ref BB) (.ref DE) = some true) (oexB : OexC K BB) (xfB : XfC K BB) (xcB : XcC K BB) (nP : PySem.W.findIn K (.ref BB) "part" = some none) (nA : PySem.W.findIn K (.ref BB) "at" = some none) (iBB : PySem.W.findIn K (.ref BB) "__init__" = some (some (.ref fBB))) (tBB : PySem.W.typeIn K (.ref fBB) = some (.type "function")) (FBB : Fun K "__init__" "BadTable.__init__" s_BadTable___init fBB fdBB)
    (gB : mg "BadText" = some (.ref B)) (xm : PySem.W.exmOne K (.ref B) (.ref DE) = some true) (oex : OexC K B) (xf : XfC K B) (xc : XcC K B) (nL : PySem.W.findIn K (.ref B) "line" = some none) (iB : PySem.W.findIn K (.ref B) "__init__" = some (some (.ref fB))) (tB : PySem.W.typeIn K (.ref fB) = some (.type "function")) (FB : Fun K "__init__" "BadText.__init__" s_BadText___init fB fdB)
    (k1 : PySem.W.kitOne K (.ref B) (.ref BB) = some false) (k2 : PySem.W.kitOne K (.ref BB) (.ref B) = some false)
    (hMF : mg "MOST_FIGURES" = some (.int 4 tk2)) (hC : mg "Table" = some (.ref C)) (hMR : mg "MOST_ROWS" = some (.int 12 tk)) (mI : Mk K C fI) (FI : Fun K "__init__" "Table.__init__" s_Table___init fI fdI)
    (qe : PySem.W.findIn K (.ref C) "__eq__" = some (some (.ref fE))) (ie : PySem.W.isFn K (.ref fE) = true) (FE : Fun K "__eq__" "Table.__eq__" s_Table___eq fE fdE)
    (A1 : At K mg "is_integer" s_is_integer ["thing"]) (A2 : At K mg "is_number" s_is_number ["bound", "thing"]) (A3 : At K mg "is_numbers" s_is_numbers ["bound", "thing"]) (A4 : At K mg "is_ascending" s_is_ascending ["bound", "thing"]) (A5 : At K mg "_check_rows" s_check_rows ["rows"])
    (A6 : At K mg "dealing_text" s_dealing_text ["dealing"]) (A7 : At K mg "_row_text" s_row_text ["row"]) (A8 : At K mg "table_text" s_table_text ["table"]) (A9 : At K mg "_check_string" s_check_string ["text"]) (A10 : At K mg "is_number_word" s_is_number_word ["word"])
    (A11 : At K mg "_is_line" s_is_line ["line"]) (A12 : At K mg "_read_line" s_read_line ["line"]) (A13 : At K mg "read_dealing" s_read_dealing ["text"]) (A14 : At K mg "read_table" s_read_table ["text"])
    (B1 : At K mg "_law_tape" s_law_tape ["script"]) (B2 : At K mg "_law_pick" s_law_pick ["tape", "size"]) (B3 : At K mg "_law_order" s_law_order ["tape", "many"]) (B4 : At K mg "_law_loose" s_law_loose ["tape", "many"]) (B5 : At K mg "_law_moved" s_law_moved ["tape", "rows"]) (B6 : At K mg "_law_blocks" s_law_blocks ["tape", "most"]) (B7 : At K mg "_law_rows" s_law_rows ["tape", "most"])
    (D1 : At K mg "_law_is_number" s_law_is_number ["thing", "many"]) (D2 : At K mg "_law_is_lot" s_law_is_lot ["thing", "many"]) (D3 : At K mg "_law_deep" s_law_deep []) (D4 : At K mg "_law_number_word" s_law_number_word ["word"]) (D5 : At K mg "_law_row" s_law_row ["line"]) (D6 : At K mg "_law_due" s_law_due ["text"]) (D7 : At K mg "_law_told" s_law_told ["text"])
    (D8 : At K mg "_law_dealing_due" s_law_dealing_due ["text"]) (D9 : At K mg "_law_dealing_told" s_law_dealing_told ["text"]) (D10 : At K mg "_law_bent" s_law_bent ["tape", "text"])
    (F : Fun K "law" "law" s_law fa fd) : FnG P w K mg base 10 fa fd ["script"] (spLaw K) := by
  have G1 : Dfn P w K mg base _ _ 1 _ := ok_is_integer A1 T tc
  have G2 := ok_is_number A2 T G1
  have G3 := ok_is_numbers A3 T G2
  have G4 := ok_is_ascending A4 T G3
  have G5 := ok_check A5 T hMR G4
  have bI : Binds K fdI ["self", "rows"] [] := FI.binds fun _ _ _ _ _ _ us hl => match us, hl with | [_, _], _ => rfl
  have bBB : Binds K fdBB ["self", "part", "at"] [] := FBB.binds fun _ _ _ _ _ _ us hl => match us, hl with | [_, _, _], _ => rfl
  have bB : Binds K fdB ["self", "line"] [] := FB.binds fun _ _ _ _ _ _ us hl => match us, hl with | [_, _], _ => rfl
  have GT : MkT P w K mg base C 6 1 (spInit K C) (spEqT K C) := ⟨hC, tc, ⟨fI, fdI, mI, ok_init FI T tc G5, bI⟩, ⟨fE, fdE, ok_eq FE T tc hC, FE.binds fun _ _ _ _ _ _ us hl => match us, hl with | [_, _], _ => rfl, qe, ie⟩⟩
  obtain ⟨fK, fdK, mK, FK, bK⟩ := id A5
  have FX := ok_initX (B := BB) (P := P) (w := w) (base := base) FI T tc (ok_checkX FK T hMR G4 oexB iBB tBB (ok_badinit FBB oexB nP nA) bBB gBB) mK FK.kp bK
  have F1 := ok_btinit (P := P) (w := w) (mg := mg) (base := base) FB oex nL
  obtain ⟨fS, fdS, mS, FS, bS⟩ := id A9
  have FCS := ok_checkS (P := P) (w := w) (base := base) FS T oex iB tB F1 bB gB
  have G6 : Dfn P w K mg base _ _ 1 _ := ok_dtext A6 T
  have G8 := ok_ttext A8 T tc (ok_rowtext A7 T G6)
  have G10 : Dfn P w K mg base _ _ 1 _ := ok_numword A10 T hMF
  have G11 := ok_isline A11 T G10
  have G12 : Dfn P w K mg base _ _ 1 _ := ok_readline A12 T
  obtain ⟨fR, fdR, mR, FR, bR⟩ := id A14
  have FRT := ok_readT FR T oex iB tB F1 bB gB FCS mS FS.kp bS mI FX bI hC G11 G12
  obtain ⟨fR2, fdR2, mR2, FR2, bR2⟩ := id A13
  have FRD := ok_readD FR2 T oex iB tB F1 bB gB FCS mS FS.kp bS G10
  have L1 : Dfn P w K mg base _ _ 1 _ := ok_tape B1 T
  have L2' : Dfn P w K mg base _ _ 1 _ := ok_pick B2 T
  have L3 := ok_order B3 T L2'
  have L4 := ok_rows B7 T L2' (ok_moved B5 T L3) (ok_blocks B6 T L2') (ok_loose B4 T L2' L3)
  have J1 : Dfn P w K mg base _ _ 1 _ := ok_lawnum D1 T tc
  have J2 := ok_lawlot D2 T J1
  have J3 : Dfn P w K mg base _ _ 1 (spDeep K C) := ok_lawdeep D3 T
  have N1 : Dfn P w K mg base _ _ 1 _ := ok_lnw D4 T
  exact ok_law F T GT L1 L2' L4 G8 G6 J3 (ok_bent D10 T L2') (ok_told8 D7 T tc FRT mR FR.kp bR gDE gB gBB xm xmB xf xfB nL nP nA xc xcB k1 k2) (ok_due8 D6 T tc (ok_lrow D5 T N1) J2) (ok_dtold D9 T FRD mR2 FR2.kp bR2 gDE gB xm xf nL xc) (ok_ddue D8 T N1)
end
end Fo

set_option maxRecDepth 100000
set_option maxHeartbeats 4000000
namespace Fo
open PySem PySem.Spec PyProof.Rows L2
theorem kit_own {K : PySem.W.Frag} {C : Addr} {T : String} {b : Bool} (hm : PySem.W.kitMeta T = true) (h : PySem.W.mroIn K C (.type T) = some b) : PySem.W.kitOne K (.ref C) (.type T) = some b := by
  have e : (Value.ref C == Value.type T) = false := by
    rw [beq_eq_false_iff_ne]
    intro q
    cases q
  show (if (Value.ref C == Value.type T) = true then some true else if PySem.W.kitMeta T = true then PySem.W.mroIn K C (.type T) else none) = some b
  rw [e, if_neg (by decide), if_pos hm, h]
theorem at_mk {K : PySem.W.Frag} {h : Heap} {mg : Str → Option Value} (X : K.In h) (G : h.Ns mainGlobals mg) {x : Str} {st : Stmt} {ps : List Str} {f : Addr} {oc : Value} {od an : Option Addr} {sl : Array (Option Value)} {kV dc pm cd ct : Value}
    (a : PySem.W.nsIn K mainGlobals x = some (some (.ref f))) (l : K.lookup f = some ⟨oc, od, .func (PySem.W.fnOf x x (defArgs st) (defBody st) (defScope st) .none kV dc pm an cd ct), sl⟩) (c : PySem.W.codeIn K cd x = true) (k : PySem.W.keepIn K (.ref f) = true)
    (b : ∀ (kV doc pm : Value) (an : Option Addr) (cdv ct : Value) (us : List Value), us.length = ps.length → bindArgs (PySem.W.fnOf x x (defArgs st) (defBody st) (defScope st) Value.none kV doc pm an cdv ct) { pos := us } = pure (ps.zip us)) : At K mg x st ps :=
  ⟨f, _, PySem.W.mg_of X G a, fun_mk (st := st) l c k, (fun_mk (st := st) l c k).binds b⟩
theorem all_mk {l : PySem.W.OpenLaw} {w : World} {K : PySem.W.Frag} {h : Heap} {mg : Str → Option Value} {fa C : Addr} {tk tk2 : Tok} {DE : Addr} {B0 N0 : Addr} {nm0 q0 : Str} {bs0 : List Value} {sn0 : List Str} {sub0 : List Value} {ab0 : Bool} {col0 : Option Bool} {dd0 : Option Addr} {m00 m10 m20 m30 m50 : Option Value} {B1 N1 : Addr} {nm1 q1 : Str} {bs1 : List Value} {sn1 : List Str} {sub1 : List Value} {ab1 : Bool} {col1 : Option Bool} {dd1 : Option Addr} {m01 m11 m21 m31 m51 : Option Value} (X : K.In h) (G : h.Ns mainGlobals mg) (hfa : mg "law" = some (.ref fa))
    {f1 : Addr} {od1 an1 : Option Addr} {sl1 : Array (Option Value)} {oc1 kV1 dc1 pm1 cd1 ct1 : Value}
    {f2 : Addr} {od2 an2 : Option Addr} {sl2 : Array (Option Value)} {oc2 kV2 dc2 pm2 cd2 ct2 : Value}
    {f3 : Addr} {od3 an3 : Option Addr} {sl3 : Array (Option Value)} {oc3 kV3 dc3 pm3 cd3 ct3 : Value}
    {f4 : Addr} {od4 an4 : Option Addr} {sl4 : Array (Option Value)} {oc4 kV4 dc4 pm4 cd4 ct4 : Value}
    {f5 : Addr} {od5 an5 : Option Addr} {sl5 : Array (Option Value)} {oc5 kV5 dc5 pm5 cd5 ct5 : Value}
    {f6 : Addr} {od6 an6 : Option Addr} {sl6 : Array (Option Value)} {oc6 kV6 dc6 pm6 cd6 ct6 : Value}
    {f7 : Addr} {od7 an7 : Option Addr} {sl7 : Array (Option Value)} {oc7 kV7 dc7 pm7 cd7 ct7 : Value}
    {f8 : Addr} {od8 an8 : Option Addr} {sl8 : Array (Option Value)} {oc8 kV8 dc8 pm8 cd8 ct8 : Value}
    {f9 : Addr} {od9 an9 : Option Addr} {sl9 : Array (Option Value)} {oc9 kV9 dc9 pm9 cd9 ct9 : Value}
    {f10 : Addr} {od10 an10 : Option Addr} {sl10 : Array (Option Value)} {oc10 kV10 dc10 pm10 cd10 ct10 : Value}
    {f11 : Addr} {od11 an11 : Option Addr} {sl11 : Array (Option Value)} {oc11 kV11 dc11 pm11 cd11 ct11 : Value}
    {f12 : Addr} {od12 an12 : Option Addr} {sl12 : Array (Option Value)} {oc12 kV12 dc12 pm12 cd12 ct12 : Value}
    {f13 : Addr} {od13 an13 : Option Addr} {sl13 : Array (Option Value)} {oc13 kV13 dc13 pm13 cd13 ct13 : Value}
    {f14 : Addr} {od14 an14 : Option Addr} {sl14 : Array (Option Value)} {oc14 kV14 dc14 pm14 cd14 ct14 : Value}
    {f15 : Addr} {od15 an15 : Option Addr} {sl15 : Array (Option Value)} {oc15 kV15 dc15 pm15 cd15 ct15 : Value}
    {f16 : Addr} {od16 an16 : Option Addr} {sl16 : Array (Option Value)} {oc16 kV16 dc16 pm16 cd16 ct16 : Value}
    {f17 : Addr} {od17 an17 : Option Addr} {sl17 : Array (Option Value)} {oc17 kV17 dc17 pm17 cd17 ct17 : Value}
    {f18 : Addr} {od18 an18 : Option Addr} {sl18 : Array (Option Value)} {oc18 kV18 dc18 pm18 cd18 ct18 : Value}
    {f19 : Addr} {od19 an19 : Option Addr} {sl19 : Array (Option Value)} {oc19 kV19 dc19 pm19 cd19 ct19 : Value}
    {f20 : Addr} {od20 an20 : Option Addr} {sl20 : Array (Option Value)} {oc20 kV20 dc20 pm20 cd20 ct20 : Value}
    {f21 : Addr} {od21 an21 : Option Addr} {sl21 : Array (Option Value)} {oc21 kV21 dc21 pm21 cd21 ct21 : Value}
    {f22 : Addr} {od22 an22 : Option Addr} {sl22 : Array (Option Value)} {oc22 kV22 dc22 pm22 cd22 ct22 : Value}
    {f23 : Addr} {od23 an23 : Option Addr} {sl23 : Array (Option Value)} {oc23 kV23 dc23 pm23 cd23 ct23 : Value}
    {f24 : Addr} {od24 an24 : Option Addr} {sl24 : Array (Option Value)} {oc24 kV24 dc24 pm24 cd24 ct24 : Value}
    {f25 : Addr} {od25 an25 : Option Addr} {sl25 : Array (Option Value)} {oc25 kV25 dc25 pm25 cd25 ct25 : Value}
    {f26 : Addr} {od26 an26 : Option Addr} {sl26 : Array (Option Value)} {oc26 kV26 dc26 pm26 cd26 ct26 : Value}
    {f27 : Addr} {od27 an27 : Option Addr} {sl27 : Array (Option Value)} {oc27 kV27 dc27 pm27 cd27 ct27 : Value}
    {f28 : Addr} {od28 an28 : Option Addr} {sl28 : Array (Option Value)} {oc28 kV28 dc28 pm28 cd28 ct28 : Value}
    {f29 : Addr} {od29 an29 : Option Addr} {sl29 : Array (Option Value)} {oc29 kV29 dc29 pm29 cd29 ct29 : Value}
    {f30 : Addr} {od30 an30 : Option Addr} {sl30 : Array (Option Value)} {oc30 kV30 dc30 pm30 cd30 ct30 : Value}
    {f31 : Addr} {od31 an31 : Option Addr} {sl31 : Array (Option Value)} {oc31 kV31 dc31 pm31 cd31 ct31 : Value}
    {f32 : Addr} {od32 an32 : Option Addr} {sl32 : Array (Option Value)} {oc32 kV32 dc32 pm32 cd32 ct32 : Value}
    {f33 : Addr} {od33 an33 : Option Addr} {sl33 : Array (Option Value)} {oc33 kV33 dc33 pm33 cd33 ct33 : Value}
    {f34 : Addr} {od34 an34 : Option Addr} {sl34 : Array (Option Value)} {oc34 kV34 dc34 pm34 cd34 ct34 : Value}
    {fX0 : Addr} {odX0 anX0 : Option Addr} {slX0 : Array (Option Value)} {ocX0 kVX0 dcX0 pmX0 cdX0 ctX0 : Value}
    {fX1 : Addr} {odX1 anX1 : Option Addr} {slX1 : Array (Option Value)} {ocX1 kVX1 dcX1 pmX1 cdX1 ctX1 : Value}
    (aC : PySem.W.nsIn K mainGlobals "Table" = some (some (.ref C)))
    (aI : PySem.W.findIn K (.ref C) "__init__" = some (some (.ref f1)))
    (iI : PySem.W.isFn K (.ref f1) = true)
    (l1 : K.lookup f1 = some ⟨oc1, od1, .func (PySem.W.fnOf "__init__" "Table.__init__" (defArgs s_Table___init) (defBody s_Table___init) (defScope s_Table___init) .none kV1 dc1 pm1 an1 cd1 ct1), sl1⟩)
    (c1 : PySem.W.codeIn K cd1 "Table.__init__" = true)
    (k1 : PySem.W.keepIn K (.ref f1) = true)
    (aE : PySem.W.findIn K (.ref C) "__eq__" = some (some (.ref f2)))
    (iE : PySem.W.isFn K (.ref f2) = true)
    (l2 : K.lookup f2 = some ⟨oc2, od2, .func (PySem.W.fnOf "__eq__" "Table.__eq__" (defArgs s_Table___eq) (defBody s_Table___eq) (defScope s_Table___eq) .none kV2 dc2 pm2 an2 cd2 ct2), sl2⟩)
    (c2 : PySem.W.codeIn K cd2 "Table.__eq__" = true)
    (k2 : PySem.W.keepIn K (.ref f2) = true)
    (aL : PySem.W.nsIn K mainGlobals "law" = some (some (.ref f3)))
    (l3 : K.lookup f3 = some ⟨oc3, od3, .func (PySem.W.fnOf "law" "law" (defArgs s_law) (defBody s_law) (defScope s_law) .none kV3 dc3 pm3 an3 cd3 ct3), sl3⟩)
    (c3 : PySem.W.codeIn K cd3 "law" = true)
    (k3 : PySem.W.keepIn K (.ref f3) = true)
    (a4 : PySem.W.nsIn K mainGlobals "is_integer" = some (some (.ref f4)))
    (l4 : K.lookup f4 = some ⟨oc4, od4, .func (PySem.W.fnOf "is_integer" "is_integer" (defArgs s_is_integer) (defBody s_is_integer) (defScope s_is_integer) .none kV4 dc4 pm4 an4 cd4 ct4), sl4⟩)
    (c4 : PySem.W.codeIn K cd4 "is_integer" = true)
    (k4 : PySem.W.keepIn K (.ref f4) = true)
    (a5 : PySem.W.nsIn K mainGlobals "is_number" = some (some (.ref f5)))
    (l5 : K.lookup f5 = some ⟨oc5, od5, .func (PySem.W.fnOf "is_number" "is_number" (defArgs s_is_number) (defBody s_is_number) (defScope s_is_number) .none kV5 dc5 pm5 an5 cd5 ct5), sl5⟩)
    (c5 : PySem.W.codeIn K cd5 "is_number" = true)
    (k5 : PySem.W.keepIn K (.ref f5) = true)
    (a6 : PySem.W.nsIn K mainGlobals "is_numbers" = some (some (.ref f6)))
    (l6 : K.lookup f6 = some ⟨oc6, od6, .func (PySem.W.fnOf "is_numbers" "is_numbers" (defArgs s_is_numbers) (defBody s_is_numbers) (defScope s_is_numbers) .none kV6 dc6 pm6 an6 cd6 ct6), sl6⟩)
    (c6 : PySem.W.codeIn K cd6 "is_numbers" = true)
    (k6 : PySem.W.keepIn K (.ref f6) = true)
    (a7 : PySem.W.nsIn K mainGlobals "is_ascending" = some (some (.ref f7)))
    (l7 : K.lookup f7 = some ⟨oc7, od7, .func (PySem.W.fnOf "is_ascending" "is_ascending" (defArgs s_is_ascending) (defBody s_is_ascending) (defScope s_is_ascending) .none kV7 dc7 pm7 an7 cd7 ct7), sl7⟩)
    (c7 : PySem.W.codeIn K cd7 "is_ascending" = true)
    (k7 : PySem.W.keepIn K (.ref f7) = true)
    (a8 : PySem.W.nsIn K mainGlobals "_check_rows" = some (some (.ref f8)))
    (l8 : K.lookup f8 = some ⟨oc8, od8, .func (PySem.W.fnOf "_check_rows" "_check_rows" (defArgs s_check_rows) (defBody s_check_rows) (defScope s_check_rows) .none kV8 dc8 pm8 an8 cd8 ct8), sl8⟩)
    (c8 : PySem.W.codeIn K cd8 "_check_rows" = true)
    (k8 : PySem.W.keepIn K (.ref f8) = true)
    (a9 : PySem.W.nsIn K mainGlobals "dealing_text" = some (some (.ref f9)))
    (l9 : K.lookup f9 = some ⟨oc9, od9, .func (PySem.W.fnOf "dealing_text" "dealing_text" (defArgs s_dealing_text) (defBody s_dealing_text) (defScope s_dealing_text) .none kV9 dc9 pm9 an9 cd9 ct9), sl9⟩)
    (c9 : PySem.W.codeIn K cd9 "dealing_text" = true)
    (k9 : PySem.W.keepIn K (.ref f9) = true)
    (a10 : PySem.W.nsIn K mainGlobals "_row_text" = some (some (.ref f10)))
    (l10 : K.lookup f10 = some ⟨oc10, od10, .func (PySem.W.fnOf "_row_text" "_row_text" (defArgs s_row_text) (defBody s_row_text) (defScope s_row_text) .none kV10 dc10 pm10 an10 cd10 ct10), sl10⟩)
    (c10 : PySem.W.codeIn K cd10 "_row_text" = true)
    (k10 : PySem.W.keepIn K (.ref f10) = true)
    (a11 : PySem.W.nsIn K mainGlobals "table_text" = some (some (.ref f11)))
    (l11 : K.lookup f11 = some ⟨oc11, od11, .func (PySem.W.fnOf "table_text" "table_text" (defArgs s_table_text) (defBody s_table_text) (defScope s_table_text) .none kV11 dc11 pm11 an11 cd11 ct11), sl11⟩)
    (c11 : PySem.W.codeIn K cd11 "table_text" = true)
    (k11 : PySem.W.keepIn K (.ref f11) = true)
    (a12 : PySem.W.nsIn K mainGlobals "_check_string" = some (some (.ref f12)))
    (l12 : K.lookup f12 = some ⟨oc12, od12, .func (PySem.W.fnOf "_check_string" "_check_string" (defArgs s_check_string) (defBody s_check_string) (defScope s_check_string) .none kV12 dc12 pm12 an12 cd12 ct12), sl12⟩)
    (c12 : PySem.W.codeIn K cd12 "_check_string" = true)
    (k12 : PySem.W.keepIn K (.ref f12) = true)
    (a13 : PySem.W.nsIn K mainGlobals "is_number_word" = some (some (.ref f13)))
    (l13 : K.lookup f13 = some ⟨oc13, od13, .func (PySem.W.fnOf "is_number_word" "is_number_word" (defArgs s_is_number_word) (defBody s_is_number_word) (defScope s_is_number_word) .none kV13 dc13 pm13 an13 cd13 ct13), sl13⟩)
    (c13 : PySem.W.codeIn K cd13 "is_number_word" = true)
    (k13 : PySem.W.keepIn K (.ref f13) = true)
    (a14 : PySem.W.nsIn K mainGlobals "_is_line" = some (some (.ref f14)))
    (l14 : K.lookup f14 = some ⟨oc14, od14, .func (PySem.W.fnOf "_is_line" "_is_line" (defArgs s_is_line) (defBody s_is_line) (defScope s_is_line) .none kV14 dc14 pm14 an14 cd14 ct14), sl14⟩)
    (c14 : PySem.W.codeIn K cd14 "_is_line" = true)
    (k14 : PySem.W.keepIn K (.ref f14) = true)
    (a15 : PySem.W.nsIn K mainGlobals "_read_line" = some (some (.ref f15)))
    (l15 : K.lookup f15 = some ⟨oc15, od15, .func (PySem.W.fnOf "_read_line" "_read_line" (defArgs s_read_line) (defBody s_read_line) (defScope s_read_line) .none kV15 dc15 pm15 an15 cd15 ct15), sl15⟩)
    (c15 : PySem.W.codeIn K cd15 "_read_line" = true)
    (k15 : PySem.W.keepIn K (.ref f15) = true)
    (a16 : PySem.W.nsIn K mainGlobals "read_dealing" = some (some (.ref f16)))
    (l16 : K.lookup f16 = some ⟨oc16, od16, .func (PySem.W.fnOf "read_dealing" "read_dealing" (defArgs s_read_dealing) (defBody s_read_dealing) (defScope s_read_dealing) .none kV16 dc16 pm16 an16 cd16 ct16), sl16⟩)
    (c16 : PySem.W.codeIn K cd16 "read_dealing" = true)
    (k16 : PySem.W.keepIn K (.ref f16) = true)
    (a17 : PySem.W.nsIn K mainGlobals "read_table" = some (some (.ref f17)))
    (l17 : K.lookup f17 = some ⟨oc17, od17, .func (PySem.W.fnOf "read_table" "read_table" (defArgs s_read_table) (defBody s_read_table) (defScope s_read_table) .none kV17 dc17 pm17 an17 cd17 ct17), sl17⟩)
    (c17 : PySem.W.codeIn K cd17 "read_table" = true)
    (k17 : PySem.W.keepIn K (.ref f17) = true)
    (a18 : PySem.W.nsIn K mainGlobals "_law_tape" = some (some (.ref f18)))
    (l18 : K.lookup f18 = some ⟨oc18, od18, .func (PySem.W.fnOf "_law_tape" "_law_tape" (defArgs s_law_tape) (defBody s_law_tape) (defScope s_law_tape) .none kV18 dc18 pm18 an18 cd18 ct18), sl18⟩)
    (c18 : PySem.W.codeIn K cd18 "_law_tape" = true)
    (k18 : PySem.W.keepIn K (.ref f18) = true)
    (a19 : PySem.W.nsIn K mainGlobals "_law_pick" = some (some (.ref f19)))
    (l19 : K.lookup f19 = some ⟨oc19, od19, .func (PySem.W.fnOf "_law_pick" "_law_pick" (defArgs s_law_pick) (defBody s_law_pick) (defScope s_law_pick) .none kV19 dc19 pm19 an19 cd19 ct19), sl19⟩)
    (c19 : PySem.W.codeIn K cd19 "_law_pick" = true)
    (k19 : PySem.W.keepIn K (.ref f19) = true)
    (a20 : PySem.W.nsIn K mainGlobals "_law_order" = some (some (.ref f20)))
    (l20 : K.lookup f20 = some ⟨oc20, od20, .func (PySem.W.fnOf "_law_order" "_law_order" (defArgs s_law_order) (defBody s_law_order) (defScope s_law_order) .none kV20 dc20 pm20 an20 cd20 ct20), sl20⟩)
    (c20 : PySem.W.codeIn K cd20 "_law_order" = true)
    (k20 : PySem.W.keepIn K (.ref f20) = true)
    (a21 : PySem.W.nsIn K mainGlobals "_law_loose" = some (some (.ref f21)))
    (l21 : K.lookup f21 = some ⟨oc21, od21, .func (PySem.W.fnOf "_law_loose" "_law_loose" (defArgs s_law_loose) (defBody s_law_loose) (defScope s_law_loose) .none kV21 dc21 pm21 an21 cd21 ct21), sl21⟩)
    (c21 : PySem.W.codeIn K cd21 "_law_loose" = true)
    (k21 : PySem.W.keepIn K (.ref f21) = true)
    (a22 : PySem.W.nsIn K mainGlobals "_law_moved" = some (some (.ref f22)))
    (l22 : K.lookup f22 = some ⟨oc22, od22, .func (PySem.W.fnOf "_law_moved" "_law_moved" (defArgs s_law_moved) (defBody s_law_moved) (defScope s_law_moved) .none kV22 dc22 pm22 an22 cd22 ct22), sl22⟩)
    (c22 : PySem.W.codeIn K cd22 "_law_moved" = true)
    (k22 : PySem.W.keepIn K (.ref f22) = true)
    (a23 : PySem.W.nsIn K mainGlobals "_law_blocks" = some (some (.ref f23)))
    (l23 : K.lookup f23 = some ⟨oc23, od23, .func (PySem.W.fnOf "_law_blocks" "_law_blocks" (defArgs s_law_blocks) (defBody s_law_blocks) (defScope s_law_blocks) .none kV23 dc23 pm23 an23 cd23 ct23), sl23⟩)
    (c23 : PySem.W.codeIn K cd23 "_law_blocks" = true)
    (k23 : PySem.W.keepIn K (.ref f23) = true)
    (a24 : PySem.W.nsIn K mainGlobals "_law_rows" = some (some (.ref f24)))
    (l24 : K.lookup f24 = some ⟨oc24, od24, .func (PySem.W.fnOf "_law_rows" "_law_rows" (defArgs s_law_rows) (defBody s_law_rows) (defScope s_law_rows) .none kV24 dc24 pm24 an24 cd24 ct24), sl24⟩)
    (c24 : PySem.W.codeIn K cd24 "_law_rows" = true)
    (k24 : PySem.W.keepIn K (.ref f24) = true)
    (a25 : PySem.W.nsIn K mainGlobals "_law_is_number" = some (some (.ref f25)))
    (l25 : K.lookup f25 = some ⟨oc25, od25, .func (PySem.W.fnOf "_law_is_number" "_law_is_number" (defArgs s_law_is_number) (defBody s_law_is_number) (defScope s_law_is_number) .none kV25 dc25 pm25 an25 cd25 ct25), sl25⟩)
    (c25 : PySem.W.codeIn K cd25 "_law_is_number" = true)
    (k25 : PySem.W.keepIn K (.ref f25) = true)
    (a26 : PySem.W.nsIn K mainGlobals "_law_is_lot" = some (some (.ref f26)))
    (l26 : K.lookup f26 = some ⟨oc26, od26, .func (PySem.W.fnOf "_law_is_lot" "_law_is_lot" (defArgs s_law_is_lot) (defBody s_law_is_lot) (defScope s_law_is_lot) .none kV26 dc26 pm26 an26 cd26 ct26), sl26⟩)
    (c26 : PySem.W.codeIn K cd26 "_law_is_lot" = true)
    (k26 : PySem.W.keepIn K (.ref f26) = true)
    (a27 : PySem.W.nsIn K mainGlobals "_law_deep" = some (some (.ref f27)))
    (l27 : K.lookup f27 = some ⟨oc27, od27, .func (PySem.W.fnOf "_law_deep" "_law_deep" (defArgs s_law_deep) (defBody s_law_deep) (defScope s_law_deep) .none kV27 dc27 pm27 an27 cd27 ct27), sl27⟩)
    (c27 : PySem.W.codeIn K cd27 "_law_deep" = true)
    (k27 : PySem.W.keepIn K (.ref f27) = true)
    (a28 : PySem.W.nsIn K mainGlobals "_law_number_word" = some (some (.ref f28)))
    (l28 : K.lookup f28 = some ⟨oc28, od28, .func (PySem.W.fnOf "_law_number_word" "_law_number_word" (defArgs s_law_number_word) (defBody s_law_number_word) (defScope s_law_number_word) .none kV28 dc28 pm28 an28 cd28 ct28), sl28⟩)
    (c28 : PySem.W.codeIn K cd28 "_law_number_word" = true)
    (k28 : PySem.W.keepIn K (.ref f28) = true)
    (a29 : PySem.W.nsIn K mainGlobals "_law_row" = some (some (.ref f29)))
    (l29 : K.lookup f29 = some ⟨oc29, od29, .func (PySem.W.fnOf "_law_row" "_law_row" (defArgs s_law_row) (defBody s_law_row) (defScope s_law_row) .none kV29 dc29 pm29 an29 cd29 ct29), sl29⟩)
    (c29 : PySem.W.codeIn K cd29 "_law_row" = true)
    (k29 : PySem.W.keepIn K (.ref f29) = true)
    (a30 : PySem.W.nsIn K mainGlobals "_law_due" = some (some (.ref f30)))
    (l30 : K.lookup f30 = some ⟨oc30, od30, .func (PySem.W.fnOf "_law_due" "_law_due" (defArgs s_law_due) (defBody s_law_due) (defScope s_law_due) .none kV30 dc30 pm30 an30 cd30 ct30), sl30⟩)
    (c30 : PySem.W.codeIn K cd30 "_law_due" = true)
    (k30 : PySem.W.keepIn K (.ref f30) = true)
    (a31 : PySem.W.nsIn K mainGlobals "_law_told" = some (some (.ref f31)))
    (l31 : K.lookup f31 = some ⟨oc31, od31, .func (PySem.W.fnOf "_law_told" "_law_told" (defArgs s_law_told) (defBody s_law_told) (defScope s_law_told) .none kV31 dc31 pm31 an31 cd31 ct31), sl31⟩)
    (c31 : PySem.W.codeIn K cd31 "_law_told" = true)
    (k31 : PySem.W.keepIn K (.ref f31) = true)
    (a32 : PySem.W.nsIn K mainGlobals "_law_dealing_due" = some (some (.ref f32)))
    (l32 : K.lookup f32 = some ⟨oc32, od32, .func (PySem.W.fnOf "_law_dealing_due" "_law_dealing_due" (defArgs s_law_dealing_due) (defBody s_law_dealing_due) (defScope s_law_dealing_due) .none kV32 dc32 pm32 an32 cd32 ct32), sl32⟩)
    (c32 : PySem.W.codeIn K cd32 "_law_dealing_due" = true)
    (k32 : PySem.W.keepIn K (.ref f32) = true)
    (a33 : PySem.W.nsIn K mainGlobals "_law_dealing_told" = some (some (.ref f33)))
    (l33 : K.lookup f33 = some ⟨oc33, od33, .func (PySem.W.fnOf "_law_dealing_told" "_law_dealing_told" (defArgs s_law_dealing_told) (defBody s_law_dealing_told) (defScope s_law_dealing_told) .none kV33 dc33 pm33 an33 cd33 ct33), sl33⟩)
    (c33 : PySem.W.codeIn K cd33 "_law_dealing_told" = true)
    (k33 : PySem.W.keepIn K (.ref f33) = true)
    (a34 : PySem.W.nsIn K mainGlobals "_law_bent" = some (some (.ref f34)))
    (l34 : K.lookup f34 = some ⟨oc34, od34, .func (PySem.W.fnOf "_law_bent" "_law_bent" (defArgs s_law_bent) (defBody s_law_bent) (defScope s_law_bent) .none kV34 dc34 pm34 an34 cd34 ct34), sl34⟩)
    (c34 : PySem.W.codeIn K cd34 "_law_bent" = true)
    (k34 : PySem.W.keepIn K (.ref f34) = true)
    (aDE : PySem.W.nsIn K mainGlobals "DrawError" = some (some (.ref DE)))
    (deC : PySem.W.subIn K (.ref DE) (.type "BaseException") = some true)
    (dsC : PySem.W.isClsIn K DE = true)
    (dtC : PySem.W.typeIn K (.ref DE) = some (.type "type"))
    (aB0 : PySem.W.nsIn K mainGlobals "BadTable" = some (some (.ref B0)))
    (xL0 : K.lookup B0 = some (excClassObj nm0 q0 B0 N0 bs0 [.ref DE, .type "ValueError", .type "Exception", .type "BaseException", .type "object"] true sn0 sub0 ab0 col0 dd0 m00 m10 m20 m30 m50 "ValueError.__new__"))
    (xsa0 : PySem.W.findIn K (.ref B0) "__setattr__" = some (some (.builtin "object.__setattr__")))
    (xga0 : PySem.W.findIn K (.ref B0) "__getattribute__" = some (some (.builtin "BaseException.__getattribute__")))
    (xgg0 : PySem.W.findIn K (.ref B0) "__getattr__" = some none)
    (xca0 : PySem.W.findIn K (.ref B0) "__class__" = some (some (.builtin "object.__class__")))
    (xmo0 : PySem.W.mroIn K B0 (.type "object") = some true)
    (xis0 : PySem.W.isClsIn K B0 = true)
    (x0_part : PySem.W.findIn K (.ref B0) "part" = some none)
    (x0_at : PySem.W.findIn K (.ref B0) "at" = some none)
    (xiB0 : PySem.W.findIn K (.ref B0) "__init__" = some (some (.ref fX0)))
    (xtf0 : PySem.W.typeIn K (.ref fX0) = some (.type "function"))
    (lX0 : K.lookup fX0 = some ⟨ocX0, odX0, .func (PySem.W.fnOf "__init__" "BadTable.__init__" (defArgs s_BadTable___init) (defBody s_BadTable___init) (defScope s_BadTable___init) .none kVX0 dcX0 pmX0 anX0 cdX0 ctX0), slX0⟩)
    (cX0 : PySem.W.codeIn K cdX0 "BadTable.__init__" = true)
    (kX0 : PySem.W.keepIn K (.ref fX0) = true)
    (xkC0 : PySem.W.keepIn K (.ref B0) = true)
    (xeC0 : PySem.W.subIn K (.ref B0) (.type "BaseException") = some true)
    (xtC0 : PySem.W.typeIn K (.ref B0) = some (.type "type"))
    (xhC0 : PySem.W.hasDictIn K B0 = true)
    (dbC0 : PySem.W.subIn K (.ref B0) (.ref DE) = some true)
    (dss0 : PySem.W.subIn K (.ref B0) (.ref B0) = some true)
    (aB1 : PySem.W.nsIn K mainGlobals "BadText" = some (some (.ref B1)))
    (xL1 : K.lookup B1 = some (excClassObj nm1 q1 B1 N1 bs1 [.ref DE, .type "ValueError", .type "Exception", .type "BaseException", .type "object"] true sn1 sub1 ab1 col1 dd1 m01 m11 m21 m31 m51 "ValueError.__new__"))
    (xsa1 : PySem.W.findIn K (.ref B1) "__setattr__" = some (some (.builtin "object.__setattr__")))
    (xga1 : PySem.W.findIn K (.ref B1) "__getattribute__" = some (some (.builtin "BaseException.__getattribute__")))
    (xgg1 : PySem.W.findIn K (.ref B1) "__getattr__" = some none)
    (xca1 : PySem.W.findIn K (.ref B1) "__class__" = some (some (.builtin "object.__class__")))
    (xmo1 : PySem.W.mroIn K B1 (.type "object") = some true)
    (xis1 : PySem.W.isClsIn K B1 = true)
    (x1_line : PySem.W.findIn K (.ref B1) "line" = some none)
    (xiB1 : PySem.W.findIn K (.ref B1) "__init__" = some (some (.ref fX1)))
    (xtf1 : PySem.W.typeIn K (.ref fX1) = some (.type "function"))
    (lX1 : K.lookup fX1 = some ⟨ocX1, odX1, .func (PySem.W.fnOf "__init__" "BadText.__init__" (defArgs s_BadText___init) (defBody s_BadText___init) (defScope s_BadText___init) .none kVX1 dcX1 pmX1 anX1 cdX1 ctX1), slX1⟩)
    (cX1 : PySem.W.codeIn K cdX1 "BadText.__init__" = true)
    (kX1 : PySem.W.keepIn K (.ref fX1) = true)
    (xkC1 : PySem.W.keepIn K (.ref B1) = true)
    (xeC1 : PySem.W.subIn K (.ref B1) (.type "BaseException") = some true)
    (xtC1 : PySem.W.typeIn K (.ref B1) = some (.type "type"))
    (xhC1 : PySem.W.hasDictIn K B1 = true)
    (dbC1 : PySem.W.subIn K (.ref B1) (.ref DE) = some true)
    (dss1 : PySem.W.subIn K (.ref B1) (.ref B1) = some true)
    (dno0_1 : PySem.W.subIn K (.ref B0) (.ref B1) = some false)
    (dno1_0 : PySem.W.subIn K (.ref B1) (.ref B0) = some false)
    (pg : PySem.W.plainGet K C Str.empty = true)
    (hd : PySem.W.hasDictIn K C = true)
    (po : PySem.W.plainOver K C = true)
    (sa : PySem.W.findIn K (.ref C) "__setattr__" = some (some (.builtin "object.__setattr__")))
    (mk : PySem.W.makesIn K C = true)
    (kc : PySem.W.keepIn K (.ref C) = true)
    (tha : PySem.W.findIn K (.ref C) "__class__" = some (some (.builtin "object.__class__")))
    (thn : PySem.W.specialIn K (.builtin "object.__class__") "__get__" = some (some (.builtin "getset_descriptor.__get__")))
    (thk : PySem.W.takesIn K (.builtin "object.__class__") = some true)
    (thm : PySem.W.mroIn K C (.type "object") = some true)
    (tne : PySem.W.findIn K (.ref C) "__ne__" = some (some (.builtin "object.__ne__")))
    (n_rows : PySem.W.findIn K (.ref C) "rows" = some none)
    (n_size : PySem.W.findIn K (.ref C) "size" = some none)
    (kI : PySem.W.mroIn K C (.type "int") = some false)
    (kB : PySem.W.mroIn K C (.type "bool") = some false)
    (kT : PySem.W.mroIn K C (.type "tuple") = some false)
    (kS : PySem.W.mroIn K C (.type "str") = some false)
    (kL : PySem.W.mroIn K C (.type "list") = some false)
    (mf : PySem.W.nsIn K mainGlobals "MOST_FIGURES" = some (some (.int 4 tk2)))
    (mr : PySem.W.nsIn K mainGlobals "MOST_ROWS" = some (some (.int 12 tk)))
    (z_len : PySem.W.nsIn K mainGlobals "len" = some none)
    (z_list : PySem.W.nsIn K mainGlobals "list" = some none)
    (z_range : PySem.W.nsIn K mainGlobals "range" = some none)
    (z_tuple : PySem.W.nsIn K mainGlobals "tuple" = some none)
    (z_sorted : PySem.W.nsIn K mainGlobals "sorted" = some none)
    (z_int : PySem.W.nsIn K mainGlobals "int" = some none)
    (z_min : PySem.W.nsIn K mainGlobals "min" = some none)
    (z_isinstance : PySem.W.nsIn K mainGlobals "isinstance" = some none)
    (z_all : PySem.W.nsIn K mainGlobals "all" = some none)
    (z_enumerate : PySem.W.nsIn K mainGlobals "enumerate" = some none)
    (z_zip : PySem.W.nsIn K mainGlobals "zip" = some none)
    (z_set : PySem.W.nsIn K mainGlobals "set" = some none)
    (z_repr : PySem.W.nsIn K mainGlobals "repr" = some none)
    (z_str : PySem.W.nsIn K mainGlobals "str" = some none)
    (z_bool : PySem.W.nsIn K mainGlobals "bool" = some none) :
    ∃ fd : FuncData, (∀ (s : Shared) (v : Value), BindsTo s fd ⟨[v], []⟩ [("script", v)]) ∧ ∀ base : Heap, K.In base → base.Ns mainGlobals mg → FnG l.prog w K mg base 10 fa fd ["script"] (spLaw K) := by
  have e := hfa.symm.trans (PySem.W.mg_of X G aL)
  cases e
  have T : Tx mg := ⟨PySem.W.mg_none_of X G z_len, PySem.W.mg_none_of X G z_list, PySem.W.mg_none_of X G z_range, PySem.W.mg_none_of X G z_tuple, PySem.W.mg_none_of X G z_sorted, PySem.W.mg_none_of X G z_int, PySem.W.mg_none_of X G z_min, PySem.W.mg_none_of X G z_isinstance, PySem.W.mg_none_of X G z_all, PySem.W.mg_none_of X G z_enumerate, PySem.W.mg_none_of X G z_zip, PySem.W.mg_none_of X G z_set, PySem.W.mg_none_of X G z_repr, PySem.W.mg_none_of X G z_str, PySem.W.mg_none_of X G z_bool⟩
  have tc : TC K C := ⟨⟨pg, hd, po, sa⟩, tha, thn, thk, thm, tne, n_rows, n_size, kit_own (by decide +kernel) kI, kit_own (by decide +kernel) kB, kit_own (by decide +kernel) kT, kit_own (by decide +kernel) kS, kit_own (by decide +kernel) kL⟩
  exact ⟨PySem.W.fnOf "law" "law" (defArgs s_law) (defBody s_law) (defScope s_law) .none kV3 dc3 pm3 an3 cd3 ct3, fun s v => .of_eq rfl, fun base _ _ =>
    compose T tc (PySem.W.mg_of X G aDE) (PySem.W.mg_of X G aB0) (exm_two deC dsC dtC dbC0) ⟨⟨nm0, q0, N0, bs0, _, sn0, sub0, ab0, col0, dd0, m00, m10, m20, m30, m50, xL0, (show PySem.HandSPX.refsVE [.type "ValueError", .type "Exception", .type "BaseException", .type "object"] = true by decide +kernel)⟩, xsa0, xeC0, xtC0, xkC0⟩ ⟨xga0, xgg0, xeC0, xhC0⟩ ⟨xis0, xga0, xgg0, xeC0, xca0, thn, thk, xmo0⟩ x0_part x0_at xiB0 xtf0 (fun_mk (st := s_BadTable___init) lX0 cX0 kX0) (PySem.W.mg_of X G aB1) (exm_two deC dsC dtC dbC1) ⟨⟨nm1, q1, N1, bs1, _, sn1, sub1, ab1, col1, dd1, m01, m11, m21, m31, m51, xL1, (show PySem.HandSPX.refsVE [.type "ValueError", .type "Exception", .type "BaseException", .type "object"] = true by decide +kernel)⟩, xsa1, xeC1, xtC1, xkC1⟩ ⟨xga1, xgg1, xeC1, xhC1⟩ ⟨xis1, xga1, xgg1, xeC1, xca1, thn, thk, xmo1⟩ x1_line xiB1 xtf1 (fun_mk (st := s_BadText___init) lX1 cX1 kX1) (kit_other xis0 xtC0 dno1_0 dss0) (kit_other xis1 xtC1 dno0_1 dss1) (PySem.W.mg_of X G mf) (PySem.W.mg_of X G aC) (PySem.W.mg_of X G mr) ⟨mk, aI, iI, kc⟩ (fun_mk (st := s_Table___init) l1 c1 k1) aE iE (fun_mk (st := s_Table___eq) l2 c2 k2)
      (at_mk (ps := ["thing"]) X G a4 l4 c4 k4 fun _ _ _ _ _ _ us hl => match us, hl with | [_], _ => rfl)
      (at_mk (ps := ["bound", "thing"]) X G a5 l5 c5 k5 fun _ _ _ _ _ _ us hl => match us, hl with | [_, _], _ => rfl)
      (at_mk (ps := ["bound", "thing"]) X G a6 l6 c6 k6 fun _ _ _ _ _ _ us hl => match us, hl with | [_, _], _ => rfl)
      (at_mk (ps := ["bound", "thing"]) X G a7 l7 c7 k7 fun _ _ _ _ _ _ us hl => match us, hl with | [_, _], _ => rfl)
      (at_mk (ps := ["rows"]) X G a8 l8 c8 k8 fun _ _ _ _ _ _ us hl => match us, hl with | [_], _ => rfl)
      (at_mk (ps := ["dealing"]) X G a9 l9 c9 k9 fun _ _ _ _ _ _ us hl => match us, hl with | [_], _ => rfl)
      (at_mk (ps := ["row"]) X G a10 l10 c10 k10 fun _ _ _ _ _ _ us hl => match us, hl with | [_], _ => rfl)
      (at_mk (ps := ["table"]) X G a11 l11 c11 k11 fun _ _ _ _ _ _ us hl => match us, hl with | [_], _ => rfl)
      (at_mk (ps := ["text"]) X G a12 l12 c12 k12 fun _ _ _ _ _ _ us hl => match us, hl with | [_], _ => rfl)
      (at_mk (ps := ["word"]) X G a13 l13 c13 k13 fun _ _ _ _ _ _ us hl => match us, hl with | [_], _ => rfl)
      (at_mk (ps := ["line"]) X G a14 l14 c14 k14 fun _ _ _ _ _ _ us hl => match us, hl with | [_], _ => rfl)
      (at_mk (ps := ["line"]) X G a15 l15 c15 k15 fun _ _ _ _ _ _ us hl => match us, hl with | [_], _ => rfl)
      (at_mk (ps := ["text"]) X G a16 l16 c16 k16 fun _ _ _ _ _ _ us hl => match us, hl with | [_], _ => rfl)
      (at_mk (ps := ["text"]) X G a17 l17 c17 k17 fun _ _ _ _ _ _ us hl => match us, hl with | [_], _ => rfl)
      (at_mk (ps := ["script"]) X G a18 l18 c18 k18 fun _ _ _ _ _ _ us hl => match us, hl with | [_], _ => rfl)
      (at_mk (ps := ["tape", "size"]) X G a19 l19 c19 k19 fun _ _ _ _ _ _ us hl => match us, hl with | [_, _], _ => rfl)
      (at_mk (ps := ["tape", "many"]) X G a20 l20 c20 k20 fun _ _ _ _ _ _ us hl => match us, hl with | [_, _], _ => rfl)
      (at_mk (ps := ["tape", "many"]) X G a21 l21 c21 k21 fun _ _ _ _ _ _ us hl => match us, hl with | [_, _], _ => rfl)
      (at_mk (ps := ["tape", "rows"]) X G a22 l22 c22 k22 fun _ _ _ _ _ _ us hl => match us, hl with | [_, _], _ => rfl)
      (at_mk (ps := ["tape", "most"]) X G a23 l23 c23 k23 fun _ _ _ _ _ _ us hl => match us, hl with | [_, _], _ => rfl)
      (at_mk (ps := ["tape", "most"]) X G a24 l24 c24 k24 fun _ _ _ _ _ _ us hl => match us, hl with | [_, _], _ => rfl)
      (at_mk (ps := ["thing", "many"]) X G a25 l25 c25 k25 fun _ _ _ _ _ _ us hl => match us, hl with | [_, _], _ => rfl)
      (at_mk (ps := ["thing", "many"]) X G a26 l26 c26 k26 fun _ _ _ _ _ _ us hl => match us, hl with | [_, _], _ => rfl)
      (at_mk (ps := []) X G a27 l27 c27 k27 fun _ _ _ _ _ _ us hl => match us, hl with | [], _ => rfl)
      (at_mk (ps := ["word"]) X G a28 l28 c28 k28 fun _ _ _ _ _ _ us hl => match us, hl with | [_], _ => rfl)
      (at_mk (ps := ["line"]) X G a29 l29 c29 k29 fun _ _ _ _ _ _ us hl => match us, hl with | [_], _ => rfl)
      (at_mk (ps := ["text"]) X G a30 l30 c30 k30 fun _ _ _ _ _ _ us hl => match us, hl with | [_], _ => rfl)
      (at_mk (ps := ["text"]) X G a31 l31 c31 k31 fun _ _ _ _ _ _ us hl => match us, hl with | [_], _ => rfl)
      (at_mk (ps := ["text"]) X G a32 l32 c32 k32 fun _ _ _ _ _ _ us hl => match us, hl with | [_], _ => rfl)
      (at_mk (ps := ["text"]) X G a33 l33 c33 k33 fun _ _ _ _ _ _ us hl => match us, hl with | [_], _ => rfl)
      (at_mk (ps := ["tape", "text"]) X G a34 l34 c34 k34 fun _ _ _ _ _ _ us hl => match us, hl with | [_, _], _ => rfl)
      (fun_mk (st := s_law) l3 c3 k3)⟩
theorem walk {l : PySem.W.OpenLaw} {q : Program} {loose : List Str} {XP : (Str → Option Value) → Heap → Prop} {YP : World → Heap → Prop} {d : DefRec} {K : Params → PySem.W.Frag} (hn : l.most = some 63) (hdf : d.params.defaults = [])
    (hY : ∀ (w : World) (h : Heap), YP w h → (K w.params).In h)
    (F : ∀ (w : World) (mg : Str → Option Value) (fa : Addr) (h : Heap), (K w.params).In h → h.Ns mainGlobals mg → mg d.name = some (.ref fa) →
      ∃ fd : FuncData, (∀ (s : Shared) (u : Value), BindsTo s fd ⟨[u], []⟩ [("script", u)]) ∧ ∀ base : Heap, (K w.params).In base → base.Ns mainGlobals mg → FnG l.prog w (K w.params) mg base 10 fa fd ["script"] (spLaw (K w.params))) :
    PySem.W.WalkO q loose XP YP l.row.toRowW d [] (fun f vs => PySem.call f vs) :=
  walk_ofG (n := 63) (k := 10) (x := "script") (sp := fun w => spLaw (K w.params)) hn (by decide) hdf ⟨rfl, by decide, by decide⟩ hY F fun _ _ a ns hl _ hS => ⟨a, ns, rfl, hS, hl, fun _ => rfl⟩
end Fo

open PySem PySem.W PyProof.Rows in
set_option maxRecDepth 100000 in
set_option maxHeartbeats 0 in
theorem PySem.Challenge.cw_fullorring_k08_first_wrong_lines_holds : PySem.Challenge.rw_fullorring_k08_first_wrong_lines.Holds := by
  w_on; o_law; k_head; (case hw => w_witness2)
  k_fill
  refine Fo.walk (l := PySem.Challenge.rw_fullorring_k08_first_wrong_lines) rfl rfl (fun w h Y => PySem.W.kIn_of Y) ?F
  case F =>
    intro w mg fa h KX G hmg
    refine' Fo.all_mk KX G hmg ?aC ?aI ?iI ?l1 ?c1 ?k1 ?aE ?iE ?l2 ?c2 ?k2 ?aL ?l3 ?c3 ?k3 ?a4 ?l4 ?c4 ?k4 ?a5 ?l5 ?c5 ?k5 ?a6 ?l6 ?c6 ?k6 ?a7 ?l7 ?c7 ?k7 ?a8 ?l8 ?c8 ?k8 ?a9 ?l9 ?c9 ?k9 ?a10 ?l10 ?c10 ?k10 ?a11 ?l11 ?c11 ?k11 ?a12 ?l12 ?c12 ?k12 ?a13 ?l13 ?c13 ?k13 ?a14 ?l14 ?c14 ?k14 ?a15 ?l15 ?c15 ?k15 ?a16 ?l16 ?c16 ?k16 ?a17 ?l17 ?c17 ?k17 ?a18 ?l18 ?c18 ?k18 ?a19 ?l19 ?c19 ?k19 ?a20 ?l20 ?c20 ?k20 ?a21 ?l21 ?c21 ?k21 ?a22 ?l22 ?c22 ?k22 ?a23 ?l23 ?c23 ?k23 ?a24 ?l24 ?c24 ?k24 ?a25 ?l25 ?c25 ?k25 ?a26 ?l26 ?c26 ?k26 ?a27 ?l27 ?c27 ?k27 ?a28 ?l28 ?c28 ?k28 ?a29 ?l29 ?c29 ?k29 ?a30 ?l30 ?c30 ?k30 ?a31 ?l31 ?c31 ?k31 ?a32 ?l32 ?c32 ?k32 ?a33 ?l33 ?c33 ?k33 ?a34 ?l34 ?c34 ?k34 ?aDE ?deC ?dsC ?dtC ?aB0 ?xL0 ?xsa0 ?xga0 ?xgg0 ?xca0 ?xmo0 ?xis0 ?x0_part ?x0_at ?xiB0 ?xtf0 ?lX0 ?cX0 ?kX0 ?xkC0 ?xeC0 ?xtC0 ?xhC0 ?dbC0 ?dss0 ?aB1 ?xL1 ?xsa1 ?xga1 ?xgg1 ?xca1 ?xmo1 ?xis1 ?x1_line ?xiB1 ?xtf1 ?lX1 ?cX1 ?kX1 ?xkC1 ?xeC1 ?xtC1 ?xhC1 ?dbC1 ?dss1 ?dno0_1 ?dno1_0 ?pg ?hd ?po ?sa ?mk ?kc ?tha ?thn ?thk ?thm ?tne ?n_rows ?n_size ?kI ?kB ?kT ?kS ?kL ?mf ?mr ?z_len ?z_list ?z_range ?z_tuple ?z_sorted ?z_int ?z_min ?z_isinstance ?z_all ?z_enumerate ?z_zip ?z_set ?z_repr ?z_str ?z_bool
    (case aC => k_is)
    (case aI => k_is)
    (case iI => k_is)
    (case l1 => k_is)
    (case c1 => k_is)
    (case k1 => k_is)
    (case aE => k_is)
    (case iE => k_is)
    (case l2 => k_is)
    (case c2 => k_is)
    (case k2 => k_is)
    (case aL => k_is)
    (case l3 => k_is)
    (case c3 => k_is)
    (case k3 => k_is)
    (case a4 => k_is)
    (case l4 => k_is)
    (case c4 => k_is)
    (case k4 => k_is)
    (case a5 => k_is)
    (case l5 => k_is)
    (case c5 => k_is)
    (case k5 => k_is)
    (case a6 => k_is)
    (case l6 => k_is)
    (case c6 => k_is)
    (case k6 => k_is)
    (case a7 => k_is)
    (case l7 => k_is)
    (case c7 => k_is)
    (case k7 => k_is)
    (case a8 => k_is)
    (case l8 => k_is)
    (case c8 => k_is)
    (case k8 => k_is)
    (case a9 => k_is)
    (case l9 => k_is)
    (case c9 => k_is)
    (case k9 => k_is)
    (case a10 => k_is)
    (case l10 => k_is)
    (case c10 => k_is)
    (case k10 => k_is)
    (case a11 => k_is)
    (case l11 => k_is)
    (case c11 => k_is)
    (case k11 => k_is)
    (case a12 => k_is)
    (case l12 => k_is)
    (case c12 => k_is)
    (case k12 => k_is)
    (case a13 => k_is)
    (case l13 => k_is)
    (case c13 => k_is)
    (case k13 => k_is)
    (case a14 => k_is)
    (case l14 => k_is)
    (case c14 => k_is)
    (case k14 => k_is)
    (case a15 => k_is)
    (case l15 => k_is)
    (case c15 => k_is)
    (case k15 => k_is)
    (case a16 => k_is)
    (case l16 => k_is)
    (case c16 => k_is)
    (case k16 => k_is)
    (case a17 => k_is)
    (case l17 => k_is)
    (case c17 => k_is)
    (case k17 => k_is)
    (case a18 => k_is)
    (case l18 => k_is)
    (case c18 => k_is)
    (case k18 => k_is)
    (case a19 => k_is)
    (case l19 => k_is)
    (case c19 => k_is)
    (case k19 => k_is)
    (case a20 => k_is)
    (case l20 => k_is)
    (case c20 => k_is)
    (case k20 => k_is)
    (case a21 => k_is)
    (case l21 => k_is)
    (case c21 => k_is)
    (case k21 => k_is)
    (case a22 => k_is)
    (case l22 => k_is)
    (case c22 => k_is)
    (case k22 => k_is)
    (case a23 => k_is)
    (case l23 => k_is)
    (case c23 => k_is)
    (case k23 => k_is)
    (case a24 => k_is)
    (case l24 => k_is)
    (case c24 => k_is)
    (case k24 => k_is)
    (case a25 => k_is)
    (case l25 => k_is)
    (case c25 => k_is)
    (case k25 => k_is)
    (case a26 => k_is)
    (case l26 => k_is)
    (case c26 => k_is)
    (case k26 => k_is)
    (case a27 => k_is)
    (case l27 => k_is)
    (case c27 => k_is)
    (case k27 => k_is)
    (case a28 => k_is)
    (case l28 => k_is)
    (case c28 => k_is)
    (case k28 => k_is)
    (case a29 => k_is)
    (case l29 => k_is)
    (case c29 => k_is)
    (case k29 => k_is)
    (case a30 => k_is)
    (case l30 => k_is)
    (case c30 => k_is)
    (case k30 => k_is)
    (case a31 => k_is)
    (case l31 => k_is)
    (case c31 => k_is)
    (case k31 => k_is)
    (case a32 => k_is)
    (case l32 => k_is)
    (case c32 => k_is)
    (case k32 => k_is)
    (case a33 => k_is)
    (case l33 => k_is)
    (case c33 => k_is)
    (case k33 => k_is)
    (case a34 => k_is)
    (case l34 => k_is)
    (case c34 => k_is)
    (case k34 => k_is)
    (case aDE => k_is)
    (case deC => k_is)
    (case dsC => k_is)
    (case dtC => k_is)
    (case aB0 => k_is)
    (case xL0 => k_is)
    (case xsa0 => k_is)
    (case xga0 => k_is)
    (case xgg0 => k_is)
    (case xca0 => k_is)
    (case xmo0 => k_is)
    (case xis0 => k_is)
    (case x0_part => k_is)
    (case x0_at => k_is)
    (case xiB0 => k_is)
    (case xtf0 => k_is)
    (case lX0 => k_is)
    (case cX0 => k_is)
    (case kX0 => k_is)
    (case xkC0 => k_is)
    (case xeC0 => k_is)
    (case xtC0 => k_is)
    (case xhC0 => k_is)
    (case dbC0 => k_is)
    (case dss0 => k_is)
    (case aB1 => k_is)
    (case xL1 => k_is)
    (case xsa1 => k_is)
    (case xga1 => k_is)
    (case xgg1 => k_is)
    (case xca1 => k_is)
    (case xmo1 => k_is)
    (case xis1 => k_is)
    (case x1_line => k_is)
    (case xiB1 => k_is)
    (case xtf1 => k_is)
    (case lX1 => k_is)
    (case cX1 => k_is)
    (case kX1 => k_is)
    (case xkC1 => k_is)
    (case xeC1 => k_is)
    (case xtC1 => k_is)
    (case xhC1 => k_is)
    (case dbC1 => k_is)
    (case dss1 => k_is)
    (case dno0_1 => k_is)
    (case dno1_0 => k_is)
    (case pg => k_is)
    (case hd => k_is)
    (case po => k_is)
    (case sa => k_is)
    (case mk => k_is)
    (case kc => k_is)
    (case tha => k_is)
    (case thn => k_is)
    (case thk => k_is)
    (case thm => k_is)
    (case tne => k_is)
    (case n_rows => k_is)
    (case n_size => k_is)
    (case kI => k_is)
    (case kB => k_is)
    (case kT => k_is)
    (case kS => k_is)
    (case kL => k_is)
    (case mf => k_is)
    (case mr => k_is)
    (case z_len => k_is)
    (case z_list => k_is)
    (case z_range => k_is)
    (case z_tuple => k_is)
    (case z_sorted => k_is)
    (case z_int => k_is)
    (case z_min => k_is)
    (case z_isinstance => k_is)
    (case z_all => k_is)
    (case z_enumerate => k_is)
    (case z_zip => k_is)
    (case z_set => k_is)
    (case z_repr => k_is)
    (case z_str => k_is)
    (case z_bool => k_is)
