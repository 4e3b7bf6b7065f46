import PyProof.Rows.All
import Wide.All
import OpenK.AllK
import Wide.FinOn
import HandS.ForMost
import HandS.OwnEq
import HandS.SortInts
import HandS.TupAny
import HandS.IsInst
import HandS.Flow
import HandS.Zip
import HandS.TupSets
import KE.GoesEnum
import PyProof.InstNe
import HandS.Conv
import HandS.Star
import HandS.Evl
import HandS.WideBits
import HandS.NoneIn
import HandS.DictComp
import HandS.Steps
import HandS.SetFor
import HandS.Strs
import PyProof.Rows.SortShellAny
import KE.KRevSl
import PyProof.AutoSeq1
import HandS.Deep
import HandS.Sort
import HandS.ExcInit
import HandS.ExcIs
import HandS.ExcField
import HandS.ForExc
import KE.KExcIs
import HandS.Words
import HandS.Style
import PySem.Challenge.RW_fullorring_k18_filled_lots_judged_and_re
set_option Elab.async false
set_option maxRecDepth 100000
set_option maxHeartbeats 2000000

namespace PySem
open Sem (wp)
theorem meets_enum_newT (v : Value) (o : Obj) (HH : Heap → Prop) (B : Begins v o HH) :
    Meets (Builtin.«enumerate.__new__» ⟨[.type "enumerate", v], []⟩) (fun _ R s => HH s.heap ∧
      R (.ok (.ret (.ref (s.heap.push o).objs.size))) { s with heap := (s.heap.push o).push { cls := .type "enumerate", data := .fields #[.none, .bool false, .ref s.heap.objs.size, rawInt 0, .none, .none] } }) :=
  .of_wp fun prog w A R s h => by
    obtain ⟨hp, g, d, tk, os⟩ := s; obtain ⟨h1, h⟩ := h
    have hsub := sub_enumerate
    have q1 : ∀ {A' : Around} {E : Value → Shared → Prop} {Q : Value → Shared → Prop}, Q (.ref hp.objs.size) ⟨hp.push o, g, d, tk, os⟩ → wpAny (model prog w) A' (pyIter v) Q E ⟨hp, g, d, tk, os⟩ :=
      fun q => B.iter prog w _ _ ⟨hp, g, d, tk, os⟩ _ h1 q
    wp_walk using q1
    refine wpAny_stack_any fun st => wpAny_pure ?_
    split
    · rename_i c _ _ _ _ _
      cases (c == Value.type "enumerate")
      · wp_walk using q1
        exact ⟨_, rfl, h⟩
      · wp_walk using q1
        exact ⟨_, rfl, h⟩
    · wp_walk using q1
      exact ⟨_, rfl, h⟩
section
variable {prog : Program} {w : World} {A : Around} {E : Value → Shared → Prop} {s : Shared}
theorem call_enum_begins {v : Value} {o : Obj} {HH : Heap → Prop} {Q : Value → Shared → Prop} (B : Begins v o HH) (h1 : HH s.heap)
    (h : ∀ h', IsEnum h' (s.heap.objs.size + 1) s.heap.objs.size 0 .none → h'.get? s.heap.objs.size = some o → h'.objs.size = s.heap.objs.size + 2 →
      (∀ b o, s.heap.get? b = some o → h'.get? b = some o) → Q (.ref (s.heap.objs.size + 1)) { s with heap := h' }) :
    wpAny (model prog w) A (call (.type "enumerate") [v]) Q E s := by
  refine callType_new F.called_enumerate (by decide) (F.typeCall_enumerate_1 _) (F.newCall_enumerate_1 _) (fun obj => F.args_object_init_2 obj _) F.entry_enumerate_new
    (meets_enum_newT v o HH B) ⟨h1, ?_⟩
  have hz : (s.heap.push o).objs.size = s.heap.objs.size + 1 := Heap.size_push ..
  show _ ∧ _
  rw [hz]
  have he : IsEnum ((s.heap.push o).push { cls := .type "enumerate", data := .fields #[.none, .bool false, .ref s.heap.objs.size, rawInt 0, .none, .none] }) (s.heap.objs.size + 1) s.heap.objs.size 0 .none := by
    have := Heap.get?_push_size (s.heap.push o) (o := { cls := .type "enumerate", data := .fields #[.none, .bool false, .ref s.heap.objs.size, rawInt 0, .none, .none] }) rfl
    rw [hz] at this; exact this
  refine ⟨⟨_, he, rfl⟩, h _ he (Heap.get?_push_of_some _ (Heap.get?_push_size _ B.free)) (by rw [Heap.size_push, hz]) fun b o x => Heap.get?_push_of_some _ (Heap.get?_push_of_some _ x)⟩
end
end PySem

namespace L2
open PySem PySem.Spec PyProof.Rows
/-! enumerate of a tuple -/
def IteT (K : PySem.W.Frag) (a : Addr) : It :=
  ⟨fun i H => ∃ (xs : List V) (x : V), SqT K H a xs ∧ xs[i]? = some x, fun i H v H' => ∃ T x, v = .ref T ∧ H T = none ∧ H' = upd H T (.tup [.int (i : Nat), x]) ∧ ∀ xs, SqT K H a xs → xs[i]? = some x, fun i H => ∃ xs : List V, SqT K H a xs ∧ xs.length ≤ i⟩
theorem turn_enumT {P : Program} {w : World} {K : PySem.W.Frag} {elts : List Expr} {kk : Nat} {tpos : Pos} (a e it : Addr) :
    Turn P w K (.Tuple elts kk tpos) (IteT K a) [e, it] e (fun i h => (∃ old, IsEnum h e it ((i : Nat) : Int) old) ∧ h.IsTupleIter it a i ∧ e ≠ it ∧ a ≠ it ∧ a ≠ e) where
  mem := by simp
  obj := fun i h st b hb => by
    obtain ⟨⟨old, he⟩, ⟨o, ho, hc, hd⟩, _⟩ := st
    have e' : b = e ∨ b = it := by simpa using hb
    rcases e' with z | z
    · rw [z]; exact ⟨_, he, fun v q => nomatch q⟩
    · rw [z]; exact ⟨o, ho, fun v q => by rw [hd] at q; cases q⟩
  keep := fun i h h' st k => let ⟨⟨old, he⟩, hi, hne⟩ := st; ⟨⟨old, k e (by simp) _ he⟩, hi.at fun o q => k it (by simp) o q, hne⟩
  item := by
    intro X hP hw hK hc i pins s σ H E I hf st hg
    subst hP hw hK
    obtain ⟨⟨old, he⟩, hit, hne, hai, hae⟩ := st
    obtain ⟨xs, x, hq, hx⟩ := hg
    obtain ⟨its, rv, p, hz⟩ := I.tuple hq
    obtain ⟨u, hu, ru⟩ := rv.get hx
    have hel : e < s.heap.objs.size := Heap.lt_size he
    have hil : it < s.heap.objs.size := by obtain ⟨_, q, _⟩ := hit; exact Heap.lt_size q
    have hilt : i < its.toArray.size := by
      have := (List.getElem?_eq_some_iff.mp hu).1
      simpa using this
    refine wpAny_pyNext_enum_itemD (Draws.tuple (A := X.A.in1) (I.ok.hd hc) it a hai its.toArray) he ⟨hit, p⟩ hilt hne (by simp; exact ⟨hne, fun q => hae q.symm⟩) fun x2 h' tk hP ho hst hT hsz hk => ?_
    have ex : x2 = u := by
      have hP' : its[i]? = some x2 := by simpa using hP
      rw [hu] at hP'
      exact (Option.some.inj hP').symm
    subst ex
    refine ⟨_, rfl, wpAny_letOwnedTupleGo_enum (s := { s with heap := h', toks := tk + 1 }) ho fun h'' he' sb => ?_⟩
    have hT2 : h''.get? s.heap.objs.size = some { cls := .type "tuple", data := .seq #[.int i tk, x2] } := (sb.2 _ (Nat.ne_of_gt hel)).trans hT
    have new : ObjOk X.prog X.w (upd H s.heap.objs.size (.tup [.int (i : Nat), x])) h'' s.heap.objs.size (.tup [.int (i : Nat), x]) :=
      ⟨by show 2 ≤ sizeLine; decide, [.int i tk, x2], .cons ⟨_, rfl⟩ (.cons ru .nil), ⟨_, hT2, rfl, _, rfl⟩⟩
    have I1 : Inv X pins σ (upd H s.heap.objs.size (.tup [.int (i : Nat), x])) { s with heap := h'', toks := tk + 1 } :=
      I.turnedNew (ch := [e, it]) (fun b ob hb q => (sb.2 b (fun z => hb (by simp [z]))).trans (hk b ob (fun z => hb (by simp [z])) (fun z => hb (by simp [z])) q)) hf (Nat.le_refl _) new
    refine ⟨.ref s.heap.objs.size, _, I1, rfl, ⟨_, x, rfl, I.hok.fresh (Nat.le_refl _), rfl, fun ys hy => by rw [I.tuple_inj hy hq]; exact hx⟩, ⟨⟨x2, ?_⟩, hst.1.at fun o q => (sb.2 it (Ne.symm hne)).trans q, hne, hai, hae⟩, fun b hb => ?_⟩
    · have e1 : ((i + 1 : Nat) : Int) = (i : Int) + 1 := by omega
      rw [e1]; exact he'
    · have hb' : b < s.heap.objs.size := by
        have e' : b = e ∨ b = it := by simpa using hb
        rcases e' with z | z
        · rw [z]; exact hel
        · rw [z]; exact hil
      rw [upd_ne (Nat.ne_of_lt hb')]
      exact (hf b hb).1
  done := by
    intro X hP hw hK hc i pins s σ H E I hf st hg
    subst hP hw hK
    obtain ⟨⟨old, he⟩, hit, hne, hai, hae⟩ := st
    obtain ⟨xs, hq, hx⟩ := hg
    obtain ⟨its, rv, p, hz⟩ := I.tuple hq
    obtain ⟨f0, f1, f2, f3, f4, f5⟩ := hf it (by simp)
    have hl := rv.length
    have D : Draws X.prog X.w X.A.in1 it [it, a] i (fun _ _ => True) (fun j h => j = i ∧ h.IsTupleIter it a i ∧ h.IsTuple a its.toArray) :=
      ⟨fun _ _ st => (let ⟨o, ho, _⟩ := st.2.1; ⟨o, ho⟩), fun _ _ _ st hk => ⟨st.1, st.2.1.at fun o e => hk it (by simp) o e, st.2.2.at fun o e => hk a (by simp) o e⟩,
        fun j s Q E hj st hQ => absurd st.1 (Nat.ne_of_lt hj), fun s Q E st hE => wpAny_nextOf_tuple_end (I.ok.hd hc) st.2.1 st.2.2 (by simp; omega) hE⟩
    exact wpAny_pyNext_enum_endD D he ⟨rfl, hit, p⟩ fun h' eb => ⟨rfl, I.turned (t' := s.toks) (fun b o hb q => eb b o hb q) f0 f1 f3 f4 f5⟩
  self := fun A i s Q E st h => let ⟨⟨_, he⟩, _⟩ := st; wpAny_pyIter_enum he h
def iEnumT (K : PySem.W.Frag) (ta : TA) : TI := fun σ H R => ta σ H fun vs H1 => ∃ a xs, vs = [.ref a] ∧ SqT K H1 a xs ∧ R (IteT K a) H1
theorem pi_enumT {X : Cx} {e : Expr} {ta : TA} {p pos tpos : Pos} {elts : List Expr} {kk : Nat} (hg : Gl X "enumerate") (hm : X.mg "enumerate" = none) (ha : PA X [e] ta) (hs : starEach [e] X.env = [(false, eval e X.env)] := by rfl) :
    PI X (.Tuple elts kk tpos) (.Call (.Name "enumerate" p) [e] [] pos) (iEnumT X.K ta) := by
  refine ⟨fun pins s σ H R I h => ?_⟩
  refine Call_ (ld_blt I hg hm boot_enumerate (PyProof.Rows.callWith_type1 (thn (ha.run pos pins s σ H _ I h) fun us s1 ⟨vs, H1, I1, r1, q1⟩ => ?_) hs rfl))
  obtain ⟨a, xs, ex, hq, q⟩ := q1
  subst ex
  cases r1 with
  | cons r rr =>
    cases rr
    cases r
    obtain ⟨its, rv, p', hz⟩ := I1.tuple hq
    have halt : a < s1.heap.objs.size := by obtain ⟨_, q, _⟩ := id p'; exact Heap.lt_size q
    refine call_enum_begins (begins_tuple a its.toArray) p' fun h' he hit hsz hk => wpAny_pyIter_enum he ?_
    have I2 : Inv X pins σ H1 { s1 with heap := h' } := I1.kept (t' := s1.toks) hk
    refine ⟨s1.heap.objs.size + 1, [s1.heap.objs.size + 1, s1.heap.objs.size], _, _, H1, rfl, I2, turn_enumT a (s1.heap.objs.size + 1) s1.heap.objs.size, ⟨⟨.none, he⟩, ⟨_, hit, rfl, rfl⟩, Nat.succ_ne_self _, Nat.ne_of_lt halt, Nat.ne_of_lt (Nat.lt_succ_of_lt halt)⟩, fun b hb => ?_, q⟩
    have e' : b = s1.heap.objs.size + 1 ∨ b = s1.heap.objs.size := by simpa using hb
    have hle : s1.heap.objs.size ≤ b := by
      rcases e' with z | z
      · rw [z]; exact Nat.le_add_right _ _
      · rw [z]; exact Nat.le_refl _
    exact I1.fpOk hle (I1.hok.fresh hle)
end L2

set_option maxRecDepth 100000
set_option maxHeartbeats 2000000
namespace Fo
open PySem PySem.Spec PyProof.Rows L2
/-! ### defs by their names -/
structure At (K : PySem.W.Frag) (mg : Str → Option Value) (x : Str) (st : Stmt) (ps : List Str) : Prop where
  ex : ∃ f fd, mg x = some (.ref f) ∧ Fun K x x st f fd ∧ Binds K fd ps []
structure Dfn (P : Program) (w : World) (K : PySem.W.Frag) (mg : Str → Option Value) (base : Heap) (x : Str) (ps : List Str) (k : Nat) (sp : Sp) : Prop where
  ex : ∃ f fd, mg x = some (.ref f) ∧ PySem.W.keepIn K (.ref f) = true ∧ FnOk P w K mg base CX0 k f fd ps sp ∧ Binds K fd ps []
structure Tx (mg : Str → Option Value) : Prop where
  len : mg "len" = none
  list : mg "list" = none
  range : mg "range" = none
  tuple : mg "tuple" = none
  sorted : mg "sorted" = none
  int : mg "int" = none
  min : mg "min" = none
  isinstance : mg "isinstance" = none
  all : mg "all" = none
  enumerate : mg "enumerate" = none
  zip : mg "zip" = none
  set : mg "set" = none
  repr : mg "repr" = none
  str : mg "str" = none
  bool : mg "bool" = none
section
variable {P : Program} {w : World} {K : PySem.W.Frag} {mg : Str → Option Value} {base : Heap}
theorem At.ok {x : Str} {st : Stmt} {N ps : List Str} {k : Nat} {sp : Sp} (a : At K mg x st ps) (S : FnScope N ps (defScope st)) (len : ∀ vs H Q E, sp vs H Q E → vs.length = ps.length)
    (hbody : ∀ (f : Addr) (cdv : Value) (A : Around) (outer : List Env) (s : Shared) (H : Hp) (vs : List V) (Q : VK) (E : XK), Room k (A.deeper (envOfC x (defScope st) s.heap.objs.size f cdv)) → sp vs H Q E →
      ∃ t, PSs (cxOf CX0 P w K mg base N x (defScope st) f cdv A outer s H E).nox (defBody st) t ∧ t { nx := fun _ H' => Q .non H', rt := Q } (start N vs) H) : Dfn P w K mg base x ps (k + 1) sp := by
  obtain ⟨f, fd, hm, F, b⟩ := a.ex
  exact ⟨f, fd, hm, F.kp, F.ok S len (hbody f), b⟩
theorem pe_d {X : Cx} {x : Str} {ps : List Str} {k : Nat} {sp : Sp} {e : Expr} {es : List Expr} {t : TA} {p pos : Pos} (G : Dfn X.prog X.w X.K X.mg X.base x ps k sp) (hr : Room k X.A) (ha : PA X (e :: es) t) (hg : Gl X x := by rfl)
    (hdb : (x == ("__debug__" : Str)) = false := by decide) (he : starEach (e :: es) X.env = (false, eval e X.env) :: starEach es X.env := by rfl) (hpl : (backTo pos (starEach es X.env)).any (·.1) = false := by rfl) :
    PE X (.Call (.Name x p) (e :: es) [] pos) (tCall sp [] E0 t) := by
  obtain ⟨f, fd, hm, kp, F, b⟩ := G.ex
  exact pe_call F hr hg hm kp b .nil pass0 ha hdb he hpl
theorem pe_d0 {X : Cx} {x : Str} {ps : List Str} {k : Nat} {sp : Sp} {p pos : Pos} (G : Dfn X.prog X.w X.K X.mg X.base x ps k sp) (hr : Room k X.A) (hg : Gl X x := by rfl)
    (hdb : (x == ("__debug__" : Str)) = false := by decide) :
    PE X (.Call (.Name x p) [] [] pos) (fun _ H Q => sp [] H Q E0) := by
  obtain ⟨f, fd, hm, kp, F, b⟩ := G.ex
  exact pe_call0 F hr hg hm kp b .nil pass0 hdb
end
/-! ### heaps that grow -/
/-- all but what stands at t is kept -/
def Gr (t : Addr) (H H' : Hp) : Prop := ∀ a o, a ≠ t → H a = some o → H' a = some o
theorem Gr.refl {t : Addr} (H : Hp) : Gr t H H := fun _ _ _ h => h
theorem Gr.trans {t : Addr} {H H1 H2 : Hp} (a : Gr t H H1) (b : Gr t H1 H2) : Gr t H H2 := fun c o n h => b c o n (a c o n h)
theorem Gr.new {t : Addr} {H : Hp} {p : Addr} {o : HO} (h : H p = none) : Gr t H (upd H p o) := fun a u _ e => by
  rw [upd_ne (ne_of_none e h)]
  exact e
theorem Gr.put {t : Addr} {H : Hp} {o : HO} : Gr t H (upd H t o) := fun a u n e => by
  rw [upd_ne n]
  exact e
theorem Gr.of {t : Addr} {H H' : Hp} (e : Same H H') : Gr t H H' := fun a o _ h => e a o h
theorem Gr.free {t : Addr} {H H' : Hp} (g : Gr t H H') (ht : H' t ≠ none) {p : Addr} (h : H' p = none) : H p = none := by
  cases q : H p with
  | none => rfl
  | some o =>
    have hne : p ≠ t := fun z => ht (z ▸ h)
    rw [g p o hne q] at h
    cases h
theorem same_new {H : Hp} {p : Addr} {o : HO} (h : H p = none) : Same H (upd H p o) := fun a u e => by
  rw [upd_ne (ne_of_none e h)]
  exact e
/-- an object that H does not know may change -/
theorem same_mut {H H' : Hp} {p : Addr} {o : HO} (e : Same H H') (h : H p = none) : Same H (upd H' p o) := fun a u ha => by
  rw [upd_ne (ne_of_none ha h)]
  exact e a u ha
theorem gr_mut {t : Addr} {H H' : Hp} {p : Addr} {o : HO} (e : Gr t H H') (h : H p = none) : Gr t H (upd H' p o) := fun a u n ha => by
  rw [upd_ne (ne_of_none ha h)]
  exact e a u n ha
theorem sqT_same {K : PySem.W.Frag} {H H' : Hp} {a : Addr} {xs : List V} (e : Same H H') (h : SqT K H a xs) : SqT K H' a xs := by
  rcases h with (h | ⟨o, h⟩) | h
  · exact .inl (.inl (e _ _ h))
  · exact .inl (.inr ⟨o, e _ _ h⟩)
  · exact .inr h
/-! ### the tape -/
def Tape (H : Hp) (t l : Addr) : Prop := ∃ (ns : List Int) (b c d e : Int), H t = some (.lst [.ref l, .int b, .int c, .int d, .int e]) ∧ H l = some (.lst (ns.map V.int)) ∧ 0 ≤ b
theorem ints_ne (ns : List Int) (l : Addr) (r : List V) : (HO.lst (ns.map V.int)) ≠ .lst (.ref l :: r) := by
  intro q
  cases ns with
  | nil => injection q with q; cases q
  | cons x r => injection q with q; injection q with q; cases q
theorem Tape.ne {H : Hp} {t l : Addr} (T : Tape H t l) : l ≠ t := by
  obtain ⟨ns, b, c, d, e, ht, hl, hb⟩ := T
  exact ne_of hl ht (ints_ne _ _ _)
theorem Tape.there {H : Hp} {t l : Addr} (T : Tape H t l) : H t ≠ none := by
  obtain ⟨ns, b, c, d, e, h, _⟩ := T
  rw [h]
  exact fun z => nomatch z
theorem Tape.keep {H H' : Hp} {t l : Addr} (T : Tape H t l) (g : Same H H') : Tape H' t l := by
  obtain ⟨ns, b, c, d, e, h, hl, hb⟩ := T
  exact ⟨ns, b, c, d, e, g _ _ h, g _ _ hl, hb⟩
/-- what is new is neither of the tape's two -/
theorem Tape.free {H : Hp} {t l a : Addr} (T : Tape H t l) (h : H a = none) : a ≠ t ∧ a ≠ l := by
  obtain ⟨ns, b, c, d, e, ht, hl, hb⟩ := T
  exact ⟨(ne_of_none ht h).symm, (ne_of_none hl h).symm⟩
theorem Tape.new {H : Hp} {t l a : Addr} {o : HO} (T : Tape H t l) (h : H a = none) : Tape (upd H a o) t l := T.keep (same_new h)
/-- other objects than the tape's own may change -/
theorem Tape.mut {H : Hp} {t l a : Addr} {u : HO} (T : Tape H t l) (n : a ≠ t ∧ a ≠ l) : Tape (upd H a u) t l := by
  obtain ⟨ns, b, c, d, e, ht, hl, hb⟩ := T
  exact ⟨ns, b, c, d, e, by rw [upd_ne n.1.symm]; exact ht, by rw [upd_ne n.2.symm]; exact hl, hb⟩
theorem Tape.ne_ints' {H : Hp} {t l a : Addr} {ns : List Int} (T : Tape H t l) (h : H a = some (.lst (ns.map V.int))) : a ≠ t := by
  obtain ⟨ms, b, c, d, e, ht, hl, hb⟩ := T
  exact ne_of h ht (ints_ne _ _ _)
theorem Gr.fresh {t l : Addr} {H H' : Hp} (g : Gr t H H') (T : Tape H' t l) {p : Addr} (h : H' p = none) : H p = none := g.free T.there h
/-! ### data -/
abbrev dI (ns : List Int) : PyData := .tuple (ns.map .int)
abbrev dR (rows : List (List Int)) : PyData := .tuple (rows.map dI)
mutual
theorem dp_same {K : PySem.W.Frag} {H H' : Hp} (e : Same H H') : ∀ {v : V} {d : PyData}, Dp K H v d → Dp K H' v d
  | _, _, .non => .non
  | _, _, .bl b => .bl b
  | _, _, .int i => .int i
  | _, _, .str x => .str x
  | _, _, .lst h r => .lst (e.seq h) (dpAll_same e r)
  | _, _, .tup h r => .tup (sqT_same e h) (dpAll_same e r)
theorem dpAll_same {K : PySem.W.Frag} {H H' : Hp} (e : Same H H') : ∀ {vs : List V} {ds : List PyData}, DpAll K H vs ds → DpAll K H' vs ds
  | _, _, .nil => .nil
  | _, _, .cons h r => .cons (dp_same e h) (dpAll_same e r)
end
theorem dpAll_ints {K : PySem.W.Frag} {H : Hp} : ∀ (ns : List Int), DpAll K H (ns.map V.int) (ns.map .int)
  | [] => .nil
  | n :: r => .cons (.int n) (dpAll_ints r)
theorem ints_dpAll {K : PySem.W.Frag} {H : Hp} : ∀ {ns : List Int} {vs : List V}, DpAll K H vs (ns.map .int) → vs = ns.map V.int
  | [], _, .nil => rfl
  | n :: r, _, .cons (.int _) h => by rw [ints_dpAll h]; rfl
theorem dpAll_len {K : PySem.W.Frag} {H : Hp} : ∀ {vs : List V} {ds : List PyData}, DpAll K H vs ds → vs.length = ds.length
  | _, _, .nil => rfl
  | _, _, .cons _ r => by rw [List.length_cons, List.length_cons, dpAll_len r]
theorem dpAll_get {K : PySem.W.Frag} {H : Hp} : ∀ {vs : List V} {ds : List PyData} {i : Nat} {v : V}, DpAll K H vs ds → vs[i]? = some v → ∃ d, ds[i]? = some d ∧ Dp K H v d
  | _, _, _, _, .nil, e => by simp at e
  | _, _, 0, _, .cons h _, e => by simp at e; subst e; exact ⟨_, rfl, h⟩
  | _, _, i + 1, v, .cons _ r, e => by
    obtain ⟨d, h1, h2⟩ := dpAll_get (i := i) (v := v) r (by simpa using e)
    exact ⟨d, by simpa using h1, h2⟩
theorem dpAll_get' {K : PySem.W.Frag} {H : Hp} {vs : List V} {ds : List PyData} {i : Nat} {d : PyData} (h : DpAll K H vs ds) (e : ds[i]? = some d) : ∃ v, vs[i]? = some v ∧ Dp K H v d := by
  have h1 : i < vs.length := by rw [dpAll_len h]; exact (List.getElem?_eq_some_iff.mp e).1
  obtain ⟨d', e', q⟩ := dpAll_get h (List.getElem?_eq_getElem h1)
  rw [e] at e'
  cases e'
  exact ⟨_, List.getElem?_eq_getElem h1, q⟩
theorem dpAll_append {K : PySem.W.Frag} {H : Hp} : ∀ {vs ws : List V} {ds es : List PyData}, DpAll K H vs ds → DpAll K H ws es → DpAll K H (vs ++ ws) (ds ++ es)
  | _, _, _, _, .nil, s => s
  | _, _, _, _, .cons h r, s => .cons h (dpAll_append r s)
theorem dp_tup {K : PySem.W.Frag} {H : Hp} {v : V} {ds : List PyData} (h : Dp K H v (.tuple ds)) : ∃ a xs, v = .ref a ∧ SqT K H a xs ∧ DpAll K H xs ds := by
  cases h with
  | tup h r => exact ⟨_, _, rfl, h, r⟩
theorem dp_row {K : PySem.W.Frag} {H : Hp} {v : V} {ns : List Int} (h : Dp K H v (dI ns)) : ∃ a, v = .ref a ∧ SqT K H a (ns.map V.int) := by
  obtain ⟨a, xs, e, h, r⟩ := dp_tup h
  rw [ints_dpAll r] at h
  exact ⟨a, e, h⟩
theorem dp_rowI {K : PySem.W.Frag} {H : Hp} {a : Addr} {ns : List Int} (h : SqT K H a (ns.map V.int)) : Dp K H (.ref a) (dI ns) := .tup h (dpAll_ints ns)
/-- tuples are not changed by what changes at t -/
theorem gr_T {t l : Addr} {K : PySem.W.Frag} {H H' : Hp} (g : Gr t H H') (T : Tape H t l) {a : Addr} {xs : List V} (h : SqT K H a xs) : SqT K H' a xs := by
  obtain ⟨ns, b, c, d, e, ht, hl, hb⟩ := T
  rcases h with (h | ⟨o, h⟩) | h
  · exact .inl (.inl (g _ _ (ne_of h ht (by intro z; cases z)) h))
  · exact .inl (.inr ⟨o, g _ _ (ne_of h ht (by intro z; cases z)) h⟩)
  · exact .inr h
/-! rows of a table -/
structure Good (rows : List (List Int)) : Prop where
  pos : 1 ≤ rows.length
  asc : ∀ r ∈ rows, r.Pairwise (· < ·)
  rng : ∀ r ∈ rows, ∀ x ∈ r, 0 ≤ x ∧ x < (rows.length : Int)
inductive RowsT (K : PySem.W.Frag) (H : Hp) : List V → List (List Int) → Prop where
  | nil : RowsT K H [] []
  | cons {a : Addr} {vs : List V} {r : List Int} {rs : List (List Int)} : SqT K H a (r.map V.int) → RowsT K H vs rs → RowsT K H (.ref a :: vs) (r :: rs)
theorem rowsT_dp {K : PySem.W.Frag} {H : Hp} : ∀ {vs : List V} {rs : List (List Int)}, RowsT K H vs rs → DpAll K H vs (rs.map dI)
  | _, _, .nil => .nil
  | _, _, .cons h r => .cons (dp_rowI h) (rowsT_dp r)
theorem dp_rowsT {K : PySem.W.Frag} {H : Hp} : ∀ {rs : List (List Int)} {vs : List V}, DpAll K H vs (rs.map dI) → RowsT K H vs rs
  | [], _, .nil => .nil
  | r :: rs, _, .cons h t => by
    obtain ⟨a, rfl, q⟩ := dp_row h
    exact .cons q (dp_rowsT t)
theorem RowsT.gr {t l : Addr} {K : PySem.W.Frag} {H H' : Hp} (g : Gr t H H') (T : Tape H t l) : ∀ {vs : List V} {rs : List (List Int)}, RowsT K H vs rs → RowsT K H' vs rs
  | _, _, .nil => .nil
  | _, _, .cons h r => .cons (gr_T g T h) (r.gr g T)
theorem RowsT.same {K : PySem.W.Frag} {H H' : Hp} (g : Same H H') : ∀ {vs : List V} {rs : List (List Int)}, RowsT K H vs rs → RowsT K H' vs rs
  | _, _, .nil => .nil
  | _, _, .cons h r => .cons (sqT_same g h) (r.same g)
theorem RowsT.len {K : PySem.W.Frag} {H : Hp} : ∀ {vs : List V} {rs : List (List Int)}, RowsT K H vs rs → vs.length = rs.length
  | _, _, .nil => rfl
  | _, _, .cons _ r => by rw [List.length_cons, List.length_cons, r.len]
theorem RowsT.snoc {K : PySem.W.Frag} {H : Hp} {a : Addr} {r : List Int} (h : SqT K H a (r.map V.int)) : ∀ {vs : List V} {rs : List (List Int)}, RowsT K H vs rs → RowsT K H (vs ++ [.ref a]) (rs ++ [r])
  | _, _, .nil => .cons h .nil
  | _, _, .cons q t => .cons q (t.snoc h)
theorem RowsT.get {K : PySem.W.Frag} {H : Hp} : ∀ {vs : List V} {rs : List (List Int)} {i : Nat} {r : List Int}, RowsT K H vs rs → rs[i]? = some r → ∃ a, vs[i]? = some (.ref a) ∧ SqT K H a (r.map V.int)
  | _, _, _, _, .nil, e => by simp at e
  | _, _, 0, _, .cons h _, e => by simp at e; subst e; exact ⟨_, rfl, h⟩
  | _, _, i + 1, r, .cons _ t, e => by
    obtain ⟨a, h1, h2⟩ := t.get (i := i) (r := r) (by simpa using e)
    exact ⟨a, by simpa using h1, h2⟩
/-- rows that stand as a tuple at a -/
def RowsAt (K : PySem.W.Frag) (H : Hp) (v : V) (rows : List (List Int)) : Prop := ∃ a vs, v = .ref a ∧ SqT K H a vs ∧ RowsT K H vs rows
theorem RowsAt.gr {t l : Addr} {K : PySem.W.Frag} {H H' : Hp} {v : V} {rows : List (List Int)} (h : RowsAt K H v rows) (g : Gr t H H') (T : Tape H t l) : RowsAt K H' v rows := by
  obtain ⟨a, vs, e, h1, h2⟩ := h
  exact ⟨a, vs, e, gr_T g T h1, h2.gr g T⟩
theorem RowsAt.same {K : PySem.W.Frag} {H H' : Hp} {v : V} {rows : List (List Int)} (h : RowsAt K H v rows) (g : Same H H') : RowsAt K H' v rows := by
  obtain ⟨a, vs, e, h1, h2⟩ := h
  exact ⟨a, vs, e, sqT_same g h1, h2.same g⟩
theorem RowsAt.dp {K : PySem.W.Frag} {H : Hp} {v : V} {rows : List (List Int)} (h : RowsAt K H v rows) : Dp K H v (dR rows) := by
  obtain ⟨a, vs, rfl, h1, h2⟩ := h
  exact .tup h1 (rowsT_dp h2)
theorem RowsAt.of {K : PySem.W.Frag} {H : Hp} {v : V} {rows : List (List Int)} (h : Dp K H v (dR rows)) : RowsAt K H v rows := by
  obtain ⟨a, vs, rfl, h1, h2⟩ := dp_tup h
  exact ⟨a, vs, rfl, h1, dp_rowsT h2⟩
/-! ### sorted lists -/
theorem sorted_strict {l : List Int} (h : l.Pairwise (· ≤ ·)) (hn : l.Nodup) : l.Pairwise (· < ·) := by
  have := List.Pairwise.and h hn
  exact this.imp fun {a b} q => by
    have := q.1
    have := q.2
    omega
def rangeI (n : Int) : List Int := (List.range n.toNat).map fun (i : Nat) => (i : Int)
theorem rangeI_len (n : Int) : (rangeI n).length = n.toNat := by unfold rangeI; rw [List.length_map, List.length_range]
theorem rangeI_nodup (n : Int) : (rangeI n).Nodup := by
  unfold rangeI
  exact List.Pairwise.map _ (fun (a b : Nat) (h : a ≠ b) (q : (a : Int) = (b : Int)) => h (by omega)) List.nodup_range
theorem mem_rangeI {n x : Int} : x ∈ rangeI n ↔ 0 ≤ x ∧ x < n := by
  unfold rangeI
  rw [List.mem_map]
  constructor
  · rintro ⟨i, hi, rfl⟩
    have := List.mem_range.mp hi
    omega
  · intro h
    exact ⟨x.toNat, List.mem_range.mpr (by omega), by omega⟩
theorem rgV_rangeI (n : Int) : rgV 0 n = (rangeI n).map V.int := by
  unfold rgV rangeI
  rw [List.map_map, Int.sub_zero]
  apply List.map_congr_left
  intro i _
  show V.int (0 + (i : Int)) = V.int (i : Int)
  rw [Int.zero_add]
theorem atI_lt {α : Type} {xs : List α} {i : Int} (h0 : 0 ≤ i) (h1 : i < xs.length) : ∃ x, atI xs i = some x ∧ xs[i.toNat]? = some x := by
  have h : i.toNat < xs.length := by omega
  refine ⟨xs[i.toNat], ?_, List.getElem?_eq_getElem h⟩
  have q : atI xs ((i.toNat : Nat) : Int) = some xs[i.toNat] := atI_nat (List.getElem?_eq_getElem h)
  rw [← q]
  exact congrArg _ (by omega)
theorem map_atI {i : Int} {ns : List Int} (h0 : 0 ≤ i) (h1 : i < ns.length) : ∃ x, x ∈ ns ∧ atI (ns.map V.int) i = some (.int x) := by
  obtain ⟨x, h, g⟩ := atI_lt (xs := ns.map V.int) h0 (by rw [List.length_map]; exact h1)
  rw [List.getElem?_map] at g
  cases e : ns[i.toNat]? with
  | none => rw [e] at g; cases g
  | some y =>
    rw [e] at g
    have : V.int y = x := Option.some.inj g
    subst this
    exact ⟨y, List.mem_of_getElem? e, h⟩
theorem map_eraseIdx' {α β : Type} (f : α → β) : ∀ (l : List α) (i : Nat), (l.map f).eraseIdx i = (l.eraseIdx i).map f
  | [], _ => rfl
  | _ :: _, 0 => rfl
  | x :: r, i + 1 => by
    show f x :: (r.map f).eraseIdx i = f x :: (r.eraseIdx i).map f
    rw [map_eraseIdx' f r i]
theorem inV_ints (x : Int) (ns : List Int) : inV (.int x) (ns.map V.int) = decide (x ∈ ns) := by
  induction ns with
  | nil => rfl
  | cons y r ih =>
    show (y == x || (r.map V.int).any fun z => eqV z (.int x)) = decide (x ∈ y :: r)
    have ih' : ((r.map V.int).any fun z => eqV z (.int x)) = decide (x ∈ r) := ih
    rw [ih']
    by_cases h : y = x
    · subst h
      simp
    · have h' : ¬ x = y := fun q => h q.symm
      simp [h, h']
theorem all_flat_ints (ns : List Int) : (ns.map V.int).all flatV = true := by
  rw [List.all_eq_true]
  intro x hx
  obtain ⟨n, _, rfl⟩ := List.mem_map.mp hx
  rfl
theorem seq_at {n : Nat} {k : Int} (h0 : 0 ≤ k) (h1 : k < n) : seqIndex? k n = some k.toNat := by
  have h : ixN n k = some k.toNat := by
    unfold ixN
    rw [if_pos h0, if_pos h1]
  exact (ixN_seq h).1
theorem nodup_of_lt {l : List Int} (h : l.Pairwise (· < ·)) : l.Nodup := h.imp fun {a b} q z => by omega
/-! built-ins' readings by name -/
def rLenS (K : PySem.W.Frag) : List V → Hp → VK → Prop := fun xs H Q => ∃ p ys, xs = [.ref p] ∧ (SqL K H p ys ∨ SqT K H p ys) ∧ Q (.int ys.length) H
theorem c_len {X : Cx} : CallR X (.builtin "len") (rLenS X.K) := call_len_seq
def rListOf (K : PySem.W.Frag) : List V → Hp → VK → Prop := fun xs H Q => ∃ p ys, xs = [.ref p] ∧ (SqL K H p ys ∨ SqT K H p ys) ∧ ∀ l, H l = none → Q (.ref l) (upd H l (.lst ys))
theorem c_list {X : Cx} : CallR X (.type "list") (rListOf X.K) := call_list_of
def rTupOf (K : PySem.W.Frag) : List V → Hp → VK → Prop := fun xs H Q => ∃ p ys, xs = [.ref p] ∧ ((SqL K H p ys ∧ ∀ l, H l = none → Q (.ref l) (upd H l (.tup ys))) ∨ (SqT K H p ys ∧ Q (.ref p) H))
theorem c_tuple {X : Cx} : CallR X (.type "tuple") (rTupOf X.K) := call_tuple_of
def rIntOf : List V → Hp → VK → Prop := fun xs H Q => (∃ i, xs = [.int i] ∧ Q (.int i) H) ∨ ∃ k, xs = [.bl k] ∧ Q (.int (if k then 1 else 0)) H
theorem c_int {X : Cx} : CallR X (.type "int") rIntOf := call_int1
def rMin2 : List V → Hp → VK → Prop := fun xs H Q => ∃ i j, xs = [.int i, .int j] ∧ Q (.int (if j < i then j else i)) H
theorem c_min {X : Cx} (hc : X.calm = true) : CallR X (.builtin "min") rMin2 := call_min2 hc
theorem perm_erase {α : Type} : ∀ (l : List α) (i : Nat) (h : i < l.length), (l[i] :: l.eraseIdx i).Perm l
  | _ :: _, 0, _ => List.Perm.refl _
  | x :: r, i + 1, h => by
    have h' : i < r.length := by simpa using h
    show (r[i] :: x :: r.eraseIdx i).Perm (x :: r)
    exact (List.Perm.swap x r[i] _).trans ((perm_erase r i h').cons x)
theorem small_lt {n : Nat} (h : n ≤ 100000) : n < sizeLine := Nat.lt_of_le_of_lt h (by decide)
theorem small_le {n : Nat} (h : n ≤ 100000) : n ≤ sizeLine := Nat.le_trans h (by decide)
theorem Gr.upd2 {t : Addr} {H H' : Hp} {a : Addr} {o : HO} (g : Gr t H H') (h : H a = none) : Gr t H (upd H' a o) := gr_mut g h
/-- ascending rows -/
theorem asc_of {row l : List Int} (hp : row.Perm l) (hs : row.Pairwise (· ≤ ·)) (hn : l.Nodup) : row.Pairwise (· < ·) := sorted_strict hs (hp.symm.nodup hn)
theorem asc_snoc {row : List Int} {j : Int} (hp : row.Pairwise (· < ·)) (h : ∀ x ∈ row, x < j) : (row ++ [j]).Pairwise (· < ·) := by
  rw [List.pairwise_append]
  exact ⟨hp, List.pairwise_singleton _ _, fun a ha b hb => by rw [List.mem_singleton.mp hb]; exact h a ha⟩
theorem nodup_snoc {row : List Int} {j : Int} (hp : row.Nodup) (h : j ∉ row) : (row ++ [j]).Nodup := by
  show (row ++ [j]).Pairwise (· ≠ ·)
  rw [List.pairwise_append]
  exact ⟨hp, List.pairwise_singleton _ _, fun a ha b hb q => by rw [List.mem_singleton.mp hb] at q; exact h (q ▸ ha)⟩
theorem map_snoc (row : List Int) (j : Int) : row.map V.int ++ [V.int j] = (row ++ [j]).map V.int := by rw [List.map_append]; rfl
/-- a list that changes is no row -/
theorem sqT_put {K : PySem.W.Frag} {H : Hp} {a f : Addr} {xs vs ws : List V} (h : SqT K H a xs) (e : H f = some (.lst vs)) : SqT K (upd H f (.lst ws)) a xs := by
  rcases h with (h | ⟨o, h⟩) | h
  · exact .inl (.inl (by rw [upd_ne (ne_of h e (by intro z; cases z))]; exact h))
  · exact .inl (.inr ⟨o, by rw [upd_ne (ne_of h e (by intro z; cases z))]; exact h⟩)
  · exact .inr h
theorem RowsT.put {K : PySem.W.Frag} {H : Hp} {f : Addr} {us ws : List V} (e : H f = some (.lst us)) : ∀ {vs : List V} {rs : List (List Int)}, RowsT K H vs rs → RowsT K (upd H f (.lst ws)) vs rs
  | _, _, .nil => .nil
  | _, _, .cons h r => .cons (sqT_put h e) (r.put e)
theorem row_len : ∀ {r : List Int} {lo hi : Int}, r.Pairwise (· < ·) → (∀ x ∈ r, lo ≤ x ∧ x < hi) → (r.length : Int) ≤ (hi - lo).toNat
  | [], lo, hi, _, _ => Int.natCast_nonneg _
  | x :: r, lo, hi, h, hb => by
    have h1 := hb x List.mem_cons_self
    have h2 := row_len (r := r) (lo := x + 1) (hi := hi) (List.pairwise_cons.mp h).2 fun y hy => by
      have := (List.pairwise_cons.mp h).1 y hy
      have := (hb y (List.mem_cons_of_mem _ hy)).2
      omega
    rw [List.length_cons]
    omega
end Fo

set_option maxRecDepth 100000
set_option maxHeartbeats 2000000
namespace PySem.W
open PySem PySem.Spec PyProof.Rows Builtin
section
variable {prog : Program} {w : World} {A : Around} {E : Value → Shared → Prop} {s : Shared} {K : Frag} {x C f : Addr} {ox : Obj} {od : Option Obj} {b tb : Value}
/-- != of an instance whose class has its own == alone -/
theorem fo_callNe {Q : Option Value → Shared → Prop} (X : K.In s.heap) (I : InstAt s.heap x ox C od) (hn : findIn K (.ref C) (Str.ofString "__ne__") = some (some (.builtin "object.__ne__")))
    (h : wpAny (model prog w) A (call (.builtin "object.__ne__") [.ref x, b]) (fun v => Q (some v)) E s) : wpAny (model prog w) A (callSpecialIfBound? (.ref x) (Str.ofString "__ne__") [b]) Q E s := by
  simp only [callSpecialIfBound?, bindSpecialIfBound?]
  refine wpAny_holding (wpAny_bind (wpAny_bind (wpAny_bind (I.type.here ((looks_findIn X hn).here ?_)))))
  simp only [PySem.F.cmp_object.ne.bind]
  refine wpAny_bind (wpAny_askSetting (wpAny_ite ?_))
  have fin : wpAny (model prog w) A (call (.builtin "object.__ne__") ([.ref x] ++ [b]) >>= fun v => pure (some v)) Q E s := wpAny_bind (wpAny_mono h (fun v s' h' => wpAny_pure h') fun _ _ h' => h')
  split
  · exact wpAny_bind (wpAny_pure (wpAny_pure fin))
  · exact wpAny_tryCatch (wpAny_bind (wpAny_pure (wpAny_pure fin)))
theorem fo_checkNe {Q : Unit → Shared → Prop} {A : Around} (X : K.In s.heap) (I : InstAt s.heap x ox C od) (hm : mroIn K C (.type "object") = some true) (hq : Q () s) :
    wpAny (model prog w) A (checkBuiltinCall "object.__ne__" ⟨[.ref x, b], []⟩) Q E s := by
  simp only [checkBuiltinCall, PySem.F.cmpKind_ne, PySem.F.cmpSplit_ne]
  refine wpAny_bind ?_
  unfold isInstance
  refine wpAny_bind (I.type.here ((looks_mroIn X hm).here ?_))
  simp only [Bool.not_true, Bool.false_eq_true, if_false]
  exact wpAny_pure hq
theorem fo_bodyNe {Q : Fin → Shared → Prop} {A : Around} (hu : A.units < cLine) (X : K.In s.heap) (I : InstAt s.heap x ox C od) (hs : findIn K (.ref C) (Str.ofString "__eq__") = some (some (.ref f))) (hf : isFn K (.ref f) = true)
    (h : wpAny (model prog w) A (call (.ref f) [.ref x, b]) (fun v s' => ∃ c, v = .bool c ∧ Q (.done (.ret (.bool (!c)))) s') E s) :
    wpAny (model prog w) A (Builtin.«object.__ne__» ⟨[.ref x, b], []⟩) Q E s := by
  unfold Builtin.«object.__ne__»
  repeat' (first
    | with_reducible refine wpAny_cRoomFor hu ?_
    | refine wpAny_bind (m := callSpecialIfBound? (.ref x) (Str.ofString "__eq__") [b]) (ifBound_K X I hs hf (wpAny_mono h ?_ fun _ _ e => e))
    | wp_step)
  intro r s' hr
  obtain ⟨c, rfl, hq⟩ := hr
  refine wpAny_bind (wpAny_truthy_bool ?_)
  exact wpAny_pure hq
theorem fo_ne {h₀ : Heap} {L : Addr} {m : Str → Option Value} {Q : Value → Shared → Prop} (hu : A.units + 1 < cLine) (F : Fr h₀ L s.heap m) (X₀ : K.In h₀) (I : InstAt s.heap x ox C od) (hb : Looks (model prog w) s.heap (typeOf b) tb) (hnf : notFirst K C tb = true)
    (hm : mroIn K C (.type "object") = some true) (hn : findIn K (.ref C) (Str.ofString "__ne__") = some (some (.builtin "object.__ne__"))) (hs : findIn K (.ref C) (Str.ofString "__eq__") = some (some (.ref f))) (hf : isFn K (.ref f) = true)
    (h : wpAny (model prog w) A.in1 (call (.ref f) [.ref x, b]) (fun v s' => ∃ c, v = .bool c ∧ Q (.bool (!c)) s') E s) : wpAny (model prog w) A (richCompare .NotEq (.ref x) b) Q E s := by
  have X := X₀.keeps F.keep
  have one : wpAny (model prog w) A (tryCompare (.ref x) (cmpInfo .NotEq).2.1 b) (fun r s' => ∃ v, r = some v ∧ Q v s') E s := by
    unfold tryCompare
    refine wpAny_bind (fo_callNe X I hn (wpAny_call (codeAny_call_builtin PySem.F.cmp_object.ne.plain PySem.F.cmpEntry_ne (fo_checkNe (A := A.in1) X I hm (fo_bodyNe (A := A.in1) (by simpa using hu) X I hs hf (wpAny_mono h (fun v s' hv => ?_) fun _ _ e => e))))))
    obtain ⟨c, rfl, hq⟩ := hv
    first | exact ⟨c, rfl, wpAny_pure ⟨_, rfl, hq⟩⟩ | exact ⟨c, rfl, _, rfl, hq⟩
  unfold richCompare
  simp only [oneThing_ref]
  refine wpAny_holding (wpAny_bind (wpAny_cRoomFor (Nat.lt_of_succ_lt hu) ?_))
  refine wpAny_bind (I.type.here (wpAny_bind (hb.here ?_)))
  split
  · rename_i q
    have e : subIn K tb (.ref C) = some false := by
      rcases Bool.or_eq_true_iff.mp hnf with e | e
      · rw [beq_iff_eq.mp e] at q; simp at q
      · exact beq_iff_eq.mp e
    refine wpAny_bind ((looks_subIn X e).here ?_)
    simp only [Bool.false_eq_true, if_false]
    refine wpAny_bind (wpAny_mono one (fun r s' z => ?_) fun _ _ e => e)
    obtain ⟨v, rfl, hq⟩ := z
    exact wpAny_pure hq
  · refine wpAny_bind (wpAny_pure ?_)
    simp only [Bool.false_eq_true, if_false]
    refine wpAny_bind (wpAny_mono one (fun r s' z => ?_) fun _ _ e => e)
    obtain ⟨v, rfl, hq⟩ := z
    exact wpAny_pure hq
end
end PySem.W

namespace Fo
open PySem PySem.Spec PyProof.Rows L2
/-- the class of the tables, by what the text's top leaves of it -/
structure TC (K : PySem.W.Frag) (C : Addr) : Prop where
  cl : Cls K C
  ha : PySem.W.findIn K (.ref C) "__class__" = some (some (.builtin "object.__class__"))
  hn : PySem.W.specialIn K (.builtin "object.__class__") "__get__" = some (some (.builtin "getset_descriptor.__get__"))
  htk : PySem.W.takesIn K (.builtin "object.__class__") = some true
  hm : PySem.W.mroIn K C (.type "object") = some true
  ne : PySem.W.findIn K (.ref C) "__ne__" = some (some (.builtin "object.__ne__"))
  nR : NoAttr K C "rows"
  nS : NoAttr K C "size"
  kI : PySem.W.kitOne K (.ref C) (.type "int") = some false
  kB : PySem.W.kitOne K (.ref C) (.type "bool") = some false
  kT : PySem.W.kitOne K (.ref C) (.type "tuple") = some false
  kS : PySem.W.kitOne K (.ref C) (.type "str") = some false
  kL : PySem.W.kitOne K (.ref C) (.type "list") = some false
theorem TC.ty {K : PySem.W.Frag} {C : Addr} (c : TC K C) {H : Hp} {a dx : Addr} {fs : List (Str × V)} (h : H a = some (.ins C dx fs)) : TyX K H (.ref a) (.ref C) := .base (.ins h c.cl c.ha c.hn c.htk c.hm)
def rEqI (K : PySem.W.Frag) (C : Addr) (sp : Sp) : R2 := fun x y H Q => ∃ (a dx : Addr) (fs : List (Str × V)) (t : Value), x = .ref a ∧ H a = some (.ins C dx fs) ∧ TyX K H y t ∧ PySem.W.notFirst K C t = true ∧ sp [x, y] H (fun v H' => ∃ b, v = .bl b ∧ Q (.bl b) H') E0
def rNeI (K : PySem.W.Frag) (C : Addr) (sp : Sp) : R2 := fun x y H Q => ∃ (a dx : Addr) (fs : List (Str × V)) (t : Value), x = .ref a ∧ H a = some (.ins C dx fs) ∧ TyX K H y t ∧ PySem.W.notFirst K C t = true ∧ sp [x, y] H (fun v H' => ∃ b, v = .bl b ∧ Q (.bl (!b)) H') E0
section
variable {X : Cx} {C f : Addr} {fd : FuncData} {ps : List Str} {n : Nat} {sp : Sp}
theorem run_eqI {A : Around} {pins : List (Addr × Obj)} {s : Shared} {σ : L2.St} {H : Hp} {x y : V} {a : Addr} {v : Value} {Q : VK} (F : FnOk X.prog X.w X.K X.mg X.base CX0 n f fd ps sp) (hb : Binds X.K fd ps []) (sb : Sub X n A) (I : Inv X pins σ H s) (rx : RelV x (.ref a)) (ry : RelV y v)
    (h : sp [x, y] H Q E0) : wpAny (model X.prog X.w) A (call (.ref f) [.ref a, v]) (EP X pins σ Q) X.xe s := by
  have e0 : Env0 X.prog X.w X.K X.mg X.base A X.stack s H := by
    have e := I.env0
    exact ⟨by rw [sb.fr]; exact e.frames, e.mod, e.bs, e.bsz, e.funs, e.frf, e.hok, e.bare⟩
  have hl := F.len _ _ _ _ h
  have r2 : Vals [x, y] [Value.ref a, v] := .cons rx (.cons ry .nil)
  refine wpAny_call (codeAny_mono (F.run A X.stack s H ⟨[.ref a, v], []⟩ [.ref a, v] [x, y] _ E0 sb.room e0 (by
    have := hb s [.ref a, v] I.kIn (by simpa using hl)
    simpa using this) r2 h) fun r s' hq => ?_)
  cases r with
  | error e => exact pass0 pins σ H s e s' I hq
  | ok fl =>
    cases fl with
    | ret w => exact I.after hq
    | next => exact False.elim hq
    | brk => exact False.elim hq
    | cont => exact False.elim hq
theorem op_eqI (F : FnOk X.prog X.w X.K X.mg X.base CX0 n f fd ps sp) (hb : Binds X.K fd ps []) (hs : PySem.W.findIn X.K (.ref C) "__eq__" = some (some (.ref f))) (hf : PySem.W.isFn X.K (.ref f) = true) (hr : Room n X.A) :
    OpR X (compareOp .Eq) (rEqI X.K C sp) := by
  intro pins s σ H x y v u Q I rx ry h
  obtain ⟨a, dx, fs, t, rfl, ha, ty, nf, q⟩ := h
  cases rx
  obtain ⟨mA, J, _⟩ := ins_get I.hok ha
  obtain ⟨od, J, _⟩ := J.look
  obtain ⟨P, Z, p, hx⟩ := kit_of I ry ty
  obtain ⟨m, hF⟩ := I.fr
  refine PySem.W.cmp_K (op := .Eq) (tb := t) hr.units0 hF I.ok.mod.kin J (Z.ty _ _ I.kIn p) nf hs hf ?_
  refine wpAny_mono (run_eqI F hb ⟨hr, rfl⟩ I (show L2.RelV (.ref a) (.ref a) from rfl) ry q) (fun w s' e => ?_) fun _ _ z => z
  obtain ⟨z, H', I', rz, b, ez, qz⟩ := e
  subst ez
  cases rz
  exact ⟨.bl b, H', I', rfl, qz⟩
theorem op_neI (F : FnOk X.prog X.w X.K X.mg X.base CX0 n f fd ps sp) (hb : Binds X.K fd ps []) (c : TC X.K C) (hs : PySem.W.findIn X.K (.ref C) "__eq__" = some (some (.ref f))) (hf : PySem.W.isFn X.K (.ref f) = true) (hr : Room (n + 1) X.A) :
    OpR X (compareOp .NotEq) (rNeI X.K C sp) := by
  intro pins s σ H x y v u Q I rx ry h
  obtain ⟨a, dx, fs, t, rfl, ha, ty, nf, q⟩ := h
  cases rx
  obtain ⟨mA, J, _⟩ := ins_get I.hok ha
  obtain ⟨od, J, _⟩ := J.look
  obtain ⟨P, Z, p, hx⟩ := kit_of I ry ty
  obtain ⟨m, hF⟩ := I.fr
  refine PySem.W.fo_ne (tb := t) (Nat.lt_of_le_of_lt (Nat.add_le_add_left (by decide : 1 ≤ 64) _) hr.units) hF I.ok.mod.kin J (Z.ty _ _ I.kIn p) nf c.hm c.ne hs hf ?_
  refine wpAny_mono (run_eqI (A := X.A.in1) F hb ⟨hr.in1, rfl⟩ I (show L2.RelV (.ref a) (.ref a) from rfl) ry q) (fun w s' e => ?_) fun _ _ z => z
  obtain ⟨z, H', I', rz, b, ez, qz⟩ := e
  subst ez
  cases rz
  exact ⟨b, rfl, .bl (!b), H', I', rfl, qz⟩
end
/-! loops and comprehensions over enumerate and zip of tuples -/
theorem for_enumT {K : PySem.W.Frag} {a : Addr} {xs : List V} {g : TG} {tb : TS} {D : Ends} {σ : L2.St} {H : Hp} (Pv : Nat → L2.St → Hp → Prop) (h0 : Pv 0 σ H) (hl : ∀ i σ H, i ≤ xs.length → Pv i σ H → SqT K H a xs)
    (hs : ∀ i x σ H T, xs[i]? = some x → Pv i σ H → H T = none → g (.ref T) σ (upd H T (.tup [.int (i : Nat), x])) fun σ2 H2 => tb { D with nx := Pv (i + 1), ct := Pv (i + 1), bk := D.nx } σ2 H2) (hd : ∀ σ H, Pv xs.length σ H → D.nx σ H) :
    ∃ W : Nat → Nat → L2.St → Hp → Prop, (∃ m, W 0 m σ H) ∧ ∀ i m σ H, W i m σ H →
      ((IteT K a).stop i H ∧ D.nx σ H) ∨ ((IteT K a).go i H ∧ ∃ N : L2.St → Hp → Prop, (∀ σ' H', N σ' H' → ∃ m', m' < m ∧ W (i + 1) m' σ' H') ∧ ∀ x H', (IteT K a).yld i H x H' → g x σ H' fun σ2 H2 => tb { D with nx := N, ct := N, bk := D.nx } σ2 H2) := by
  refine ⟨fun i m σ H => m = xs.length - i ∧ i ≤ xs.length ∧ Pv i σ H, ⟨xs.length, by simp, Nat.zero_le _, h0⟩, ?_⟩
  rintro i m σ H ⟨rfl, hi, p⟩
  have q := hl i σ H hi p
  by_cases hlt : i < xs.length
  · refine .inr ⟨⟨xs, xs[i], q, by simp [hlt]⟩, Pv (i + 1), fun σ' H' p' => ⟨xs.length - (i + 1), by omega, rfl, hlt, p'⟩, fun x H' y => ?_⟩
    obtain ⟨T, x', rfl, nT, rfl, y⟩ := y
    exact hs i x' σ H T (y xs q) p nT
  · have e : i = xs.length := by omega
    subst e
    exact .inl ⟨⟨xs, q, Nat.le_refl _⟩, hd σ H p⟩
theorem lc_enumT {K : PySem.W.Frag} {a : Addr} {xs : List V} {g : TG} {tt : TT} {te : TE} {vs : List Nat} {σ : L2.St} {H1 : Hp} {D : Addr} {Qd : Hp → Prop} (Pv : Nat → Hp → Prop) (h0 : Pv 0 (upd H1 D (.lst []))) (hl : ∀ i H, i ≤ xs.length → Pv i H → SqT K H a xs)
    (hs : ∀ i x H T, xs[i]? = some x → Pv i H → H T = none → g (.ref T) (wipe σ vs) (upd H T (.tup [.int (i : Nat), x])) fun σ2 H2 => wipe σ2 vs = wipe σ vs ∧ tt σ2 H2 fun b H3 =>
      if b = true then te σ2 H3 fun y H4 => ∃ acc, H4 D = some (.lst acc) ∧ acc.length < sizeLine ∧ Pv (i + 1) (upd H4 D (.lst (acc ++ [y]))) else Pv (i + 1) H3) (hd : ∀ H, Pv xs.length H → Qd H) :
    ∃ W : Nat → Nat → Hp → Prop, (∃ m, W 0 m (upd H1 D (.lst []))) ∧ ∀ i m H, W i m H →
      ((IteT K a).stop i H ∧ Qd H) ∨ ((IteT K a).go i H ∧ ∃ Nx : Hp → Prop, (∀ H', Nx H' → ∃ m', m' < m ∧ W (i + 1) m' H') ∧ ∀ x H', (IteT K a).yld i H x H' → g x (wipe σ vs) H' fun σ2 H2 => wipe σ2 vs = wipe σ vs ∧ tt σ2 H2 fun b H3 =>
        if b = true then te σ2 H3 fun y H4 => ∃ acc, H4 D = some (.lst acc) ∧ acc.length < sizeLine ∧ Nx (upd H4 D (.lst (acc ++ [y]))) else Nx H3) := by
  refine ⟨fun i m H => m = xs.length - i ∧ i ≤ xs.length ∧ Pv i H, ⟨xs.length, by simp, Nat.zero_le _, h0⟩, ?_⟩
  rintro i m H ⟨rfl, hi, p⟩
  have q := hl i H hi p
  by_cases hlt : i < xs.length
  · refine .inr ⟨⟨xs, xs[i], q, by simp [hlt]⟩, Pv (i + 1), fun H' p' => ⟨xs.length - (i + 1), by omega, rfl, hlt, p'⟩, fun x H' y => ?_⟩
    obtain ⟨T, x', rfl, nT, rfl, y⟩ := y
    exact hs i x' H T (y xs q) p nT
  · have e : i = xs.length := by omega
    subst e
    exact .inl ⟨⟨xs, q, Nat.le_refl _⟩, hd H p⟩
theorem lc_zipT {K : PySem.W.Frag} {a b : Addr} {xs ys : List V} {g : TG} {tt : TT} {te : TE} {vs : List Nat} {σ : L2.St} {H1 : Hp} {D : Addr} {Qd : Hp → Prop} (hle : ys.length ≤ xs.length) (Pv : Nat → Hp → Prop) (h0 : Pv 0 (upd H1 D (.lst []))) (hl : ∀ i H, i ≤ ys.length → Pv i H → SqT K H a xs ∧ SqT K H b ys)
    (hs : ∀ i x y H T, xs[i]? = some x → ys[i]? = some y → Pv i H → H T = none → g (.ref T) (wipe σ vs) (upd H T (.tup [x, y])) fun σ2 H2 => wipe σ2 vs = wipe σ vs ∧ tt σ2 H2 fun c H3 =>
      if c = true then te σ2 H3 fun y H4 => ∃ acc, H4 D = some (.lst acc) ∧ acc.length < sizeLine ∧ Pv (i + 1) (upd H4 D (.lst (acc ++ [y]))) else Pv (i + 1) H3) (hd : ∀ H, Pv ys.length H → Qd H) :
    ∃ W : Nat → Nat → Hp → Prop, (∃ m, W 0 m (upd H1 D (.lst []))) ∧ ∀ i m H, W i m H →
      ((RZ.ItzT K a b).stop i H ∧ Qd H) ∨ ((RZ.ItzT K a b).go i H ∧ ∃ Nx : Hp → Prop, (∀ H', Nx H' → ∃ m', m' < m ∧ W (i + 1) m' H') ∧ ∀ x H', (RZ.ItzT K a b).yld i H x H' → g x (wipe σ vs) H' fun σ2 H2 => wipe σ2 vs = wipe σ vs ∧ tt σ2 H2 fun c H3 =>
        if c = true then te σ2 H3 fun y H4 => ∃ acc, H4 D = some (.lst acc) ∧ acc.length < sizeLine ∧ Nx (upd H4 D (.lst (acc ++ [y]))) else Nx H3) := by
  refine ⟨fun i m H => m = ys.length - i ∧ i ≤ ys.length ∧ Pv i H, ⟨ys.length, by simp, Nat.zero_le _, h0⟩, ?_⟩
  rintro i m H ⟨rfl, hi, p⟩
  obtain ⟨q1, q2⟩ := hl i H hi p
  by_cases hlt : i < ys.length
  · have hlt2 : i < xs.length := Nat.lt_of_lt_of_le hlt hle
    refine .inr ⟨⟨xs, ys, xs[i], ys[i], q1, q2, by simp [hlt2], by simp [hlt]⟩, Pv (i + 1), fun H' p' => ⟨ys.length - (i + 1), by omega, rfl, hlt, p'⟩, fun x H' y => ?_⟩
    obtain ⟨T, x', y', rfl, nT, rfl, z1, z2⟩ := y
    exact hs i x' y' H T (z1 xs q1) (z2 ys q2) p nT
  · have e : i = ys.length := by omega
    subst e
    exact .inl ⟨⟨xs, ys, q1, q2, .inr (Nat.le_refl _)⟩, hd H p⟩
/-! things of any kind -/
def isIntV : V → Bool
  | .int _ => true
  | _ => false
def numV (b : Int) : V → Bool
  | .int i => decide (0 ≤ i) && decide (i < b)
  | _ => false
/-- a thing whose kind is known: of a built-in type, or of the tables' class -/
def Th (K : PySem.W.Frag) (C : Addr) (H : Hp) (x : V) : Prop := ∃ t, TyX K H x t ∧ (∀ c, t = .ref c → c = C)
theorem tyX_same {K : PySem.W.Frag} {H H' : Hp} (e : Same H H') {x : V} {t : Value} (h : TyX K H x t) : TyX K H' x t := by
  cases h with
  | base b =>
    cases b with
    | non => exact .base .non
    | bl b => exact .base (.bl b)
    | int i => exact .base (.int i)
    | str x => exact .base (.str x)
    | flt x => exact .base (.flt x)
    | lst h => exact .base (.lst (e _ _ h))
    | frz h => exact .base (.frz (e _ _ h))
    | tup h => exact .base (.tup (e _ _ h))
    | dK h => exact .base (.dK (e _ _ h))
    | dT h => exact .base (.dT (e _ _ h))
    | ins h a b c d f => exact .base (.ins (e _ _ h) a b c d f)
  | byt b => exact .byt b
  | set h => exact .set (e _ _ h)
  | kList a b => exact .kList a b
  | kTuple a b => exact .kTuple a b
  | kDict a b => exact .kDict a b
  | fTuple h => exact .fTuple (e _ _ h)
  | fDict h => exact .fDict (e _ _ h)
theorem Th.same {K : PySem.W.Frag} {C : Addr} {H H' : Hp} (e : Same H H') {x : V} (h : Th K C H x) : Th K C H' x := by
  obtain ⟨t, a, b⟩ := h
  exact ⟨t, tyX_same e a, b⟩
theorem th_int {K : PySem.W.Frag} {C : Addr} {H : Hp} {i : Int} : Th K C H (.int i) := ⟨_, .base (.int i), fun _ q => nomatch q⟩
theorem th_kit {K : PySem.W.Frag} {C : Addr} (c : TC K C) {H : Hp} {x : V} (h : Th K C H x) : ∃ t b1 b2, TyX K H x t ∧ PySem.W.kitOne K t (.type "int") = some b1 ∧ PySem.W.kitOne K t (.type "bool") = some b2 ∧ (b1 && !b2) = isIntV x := by
  obtain ⟨t, ty, ht⟩ := h
  have go : ∀ (n : String) (b1 b2 : Bool), t = .type n → kitB n "int" = some b1 → kitB n "bool" = some b2 → (b1 && !b2) = isIntV x → ∃ t b1 b2, TyX K H x t ∧ PySem.W.kitOne K t (.type "int") = some b1 ∧ PySem.W.kitOne K t (.type "bool") = some b2 ∧ (b1 && !b2) = isIntV x :=
    fun n b1 b2 e h1 h2 h3 => ⟨t, b1, b2, ty, by rw [e]; exact kit_ty h1, by rw [e]; exact kit_ty h2, h3⟩
  cases ty with
  | base b =>
    cases b with
    | non => exact go "NoneType" false false rfl (by decide +kernel) (by decide +kernel) rfl
    | bl b => exact go "bool" true true rfl (by decide +kernel) (by decide +kernel) rfl
    | int i => exact go "int" true false rfl (by decide +kernel) (by decide +kernel) rfl
    | str x => exact go "str" false false rfl (by decide +kernel) (by decide +kernel) rfl
    | flt x => exact go "float" false false rfl (by decide +kernel) (by decide +kernel) rfl
    | lst h => exact go "list" false false rfl (by decide +kernel) (by decide +kernel) rfl
    | frz h => exact go "list" false false rfl (by decide +kernel) (by decide +kernel) rfl
    | tup h => exact go "tuple" false false rfl (by decide +kernel) (by decide +kernel) rfl
    | dK h => exact go "dict" false false rfl (by decide +kernel) (by decide +kernel) rfl
    | dT h => exact go "dict" false false rfl (by decide +kernel) (by decide +kernel) rfl
    | @ins a C' dx fs h a1 b1 c1 d1 f1 =>
      have e := ht C' rfl
      subst e
      exact ⟨_, false, false, .base (.ins h a1 b1 c1 d1 f1), c.kI, c.kB, rfl⟩
  | byt b => exact go "bytes" false false rfl (by decide +kernel) (by decide +kernel) rfl
  | set h => exact go "set" false false rfl (by decide +kernel) (by decide +kernel) rfl
  | kList a b => exact go "list" false false rfl (by decide +kernel) (by decide +kernel) rfl
  | kTuple a b => exact go "tuple" false false rfl (by decide +kernel) (by decide +kernel) rfl
  | kDict a b => exact go "dict" false false rfl (by decide +kernel) (by decide +kernel) rfl
  | fTuple h => exact go "tuple" false false rfl (by decide +kernel) (by decide +kernel) rfl
  | fDict h => exact go "dict" false false rfl (by decide +kernel) (by decide +kernel) rfl
theorem tyX_sqT {K : PySem.W.Frag} {H : Hp} {a : Addr} {xs : List V} (h : SqT K H a xs) : TyX K H (.ref a) (.type "tuple") := by
  rcases h with (h | ⟨o, h⟩) | ⟨o, its, n, h, hc, _⟩
  · exact .base (.tup h)
  · exact .fTuple h
  · exact .kTuple h hc
/-- a thing as the judges look at it: a tuple of things, or no tuple -/
inductive Tg (K : PySem.W.Frag) (C : Addr) (H : Hp) : V → Option (List V) → Prop
  | tup {a : Addr} {xs : List V} (h : SqT K H a xs) (hi : ∀ y ∈ xs, Th K C H y) (hz : xs.length ≤ 100000) : Tg K C H (.ref a) (some xs)
  | no {x : V} {t : Value} (ty : TyX K H x t) (hk : PySem.W.kitOne K t (.type "tuple") = some false) : Tg K C H x none
theorem Tg.same {K : PySem.W.Frag} {C : Addr} {H H' : Hp} (e : Same H H') {x : V} {o : Option (List V)} (h : Tg K C H x o) : Tg K C H' x o := by
  cases h with
  | tup h hi hz => exact .tup (sqT_same e h) (fun y hy => (hi y hy).same e) hz
  | no ty hk => exact .no (tyX_same e ty) hk
theorem Tg.ints {K : PySem.W.Frag} {C : Addr} {H : Hp} {a : Addr} {ns : List Int} (h : SqT K H a (ns.map V.int)) (hz : ns.length ≤ 100000) : Tg K C H (.ref a) (some (ns.map V.int)) := .tup h (fun y hy => by
  obtain ⟨n, _, rfl⟩ := List.mem_map.mp hy
  exact th_int) (by rw [List.length_map]; exact hz)
/-- whether it is an ascending tuple of numbers below b -/
def ascV (b : Int) : List V → Bool
  | [] => true
  | [x] => numV b x
  | x :: y :: r => numV b x && (match x, y with | .int i, .int j => decide (i < j) | _, _ => false) && ascV b (y :: r)
def ltV : V → V → Bool
  | .int i, .int j => decide (i < j)
  | _, _ => false
theorem ascV_eq (b : Int) : ∀ xs : List V, ascV b xs = (xs.all (numV b) && ((xs.zip (xs.drop 1)).all fun p => ltV p.1 p.2))
  | [] => rfl
  | [x] => by
    show numV b x = _
    simp [List.all]
  | x :: y :: r => by
    have ih := ascV_eq b (y :: r)
    have e : ascV b (x :: y :: r) = (numV b x && ltV x y && ascV b (y :: r)) := by
      cases x <;> cases y <;> rfl
    rw [e, ih]
    simp only [List.drop_succ_cons, List.drop_zero, List.zip_cons_cons, List.all_cons]
    cases numV b x <;> cases ltV x y <;> cases numV b y <;> cases (List.all r (numV b)) <;> simp
theorem ascV_ints {b : Int} : ∀ {ns : List Int}, ns.Pairwise (· < ·) → (∀ x ∈ ns, 0 ≤ x ∧ x < b) → ascV b (ns.map V.int) = true
  | [], _, _ => rfl
  | [x], _, h => by
    have := h x List.mem_cons_self
    show (decide (0 ≤ x) && decide (x < b)) = true
    simp [this.1, this.2]
  | x :: y :: r, hp, h => by
    have ih := ascV_ints (ns := y :: r) (List.pairwise_cons.mp hp).2 fun z hz => h z (List.mem_cons_of_mem _ hz)
    have h1 := h x List.mem_cons_self
    have h2 := (List.pairwise_cons.mp hp).1 y List.mem_cons_self
    show ((decide (0 ≤ x) && decide (x < b)) && decide (x < y) && ascV b ((y :: r).map V.int)) = true
    rw [ih]
    simp [h1.1, h1.2, h2]
theorem all_num_ints {b : Int} {xs : List V} (h : xs.all (numV b) = true) : ∃ ns : List Int, xs = ns.map V.int ∧ ∀ x ∈ ns, 0 ≤ x ∧ x < b := by
  induction xs with
  | nil => exact ⟨[], rfl, fun _ h => (by cases h)⟩
  | cons x r ih =>
    rw [List.all_cons, Bool.and_eq_true] at h
    obtain ⟨ns, e, hb⟩ := ih h.2
    cases x with
    | int i =>
      have h1 : (decide (0 ≤ i) && decide (i < b)) = true := h.1
      rw [Bool.and_eq_true, decide_eq_true_eq, decide_eq_true_eq] at h1
      refine ⟨i :: ns, by rw [e]; rfl, fun x hx => ?_⟩
      rcases List.mem_cons.mp hx with q | q
      · rw [q]; exact h1
      · exact hb x q
    | _ => exact absurd h.1 (by simp [numV])
/-! tables as objects -/
def tf (v : V) (n : Nat) : List (Str × V) := putF "size" (.int (n : Int)) (putF "rows" v [])
theorem rs_ne : ¬ (("rows" : Str) = "size") := by decide +kernel
theorem sr_ne : ¬ (("size" : Str) = "rows") := by decide +kernel
theorem tf_rows (v : V) (n : Nat) : (tf v n).lookup ("rows" : Str) = some v := by
  unfold tf
  rw [lookup_putF, if_neg rs_ne, lookup_putF, if_pos rfl]
theorem tf_size (v : V) (n : Nat) : (tf v n).lookup ("size" : Str) = some (.int (n : Int)) := by
  unfold tf
  rw [lookup_putF, if_pos rfl]
theorem tf_eq (v : V) (n : Nat) : tf v n = ([("rows", v), ("size", V.int (n : Int))] : List (Str × V)) := by
  show (if ("rows" : Str) = "size" then [(("rows" : Str), V.int (n : Int))] else (("rows" : Str), v) :: putF "size" (V.int (n : Int)) []) = _
  rw [if_neg rs_ne]
  all_goals rfl
theorem tf_put (v u : V) (n m : Nat) : putF "size" (.int (m : Int)) (putF "rows" u (tf v n)) = tf u m := by
  rw [tf_eq, tf_eq]
  have e1 : putF "rows" u [("rows", v), ("size", V.int (n : Int))] = ([("rows", u), ("size", V.int (n : Int))] : List (Str × V)) := by
    show (if ("rows" : Str) = "rows" then (("rows" : Str), u) :: [(("size" : Str), V.int (n : Int))] else _) = _
    rw [if_pos rfl]
  rw [e1]
  show (if ("rows" : Str) = "size" then _ else (("rows" : Str), u) :: (if ("size" : Str) = "size" then [(("size" : Str), V.int (m : Int))] else _)) = _
  rw [if_neg rs_ne, if_pos rfl]
def TableAt (K : PySem.W.Frag) (C : Addr) (H : Hp) (x : V) (rows : List (List Int)) : Prop := ∃ p dx v, x = .ref p ∧ H p = some (.ins C dx (tf v rows.length)) ∧ RowsAt K H v rows
theorem TableAt.same {K : PySem.W.Frag} {C : Addr} {H H' : Hp} {x : V} {rows : List (List Int)} (h : TableAt K C H x rows) (e : Same H H') : TableAt K C H' x rows := by
  obtain ⟨p, dx, v, ex, hp, hr⟩ := h
  exact ⟨p, dx, v, ex, e _ _ hp, hr.same e⟩
theorem TableAt.gr {t l : Addr} {K : PySem.W.Frag} {C : Addr} {H H' : Hp} {x : V} {rows : List (List Int)} (h : TableAt K C H x rows) (g : Gr t H H') (T : Tape H t l) : TableAt K C H' x rows := by
  obtain ⟨p, dx, v, ex, hp, hr⟩ := h
  have hpt : p ≠ t := by
    obtain ⟨ns, b, c, d, e, ht, _⟩ := T
    exact ne_of hp ht (by intro z; cases z)
  exact ⟨p, dx, v, ex, g _ _ hpt hp, hr.gr g T⟩
/-- what changes at an instance is no tuple -/
theorem sqT_ins {K : PySem.W.Frag} {H H' : Hp} {a p C dx : Addr} {fs : List (Str × V)} {xs : List V} (h : SqT K H a xs) (e : H p = some (.ins C dx fs)) (k : ∀ b o, b ≠ p → H b = some o → H' b = some o) : SqT K H' a xs := by
  rcases h with (h | ⟨o, h⟩) | h
  · exact .inl (.inl (k _ _ (ne_of h e (by intro z; cases z)) h))
  · exact .inl (.inr ⟨o, k _ _ (ne_of h e (by intro z; cases z)) h⟩)
  · exact .inr h
theorem RowsT.ins {K : PySem.W.Frag} {H H' : Hp} {p C dx : Addr} {fs : List (Str × V)} (e : H p = some (.ins C dx fs)) (k : ∀ b o, b ≠ p → H b = some o → H' b = some o) : ∀ {vs : List V} {rs : List (List Int)}, RowsT K H vs rs → RowsT K H' vs rs
  | _, _, .nil => .nil
  | _, _, .cons h r => .cons (sqT_ins h e k) (r.ins e k)
theorem RowsAt.ins {K : PySem.W.Frag} {H H' : Hp} {p C dx : Addr} {fs : List (Str × V)} {v : V} {rows : List (List Int)} (h : RowsAt K H v rows) (e : H p = some (.ins C dx fs)) (k : ∀ b o, b ≠ p → H b = some o → H' b = some o) : RowsAt K H' v rows := by
  obtain ⟨a, vs, ev, h1, h2⟩ := h
  exact ⟨a, vs, ev, sqT_ins h1 e k, h2.ins e k⟩
theorem PE.imp {X : Cx} {e : Expr} {t t' : TE} (h : PE X e t) (i : ∀ σ H Q, t' σ H Q → t σ H Q) : PE X e t' := ⟨fun pins s σ H Q I q => h.run pins s σ H Q I (i σ H Q q)⟩
/-- the class, ready to be called and compared -/
structure MkT (P : Program) (w : World) (K : PySem.W.Frag) (mg : Str → Option Value) (base : Heap) (C : Addr) (n m : Nat) (spI spE : Sp) : Prop where
  mgC : mg "Table" = some (.ref C)
  tc : TC K C
  ini : ∃ f fd, Mk K C f ∧ FnOk P w K mg base CX0 n f fd ["self", "rows"] spI ∧ Binds K fd ["self", "rows"] []
  eqm : ∃ f fd, FnOk P w K mg base CX0 m f fd ["self", "other"] spE ∧ Binds K fd ["self", "other"] [] ∧ PySem.W.findIn K (.ref C) "__eq__" = some (some (.ref f)) ∧ PySem.W.isFn K (.ref f) = true
def spInit (K : PySem.W.Frag) (C : Addr) : Sp := fun vs H Q _ => ∃ (p dx : Addr) (v : V) (rows : List (List Int)), vs = [.ref p, v] ∧ H p = some (.ins C dx []) ∧ Good rows ∧ rows.length ≤ 12 ∧ RowsAt K H v rows ∧ ∀ H' : Hp, (∀ b o, b ≠ p → H b = some o → H' b = some o) → H' p = some (.ins C dx (tf v rows.length)) → Q .non H'
def tTable (K : PySem.W.Frag) (C : Addr) (te : TE) : TE := fun σ H Q => te σ H fun v H1 => ∃ rows, Good rows ∧ rows.length ≤ 12 ∧ RowsAt K H1 v rows ∧ ∀ p dx H2, Same H1 H2 → H1 p = none → H2 p = some (.ins C dx (tf v rows.length)) → Q (.ref p) H2
def tUp (te : TE) : TE := fun σ H Q => ∃ Q' : VK, te σ H Q' ∧ ∀ v H1, Q' v H1 → Q v H1
theorem pe_up {X : Cx} {e : Expr} {te : TE} (h : PE X e te) : PE X e (tUp te) := ⟨fun pins s σ H Q I ⟨Q', h1, h2⟩ => thn (h.run pins s σ H Q' I h1) fun u s1 ⟨v, H1, I1, r, q⟩ => ⟨v, H1, I1, r, h2 v H1 q⟩⟩
theorem pe_makeTable {X : Cx} {C : Addr} {n m : Nat} {spE : Sp} {e : Expr} {te : TE} {p pos : Pos} (G : MkT X.prog X.w X.K X.mg X.base C n m (spInit X.K C) spE) (hr : Room (n + 1) X.A) (ha : PE X e te) (hg : Gl X "Table" := by rfl)
    (hst : starEach [e] X.env = (false, eval e X.env) :: starEach [] X.env := by rfl) : PE X (.Call (.Name "Table" p) [e] [] pos) (tTable X.K C te) := by
  obtain ⟨f, fd, M, F, b⟩ := G.ini
  have base := pe_make (X := X) (x := "Table") (p := p) (pos := pos) M F hr hg G.mgC b .nil (pass0 (X := X)) (pa_cons (pe_up ha) pa_nil hst) (by decide) hst rfl
  refine PE.imp base fun σ H Q h => ⟨_, h, fun v H1 ⟨rows, hG, hl, hR, k⟩ x dx nx ndx ne => ?_⟩
  have hdx : (upd (upd H1 dx (.own x)) x (.ins C dx [])) x = some (.ins C dx []) := upd_same
  have s1 : Same H1 (upd (upd H1 dx (.own x)) x (.ins C dx [])) := (same_new ndx).trans (same_new (by rw [upd_ne ne.symm]; exact nx))
  refine ⟨x, dx, v, rows, rfl, hdx, hG, hl, hR.same s1, fun H' k1 k2 => ⟨rfl, k x dx H' (fun b o e => ?_) nx k2⟩⟩
  have nb : b ≠ x := ne_of_none e nx
  exact k1 _ _ nb (s1 _ _ e)
/-- what == promises -/
def spEqT (K : PySem.W.Frag) (C : Addr) : Sp := fun vs H Q _ => ∃ (x y : V) (r1 r2 : List (List Int)), vs = [x, y] ∧ TableAt K C H x r1 ∧ TableAt K C H y r2 ∧ ∀ H', Same H H' → Q (.bl (decide (r1 = r2))) H'
def rEqT (K : PySem.W.Frag) (C : Addr) : R2 := fun x y H Q => ∃ r1 r2, TableAt K C H x r1 ∧ TableAt K C H y r2 ∧ ∀ H', Same H H' → Q (.bl (decide (r1 = r2))) H'
def rNeT (K : PySem.W.Frag) (C : Addr) : R2 := fun x y H Q => ∃ r1 r2, TableAt K C H x r1 ∧ TableAt K C H y r2 ∧ ∀ H', Same H H' → Q (.bl (!decide (r1 = r2))) H'
theorem TableAt.tyx {K : PySem.W.Frag} {C : Addr} (c : TC K C) {H : Hp} {x : V} {rows : List (List Int)} (h : TableAt K C H x rows) : TyX K H x (.ref C) := by
  obtain ⟨p, dx, v, rfl, hp, _⟩ := h
  exact c.ty hp
theorem op_eq_table {X : Cx} {C : Addr} {n m : Nat} {spI : Sp} (G : MkT X.prog X.w X.K X.mg X.base C n m spI (spEqT X.K C)) (hr : Room m X.A) : OpR X (compareOp .Eq) (rEqT X.K C) := by
  obtain ⟨f, fd, F, b, hs, hf⟩ := G.eqm
  intro pins s σ H x y v u Q I rx ry h
  obtain ⟨r1, r2, t1, t2, q⟩ := h
  obtain ⟨p, dx, w', ex, hp, hR⟩ := id t1
  exact op_eqI F b hs hf hr pins s σ H x y v u Q I rx ry ⟨p, dx, _, _, ex, hp, t2.tyx G.tc, by simp [PySem.W.notFirst], x, y, r1, r2, rfl, t1, t2, fun H' e => ⟨_, rfl, q H' e⟩⟩
theorem op_ne_table {X : Cx} {C : Addr} {n m : Nat} {spI : Sp} (G : MkT X.prog X.w X.K X.mg X.base C n m spI (spEqT X.K C)) (hr : Room (m + 1) X.A) : OpR X (compareOp .NotEq) (rNeT X.K C) := by
  obtain ⟨f, fd, F, b, hs, hf⟩ := G.eqm
  intro pins s σ H x y v u Q I rx ry h
  obtain ⟨r1, r2, t1, t2, q⟩ := h
  obtain ⟨p, dx, w', ex, hp, hR⟩ := id t1
  exact op_neI F b G.tc hs hf hr pins s σ H x y v u Q I rx ry ⟨p, dx, _, _, ex, hp, t2.tyx G.tc, by simp [PySem.W.notFirst], x, y, r1, r2, rfl, t1, t2, fun H' e => ⟨_, rfl, q H' e⟩⟩
/-! equality of data -/
theorem eqv_I (a b : List Int) : PyData.eqv (dI a) (dI b) = decide (a = b) := by
  show PyData.eqv (.tuple _) (.tuple _) = _
  rw [PyData.eqv]
  exact PySem.W.ked_eqvAll a b
theorem eqvAll_R : ∀ (r1 r2 : List (List Int)), PyData.eqvAll (r1.map dI) (r2.map dI) = decide (r1 = r2)
  | [], [] => by simp [PyData.eqvAll]
  | [], _ :: _ => by simp [PyData.eqvAll]
  | _ :: _, [] => by simp [PyData.eqvAll]
  | x :: xs, y :: ys => by
    rw [List.map_cons, List.map_cons, PyData.eqvAll, eqv_I, eqvAll_R xs ys, ← Bool.decide_and]
    exact decide_eq_decide.mpr (by rw [List.cons.injEq])
theorem eqv_R (r1 r2 : List (List Int)) : PyData.eqv (dR r1) (dR r2) = decide (r1 = r2) := by
  show PyData.eqv (.tuple _) (.tuple _) = _
  rw [PyData.eqv]
  exact eqvAll_R r1 r2
theorem eqv_L (r1 r2 : List (List Int)) : PyData.eqv (.list (r1.map dI)) (.list (r2.map dI)) = decide (r1 = r2) := by
  rw [PyData.eqv]
  exact eqvAll_R r1 r2
theorem lay_ints : ∀ ns : List Int, PyData.canLayAll0 (ns.map PyData.int) = true
  | [] => by rw [List.map_nil, PyData.canLayAll0]
  | n :: r => by rw [List.map_cons, PyData.canLayAll0, lay_ints r, PyData.canLay0]; rfl
theorem dep_ints : ∀ ns : List Int, PyData.depthAll (ns.map PyData.int) = 0
  | [] => by rw [List.map_nil, PyData.depthAll]
  | n :: r => by rw [List.map_cons, PyData.depthAll, dep_ints r, PyData.depth]; rfl
theorem lay_rows : ∀ rs : List (List Int), PyData.canLayAll0 (rs.map dI) = true
  | [] => by rw [List.map_nil, PyData.canLayAll0]
  | n :: r => by
    rw [List.map_cons, PyData.canLayAll0, lay_rows r]
    show (PyData.canLay0 (.tuple _) && true) = true
    rw [PyData.canLay0, lay_ints]
    rfl
theorem dep_rows : ∀ rs : List (List Int), PyData.depthAll (rs.map dI) ≤ 1
  | [] => by rw [List.map_nil, PyData.depthAll]; decide
  | n :: r => by
    rw [List.map_cons, PyData.depthAll]
    refine Nat.max_le.mpr ⟨?_, dep_rows r⟩
    show PyData.depth (.tuple _) ≤ 1
    rw [PyData.depth, dep_ints]
    decide
theorem sh_I (ns : List Int) : SeqAt.shaped (dI ns) = true := by
  show SeqAt.shaped (.tuple _) = true
  unfold SeqAt.shaped
  rw [PyData.canLay0, PyData.depth, lay_ints, dep_ints]
  rfl
theorem sh_R (rs : List (List Int)) : SeqAt.shaped (dR rs) = true := by
  show SeqAt.shaped (.tuple _) = true
  unfold SeqAt.shaped
  rw [PyData.canLay0, PyData.depth, lay_rows, Bool.true_and]
  exact decide_eq_true (by have := dep_rows rs; omega)
theorem sh_L (rs : List (List Int)) : SeqAt.shaped (.list (rs.map dI)) = true := by
  unfold SeqAt.shaped
  rw [PyData.canLay0, PyData.depth, lay_rows, Bool.true_and]
  exact decide_eq_true (by have := dep_rows rs; omega)
theorem dp_L {K : PySem.W.Frag} {H : Hp} {p : Addr} {vs : List V} {rs : List (List Int)} (h : H p = some (.lst vs)) (r : RowsT K H vs rs) : Dp K H (.ref p) (.list (rs.map dI)) := .lst (SqL.of h) (rowsT_dp r)
end Fo

set_option maxRecDepth 100000
set_option maxHeartbeats 4000000
namespace Fo
open PySem PySem.Spec PyProof.Rows L2
def top (i : Nat) : Stmt := PySem.Challenge.pw_fullorring_k18_filled_lots_judged_and_re.main.body.getD i (.Pass ⟨0, 0, 0, 0⟩)
abbrev s_law_tape : Stmt := top 36
abbrev n_law_tape : List Str := ["script"]
theorem sc_law_tape : FnScope n_law_tape ["script"] (defScope s_law_tape) := ⟨rfl, rfl, rfl, by decide +kernel, rfl, by decide +kernel, by decide +kernel⟩
abbrev s_law_pick : Stmt := top 37
abbrev n_law_pick : List Str := ["tape", "size", "digit", "cell", "mixed"]
theorem sc_law_pick : FnScope n_law_pick ["tape", "size"] (defScope s_law_pick) := ⟨rfl, rfl, rfl, by decide +kernel, rfl, by decide +kernel, by decide +kernel⟩
abbrev s_law_order : Stmt := top 38
abbrev n_law_order : List Str := ["tape", "many", "left", "k"]
theorem sc_law_order : FnScope n_law_order ["tape", "many"] (defScope s_law_order) := ⟨rfl, rfl, rfl, by decide +kernel, rfl, by decide +kernel, by decide +kernel⟩
abbrev s_law_loose : Stmt := top 39
abbrev n_law_loose : List Str := ["tape", "many", "order", "thick", "planted", "found", "person", "row", "thing"]
theorem sc_law_loose : FnScope n_law_loose ["tape", "many"] (defScope s_law_loose) := ⟨rfl, rfl, rfl, by decide +kernel, rfl, by decide +kernel, by decide +kernel⟩
abbrev s_law_blocks : Stmt := top 40
abbrev n_law_blocks : List Str := ["tape", "most", "found", "base", "size", "kind", "k", "row", "ahead", "j", "thing"]
theorem sc_law_blocks : FnScope n_law_blocks ["tape", "most"] (defScope s_law_blocks) := ⟨rfl, rfl, rfl, by decide +kernel, rfl, by decide +kernel, by decide +kernel⟩
abbrev s_law_moved : Stmt := top 41
abbrev n_law_moved : List Str := ["tape", "rows", "people", "things", "person", "thing"]
theorem sc_law_moved : FnScope n_law_moved ["tape", "rows"] (defScope s_law_moved) := ⟨rfl, rfl, rfl, by decide +kernel, rfl, by decide +kernel, by decide +kernel⟩
abbrev s_law_rows : Stmt := top 42
abbrev n_law_rows : List Str := ["tape", "most", "kind"]
theorem sc_law_rows : FnScope n_law_rows ["tape", "most"] (defScope s_law_rows) := ⟨rfl, rfl, rfl, by decide +kernel, rfl, by decide +kernel, by decide +kernel⟩
section
variable {P : Program} {w : World} {K : PySem.W.Frag} {mg : Str → Option Value} {base : Heap}
/-! ### the tape -/
def spTape (K : PySem.W.Frag) : Sp := fun vs H Q _ => ∃ (a : Addr) (ns : List Int), vs = [.ref a] ∧ SqL K H a (ns.map V.int) ∧ ∀ t l H', Same H H' → H t = none → H l = none → Tape H' t l → Q (.ref t) H'
theorem ok_tape (A : At K mg "_law_tape" s_law_tape ["script"]) (T : Tx mg) : Dfn P w K mg base "_law_tape" ["script"] 1 (spTape K) := by
  refine A.ok sc_law_tape (fun vs H Q E h => ?_) (fun f cdv A outer s H vs Q E hr h => ?_)
  · obtain ⟨a, ns, rfl, _⟩ := h
    rfl
  · obtain ⟨a, ns, rfl, hS, k⟩ := h
    refine ⟨_, (pss_one (ps_ret (pe_lst (pa_cons (pe_callTy c_list (by rfl) T.list (by decide +kernel) (pa_cons (pv 0) pa_nil)) (pa_cons pe_int (pa_cons pe_int (pa_cons pe_int (pa_cons pe_int pa_nil)))))))), ?_⟩
    refine ⟨_, rfl, a, _, rfl, .inl hS, fun l hl => ⟨by show 5 ≤ sizeLine; decide, fun t ht => ?_⟩⟩
    have nlt : l ≠ t := fun q => by
      rw [← q, upd_same] at ht
      cases ht
    have ht0 : H t = none := by
      rw [upd_ne nlt.symm] at ht
      exact ht
    exact k t l _ (same_mut (same_new hl) ht0) ht0 hl ⟨ns, 0, 0, 1, 0, upd_same, by rw [upd_ne nlt, upd_same], by decide⟩
def spPick : Sp := fun vs H Q _ => ∃ (t l : Addr) (n : Int), vs = [.ref t, .int n] ∧ Tape H t l ∧ 0 < n ∧ n < 1073741824 ∧ ∀ (k : Int) (H' : Hp), 0 ≤ k → k < n → Gr t H H' → Tape H' t l → Q (.int k) H'
theorem ok_pick (A : At K mg "_law_pick" s_law_pick ["tape", "size"]) (T : Tx mg) : Dfn P w K mg base "_law_pick" ["tape", "size"] 1 spPick := by
  refine A.ok sc_law_pick (fun vs H Q E h => ?_) (fun f cdv A outer s H vs Q E hr h => ?_)
  · obtain ⟨t, l, n, rfl, _⟩ := h
    rfl
  · obtain ⟨t, l, n, rfl, ⟨ns, b, c, d, e, hT, hL, hb⟩, hn, hn2, k⟩ := h
    have hlt : l ≠ t := ne_of hL hT (ints_ne _ _ _)
    have fin : ∀ (x b c d e : Int), 0 ≤ b → Q (.int (x % n)) (upd H t (.lst [.ref l, .int b, .int c, .int d, .int e])) := fun x b c d e hb => by
      exact k _ _ (Int.emod_nonneg _ (by omega)) (Int.emod_lt_of_pos _ hn) Gr.put ⟨ns, b, c, d, e, upd_same, by rw [upd_ne hlt]; exact hL, hb⟩
    refine ⟨_, (pss_cons (ps_if (pt_cmpR op_gt (pe_ix ix_list (pv 0) pe_int (fun _ _ => rfl)) pe_int (nomark _)) (pss_cons (ps_set (i := 2) sc_law_pick.nd rfl (Or.inl rfl) (pe_op op_mod (pe_callTy c_int (by rfl) T.int (by decide +kernel) (pa_cons (pe_ix ix_list (pv 0) pe_int (fun _ _ => rfl)) pa_nil)) (pv 1)))
      (pss_cons (ps_asg (pe_op op_fdiv (pe_ix ix_list (pv 0) pe_int (fun _ _ => rfl)) (pv 1)) (pg_sub (pv 0) pe_int set_list))
      (pss_one (ps_ret (pv 2))))) pss_nil)
      (pss_cons (ps_asg (pe_op op_add (pe_ix ix_list (pv 0) pe_int (fun _ _ => rfl)) pe_int) (pg_sub (pv 0) pe_int set_list))
      (pss_cons (ps_set (i := 3) sc_law_pick.nd rfl (Or.inl rfl) pe_int)
      (Evl.pss_cut (ps_if (pt_cmpR op_lt (pe_ix ix_list (pv 0) pe_int (fun _ _ => rfl)) (pe_callB c_len (by rfl) T.len (by decide +kernel) (pa_cons (pe_ix ix_list (pv 0) pe_int (fun _ _ => rfl)) pa_nil)) (nomark _)) (pss_cons (ps_set (i := 3) sc_law_pick.nd rfl (Or.inl rfl) (pe_ix ix_list (pe_ix ix_list (pv 0) pe_int (fun _ _ => rfl)) (pe_ix ix_list (pv 0) pe_int (fun _ _ => rfl)) (fun _ _ => rfl)))
      (pss_one (ps_asg (pe_op op_add (pe_ix ix_list (pv 0) pe_int (fun _ _ => rfl)) pe_int) (pg_sub (pv 0) pe_int set_list)))) pss_nil)
      (pss_cons (ps_if (pt_cmpR op_ge (pv 3) (pe_op op_pow pe_int pe_int) (nomark _)) (pss_cons (ps_asg (pe_op op_fdiv (pv 3) (pv 1)) (pg_sub (pv 0) pe_int set_list))
      (pss_one (ps_ret (pe_op op_mod (pe_callTy c_int (by rfl) T.int (by decide +kernel) (pa_cons (pv 3) pa_nil)) (pv 1))))) pss_nil)
      (pss_cons (ps_set (i := 4) sc_law_pick.nd rfl (Or.inl rfl) (pe_op op_mod (pe_callTy c_int (by rfl) T.int (by decide +kernel) (pa_cons (pe_op op_add (pe_op op_add (pe_op op_mul (pe_ix ix_list (pv 0) pe_int (fun _ _ => rfl)) pe_int) (pe_op op_mod (pe_callTy c_int (by rfl) T.int (by decide +kernel) (pa_cons (pv 3) pa_nil)) pe_int)) (pe_op op_mul (pe_ix ix_list (pv 0) pe_int (fun _ _ => rfl)) pe_int)) pa_nil)) pe_int))
      (pss_cons (ps_set (i := 4) sc_law_pick.nd rfl (Or.inl rfl) (pe_op op_mod (pe_callTy c_int (by rfl) T.int (by decide +kernel) (pa_cons (pe_op op_mul (pv 4) (pe_op op_add (pe_op op_fdiv (pv 4) pe_int) pe_int)) pa_nil)) pe_int))
      (pss_cons (ps_asg (pv 4) (pg_sub (pv 0) pe_int set_list))
      (pss_one (ps_ret (pe_op op_mod (pe_callTy c_int (by rfl) T.int (by decide +kernel) (pa_cons (pe_op op_fdiv (pv 4) pe_int) pa_nil)) (pv 1)))))))))))), ?_⟩
    refine ⟨_, rfl, t, _, _, _, rfl, rfl, SqL.of hT, rfl, _, _, rfl, rfl, _, rfl, ?_⟩
    refine ite2 (fun _ => ?_) (fun _ => ?_)
    · -- digit = int(tape[2]) % size
      refine ⟨_, rfl, t, _, _, _, rfl, rfl, SqL.of hT, rfl, .inl ⟨_, rfl, _, rfl, _, _, rfl, rfl, hn, ?_⟩⟩
      -- tape[2] = tape[2] // size
      refine ⟨_, rfl, t, _, _, _, rfl, rfl, SqL.of hT, rfl, _, rfl, _, _, rfl, rfl, ⟨hn, hn2⟩, _, rfl, t, _, _, 2, rfl, rfl, hT, rfl, ?_⟩
      exact ⟨_, rfl, fin _ _ _ _ _ hb⟩
    · -- tape[4] = tape[4] + 1
      refine ⟨_, rfl, t, _, _, _, rfl, rfl, SqL.of hT, rfl, _, _, rfl, rfl, _, rfl, t, _, _, 4, rfl, rfl, hT, rfl, ?_⟩
      have hT1 : (upd H t (.lst [.ref l, .int b, .int c, .int d, .int (e + 1)])) t = some (.lst [.ref l, .int b, .int c, .int d, .int (e + 1)]) := upd_same
      have hL1 : (upd H t (.lst [.ref l, .int b, .int c, .int d, .int (e + 1)])) l = some (.lst (ns.map V.int)) := by rw [upd_ne hlt]; exact hL
      -- the cell
      refine ⟨fun σ' H' => ∃ z b' : Int, 0 ≤ b' ∧ σ' = [some (.ref t), some (.int n), none, some (.int z), none] ∧ H' = upd H t (.lst [.ref l, .int b', .int c, .int d, .int (e + 1)]), ?_, ?_⟩
      · refine ⟨_, rfl, t, _, _, _, rfl, rfl, SqL.of hT1, rfl, _, rfl, t, _, _, _, rfl, rfl, SqL.of hT1, rfl, l, _, rfl, .inl (SqL.of hL1), _, _, rfl, rfl, _, rfl, ?_⟩
        refine ite2 (fun hc => ?_) (fun _ => ?_)
        · have hbl : b < (ns.length : Int) := by
            have := of_decide_eq_true hc
            rw [List.length_map] at this
            exact this
          obtain ⟨z, hz, hz2⟩ := map_atI hb hbl
          refine ⟨_, rfl, t, _, _, _, rfl, rfl, SqL.of hT1, rfl, _, rfl, t, _, _, _, rfl, rfl, SqL.of hT1, rfl, l, _, _, _, rfl, rfl, SqL.of hL1, hz2, ?_⟩
          refine ⟨_, rfl, t, _, _, _, rfl, rfl, SqL.of hT1, rfl, _, _, rfl, rfl, _, rfl, t, _, _, 1, rfl, rfl, hT1, rfl, ?_⟩
          exact ⟨z, b + 1, by omega, rfl, by rw [upd_upd]; rfl⟩
        · exact ⟨0, b, hb, rfl, rfl⟩
      · rintro σ' H' ⟨z, b', hb', rfl, rfl⟩
        have hT2 : (upd H t (.lst [.ref l, .int b', .int c, .int d, .int (e + 1)])) t = some (.lst [.ref l, .int b', .int c, .int d, .int (e + 1)]) := upd_same
        have fin2 : ∀ (x b c d e : Int) (u : HO), 0 ≤ b → Q (.int (x % n)) (upd (upd H t u) t (.lst [.ref l, .int b, .int c, .int d, .int e])) := fun x b c d e u hb => by
          rw [upd_upd]
          exact fin _ _ _ _ _ hb
        refine ⟨_, rfl, _, _, rfl, rfl, ⟨by decide, by decide, by decide⟩, _, _, rfl, rfl, _, rfl, ?_⟩
        refine ite2 (fun _ => ?_) (fun _ => ?_)
        · refine ⟨_, rfl, _, rfl, _, _, rfl, rfl, ⟨hn, hn2⟩, _, rfl, t, _, _, 2, rfl, rfl, hT2, rfl, ?_⟩
          exact ⟨_, rfl, .inl ⟨_, rfl, _, rfl, _, _, rfl, rfl, hn, fin2 _ _ _ _ _ _ hb'⟩⟩
        · refine ⟨_, rfl, t, _, _, _, rfl, rfl, SqL.of hT2, rfl, _, _, rfl, rfl, .inr (by decide), _, rfl, .inl ⟨_, rfl, _, _, rfl, rfl, (by show (0 : Int) < 2147483629; decide), _, _, rfl, rfl, _, rfl, t, _, _, _, rfl, rfl, SqL.of hT2, rfl, _, _, rfl, rfl, .inr (by decide), _, _, rfl, rfl, .inl ⟨_, rfl, _, _, rfl, rfl, (by show (0 : Int) < 2147483647; decide), ?_⟩⟩⟩
          have m0 := Int.emod_nonneg (d * 48271 + z % 2147483629 + (e + 1) * 69621) (show (2147483647 : Int) ≠ 0 by decide)
          have m1 := Int.emod_lt_of_pos (d * 48271 + z % 2147483629 + (e + 1) * 69621) (show (0 : Int) < 2147483647 by decide)
          generalize (d * 48271 + z % 2147483629 + (e + 1) * 69621) % 2147483647 = m at m0 m1 ⊢
          refine ⟨_, rfl, _, rfl, _, _, rfl, rfl, ⟨by decide, by decide⟩, _, _, rfl, rfl, _, _, rfl, rfl, .inl ⟨by omega, by omega⟩, .inl ⟨_, rfl, _, _, rfl, rfl, (by show (0 : Int) < 2147483399; decide), ?_⟩⟩
          refine ⟨_, rfl, _, rfl, t, _, _, 3, rfl, rfl, hT2, rfl, ?_⟩
          exact ⟨_, rfl, _, _, rfl, rfl, ⟨by decide, by decide⟩, .inl ⟨_, rfl, _, rfl, _, _, rfl, rfl, hn, fin2 _ _ _ _ _ _ hb'⟩⟩
/-! ### an order -/
def spOrder : Sp := fun vs H Q _ => ∃ (t l : Addr) (n : Int), vs = [.ref t, .int n] ∧ Tape H t l ∧ 0 ≤ n ∧ n ≤ 1000 ∧ ∀ (p : Addr) (xs : List Int) (H' : Hp), xs.Perm (rangeI n) → H p = none → H' p = some (.lst (xs.map V.int)) → Gr t H H' → Tape H' t l → Q (.ref p) H'
theorem ok_order (A : At K mg "_law_order" s_law_order ["tape", "many"]) (T : Tx mg) (G_law_pick : Dfn P w K mg base "_law_pick" ["tape", "size"] 1 spPick) : Dfn P w K mg base "_law_order" ["tape", "many"] 2 spOrder := by
  refine A.ok sc_law_order (fun vs H Q E h => ?_) (fun f cdv A outer s H vs Q E hr h => ?_)
  · obtain ⟨t, l, n, rfl, _⟩ := h
    rfl
  · obtain ⟨t, l, n, rfl, hT, hn, hn2, k⟩ := h
    refine ⟨_, (pss_cons (ps_set (i := 2) sc_law_order.nd rfl (Or.inr rfl) (pe_listRg rfl (by rfl) T.list (prg_1 (by rfl) T.range (pv 1))))
      (pss_one (ps_ret (pe_lc (own := [("k", 3)]) (g := (gName 3)) (tt := tYes) (te := (tBM K "list" rPopAt (tVar 2) (tCons (tCall spPick [] E0 (tCons (tVar 0) (tCons (tCB (rLenS K) (tCons (tVar 2) tNil)) tNil))) tNil))) (by rfl) sc_law_order.nd (pi_range1 rfl T.range (pa_cons (pv 1) pa_nil)) (blkOk_by (own := [("k", 3)]) (N := n_law_order) (sc := (defScope s_law_order)) (by decide +kernel)) (fun _ _ _ _ _ => (pg_name (i := 3) sc_law_order.nd rfl (Or.inl rfl))) (fun _ _ _ _ _ => pts_nil) (fun _ _ _ _ _ => (pe_bm PySem.F.plainAttrs_list PySem.F.slot_list_pop PySem.F.type_list_pop mt_popAt (pv 2) (pa_cons (pe_d G_law_pick (hr.mono (by decide)) (pa_cons (pv 0) (pa_cons (pe_callB c_len (by rfl) T.len (by decide +kernel) (pa_cons (pv 2) pa_nil)) pa_nil))) pa_nil))))))), ?_⟩
    refine ⟨_, rfl, n, rfl, RgOk.of_le (by decide) (by omega) (by decide) hn, fun q hq => ?_⟩
    have nq := hT.free hq
    refine ⟨_, rfl, n, rfl, by omega, by omega, fun D hD => ?_⟩
    have nqD : q ≠ D := ne_of_none upd_same hD
    have hD0 : H D = none := by
      rw [upd_ne nqD.symm] at hD
      exact hD
    have nD := hT.free hD0
    refine lc_range (lo := 0) (n := n.toNat) (fun i H' => ∃ acc left : List Int, (acc ++ left).Perm (rangeI n) ∧ acc.length = i ∧ left.length = n.toNat - i ∧ H' D = some (.lst (acc.map V.int)) ∧ H' q = some (.lst (left.map V.int)) ∧ Gr t H H' ∧ Tape H' t l)
      ⟨[], rangeI n, List.Perm.refl _, rfl, rangeI_len n, upd_same, by rw [upd_ne nqD, upd_same, rgV_rangeI], gr_mut (gr_mut (Gr.refl H) hq) hD0, (hT.new hq).new hD⟩ ?_ ?_
    · rintro i H1 hi ⟨acc, left, pm, la, ll, hDa, hqa, g1, T1⟩
      have lp : 0 < left.length := by omega
      refine ⟨rfl, _, rfl, .inl ⟨rfl, _, SqL.of hqa⟩, _, rfl, _, rfl, q, _, rfl, .inl (SqL.of hqa), t, l, _, rfl, T1, by rw [List.length_map]; omega, by rw [List.length_map]; omega, fun x H2 x0 x1 g2 T2 => ?_⟩
      rw [List.length_map] at x1
      have hqb : H2 q = some (.lst (left.map V.int)) := g2 _ _ nq.1 hqa
      have hDb : H2 D = some (.lst (acc.map V.int)) := g2 _ _ nD.1 hDa
      have xl : x.toNat < left.length := by omega
      have hy : (left.map V.int)[x.toNat]? = some (.int left[x.toNat]) := by
        rw [List.getElem?_map, List.getElem?_eq_getElem xl]
        rfl
      refine ⟨q, _, x, x.toNat, _, rfl, rfl, hqb, by omega, by omega, seq_at x0 (by rw [List.length_map]; exact x1), hy, acc.map V.int, by rw [upd_ne nqD.symm]; exact hDb, by rw [List.length_map]; exact Nat.lt_of_le_of_lt (show acc.length ≤ 1000 by omega) (by decide), ?_⟩
      refine ⟨acc ++ [left[x.toNat]], left.eraseIdx x.toNat, ?_, by rw [List.length_append, la]; rfl, by rw [List.length_eraseIdx, if_pos xl]; omega, by rw [upd_same, List.map_append]; rfl, by rw [upd_ne nqD, upd_same, map_eraseIdx'], gr_mut (gr_mut (g1.trans g2) hq) hD0, (T2.mut nq).mut nD⟩
      refine List.Perm.trans ?_ pm
      rw [List.append_assoc]
      exact List.Perm.append_left acc (perm_erase left _ xl)
    · rintro H1 ⟨acc, left, pm, la, ll, hDa, hqa, g1, T1⟩
      have e : left = [] := List.eq_nil_of_length_eq_zero (by omega)
      subst e
      rw [List.append_nil] at pm
      exact k D acc H1 pm hD0 hDa g1 T1
/-! ### rows drawn at will -/
def spLoose (K : PySem.W.Frag) : Sp := fun vs H Q _ => ∃ (t l : Addr) (n : Int), vs = [.ref t, .int n] ∧ Tape H t l ∧ 1 ≤ n ∧ n ≤ 12 ∧ ∀ (v : V) (rows : List (List Int)) (H' : Hp), Good rows → (rows.length : Int) = n → Gr t H H' → Tape H' t l → RowsAt K H' v rows → Q v H'
theorem ok_loose (A : At K mg "_law_loose" s_law_loose ["tape", "many"]) (T : Tx mg) (G_law_pick : Dfn P w K mg base "_law_pick" ["tape", "size"] 1 spPick) (G_law_order : Dfn P w K mg base "_law_order" ["tape", "many"] 2 spOrder) : Dfn P w K mg base "_law_loose" ["tape", "many"] 3 (spLoose K) := by
  refine A.ok sc_law_loose (fun vs H Q E h => ?_) (fun f cdv A outer s H vs Q E hr h => ?_)
  · obtain ⟨t, l, n, rfl, _⟩ := h
    rfl
  · obtain ⟨t, l, n, rfl, hT, hn, hn2, k⟩ := h
    refine ⟨_, (pss_cons (ps_set (i := 2) sc_law_loose.nd rfl (Or.inl rfl) (pe_d G_law_order (hr.mono (by decide)) (pa_cons (pv 0) (pa_cons (pv 1) pa_nil))))
      (pss_cons (ps_set (i := 3) sc_law_loose.nd rfl (Or.inr rfl) (pe_op op_add pe_int (pe_d G_law_pick (hr.mono (by decide)) (pa_cons (pv 0) (pa_cons pe_int pa_nil)))))
      (pss_cons (ps_set (i := 4) sc_law_loose.nd rfl (Or.inl rfl) (pe_cmpR op_gt (pe_d G_law_pick (hr.mono (by decide)) (pa_cons (pv 0) (pa_cons pe_int pa_nil))) pe_int (nomark _)))
      (pss_cons (ps_set (i := 5) sc_law_loose.nd rfl (Or.inl rfl) (pe_lst pa_nil))
      (pss_cons (ps_for PassesOwn.never rfl (pi_range1 rfl T.range (pa_cons (pv 1) pa_nil)) (pg_name (i := 6) sc_law_loose.nd rfl (Or.inl rfl))
      (pss_cons (ps_setLc (i := 7) (own := [("thing", 8)]) (g := (gName 8)) (tt := (tTest (tOp (rI0 fun i j => V.bl (decide (i < j))) (tCall spPick [] E0 (tCons (tVar 0) (tCons (tC (V.int 5)) tNil))) (tVar 3)))) (te := (tVar 8)) (by rfl) sc_law_loose.nd rfl rfl (sw_true rfl rfl rfl (by decide +kernel)) (pi_range1 rfl T.range (pa_cons (pv 1) pa_nil)) (blkOk_by (own := [("thing", 8)]) (N := n_law_loose) (sc := (defScope s_law_loose)) (by decide +kernel)) (fun _ _ _ _ _ => (pg_name (i := 8) sc_law_loose.nd rfl (Or.inl rfl))) (fun _ _ _ _ _ => (pts_one (pt_cmpR op_lt (pe_d G_law_pick (hr.mono (by decide)) (pa_cons (pv 0) (pa_cons pe_int pa_nil))) (pv 3) (nomark _)))) (fun _ _ _ _ _ => (pv 8)))
      (Evl.pss_cut (ps_if (PW.pt (pw_and (pt_val (pv 4)) (pw_and1 (pt_cmpR op_notIn_seq (pe_ix ix_list (pv 2) (pv 6) (fun _ _ => rfl)) (pv 7) rfl)))) (pss_one (ps_expr (pe_bm PySem.F.plainAttrs_list PySem.F.slot_list_append PySem.F.type_list_append mt_append (pv 7) (pa_cons (pe_ix ix_list (pv 2) (pv 6) (fun _ _ => rfl)) pa_nil)))) pss_nil)
      (pss_one (ps_expr (pe_bm PySem.F.plainAttrs_list PySem.F.slot_list_append PySem.F.type_list_append mt_append (pv 5) (pa_cons (pe_callTy c_tuple (by rfl) T.tuple (by decide +kernel) (pa_cons (pe_callB cr_sortedI (by rfl) T.sorted (by decide +kernel) (pa_cons (pv 7) pa_nil)) pa_nil)) pa_nil)))))))
      (pss_one (ps_ret (pe_callTy c_tuple (by rfl) T.tuple (by decide +kernel) (pa_cons (pv 5) pa_nil))))))))), ?_⟩
    refine ⟨_, rfl, _, rfl, t, l, n, rfl, hT, by omega, by omega, fun oa os H1 pm _ ho g1 T1 => ?_⟩
    have hol : os.length = n.toNat := by rw [pm.length_eq, rangeI_len]
    refine ⟨_, rfl, t, l, 4, rfl, T1, by decide, by decide, fun th H2 _ _ g2 T2 => ⟨_, _, rfl, rfl, ?_⟩⟩
    refine ⟨_, rfl, t, l, 4, rfl, T2, by decide, by decide, fun pl H3 _ _ g3 T3 => ⟨_, _, rfl, rfl, ?_⟩⟩
    obtain ⟨planted, hpl⟩ : ∃ b, b = decide (0 < pl) := ⟨_, rfl⟩
    refine ⟨Nat.zero_le _, fun fa hf => ?_⟩
    have hoa : oa ≠ t := T1.ne_ints' ho
    have ho3 : H3 oa = some (.lst (os.map V.int)) := g3 _ _ hoa (g2 _ _ hoa ho)
    have nof : oa ≠ fa := ne_of_none ho3 hf
    have nf := T3.free hf
    have hf0 : H fa = none := ((g1.trans g2).trans g3).fresh T3 hf
    have g13 := (g1.trans g2).trans g3
    refine ⟨_, rfl, n, rfl, by omega, by omega, for_range (lo := 0) (n := n.toNat) (fun i σ' H' => ∃ (vs : List V) (rs : List (List Int)) (x6 x7 x8 : Option V), σ' = [some (.ref t), some (.int n), some (.ref oa), some (.int (1 + th)), some (.bl planted), some (.ref fa), x6, x7, x8] ∧ rs.length = i ∧ H' fa = some (.lst vs) ∧ RowsT K H' vs rs ∧ (∀ r ∈ rs, r.Pairwise (· < ·) ∧ ∀ x ∈ r, 0 ≤ x ∧ x < n) ∧ H' oa = some (.lst (os.map V.int)) ∧ Gr t H H' ∧ Tape H' t l)
      ⟨[], [], none, none, none, by rw [hpl]; rfl, rfl, upd_same, .nil, fun _ h => (by cases h), by rw [upd_ne nof]; exact ho3, gr_mut g13 hf0, T3.new hf⟩ ?_ ?_⟩
    · rintro i σ' H4 hi ⟨vs, rs, x6, x7, x8, rfl, hl, hfa, hrs, hall, hoa4, g4, T4⟩
      -- row = [thing for thing in range(many) if pick(5) < thick]
      refine ⟨_, rfl, n, rfl, by omega, by omega, fun D hD => ?_⟩
      have nD := T4.free hD
      have nDf : fa ≠ D := ne_of_none hfa hD
      have nDo : oa ≠ D := ne_of_none hoa4 hD
      have hD0 : H D = none := g4.fresh T4 hD
      refine lc_range (lo := 0) (n := n.toNat) (fun j H' => ∃ row : List Int, H' D = some (.lst (row.map V.int)) ∧ row.length ≤ j ∧ row.Pairwise (· < ·) ∧ (∀ x ∈ row, 0 ≤ x ∧ x < (j : Int)) ∧ Tape H' t l ∧ Gr t H4 H')
        ⟨[], upd_same, Nat.le_refl _, .nil, fun _ h => (by cases h), T4.new hD, Gr.new hD⟩ ?_ ?_
      · rintro j H5 hj ⟨row, hDr, hrl, hrp, hrr, T5, g45⟩
        refine ⟨rfl, _, rfl, t, l, 5, rfl, T5, by decide, by decide, fun x H6 x0 x1 g6 T6 => ⟨_, rfl, _, _, rfl, rfl, _, rfl, ?_⟩⟩
        have hD6 : H6 D = some (.lst (row.map V.int)) := g6 _ _ nD.1 hDr
        refine ite2 (fun _ => ?_) (fun _ => ?_)
        · refine ⟨_, rfl, row.map V.int, hD6, by rw [List.length_map]; exact small_lt (by omega), row ++ [(j : Int)], ?_, by rw [List.length_append, List.length_singleton]; omega, asc_snoc hrp fun x hx => (hrr x hx).2, fun x hx => ?_, T6.mut nD, gr_mut (g45.trans g6) hD⟩
          · rw [upd_same, ← map_snoc]
            show some (HO.lst (row.map V.int ++ [V.int (0 + (j : Int))])) = _
            rw [Int.zero_add]
          · rcases List.mem_append.mp hx with h | h
            · have := hrr x h
              omega
            · rw [List.mem_singleton.mp h]
              omega
        · exact ⟨row, hD6, by omega, hrp, fun x hx => by have := hrr x hx; omega, T6, g45.trans g6⟩
      · rintro H5 ⟨row, hDr, hrl, hrp, hrr, T5, g45⟩
        have hrr' : ∀ x ∈ row, 0 ≤ x ∧ x < n := fun x hx => by have := hrr x hx; omega
        have hoa5 : H5 oa = some (.lst (os.map V.int)) := g45 _ _ hoa hoa4
        obtain ⟨z, hz, hz2⟩ := map_atI (ns := os) (i := 0 + (i : Int)) (by omega) (by omega)
        have hzr := mem_rangeI.mp (pm.mem_iff.mp hz)
        refine ⟨fun σ' H' => ∃ row' : List Int, σ' = [some (.ref t), some (.int n), some (.ref oa), some (.int (1 + th)), some (.bl planted), some (.ref fa), some (.int (0 + (i : Int))), some (.ref D), x8] ∧ H' D = some (.lst (row'.map V.int)) ∧ row'.Nodup ∧ (∀ x ∈ row', 0 ≤ x ∧ x < n) ∧ row'.length ≤ 13 ∧ Gr t H4 H' ∧ Tape H' t l, ?_, ?_⟩
        · refine ⟨_, rfl, _, rfl, ?_⟩
          cases planted with
          | false => exact ⟨row, rfl, hDr, nodup_of_lt hrp, hrr', by omega, g45, T5⟩
          | true =>
            refine ⟨_, rfl, _, rfl, oa, _, _, _, rfl, rfl, SqL.of hoa5, hz2, _, rfl, D, _, rfl, .inl (SqL.of hDr), rfl, all_flat_ints _, _, rfl, ?_⟩
            show if (!inV (V.int z) (row.map V.int)) = true then _ else _
            rw [inV_ints]
            by_cases hm : z ∈ row
            · rw [decide_eq_true hm]
              exact ⟨row, rfl, hDr, nodup_of_lt hrp, hrr', by omega, g45, T5⟩
            · rw [decide_eq_false hm]
              refine ⟨_, rfl, .inl ⟨rfl, _, SqL.of hDr⟩, _, rfl, _, rfl, oa, _, _, _, rfl, rfl, SqL.of hoa5, hz2, D, _, _, rfl, rfl, hDr, by rw [List.length_map]; exact small_lt (by omega), ?_⟩
              exact ⟨row ++ [z], rfl, by rw [upd_same, map_snoc], nodup_snoc (nodup_of_lt hrp) hm, fun x hx => by
                rcases List.mem_append.mp hx with h | h
                · exact hrr' x h
                · rw [List.mem_singleton.mp h]
                  exact hzr, by rw [List.length_append, List.length_singleton]; omega, gr_mut g45 hD, T5.mut nD⟩
        · rintro σ' H6 ⟨row', rfl, hD6, hnd, hr6, hl6, g46, T6⟩
          have hfa6 : H6 fa = some (.lst vs) := g46 _ _ nf.1 hfa
          refine ⟨_, rfl, .inl ⟨rfl, _, SqL.of hfa6⟩, _, rfl, D, row', rfl, SqL.of hD6, fun ns' p pm2 so hp => ⟨p, _, rfl, .inl ⟨SqL.of upd_same, fun q hq => ?_⟩⟩⟩
          have npf : fa ≠ p := ne_of_none hfa6 hp
          have hq6 : H6 q = none := by
            by_cases e : q = p
            · rw [e, upd_same] at hq
              cases hq
            · rw [upd_ne e] at hq
              exact hq
          have nqf : fa ≠ q := ne_of_none hfa6 hq6
          have e7 : (upd (upd H6 p (.lst (ns'.map V.int))) q (.tup (ns'.map V.int))) fa = some (.lst vs) := by rw [upd_ne nqf, upd_ne npf]; exact hfa6
          refine ⟨fa, vs, .ref q, rfl, rfl, e7, small_lt (by rw [hrs.len]; omega), ?_⟩
          have g67 : Gr t H6 (upd (upd H6 p (.lst (ns'.map V.int))) q (.tup (ns'.map V.int))) := (Gr.new hp).trans (Gr.new hq)
          have T7 := (T6.new (o := .lst (ns'.map V.int)) hp).new (o := .tup (ns'.map V.int)) hq
          have hnf : H4 fa = some (.lst vs) := hfa
          refine ⟨vs ++ [.ref q], rs ++ [ns'], _, _, _, rfl, by rw [List.length_append, hl]; rfl, upd_same, ?_, fun r hr => ?_, ?_, gr_mut (g4.trans (g46.trans g67)) hf0, T7.mut nf⟩
          · have r7 := hrs.gr (g46.trans g67) T4
            have r8 : RowsT K (upd (upd (upd H6 p (.lst (ns'.map V.int))) q (.tup (ns'.map V.int))) fa (.lst (vs ++ [.ref q]))) vs rs := r7.put e7
            exact r8.snoc (SqT.of (by rw [upd_ne nqf.symm, upd_same]))
          · rcases List.mem_append.mp hr with h | h
            · exact hall r h
            · rw [List.mem_singleton.mp h]
              exact ⟨asc_of pm2 so hnd, fun x hx => hr6 x (pm2.mem_iff.mp hx)⟩
          · rw [upd_ne nof, (g46.trans g67) _ _ hoa hoa4]
    · rintro σ' H4 ⟨vs, rs, x6, x7, x8, rfl, hl, hfa, hrs, hall, hoa4, g4, T4⟩
      refine ⟨_, rfl, fa, vs, rfl, .inl ⟨SqL.of hfa, fun z hz => ?_⟩⟩
      have hz0 : H z = none := g4.fresh T4 hz
      have en : (rs.length : Int) = n := by omega
      refine k _ rs _ ⟨by omega, fun r hr => (hall r hr).1, fun r hr x hx => by rw [en]; exact (hall r hr).2 x hx⟩ en (gr_mut g4 hz0) (T4.new hz) ⟨z, vs, rfl, SqT.of upd_same, hrs.same (same_new hz)⟩
/-! ### people and things moved -/
def lcScope (s : Stmt) : Scope := match (defBody s).getLast? with
  | some (.Return (some (.Call _ [.ListComp _ _ sc _] _ _)) _) => sc
  | _ => defScope s
def envS (sc : Scope) : Env := { scope := sc, locals := 0, globals := 0, cells := [], qual := "", func := none, code := .none, frame := none, builtins := 0 }
def spMoved (K : PySem.W.Frag) : Sp := fun vs H Q _ => ∃ (t l : Addr) (v : V) (rows : List (List Int)), vs = [.ref t, v] ∧ Tape H t l ∧ Good rows ∧ rows.length ≤ 12 ∧ RowsAt K H v rows ∧ ∀ (v' : V) (rows' : List (List Int)) (H' : Hp), Good rows' → rows'.length = rows.length → Gr t H H' → Tape H' t l → RowsAt K H' v' rows' → Q v' H'
theorem ok_moved (A : At K mg "_law_moved" s_law_moved ["tape", "rows"]) (T : Tx mg) (G_law_order : Dfn P w K mg base "_law_order" ["tape", "many"] 2 spOrder) : Dfn P w K mg base "_law_moved" ["tape", "rows"] 3 (spMoved K) := by
  refine A.ok sc_law_moved (fun vs H Q E h => ?_) (fun f cdv A outer s H vs Q E hr h => ?_)
  · obtain ⟨t, l, v, rows, rfl, _⟩ := h
    rfl
  · obtain ⟨t, l, v, rows, rfl, hT, hG, hm, ⟨ra, rvs, rfl, hra, hrt⟩, k⟩ := h
    have rl := hrt.len
    refine ⟨_, (pss_cons (ps_set (i := 2) sc_law_moved.nd rfl (Or.inl rfl) (pe_d G_law_order (hr.mono (by decide)) (pa_cons (pv 0) (pa_cons (pe_callB c_len (by rfl) T.len (by decide +kernel) (pa_cons (pv 1) pa_nil)) pa_nil))))
      (pss_cons (ps_set (i := 3) sc_law_moved.nd rfl (Or.inr rfl) (pe_d G_law_order (hr.mono (by decide)) (pa_cons (pv 0) (pa_cons (pe_callB c_len (by rfl) T.len (by decide +kernel) (pa_cons (pv 1) pa_nil)) pa_nil))))
      (pss_one (ps_ret (pe_callTy c_tuple (by rfl) T.tuple (by decide +kernel) (pa_cons (pe_lc (own := [("person", 4)]) (g := (gName 4)) (tt := tYes) (te := (tCB (rTupOf K) (tCons (tCB (rSortedI K) (tCons (tLc (iTup K (tOp (rIxT K) (tVar 1) (tVar 4))) (gName 5) tYes (tOp (rIxL K) (tVar 3) (tVar 5)) [5]) tNil)) tNil))) (by rfl) sc_law_moved.nd (pi_list (pv 2)) (blkOk_by (own := [("person", 4)]) (N := n_law_moved) (sc := (defScope s_law_moved)) (by decide +kernel)) (fun _ _ _ _ _ => (pg_name (i := 4) sc_law_moved.nd rfl (Or.inl rfl))) (fun _ _ _ _ _ => pts_nil) (fun _ _ _ _ _ => (pe_callTy c_tuple (by rfl) T.tuple (by decide +kernel) (pa_cons (pe_callB cr_sortedI (by rfl) T.sorted (by decide +kernel) (pa_cons (pe_lc (own := [("thing", 5)]) (g := (gName 5)) (tt := tYes) (te := (tOp (rIxL K) (tVar 3) (tVar 5))) (by rfl) sc_law_moved.nd (pi_tup (pe_ix ix_tup (pv 1) (pv 4) (fun _ _ => rfl))) (blkOk_by (own := [("thing", 5)]) (N := n_law_moved) (sc := (relabel (lcScope s_law_moved) (envS (defScope s_law_moved)))) (by decide +kernel)) (fun _ _ _ _ _ => (pg_name (i := 5) sc_law_moved.nd rfl (Or.inl rfl))) (fun _ _ _ _ _ => pts_nil) (fun _ _ _ _ _ => (pe_ix ix_list (pv 3) (pv 5) (fun _ _ => rfl)))) pa_nil)) pa_nil)))) pa_nil)))))), ?_⟩
    refine ⟨_, rfl, _, rfl, ra, _, rfl, .inr hra, t, l, _, rfl, hT, by omega, by omega, fun pa ps H1 pm1 _ hp1 g1 T1 => ?_⟩
    have hra1 := gr_T g1 hT hra
    have hrt1 := hrt.gr g1 hT
    refine ⟨_, rfl, _, rfl, ra, _, rfl, .inr hra1, t, l, _, rfl, T1, by omega, by omega, fun ta ts H2 pm2 _ hp2 g2 T2 => ?_⟩
    have hpa : H2 pa = some (.lst (ps.map V.int)) := g2 _ _ (T1.ne_ints' hp1) hp1
    have hra2 := gr_T g2 T1 hra1
    have hrt2 := hrt1.gr g2 T1
    rw [rl] at pm1 pm2
    have psl : ps.length = rows.length := by rw [pm1.length_eq, rangeI_len]; omega
    have tsl : ts.length = rows.length := by rw [pm2.length_eq, rangeI_len]; omega
    have tnd : ts.Nodup := pm2.symm.nodup (rangeI_nodup _)
    -- the outer comprehension
    refine ⟨_, rfl, pa, rfl, ⟨_, SqL.of hpa⟩, fun D hD => ?_⟩
    have g12 := g1.trans g2
    have hD0 : H D = none := g12.fresh T2 hD
    have nD := T2.free hD
    have npD : pa ≠ D := ne_of_none hpa hD
    have ntD : ta ≠ D := ne_of_none hp2 hD
    refine lc_list (xs := ps.map V.int) (fun i H' => ∃ vs rs, H' D = some (.lst vs) ∧ RowsT K H' vs rs ∧ rs.length = i ∧ (∀ r ∈ rs, r.Pairwise (· < ·) ∧ ∀ x ∈ r, 0 ≤ x ∧ x < (rows.length : Int)) ∧ Gr t H2 H' ∧ Tape H' t l)
      ⟨[], [], upd_same, .nil, rfl, fun _ h => (by cases h), Gr.new hD, T2.new hD⟩ (fun i H' _ ⟨_, _, _, _, _, _, g, _⟩ => SqL.of (g _ _ (T2.ne_ints' hpa) hpa)) ?_ ?_
    · rintro i y H3 hy ⟨vs, rs, hDv, hrs, hl, hall, g3, T3⟩
      have hil : i < ps.length := by
        have := (List.getElem?_eq_some_iff.mp hy).1
        rw [List.length_map] at this
        exact this
      obtain ⟨z, hz, hzr⟩ : ∃ z, y = V.int z ∧ 0 ≤ z ∧ z < (rows.length : Int) := by
        rw [List.getElem?_map, List.getElem?_eq_getElem hil] at hy
        refine ⟨ps[i], (Option.some.inj hy).symm, ?_⟩
        exact mem_rangeI.mp (pm1.mem_iff.mp (List.getElem_mem hil))
      subst hz
      have hzl : z.toNat < rows.length := by omega
      obtain ⟨rw_, hrw⟩ : ∃ r, rows[z.toNat]? = some r := ⟨_, List.getElem?_eq_getElem hzl⟩
      obtain ⟨qa, hqa, hqs⟩ := (hrt2.gr g3 T2).get hrw
      have hrmem : rw_ ∈ rows := List.mem_of_getElem? hrw
      have hra3 := gr_T g3 T2 hra2
      have hix : atI rvs z = some (.ref qa) := at_of (j := z.toNat) (by omega) hqa
      have hta3 : H3 ta = some (.lst (ts.map V.int)) := g3 _ _ (T2.ne_ints' hp2) hp2
      refine ⟨rfl, _, rfl, _, rfl, ra, _, z, _, rfl, rfl, hra3, hix, qa, rfl, ⟨_, hqs⟩, fun D2 hD2 => ?_⟩
      have nD2 := T3.free hD2
      have ntD2 : ta ≠ D2 := ne_of_none hta3 hD2
      have nDD2 : D ≠ D2 := ne_of_none hDv hD2
      refine lc_tup (xs := rw_.map V.int) (fun j H' => ∃ out : List Int, H' D2 = some (.lst (out.map V.int)) ∧ out.length = j ∧ (∀ x ∈ out, 0 ≤ x ∧ x < (rows.length : Int)) ∧ (∀ (m : Nat) (x : Int), out[m]? = some x → ∃ u : Int, rw_[m]? = some u ∧ ts[u.toNat]? = some x) ∧ Gr t H3 H' ∧ Tape H' t l)
        ⟨[], upd_same, rfl, fun _ h => (by cases h), fun m x h => (by simp at h), Gr.new hD2, T3.new hD2⟩ (fun j H' _ ⟨_, _, _, _, _, g, _⟩ => gr_T g T3 hqs) ?_ ?_
      · rintro j u H4 hu ⟨out, hDo, hol, hor, hof, g4, T4⟩
        have hjl : j < rw_.length := by
          have := (List.getElem?_eq_some_iff.mp hu).1
          rw [List.length_map] at this
          exact this
        have hu' : rw_[j]? = some rw_[j] := List.getElem?_eq_getElem hjl
        rw [List.getElem?_map, hu'] at hu
        have hu2 : V.int rw_[j] = u := Option.some.inj hu
        subst hu2
        have hrg := hG.rng _ hrmem _ (List.getElem_mem hjl)
        generalize hug : rw_[j] = ug at hu' hrg
        have htl : ug.toNat < ts.length := by omega
        have htx : ts[ug.toNat]? = some ts[ug.toNat] := List.getElem?_eq_getElem htl
        have hti : atI (ts.map V.int) ug = some (.int ts[ug.toNat]) := at_of (j := ug.toNat) (by omega) (by rw [List.getElem?_map, htx]; rfl)
        have hta4 : H4 ta = some (.lst (ts.map V.int)) := g4 _ _ (T2.ne_ints' hp2) hta3
        refine ⟨rfl, _, rfl, _, rfl, ta, _, _, _, rfl, rfl, SqL.of hta4, hti, _, hDo, by rw [List.length_map]; exact small_lt (by have := nodup_of_lt (hG.asc _ hrmem); have := row_len (hG.asc _ hrmem) (hG.rng _ hrmem); omega), ?_⟩
        refine ⟨out ++ [ts[ug.toNat]], by rw [upd_same, map_snoc], by rw [List.length_append, hol]; rfl, fun x hx => ?_, fun m x hx => ?_, gr_mut g4 hD2, T4.mut nD2⟩
        · rcases List.mem_append.mp hx with h | h
          · exact hor x h
          · rw [List.mem_singleton.mp h]
            exact mem_rangeI.mp (pm2.mem_iff.mp (List.getElem_mem htl))
        · by_cases hm : m < out.length
          · rw [List.getElem?_append_left hm] at hx
            exact hof m x hx
          · have hm2 : m = out.length := by
              have h1 := (List.getElem?_eq_some_iff.mp hx).1
              rw [List.length_append, List.length_singleton] at h1
              omega
            subst hm2
            rw [List.getElem?_append_right (Nat.le_refl _), Nat.sub_self] at hx
            have hx' : ts[ug.toNat] = x := Option.some.inj hx
            subst hx'
            exact ⟨ug, by rw [hol]; exact hu', htx⟩
      · rintro H4 ⟨out, hDo, hol, hor, hof, g4, T4⟩
        rw [List.length_map] at hol
        have ond : out.Nodup := by
          refine List.pairwise_iff_getElem.mpr fun a b ha hb hab heq' => ?_
          obtain ⟨u1, h1, k1⟩ := hof a _ (List.getElem?_eq_getElem ha)
          obtain ⟨u2, h2, k2⟩ := hof b _ (List.getElem?_eq_getElem hb)
          rw [heq'] at k1
          have e12 : u1.toNat = u2.toNat := nd_ix tnd k1 k2
          have r1 := hG.rng _ hrmem _ (List.mem_of_getElem? h1)
          have r2 := hG.rng _ hrmem _ (List.mem_of_getElem? h2)
          have e3 : u1 = u2 := by omega
          rw [← e3] at h2
          have := nd_ix (nodup_of_lt (hG.asc _ hrmem)) h1 h2
          omega
        have hDv4 : H4 D = some (.lst vs) := g4 _ _ nD.1 hDv
        refine ⟨D2, out, rfl, SqL.of hDo, fun ns' p pms so hp => ⟨p, _, rfl, .inl ⟨SqL.of upd_same, fun q hq => ?_⟩⟩⟩
        have npD' : D ≠ p := ne_of_none hDv4 hp
        have hq4 : H4 q = none := by
          by_cases e : q = p
          · rw [e, upd_same] at hq
            cases hq
          · rw [upd_ne e] at hq
            exact hq
        have nqD : D ≠ q := ne_of_none hDv4 hq4
        have e7 : (upd (upd H4 p (.lst (ns'.map V.int))) q (.tup (ns'.map V.int))) D = some (.lst vs) := by rw [upd_ne nqD, upd_ne npD']; exact hDv4
        refine ⟨vs, e7, small_lt (by rw [hrs.len]; omega), ?_⟩
        have g47 : Gr t H3 (upd (upd H4 p (.lst (ns'.map V.int))) q (.tup (ns'.map V.int))) := g4.trans ((Gr.new hp).trans (Gr.new hq))
        have T7 := (T4.new (o := .lst (ns'.map V.int)) hp).new (o := .tup (ns'.map V.int)) hq
        refine ⟨vs ++ [.ref q], rs ++ [ns'], upd_same, ?_, by rw [List.length_append, hl]; rfl, fun r hr => ?_, gr_mut (g3.trans g47) hD, T7.mut nD⟩
        · exact RowsT.snoc (SqT.of (by rw [upd_ne nqD.symm, upd_same])) ((hrs.gr g47 T3).put e7)
        · rcases List.mem_append.mp hr with h | h
          · exact hall r h
          · rw [List.mem_singleton.mp h]
            exact ⟨asc_of pms so ond, fun x hx => hor x (pms.mem_iff.mp hx)⟩
    · rintro H3 ⟨vs, rs, hDv, hrs, hl, hall, g3, T3⟩
      rw [List.length_map, psl] at hl
      refine ⟨D, vs, rfl, .inl ⟨SqL.of hDv, fun z hz => ?_⟩⟩
      have hz0 : H z = none := (g12.trans g3).fresh T3 hz
      exact k _ rs _ ⟨by rw [hl]; exact hG.pos, fun r hr => (hall r hr).1, fun r hr x hx => by rw [hl]; exact (hall r hr).2 x hx⟩ hl (gr_mut (g12.trans g3) hz0) (T3.new hz) ⟨z, vs, rfl, SqT.of upd_same, hrs.same (same_new hz)⟩
/-! ### rows drawn in blocks -/
def spBlocks (K : PySem.W.Frag) : Sp := fun vs H Q _ => ∃ (t l : Addr) (n : Int), vs = [.ref t, .int n] ∧ Tape H t l ∧ 1 ≤ n ∧ n ≤ 12 ∧ ∀ (v : V) (rows : List (List Int)) (H' : Hp), Good rows → (rows.length : Int) ≤ n → Gr t H H' → Tape H' t l → RowsAt K H' v rows → Q v H'
structure Blk (m : Int) (rs : List (List Int)) : Prop where
  asc : ∀ r ∈ rs, r.Pairwise (· < ·)
  rng : ∀ r ∈ rs, ∀ x ∈ r, 0 ≤ x ∧ x < m
def WBlk (K : PySem.W.Frag) (t l fa : Addr) (n : Int) (H : Hp) (m : Nat) (σ' : L2.St) (H' : Hp) : Prop :=
  ∃ (vs : List V) (rs : List (List Int)) (x3 x4 x5 x6 x7 x8 x9 x10 : Option V), σ' = [some (.ref t), some (.int n), some (.ref fa), x3, x4, x5, x6, x7, x8, x9, x10] ∧ m + rs.length = n.toNat ∧ H' fa = some (.lst vs) ∧ RowsT K H' vs rs ∧ Blk rs.length rs ∧ Gr t H H' ∧ Tape H' t l
theorem mod_ne {i z : Int} (h0 : 0 ≤ i) (h1 : i < z) (h2 : 2 < z) : i ≠ (i + 1) % z := by
  intro h
  by_cases h3 : i + 1 < z
  · rw [Int.emod_eq_of_lt (by omega) h3] at h
    omega
  · have e : i + 1 = z := by omega
    rw [e, Int.emod_self] at h
    omega
theorem ok_blocks (A : At K mg "_law_blocks" s_law_blocks ["tape", "most"]) (T : Tx mg) (G_law_pick : Dfn P w K mg base "_law_pick" ["tape", "size"] 1 spPick) : Dfn P w K mg base "_law_blocks" ["tape", "most"] 2 (spBlocks K) := by
  refine A.ok sc_law_blocks (fun vs H Q E h => ?_) (fun f cdv A outer s H vs Q E hr h => ?_)
  · obtain ⟨t, l, n, rfl, _⟩ := h
    rfl
  · obtain ⟨t, l, n, rfl, hT, hn, hn2, k⟩ := h
    refine ⟨_, (pss_cons (ps_set (i := 2) sc_law_blocks.nd rfl (Or.inl rfl) (pe_lst pa_nil))
      (pss_cons (ps_while PassesOwn.never (PW.pt (pw_or (pt_cmpR op_eq (pe_callB c_len (by rfl) T.len (by decide +kernel) (pa_cons (pv 2) pa_nil)) pe_int (nomark _)) (pw_or1 (PW.pt (pw_and (pt_cmpR op_lt (pe_callB c_len (by rfl) T.len (by decide +kernel) (pa_cons (pv 2) pa_nil)) (pv 1) (nomark _)) (pw_and1 (pt_cmpR op_gt (pe_d G_law_pick (hr.mono (by decide)) (pa_cons (pv 0) (pa_cons pe_int pa_nil))) pe_int (nomark _)))))))) (pss_cons (ps_set (i := 3) sc_law_blocks.nd rfl (Or.inr rfl) (pe_callB c_len (by rfl) T.len (by decide +kernel) (pa_cons (pv 2) pa_nil)))
      (pss_cons (ps_set (i := 4) sc_law_blocks.nd rfl (Or.inl rfl) (pe_op op_add pe_int (pe_d G_law_pick (hr.mono (by decide)) (pa_cons (pv 0) (pa_cons (pe_callB (c_min rfl) (by rfl) T.min (by decide +kernel) (pa_cons pe_int (pa_cons (pe_op op_sub (pv 1) (pv 3)) pa_nil))) pa_nil)))))
      (pss_cons (ps_set (i := 5) sc_law_blocks.nd rfl (Or.inl rfl) (pe_d G_law_pick (hr.mono (by decide)) (pa_cons (pv 0) (pa_cons pe_int pa_nil))))
      (pss_one (ps_for PassesOwn.never rfl (pi_range1 rfl T.range (pa_cons (pv 4) pa_nil)) (pg_name (i := 6) sc_law_blocks.nd rfl (Or.inr rfl))
      (pss_cons (ps_set (i := 7) sc_law_blocks.nd rfl (Or.inl rfl) (pe_listRg rfl (by rfl) T.list (prg_2 (by rfl) T.range (pv 3) (pe_op op_add (pv 3) (pv 4)))))
      (Evl.pss_cut (ps_if (PW.pt (pw_and (pt_cmpR op_eq (pv 5) pe_int (nomark _)) (pw_and1 (pt_cmpR op_gt (pv 4) pe_int (nomark _))))) (pss_one (ps_set (i := 7) sc_law_blocks.nd rfl (Or.inl rfl) (pe_lst (pa_cons (pe_op op_add (pv 3) (pv 6)) (pa_cons (pe_op op_add (pv 3) (pe_op op_mod (pe_callTy c_int (by rfl) T.int (by decide +kernel) (pa_cons (pe_op op_add (pv 6) pe_int) pa_nil)) (pv 4))) pa_nil))))) pss_nil)
      (Evl.pss_cut (ps_if (PW.pt (pw_and (pt_cmpR op_eq (pv 5) pe_int (nomark _)) (pw_and1 (pt_cmpR op_gt (pv 4) pe_int (nomark _))))) (pss_one (ps_setLc (i := 7) (own := [("j", 9)]) (g := (gName 9)) (tt := (tTest (tOp rNe (tVar 9) (tVar 6)))) (te := (tOp (rI0 fun i j => V.int (i + j)) (tVar 3) (tVar 9))) (by rfl) sc_law_blocks.nd rfl rfl (sw_true rfl rfl rfl (by decide +kernel)) (pi_range1 rfl T.range (pa_cons (pv 4) pa_nil)) (blkOk_by (own := [("j", 9)]) (N := n_law_blocks) (sc := (defScope s_law_blocks)) (by decide +kernel)) (fun _ _ _ _ _ => (pg_name (i := 9) sc_law_blocks.nd rfl (Or.inl rfl))) (fun _ _ _ _ _ => (pts_one (pt_cmpR op_ne (pv 9) (pv 6) (nomark _)))) (fun _ _ _ _ _ => (pe_op op_add (pv 3) (pv 9))))) pss_nil)
      (pss_cons (ps_setLc (i := 8) (own := [("thing", 10)]) (g := (gName 10)) (tt := (tTest (tOp rEq (tCall spPick [] E0 (tCons (tVar 0) (tCons (tC (V.int 4)) tNil))) (tC (V.int 0))))) (te := (tVar 10)) (by rfl) sc_law_blocks.nd rfl rfl (sw_true rfl rfl rfl (by decide +kernel)) (pi_range1 rfl T.range (pa_cons (pv 3) pa_nil)) (blkOk_by (own := [("thing", 10)]) (N := n_law_blocks) (sc := (defScope s_law_blocks)) (by decide +kernel)) (fun _ _ _ _ _ => (pg_name (i := 10) sc_law_blocks.nd rfl (Or.inl rfl))) (fun _ _ _ _ _ => (pts_one (pt_cmpR op_eq (pe_d G_law_pick (hr.mono (by decide)) (pa_cons (pv 0) (pa_cons pe_int pa_nil))) pe_int (nomark _)))) (fun _ _ _ _ _ => (pv 10)))
      (pss_one (ps_expr (pe_bm PySem.F.plainAttrs_list PySem.F.slot_list_append PySem.F.type_list_append mt_append (pv 2) (pa_cons (pe_callTy c_tuple (by rfl) T.tuple (by decide +kernel) (pa_cons (pe_callB cr_sortedI (by rfl) T.sorted (by decide +kernel) (pa_cons (pe_op op_cat (pv 7) (pv 8)) pa_nil)) pa_nil)) pa_nil))))))))))))))
      (pss_one (ps_ret (pe_callTy c_tuple (by rfl) T.tuple (by decide +kernel) (pa_cons (pv 2) pa_nil)))))), ?_⟩
    refine ⟨Nat.zero_le _, fun fa hf => ?_⟩
    have nf := hT.free hf
    refine ⟨WBlk K t l fa n H, ⟨n.toNat, [], [], none, none, none, none, none, none, none, none, rfl, by simp, upd_same, .nil, ⟨fun _ h => (by cases h), fun _ h => (by cases h)⟩, gr_mut (Gr.refl H) hf, hT.new hf⟩, ?_⟩
    rintro m σ' H1 ⟨vs, rs, x3, x4, x5, x6, x7, x8, x9, x10, rfl, hm, hfa, hrs, hB, g1, T1⟩
    have vl := hrs.len
    refine (show ∀ R : Bool → Hp → Prop, (∀ b H2, Gr t H1 H2 → Tape H2 t l → (b = true → 0 < m) → (b = false → 1 ≤ rs.length) → R b H2) → ((tOr (tTest (tOp rEq (tCB (rLenS K) (tCons (tVar 2) tNil)) (tC (V.int 0)))) (tAnd (tTest (tOp (rI0 fun i j => V.bl (decide (i < j))) (tCB (rLenS K) (tCons (tVar 2) tNil)) (tVar 1))) (tTest (tOp (rI0 fun i j => V.bl (decide (j < i))) (tCall spPick [] E0 (tCons (tVar 0) (tCons (tC (V.int 3)) tNil))) (tC (V.int 0)))))) : TT) [some (.ref t), some (.int n), some (.ref fa), x3, x4, x5, x6, x7, x8, x9, x10] H1 R from fun R hR => ?_) _ (fun b H2 g2 T2 hb1 hb2 => ?_)
    · refine ⟨_, rfl, fa, vs, rfl, .inl (SqL.of hfa), rfl, _, rfl, ?_⟩
      refine ite2 (fun hc => ?_) (fun hc => ?_)
      · have h0 := of_decide_eq_true hc
        injection h0 with h0
        exact hR _ _ (Gr.refl _) T1 (fun _ => by omega) (fun h => (by cases h))
      · have h0 : ¬ ((vs.length : Nat) : Int) = 0 := fun q => hc (by rw [q]; exact decide_eq_true rfl)
        refine ⟨_, rfl, fa, vs, rfl, .inl (SqL.of hfa), _, rfl, _, _, rfl, rfl, _, rfl, ?_⟩
        refine ite2 (fun hc => ?_) (fun hc => ?_)
        · have h1 := of_decide_eq_true hc
          refine ⟨_, rfl, t, l, 3, rfl, T1, by decide, by decide, fun x H2 _ _ g2 T2 => ⟨_, _, rfl, rfl, _, rfl, ?_⟩⟩
          exact hR _ _ g2 T2 (fun _ => by omega) (fun _ => by omega)
        · exact hR _ _ (Gr.refl _) T1 (fun h => (by cases h)) (fun _ => by omega)
    · have hfa2 : H2 fa = some (.lst vs) := g2 _ _ nf.1 hfa
      have hrs2 := hrs.gr g2 T1
      cases b with
      | false =>
        refine ⟨_, rfl, fa, vs, rfl, .inl ⟨SqL.of hfa2, fun z hz => ?_⟩⟩
        have g12 := g1.trans g2
        have hz0 : H z = none := g12.fresh T2 hz
        exact k _ rs _ ⟨hb2 rfl, hB.asc, hB.rng⟩ (by omega) (gr_mut g12 hz0) (T2.new hz) ⟨z, vs, rfl, SqT.of upd_same, hrs2.same (same_new hz)⟩
      | true =>
        have hm0 := hb1 rfl
        refine ⟨fun σ' H' => ∃ m', m' < m ∧ WBlk K t l fa n H m' σ' H', fun _ _ h => h, ?_⟩
        refine ⟨_, rfl, fa, vs, rfl, .inl (SqL.of hfa2), ?_⟩
        refine ⟨_, rfl, _, rfl, _, rfl, _, _, rfl, rfl, 4, _, rfl, t, l, _, rfl, T2, by split <;> omega, by split <;> omega, fun sz H3 s0 s1 g3 T3 => ⟨_, _, rfl, rfl, ?_⟩⟩
        have sb : (vs.length : Int) + (1 + sz) ≤ n ∧ sz < 4 := by
          split at s1 <;> omega
        refine ⟨_, rfl, t, l, 3, rfl, T3, by decide, by decide, fun kd H4 _ _ g4 T4 => ?_⟩
        have g24 := (g2.trans g3).trans g4
        have hfa4 : H4 fa = some (.lst vs) := (g3.trans g4) _ _ nf.1 hfa2
        have hrs4 := hrs.gr g24 T1
        refine ⟨_, rfl, _, rfl, by omega, by omega, for_range (lo := 0) (n := (1 + sz).toNat) (fun i σ' H' => ∃ (vs' : List V) (rs' : List (List Int)) (x6 x7 x8 x9 x10 : Option V), σ' = [some (.ref t), some (.int n), some (.ref fa), some (.int (vs.length : Nat)), some (.int (1 + sz)), some (.int kd), x6, x7, x8, x9, x10] ∧ rs'.length = rs.length + i ∧ H' fa = some (.lst vs') ∧ RowsT K H' vs' rs' ∧ Blk (vs.length + (1 + sz)) rs' ∧ Gr t H H' ∧ Tape H' t l)
          ⟨vs, rs, _, _, _, _, _, rfl, rfl, hfa4, hrs4, ⟨hB.asc, fun r hr x hx => by have := hB.rng r hr x hx; omega⟩, g1.trans g24, T4⟩ ?_ ?_⟩
        · rintro i σ' H5 hi ⟨vs', rs', y6, y7, y8, y9, y10, rfl, hl', hfa5, hrs5, hB5, g5, T5⟩
          have hik : ((0 : Int) + (i : Int)) < 1 + sz := by omega
          -- row = list(range(base, base + size))
          refine ⟨_, rfl, _, rfl, _, rfl, _, _, rfl, rfl, _, _, rfl, rfl, RgOk.of_le (by omega) (by omega) (by omega) (by omega), fun ra hra => ?_⟩
          -- if kind == 1
          refine ⟨fun σ' H' => ∃ (ra : Addr) (row : List Int), σ' = [some (.ref t), some (.int n), some (.ref fa), some (.int (vs.length : Nat)), some (.int (1 + sz)), some (.int kd), some (.int (0 + (i : Int))), some (.ref ra), y8, y9, y10] ∧ H' ra = some (.lst (row.map V.int)) ∧ row.Nodup ∧ (∀ x ∈ row, (vs.length : Int) ≤ x ∧ x < vs.length + (1 + sz)) ∧ row.length ≤ 12 ∧ Gr t H5 H' ∧ Tape H' t l, ?_, ?_⟩
          · have rgm : rgV (vs.length : Int) ((vs.length : Int) + (1 + sz)) = ((List.range (1 + sz).toNat).map fun (j : Nat) => (vs.length : Int) + (j : Int)).map V.int := by
              unfold rgV
              rw [List.map_map]
              have e : ((vs.length : Int) + (1 + sz) - vs.length).toNat = (1 + sz).toNat := by omega
              rw [e]
              rfl
            have first : ∃ (ra' : Addr) (row : List Int), ra' = ra ∧ (upd H5 ra (.lst (rgV (vs.length : Int) ((vs.length : Int) + (1 + sz))))) ra' = some (.lst (row.map V.int)) ∧ row.Nodup ∧ (∀ x ∈ row, (vs.length : Int) ≤ x ∧ x < vs.length + (1 + sz)) ∧ row.length ≤ 12 := by
              refine ⟨ra, (List.range (1 + sz).toNat).map fun (j : Nat) => (vs.length : Int) + (j : Int), rfl, by rw [upd_same, rgm], ?_, fun x hx => ?_, by rw [List.length_map, List.length_range]; omega⟩
              · exact List.Pairwise.map _ (fun (a b : Nat) (h : a ≠ b) (q : (vs.length : Int) + (a : Int) = (vs.length : Int) + (b : Int)) => h (by omega)) List.nodup_range
              · obtain ⟨j, hj, rfl⟩ := List.mem_map.mp hx
                have := List.mem_range.mp hj
                omega
            have keep : ∃ (ra' : Addr) (row : List Int), [some (V.ref t), some (V.int n), some (V.ref fa), some (V.int (vs.length : Nat)), some (V.int (1 + sz)), some (V.int kd), some (V.int (0 + (i : Int))), some (V.ref ra), y8, y9, y10] = [some (V.ref t), some (V.int n), some (V.ref fa), some (V.int (vs.length : Nat)), some (V.int (1 + sz)), some (V.int kd), some (V.int (0 + (i : Int))), some (V.ref ra'), y8, y9, y10] ∧ (upd H5 ra (.lst (rgV (vs.length : Int) ((vs.length : Int) + (1 + sz))))) ra' = some (.lst (row.map V.int)) ∧ row.Nodup ∧ (∀ x ∈ row, (vs.length : Int) ≤ x ∧ x < vs.length + (1 + sz)) ∧ row.length ≤ 12 ∧ Gr t H5 (upd H5 ra (.lst (rgV (vs.length : Int) ((vs.length : Int) + (1 + sz))))) ∧ Tape (upd H5 ra (.lst (rgV (vs.length : Int) ((vs.length : Int) + (1 + sz))))) t l := by
              obtain ⟨ra', row, e, h1, h2, h3, h4⟩ := first
              subst e
              exact ⟨ra', row, rfl, h1, h2, h3, h4, Gr.new hra, T5.new hra⟩
            refine ⟨_, rfl, rfl, _, rfl, ?_⟩
            refine ite2 (fun _ => ?_) (fun _ => keep)
            refine ⟨_, rfl, _, _, rfl, rfl, _, rfl, ?_⟩
            refine ite2 (fun hc => ?_) (fun _ => keep)
            have hc2 := of_decide_eq_true hc
            refine ⟨_, rfl, _, rfl, _, _, rfl, rfl, _, rfl, _, rfl, _, _, rfl, rfl, .inl ⟨_, rfl, _, rfl, _, _, rfl, rfl, (by show (0 : Int) < 1 + sz; omega), _, _, rfl, rfl, by show 2 ≤ sizeLine; decide, fun q hq => ?_⟩⟩
            have hq5 : H5 q = none := Gr.fresh (Gr.new hra) (T5.new hra) hq
            have m0 := Int.emod_nonneg (0 + (i : Int) + 1) (show (1 + sz) ≠ 0 by omega)
            have m1 := Int.emod_lt_of_pos (0 + (i : Int) + 1) (show 0 < 1 + sz by omega)
            have mn := mod_ne (show (0 : Int) ≤ 0 + (i : Int) by omega) hik hc2
            refine ⟨q, [(vs.length : Int) + (0 + (i : Int)), (vs.length : Int) + (0 + (i : Int) + 1) % (1 + sz)], rfl, upd_same, ?_, fun x hx => ?_, by show 2 ≤ 12; decide, gr_mut (Gr.new hra) hq5, (T5.new hra).new hq⟩
            · refine List.pairwise_cons.mpr ⟨fun b hb => ?_, List.pairwise_singleton _ _⟩
              rw [List.mem_singleton.mp hb]
              omega
            · rcases List.mem_cons.mp hx with h | h
              · omega
              · rw [List.mem_singleton.mp h]
                omega
          · rintro σ' H6 ⟨rb, row, rfl, hrb, hnd, hrr, hrl, g6, T6⟩
            -- if kind == 2
            refine ⟨fun σ' H' => ∃ (ra : Addr) (row : List Int), σ' = [some (.ref t), some (.int n), some (.ref fa), some (.int (vs.length : Nat)), some (.int (1 + sz)), some (.int kd), some (.int (0 + (i : Int))), some (.ref ra), y8, y9, y10] ∧ H' ra = some (.lst (row.map V.int)) ∧ row.Nodup ∧ (∀ x ∈ row, (vs.length : Int) ≤ x ∧ x < vs.length + (1 + sz)) ∧ row.length ≤ 12 ∧ Gr t H5 H' ∧ Tape H' t l, ?_, ?_⟩
            · refine ⟨_, rfl, rfl, _, rfl, ?_⟩
              refine ite2 (fun _ => ?_) (fun _ => ⟨rb, row, rfl, hrb, hnd, hrr, hrl, g6, T6⟩)
              refine ⟨_, rfl, _, _, rfl, rfl, _, rfl, ?_⟩
              refine ite2 (fun _ => ?_) (fun _ => ⟨rb, row, rfl, hrb, hnd, hrr, hrl, g6, T6⟩)
              refine ⟨_, rfl, _, rfl, by omega, by omega, fun D hD => ?_⟩
              have hD5 : H5 D = none := g6.fresh T6 hD
              refine lc_range (lo := 0) (n := (1 + sz).toNat) (fun j H' => ∃ out : List Int, H' D = some (.lst (out.map V.int)) ∧ out.length ≤ j ∧ out.Pairwise (· < ·) ∧ (∀ x ∈ out, (vs.length : Int) ≤ x ∧ x < vs.length + (j : Int)) ∧ Gr t H6 H' ∧ Tape H' t l)
                ⟨[], upd_same, Nat.le_refl _, .nil, fun _ h => (by cases h), Gr.new hD, T6.new hD⟩ ?_ ?_
              · rintro j H7 hj ⟨out, hDo, hol, hop, hor, g7, T7⟩
                refine ⟨rfl, _, rfl, _, rfl, rfl, _, rfl, ?_⟩
                refine ite2 (fun _ => ?_) (fun _ => ⟨out, hDo, by omega, hop, fun x hx => by have := hor x hx; omega, g7, T7⟩)
                refine ⟨_, rfl, _, rfl, _, _, rfl, rfl, _, hDo, by rw [List.length_map]; exact small_lt (by omega), ?_⟩
                refine ⟨out ++ [(vs.length : Int) + (0 + (j : Int))], by rw [upd_same, map_snoc], by rw [List.length_append, List.length_singleton]; omega, asc_snoc hop fun x hx => by have := hor x hx; omega, fun x hx => ?_, gr_mut g7 hD, T7.mut (T6.free hD)⟩
                rcases List.mem_append.mp hx with h | h
                · have := hor x h
                  omega
                · rw [List.mem_singleton.mp h]
                  omega
              · rintro H7 ⟨out, hDo, hol, hop, hor, g7, T7⟩
                exact ⟨D, out, rfl, hDo, nodup_of_lt hop, fun x hx => by have := hor x hx; omega, by omega, g6.trans g7, T7⟩
            · rintro σ' H7 ⟨rc, row2, rfl, hrc, hnd2, hrr2, hrl2, g7, T7⟩
              -- ahead
              refine ⟨_, rfl, _, rfl, by omega, by omega, fun D hD => ?_⟩
              have nD := T7.free hD
              refine lc_range (lo := 0) (n := ((vs.length : Nat) : Int).toNat) (fun j H' => ∃ out : List Int, H' D = some (.lst (out.map V.int)) ∧ out.length ≤ j ∧ out.Pairwise (· < ·) ∧ (∀ x ∈ out, 0 ≤ x ∧ x < (j : Int)) ∧ Gr t H7 H' ∧ Tape H' t l)
                ⟨[], upd_same, Nat.le_refl _, .nil, fun _ h => (by cases h), Gr.new hD, T7.new hD⟩ ?_ ?_
              · rintro j H8 hj ⟨out, hDo, hol, hop, hor, g8, T8⟩
                refine ⟨rfl, _, rfl, t, l, 4, rfl, T8, by decide, by decide, fun x H9 _ _ g9 T9 => ⟨rfl, _, rfl, ?_⟩⟩
                have hD9 : H9 D = some (.lst (out.map V.int)) := g9 _ _ nD.1 hDo
                refine ite2 (fun _ => ?_) (fun _ => ⟨out, hD9, by omega, hop, fun x hx => by have := hor x hx; omega, g8.trans g9, T9⟩)
                refine ⟨_, rfl, _, hD9, by rw [List.length_map]; exact small_lt (by omega), ?_⟩
                refine ⟨out ++ [0 + (j : Int)], by rw [upd_same, map_snoc], by rw [List.length_append, List.length_singleton]; omega, asc_snoc hop fun x hx => by have := hor x hx; omega, fun x hx => ?_, gr_mut (g8.trans g9) hD, T9.mut nD⟩
                rcases List.mem_append.mp hx with h | h
                · have := hor x h
                  omega
                · rw [List.mem_singleton.mp h]
                  omega
              · rintro H8 ⟨out, hDo, hol, hop, hor, g8, T8⟩
                have g58 := g7.trans g8
                have hfa8 : H8 fa = some (.lst vs') := g58 _ _ nf.1 hfa5
                have hrc8 : H8 rc = some (.lst (row2.map V.int)) := g8 _ _ (T7.ne_ints' hrc) hrc
                have hrs8 := hrs5.gr g58 T5
                refine ⟨_, rfl, .inl ⟨rfl, _, SqL.of hfa8⟩, _, rfl, _, rfl, rc, D, _, _, rfl, rfl, hrc8, hDo, by rw [List.length_map, List.length_map]; exact small_le (by omega), fun ca hca => ?_⟩
                have ncf : fa ≠ ca := ne_of_none hfa8 hca
                refine ⟨ca, row2 ++ out, rfl, SqL.of (by rw [upd_same, List.map_append]), fun ns' p pms so hp => ⟨p, _, rfl, .inl ⟨SqL.of upd_same, fun q hq => ?_⟩⟩⟩
                have npf : fa ≠ p := ne_of_none (show (upd H8 ca (.lst (row2.map V.int ++ out.map V.int))) fa = some (.lst vs') by rw [upd_ne ncf]; exact hfa8) hp
                have nqf : fa ≠ q := ne_of_none (show (upd (upd H8 ca (.lst (row2.map V.int ++ out.map V.int))) p (.lst (ns'.map V.int))) fa = some (.lst vs') by rw [upd_ne npf, upd_ne ncf]; exact hfa8) hq
                have e9 : (upd (upd (upd H8 ca (.lst (row2.map V.int ++ out.map V.int))) p (.lst (ns'.map V.int))) q (.tup (ns'.map V.int))) fa = some (.lst vs') := by rw [upd_ne nqf, upd_ne npf, upd_ne ncf]; exact hfa8
                have g89 : Gr t H8 (upd (upd (upd H8 ca (.lst (row2.map V.int ++ out.map V.int))) p (.lst (ns'.map V.int))) q (.tup (ns'.map V.int))) := ((Gr.new hca).trans (Gr.new hp)).trans (Gr.new hq)
                have T9 := ((T8.new (o := .lst (row2.map V.int ++ out.map V.int)) hca).new (o := .lst (ns'.map V.int)) hp).new (o := .tup (ns'.map V.int)) hq
                refine ⟨fa, vs', .ref q, rfl, rfl, e9, small_lt (by rw [hrs5.len]; omega), ?_⟩
                have nd : (row2 ++ out).Nodup := by
                  show (row2 ++ out).Pairwise (· ≠ ·)
                  rw [List.pairwise_append]
                  exact ⟨hnd2, nodup_of_lt hop, fun a ha b hb q => by
                    have := hrr2 a ha
                    have := hor b hb
                    omega⟩
                refine ⟨vs' ++ [.ref q], rs' ++ [ns'], _, _, _, _, _, rfl, by rw [List.length_append, hl']; rfl, upd_same, ?_, ⟨fun r hr => ?_, fun r hr x hx => ?_⟩, gr_mut (g5.trans (g58.trans g89)) hf, T9.mut nf⟩
                · exact RowsT.snoc (SqT.of (by rw [upd_ne nqf.symm, upd_same])) ((hrs8.gr g89 T8).put e9)
                · rcases List.mem_append.mp hr with h | h
                  · exact hB5.asc r h
                  · rw [List.mem_singleton.mp h]
                    exact asc_of pms so nd
                · rcases List.mem_append.mp hr with h | h
                  · exact hB5.rng r h x hx
                  · rw [List.mem_singleton.mp h] at hx
                    rcases List.mem_append.mp (pms.mem_iff.mp hx) with h2 | h2
                    · have := hrr2 x h2
                      omega
                    · have := hor x h2
                      omega
        · rintro σ' H5 ⟨vs', rs', y6, y7, y8, y9, y10, rfl, hl', hfa5, hrs5, hB5, g5, T5⟩
          refine ⟨n.toNat - rs'.length, by omega, vs', rs', _, _, _, _, _, _, _, _, rfl, by omega, hfa5, hrs5, ⟨hB5.asc, fun r hr x hx => ?_⟩, g5, T5⟩
          have := hB5.rng r hr x hx
          omega
/-! ### rows -/
def spRows (K : PySem.W.Frag) : Sp := fun vs H Q _ => ∃ (t l : Addr) (n : Int), vs = [.ref t, .int n] ∧ Tape H t l ∧ 1 ≤ n ∧ n ≤ 12 ∧ ∀ (v : V) (rows : List (List Int)) (H' : Hp), Good rows → (rows.length : Int) ≤ n → Gr t H H' → Tape H' t l → RowsAt K H' v rows → Q v H'
theorem ok_rows (A : At K mg "_law_rows" s_law_rows ["tape", "most"]) (T : Tx mg) (G_law_pick : Dfn P w K mg base "_law_pick" ["tape", "size"] 1 spPick) (G_law_moved : Dfn P w K mg base "_law_moved" ["tape", "rows"] 3 (spMoved K)) (G_law_blocks : Dfn P w K mg base "_law_blocks" ["tape", "most"] 2 (spBlocks K)) (G_law_loose : Dfn P w K mg base "_law_loose" ["tape", "many"] 3 (spLoose K)) : Dfn P w K mg base "_law_rows" ["tape", "most"] 4 (spRows K) := by
  refine A.ok sc_law_rows (fun vs H Q E h => ?_) (fun f cdv A outer s H vs Q E hr h => ?_)
  · obtain ⟨t, l, n, rfl, _⟩ := h
    rfl
  · obtain ⟨t, l, n, rfl, hT, hn, hn2, k⟩ := h
    refine ⟨_, (pss_cons (ps_set (i := 2) sc_law_rows.nd rfl (Or.inl rfl) (pe_d G_law_pick (hr.mono (by decide)) (pa_cons (pv 0) (pa_cons pe_int pa_nil))))
      (pss_cons (ps_if (pt_cmpR op_eq (pv 2) pe_int (nomark _)) (pss_one (ps_ret (pe_d G_law_moved (hr.mono (by decide)) (pa_cons (pv 0) (pa_cons (pe_d G_law_blocks (hr.mono (by decide)) (pa_cons (pv 0) (pa_cons (pv 1) pa_nil))) pa_nil))))) pss_nil)
      (pss_one (ps_ret (pe_d G_law_loose (hr.mono (by decide)) (pa_cons (pv 0) (pa_cons (pe_op op_add pe_int (pe_d G_law_pick (hr.mono (by decide)) (pa_cons (pv 0) (pa_cons (pv 1) pa_nil)))) pa_nil))))))), ?_⟩
    refine ⟨_, rfl, t, l, 3, rfl, hT, by decide, by decide, fun kd H1 _ _ g1 T1 => ?_⟩
    refine ⟨_, rfl, rfl, _, rfl, ?_⟩
    refine ite2 (fun _ => ?_) (fun _ => ?_)
    · refine ⟨_, rfl, _, rfl, _, rfl, t, l, n, rfl, T1, hn, hn2, fun v rows H2 G hl g2 T2 R2 => ?_⟩
      refine ⟨t, l, v, rows, rfl, T2, G, by omega, R2, fun v' rows' H3 G' hl' g3 T3 R3 => ?_⟩
      exact k v' rows' H3 G' (by omega) ((g1.trans g2).trans g3) T3 R3
    · refine ⟨_, rfl, _, rfl, _, rfl, t, l, n, rfl, T1, by omega, by omega, fun x H2 x0 x1 g2 T2 => ⟨_, _, rfl, rfl, ?_⟩⟩
      refine ⟨t, l, 1 + x, rfl, T2, by omega, by omega, fun v rows H3 G hl g3 T3 R3 => ?_⟩
      exact k v rows H3 G (by omega) ((g1.trans g2).trans g3) T3 R3
end
end Fo

set_option maxRecDepth 100000
set_option maxHeartbeats 4000000
namespace Fo
open PySem PySem.Spec PyProof.Rows L2
abbrev s_is_integer : Stmt := top 8
abbrev n_is_integer : List Str := ["thing"]
theorem sc_is_integer : FnScope n_is_integer ["thing"] (defScope s_is_integer) := ⟨rfl, rfl, rfl, by decide +kernel, rfl, by decide +kernel, by decide +kernel⟩
abbrev s_is_number : Stmt := top 9
abbrev n_is_number : List Str := ["bound", "thing"]
theorem sc_is_number : FnScope n_is_number ["bound", "thing"] (defScope s_is_number) := ⟨rfl, rfl, rfl, by decide +kernel, rfl, by decide +kernel, by decide +kernel⟩
abbrev s_is_numbers : Stmt := top 10
abbrev n_is_numbers : List Str := ["bound", "thing", "one"]
theorem sc_is_numbers : FnScope n_is_numbers ["bound", "thing"] (defScope s_is_numbers) := ⟨rfl, rfl, rfl, by decide +kernel, rfl, by decide +kernel, by decide +kernel⟩
abbrev s_is_ascending : Stmt := top 11
abbrev n_is_ascending : List Str := ["bound", "thing", "low", "high"]
theorem sc_is_ascending : FnScope n_is_ascending ["bound", "thing"] (defScope s_is_ascending) := ⟨rfl, rfl, rfl, by decide +kernel, rfl, by decide +kernel, by decide +kernel⟩
abbrev s_check_rows : Stmt := top 28
abbrev n_check_rows : List Str := ["rows", "person", "row"]
theorem sc_check_rows : FnScope n_check_rows ["rows"] (defScope s_check_rows) := ⟨rfl, rfl, rfl, by decide +kernel, rfl, by decide +kernel, by decide +kernel⟩
abbrev s_Table___init : Stmt := inClass (top 27) 0
abbrev n_Table___init : List Str := ["self", "rows"]
theorem sc_Table___init : FnScope n_Table___init ["self", "rows"] (defScope s_Table___init) := ⟨rfl, rfl, rfl, by decide +kernel, rfl, by decide +kernel, by decide +kernel⟩
abbrev s_Table___eq : Stmt := inClass (top 27) 1
abbrev n_Table___eq : List Str := ["self", "other"]
theorem sc_Table___eq : FnScope n_Table___eq ["self", "other"] (defScope s_Table___eq) := ⟨rfl, rfl, rfl, by decide +kernel, rfl, by decide +kernel, by decide +kernel⟩
section
variable {P : Program} {w : World} {K : PySem.W.Frag} {mg : Str → Option Value} {base : Heap} {C : Addr}
def spInteger (K : PySem.W.Frag) (C : Addr) : Sp := fun vs H Q _ => ∃ x, vs = [x] ∧ Th K C H x ∧ Q (.bl (isIntV x)) H
theorem ok_is_integer (A : At K mg "is_integer" s_is_integer ["thing"]) (T : Tx mg) (tc : TC K C) : Dfn P w K mg base "is_integer" ["thing"] 1 (spInteger K C) := by
  refine A.ok sc_is_integer (fun vs H Q E h => ?_) (fun f cdv A outer s H vs Q E hr h => ?_)
  · obtain ⟨x, rfl, _⟩ := h
    rfl
  · obtain ⟨x, rfl, hx, k⟩ := h
    obtain ⟨t, b1, b2, ty, h1, h2, h3⟩ := th_kit tc hx
    refine ⟨_, (pss_one (ps_ret (pe_and (pe_callB call_isi (by rfl) T.isinstance (by decide +kernel) (pa_cons (pv 0) (pa_cons (pe_bltn (v := V.ty "int") (by rfl) T.int (by decide +kernel) rfl) pa_nil))) (pe_one (pe_not (pe_callB call_isi (by rfl) T.isinstance (by decide +kernel) (pa_cons (pv 0) (pa_cons (pe_bltn (v := V.ty "bool") (by rfl) T.bool (by decide +kernel) rfl) pa_nil)))))))), ?_⟩
    refine ⟨_, rfl, x, .ty "int", t, .type "int", b1, rfl, .ty "int", ty, h1, b1, rfl, ?_⟩
    cases b1 with
    | true =>
      refine ⟨_, rfl, x, .ty "bool", t, .type "bool", b2, rfl, .ty "bool", ty, h2, b2, rfl, ?_⟩
      rw [Bool.true_and] at h3
      rw [h3]
      exact k
    | false =>
      rw [Bool.false_and] at h3
      rw [← h3] at k
      exact k
def spNumber (K : PySem.W.Frag) (C : Addr) : Sp := fun vs H Q _ => ∃ (b : Int) (x : V), vs = [.int b, x] ∧ Th K C H x ∧ Q (.bl (numV b x)) H
theorem ok_is_number (A : At K mg "is_number" s_is_number ["bound", "thing"]) (T : Tx mg) (G_is_integer : Dfn P w K mg base "is_integer" ["thing"] 1 (spInteger K C)) : Dfn P w K mg base "is_number" ["bound", "thing"] 2 (spNumber K C) := by
  refine A.ok sc_is_number (fun vs H Q E h => ?_) (fun f cdv A outer s H vs Q E hr h => ?_)
  · obtain ⟨b, x, rfl, _⟩ := h
    rfl
  · obtain ⟨b, x, rfl, hx, k⟩ := h
    refine ⟨_, (pss_one (ps_ret (pe_and (pe_d G_is_integer (hr.mono (by decide)) (pa_cons (pv 1) pa_nil)) (pe_one (pe_chain op_le op_lt pe_int (pv 1) (pv 0)))))), ?_⟩
    refine ⟨_, rfl, x, rfl, hx, _, rfl, ?_⟩
    cases x with
    | int i =>
      have k : Q (.bl (decide (0 ≤ i) && decide (i < b))) H := k
      refine ⟨_, rfl, 0, i, rfl, rfl, _, rfl, ?_⟩
      refine ite2 (fun h1 => ?_) (fun h1 => ?_)
      · rw [h1, Bool.true_and] at k
        exact ⟨_, rfl, i, b, rfl, rfl, k⟩
      · rw [show decide (0 ≤ i) = false from Bool.eq_false_iff.mpr h1, Bool.false_and] at k
        exact k
    | _ => exact k
def numbersOf (b : Int) : Option (List V) → Bool
  | some xs => xs.all (numV b)
  | none => false
def spNumbers (K : PySem.W.Frag) (C : Addr) : Sp := fun vs H Q _ => ∃ (b : Int) (x : V) (o : Option (List V)), vs = [.int b, x] ∧ Tg K C H x o ∧ ∀ H', Same H H' → Q (.bl (numbersOf b o)) H'
theorem ok_is_numbers (A : At K mg "is_numbers" s_is_numbers ["bound", "thing"]) (T : Tx mg) (G_is_number : Dfn P w K mg base "is_number" ["bound", "thing"] 2 (spNumber K C)) : Dfn P w K mg base "is_numbers" ["bound", "thing"] 3 (spNumbers K C) := by
  refine A.ok sc_is_numbers (fun vs H Q E h => ?_) (fun f cdv A outer s H vs Q E hr h => ?_)
  · obtain ⟨b, x, o, rfl, _⟩ := h
    rfl
  · obtain ⟨b, x, o, rfl, hx, k⟩ := h
    refine ⟨_, (pss_one (ps_ret (pe_and (pe_callB call_isi (by rfl) T.isinstance (by decide +kernel) (pa_cons (pv 1) (pa_cons (pe_bltn (v := V.ty "tuple") (by rfl) T.tuple (by decide +kernel) rfl) pa_nil))) (pe_one (pe_callB (cr_all rfl) (by rfl) T.all (by decide +kernel) (pa_cons (pe_lc (own := [("one", 2)]) (g := (gName 2)) (tt := tYes) (te := (tCall (spNumber K C) [] E0 (tCons (tVar 0) (tCons (tVar 2) tNil)))) (by rfl) sc_is_numbers.nd (pi_tup (pv 1)) (blkOk_by (own := [("one", 2)]) (N := n_is_numbers) (sc := (defScope s_is_numbers)) (by decide +kernel)) (fun _ _ _ _ _ => (pg_name (i := 2) sc_is_numbers.nd rfl (Or.inl rfl))) (fun _ _ _ _ _ => pts_nil) (fun _ _ _ _ _ => (pe_d G_is_number (hr.mono (by decide)) (pa_cons (pv 0) (pa_cons (pv 2) pa_nil))))) pa_nil)))))), ?_⟩
    cases hx with
    | no ty hk => exact ⟨_, rfl, x, .ty "tuple", _, .type "tuple", false, rfl, .ty "tuple", ty, hk, false, rfl, k H (Same.refl H)⟩
    | @tup a xs hq hi hz =>
      refine ⟨_, rfl, .ref a, .ty "tuple", _, .type "tuple", true, rfl, .ty "tuple", tyX_sqT hq, kit_ty (by decide +kernel), true, rfl, ?_⟩
      refine ⟨_, rfl, a, rfl, ⟨xs, hq⟩, fun D hD => lc_tup (xs := xs) (fun i H' => H' D = some (.lst ((xs.take i).map fun x => V.bl (numV b x))) ∧ Same H H') ⟨by rw [upd_same]; rfl, same_new hD⟩ (fun i H' _ p => sqT_same p.2 hq) (fun i y H' hy p => ?_) (fun H' p => ?_)⟩
      · refine ⟨rfl, _, rfl, _, rfl, b, y, rfl, (hi y (List.mem_of_getElem? hy)).same p.2, _, p.1, by rw [List.length_map]; exact small_lt (Nat.le_trans (List.length_take_le _ _) (by have := (List.getElem?_eq_some_iff.mp hy).1; omega)), ?_, same_mut p.2 hD⟩
        rw [upd_same, List.take_add_one, hy, List.map_append]
        rfl
      · obtain ⟨p1, p2⟩ := p
        rw [List.take_length] at p1
        refine ⟨D, xs.map (numV b), rfl, SqL.of (by rw [p1, List.map_map]; rfl), ?_⟩
        have e : (xs.map (numV b)).all id = numbersOf b (some xs) := by
          show _ = xs.all (numV b)
          rw [List.all_map]
          rfl
        rw [e]
        exact k H' p2
def ascOf (b : Int) : Option (List V) → Bool
  | some xs => ascV b xs
  | none => false
def spAsc (K : PySem.W.Frag) (C : Addr) : Sp := fun vs H Q _ => ∃ (b : Int) (x : V) (o : Option (List V)), vs = [.int b, x] ∧ Tg K C H x o ∧ ∀ H', Same H H' → Q (.bl (ascOf b o)) H'
theorem asc_lc {a p D : Addr} {ns : List Int} {H2 : Hp} {b : Int} {Qd : Hp → Prop} (hD : H2 D = none) (hx : SqT K H2 a (ns.map V.int)) (hy : SqT K H2 p ((ns.map V.int).drop 1)) (hz : ns.length ≤ 100000)
    (hd : ∀ H', Same H2 H' → H' D = some (.lst (((ns.map V.int).zip ((ns.map V.int).drop 1)).map fun q => V.bl (ltV q.1 q.2))) → Qd H') :
    ∃ W : Nat → Nat → Hp → Prop, (∃ m, W 0 m (upd H2 D (.lst []))) ∧ ∀ i m H, W i m H →
      ((RZ.ItzT K a p).stop i H ∧ Qd H) ∨ ((RZ.ItzT K a p).go i H ∧ ∃ Nx : Hp → Prop, (∀ H', Nx H' → ∃ m', m' < m ∧ W (i + 1) m' H') ∧ ∀ x H', (RZ.ItzT K a p).yld i H x H' → (gTup K 2 (gCons (gName 2) (gCons (gName 3) gNil))) x (wipe [some (.int b), some (.ref a), none, none] [2, 3]) H' fun σ2 H2 => wipe σ2 [2, 3] = wipe [some (.int b), some (.ref a), none, none] [2, 3] ∧ tYes σ2 H2 fun c H3 =>
        if c = true then (tOp (rI0 fun i j => V.bl (decide (i < j))) (tVar 2) (tVar 3)) σ2 H3 fun y H4 => ∃ acc, H4 D = some (.lst acc) ∧ acc.length < sizeLine ∧ Nx (upd H4 D (.lst (acc ++ [y]))) else Nx H3) := by
  refine lc_zipT (xs := ns.map V.int) (ys := (ns.map V.int).drop 1) (by rw [List.length_drop]; omega) (fun i H' => H' D = some (.lst ((((ns.map V.int).zip ((ns.map V.int).drop 1)).take i).map fun q => V.bl (ltV q.1 q.2))) ∧ Same H2 H') ⟨by rw [upd_same]; rfl, same_new hD⟩ (fun i H' _ q => ⟨sqT_same q.2 hx, sqT_same q.2 hy⟩) ?_ ?_
  · rintro i x y H3 T hxi hyi ⟨q1, q2⟩ hT
    have hDT : D ≠ T := ne_of_none q1 hT
    obtain ⟨u, rfl⟩ : ∃ u, x = V.int u := by
      rw [List.getElem?_map] at hxi
      cases e : ns[i]? with
      | none => rw [e] at hxi; cases hxi
      | some u => rw [e] at hxi; exact ⟨u, (Option.some.inj hxi).symm⟩
    obtain ⟨v, rfl⟩ : ∃ v, y = V.int v := by
      rw [List.getElem?_drop, List.getElem?_map] at hyi
      cases e : ns[1 + i]? with
      | none => rw [e] at hyi; cases hyi
      | some v => rw [e] at hyi; exact ⟨v, (Option.some.inj hyi).symm⟩
    have hzip : ((ns.map V.int).zip ((ns.map V.int).drop 1))[i]? = some (V.int u, V.int v) := List.getElem?_zip_eq_some.mpr ⟨hxi, hyi⟩
    refine ⟨T, [.int u, .int v], rfl, SqT.of upd_same, rfl, .int u, [.int v], rfl, .int v, [], rfl, rfl, rfl, _, rfl, _, rfl, u, v, rfl, rfl, _, by rw [upd_ne hDT]; exact q1, by rw [List.length_map]; exact small_lt (Nat.le_trans (List.length_take_le _ _) (by have := (List.getElem?_eq_some_iff.mp hxi).1; rw [List.length_map] at this; omega)), ?_, same_mut (q2.trans (same_new hT)) hD⟩
    rw [upd_same, List.take_add_one, hzip, List.map_append]
    rfl
  · rintro H3 ⟨q1, q2⟩
    refine hd H3 q2 ?_
    rw [q1, List.take_of_length_le]
    rw [List.length_zip]
    exact Nat.min_le_right _ _
theorem ok_is_ascending (A : At K mg "is_ascending" s_is_ascending ["bound", "thing"]) (T : Tx mg) (G_is_numbers : Dfn P w K mg base "is_numbers" ["bound", "thing"] 3 (spNumbers K C)) : Dfn P w K mg base "is_ascending" ["bound", "thing"] 4 (spAsc K C) := by
  refine A.ok sc_is_ascending (fun vs H Q E h => ?_) (fun f cdv A outer s H vs Q E hr h => ?_)
  · obtain ⟨b, x, o, rfl, _⟩ := h
    rfl
  · obtain ⟨b, x, o, rfl, hx, k⟩ := h
    refine ⟨_, (pss_one (ps_ret (pe_and (pe_d G_is_numbers (hr.mono (by decide)) (pa_cons (pv 0) (pa_cons (pv 1) pa_nil))) (pe_one (pe_callB (cr_all rfl) (by rfl) T.all (by decide +kernel) (pa_cons (pe_lc (own := [("low", 2), ("high", 3)]) (g := (gTup K 2 (gCons (gName 2) (gCons (gName 3) gNil)))) (tt := tYes) (te := (tOp (rI0 fun i j => V.bl (decide (i < j))) (tVar 2) (tVar 3))) (by rfl) sc_is_ascending.nd (RZ.pi_zipA (by rfl) T.zip (pa_cons (pv 1) (pa_cons (pe_slice sl_tupA (pv 1) (po_some pe_int) po_none) pa_nil))) (blkOk_by (own := [("low", 2), ("high", 3)]) (N := n_is_ascending) (sc := (defScope s_is_ascending)) (by decide +kernel)) (fun _ _ _ _ _ => (pg_tup rfl (pgs_cons (pg_name (i := 2) sc_is_ascending.nd rfl (Or.inl rfl)) (pgs_cons (pg_name (i := 3) sc_is_ascending.nd rfl (Or.inl rfl)) pgs_nil)))) (fun _ _ _ _ _ => pts_nil) (fun _ _ _ _ _ => (pe_cmpR op_lt (pv 2) (pv 3) (nomark _)))) pa_nil)))))), ?_⟩
    refine ⟨_, rfl, _, rfl, b, x, o, rfl, hx, fun H1 s1 => ⟨_, rfl, ?_⟩⟩
    cases hx with
    | no ty hk => exact k H1 s1
    | @tup a xs hq hi hz =>
      have kk : ∀ H', Same H H' → Q (.bl (ascV b xs)) H' := k
      show if xs.all (numV b) = true then _ else _
      cases hn : xs.all (numV b) with
      | false =>
        have e : ascV b xs = false := by rw [ascV_eq, hn]; rfl
        rw [e] at kk
        exact kk H1 s1
      | true =>
        obtain ⟨ns, rfl, hb⟩ := all_num_ints hn
        have hq1 := sqT_same s1 hq
        have cut : cutV (ns.map V.int) (some 1) none = (ns.map V.int).drop 1 := by
          unfold cutV
          rw [show HT.sIx (ns.map V.int).length 0 (some 1) = min 1 (ns.map V.int).length from HT.sIx_nat _ 0 1, HT.sIx_none]
          cases ns with
          | nil => rfl
          | cons x r =>
            rw [show min 1 ((x :: r).map V.int).length = 1 by rw [List.map_cons, List.length_cons]; omega]
            show List.take (((x :: r).map V.int).length - 1) (r.map V.int) = r.map V.int
            rw [List.map_cons, List.length_cons, Nat.add_sub_cancel]
            exact List.take_length
        have kk2 : ∀ (D : Addr) (H' : Hp), Same H H' → H' D = some (.lst (((ns.map V.int).zip ((ns.map V.int).drop 1)).map fun q => V.bl (ltV q.1 q.2))) → ∃ (a : Addr) (bs : List Bool), [V.ref D] = [V.ref a] ∧ SqL K H' a (bs.map V.bl) ∧ Q (.bl (bs.all id)) H' := fun D H' s2 hD => by
          refine ⟨D, ((ns.map V.int).zip ((ns.map V.int).drop 1)).map fun q => ltV q.1 q.2, rfl, SqL.of (by rw [hD, List.map_map]; rfl), ?_⟩
          have e : ((((ns.map V.int).zip ((ns.map V.int).drop 1)).map fun q => ltV q.1 q.2).all id) = ascV b (ns.map V.int) := by
            rw [ascV_eq, hn, Bool.true_and, List.all_map]
            rfl
          rw [e]
          exact kk H' s2
        have nz : ns.length ≤ 100000 := by rw [List.length_map] at hz; exact hz
        refine ⟨_, rfl, _, rfl, 1, rfl, a, ns.map V.int, rfl, hq1, fun hw => ?_, fun hw p hp => ?_⟩
        · have e0 : ns = [] := by
            cases ns with
            | nil => rfl
            | cons x r =>
              have h1 := hw.1
              rw [show HT.sIx ((x :: r).map V.int).length 0 (some 1) = min 1 ((x :: r).map V.int).length from HT.sIx_nat _ 0 1, List.map_cons, List.length_cons] at h1
              omega
          have hy : SqT K H1 a ((ns.map V.int).drop 1) := by rw [e0] at hq1 ⊢; exact hq1
          exact ⟨a, a, _, _, rfl, .inr ⟨hq1, hy, fun D hD => asc_lc hD hq1 hy nz fun H' s2 q => kk2 D H' (s1.trans s2) q⟩⟩
        · rw [cut]
          have hx2 := sqT_same (same_new (o := .tup ((ns.map V.int).drop 1)) hp) hq1
          exact ⟨a, p, _, _, rfl, .inr ⟨hx2, SqT.of upd_same, fun D hD => asc_lc hD hx2 (SqT.of upd_same) nz fun H' s2 q => kk2 D H' ((s1.trans (same_new hp)).trans s2) q⟩⟩
/-! ### the class -/
def spCheck (K : PySem.W.Frag) : Sp := fun vs H Q _ => ∃ (v : V) (rows : List (List Int)), vs = [v] ∧ Good rows ∧ rows.length ≤ 12 ∧ RowsAt K H v rows ∧ ∀ H', Same H H' → Q .non H'
theorem ok_check (A : At K mg "_check_rows" s_check_rows ["rows"]) (T : Tx mg) {tk : Tok} (hMR : mg "MOST_ROWS" = some (.int 12 tk)) (G_is_ascending : Dfn P w K mg base "is_ascending" ["bound", "thing"] 4 (spAsc K C)) : Dfn P w K mg base "_check_rows" ["rows"] 5 (spCheck K) := by
  refine A.ok sc_check_rows (fun vs H Q E h => ?_) (fun f cdv A outer s H vs Q E hr h => ?_)
  · obtain ⟨v, rows, rfl, _⟩ := h
    rfl
  · obtain ⟨v, rows, rfl, hG, hl, ⟨a, vs, rfl, ha, hrs⟩, k⟩ := h
    have vl := hrs.len
    have hp := hG.pos
    refine ⟨_, (pss_cons (ps_if (PW.pt (pw_or (pt_not (pt_val (pe_callB call_isi (by rfl) T.isinstance (by decide +kernel) (pa_cons (pv 0) (pa_cons (pe_bltn (v := V.ty "tuple") (by rfl) T.tuple (by decide +kernel) rfl) pa_nil))))) (pw_or1 (pt_not (pt_chain op_le op_le pe_int (pe_callB c_len (by rfl) T.len (by decide +kernel) (pa_cons (pv 0) pa_nil)) (pe_glob (v := V.int 12) (by rfl) hMR ⟨_, rfl⟩)))))) (pss_one ps_never) pss_nil)
      (pss_one (ps_for PassesOwn.never rfl (pi_enumT (by rfl) T.enumerate (pa_cons (pv 0) pa_nil)) (pg_tup rfl (pgs_cons (pg_name (i := 1) sc_check_rows.nd rfl (Or.inl rfl)) (pgs_cons (pg_name (i := 2) sc_check_rows.nd rfl (Or.inl rfl)) pgs_nil)))
      (pss_one (ps_if (pt_not (pt_val (pe_d G_is_ascending (hr.mono (by decide)) (pa_cons (pe_callB c_len (by rfl) T.len (by decide +kernel) (pa_cons (pv 0) pa_nil)) (pa_cons (pv 2) pa_nil))))) (pss_one ps_never) pss_nil))))), ?_⟩
    refine ⟨_, rfl, .ref a, .ty "tuple", _, .type "tuple", true, rfl, .ty "tuple", tyX_sqT ha, kit_ty (by decide +kernel), true, rfl, ?_⟩
    refine ⟨_, rfl, a, vs, rfl, .inr ha, 1, _, rfl, rfl, _, rfl, ?_⟩
    have d1 : decide ((1 : Int) ≤ (vs.length : Nat)) = true := decide_eq_true (by omega)
    have d2 : decide (((vs.length : Nat) : Int) ≤ 12) = true := decide_eq_true (by omega)
    rw [d1]
    refine ⟨_, 12, rfl, rfl, ?_⟩
    refine ⟨_, rfl, ?_⟩
    rw [d2]
    refine ⟨_, rfl, a, vs, rfl, ha, for_enumT (xs := vs) (fun i σ' H' => ∃ x1 x2, σ' = [some (.ref a), x1, x2] ∧ Same H H') ⟨_, _, rfl, Same.refl H⟩ (fun i σ' H' _ ⟨_, _, _, s⟩ => sqT_same s ha) ?_ ?_⟩
    · rintro i x σ' H' T' hx ⟨x1, x2, rfl, s1⟩ hT
      obtain ⟨r, hr1, hr2⟩ : ∃ r, rows[i]? = some r ∧ ∃ q, x = .ref q ∧ SqT K H q (r.map V.int) := by
        have hi : i < rows.length := by rw [← vl]; exact (List.getElem?_eq_some_iff.mp hx).1
        obtain ⟨q, e, h⟩ := hrs.get (List.getElem?_eq_getElem hi)
        rw [hx] at e
        exact ⟨_, List.getElem?_eq_getElem hi, q, Option.some.inj e, h⟩
      obtain ⟨q, rfl, hq⟩ := hr2
      have s2 : Same H (upd H' T' (.tup [.int (i : Nat), .ref q])) := s1.trans (same_new hT)
      have hm := List.mem_of_getElem? hr1
      refine ⟨T', _, rfl, SqT.of upd_same, rfl, _, _, rfl, _, _, rfl, rfl, ?_⟩
      have rl := row_len (hG.asc _ hm) (hG.rng _ hm)
      refine ⟨_, rfl, a, vs, rfl, .inr (sqT_same s2 ha), _, rfl, _, _, _, rfl, Tg.ints (sqT_same s2 hq) (by omega), fun H3 s3 => ⟨_, rfl, ?_⟩⟩
      have e : ascOf ((vs.length : Nat) : Int) (some (r.map V.int)) = true := ascV_ints (hG.asc _ hm) fun x hx => by rw [vl]; exact hG.rng _ hm x hx
      rw [e]
      exact ⟨_, _, rfl, s2.trans s3⟩
    · rintro σ' H' ⟨x1, x2, rfl, s1⟩
      exact k H' s1
theorem ok_init {f : Addr} {fd : FuncData} (F : Fun K "__init__" "Table.__init__" s_Table___init f fd) (T : Tx mg) (tc : TC K C) (G_check_rows : Dfn P w K mg base "_check_rows" ["rows"] 5 (spCheck K)) : FnOk P w K mg base CX0 6 f fd ["self", "rows"] (spInit K C) := by
  refine F.ok sc_Table___init (fun vs H Q E h => ?_) (fun cdv A outer s H vs Q E hr h => ?_)
  · obtain ⟨p, dx, v, rows, rfl, _⟩ := h
    rfl
  · obtain ⟨p, dx, v, rows, rfl, hp, hG, hl, hR, k⟩ := h
    refine ⟨_, (pss_cons (ps_expr (pe_d G_check_rows (hr.mono (by decide)) (pa_cons (pv 1) pa_nil)))
      (pss_cons (ps_fld (pv 0) (pv 1) rfl)
      (pss_one (ps_fld (pv 0) (pe_callB c_len (by rfl) T.len (by decide +kernel) (pa_cons (pv 1) pa_nil)) rfl)))), ?_⟩
    refine ⟨_, rfl, v, rows, rfl, hG, hl, hR, fun H1 s1 => ?_⟩
    obtain ⟨a, vs, rfl, ha, hrs⟩ := hR.same s1
    have hp1 := s1 _ _ hp
    refine ⟨_, rfl, _, rfl, p, C, dx, [], rfl, hp1, tc.cl, tc.nR, by decide, ?_⟩
    have ha2 : SqT K (upd H1 p (.ins C dx (putF "rows" (.ref a) []))) a vs := sqT_ins ha hp1 fun b o n e => by rw [upd_ne n]; exact e
    refine ⟨_, rfl, a, vs, rfl, .inr ha2, _, rfl, p, C, dx, _, rfl, upd_same, tc.cl, tc.nS, by show 1 < 1000; decide, ?_⟩
    refine k _ (fun b o n e => ?_) ?_
    · rw [upd_ne n, upd_ne n]
      exact s1 _ _ e
    · rw [upd_same, hrs.len]
      rfl
theorem ok_eq {f : Addr} {fd : FuncData} (F : Fun K "__eq__" "Table.__eq__" s_Table___eq f fd) (T : Tx mg) (tc : TC K C) (hC : mg "Table" = some (.ref C)) : FnOk P w K mg base CX0 1 f fd ["self", "other"] (spEqT K C) := by
  refine F.ok sc_Table___eq (fun vs H Q E h => ?_) (fun cdv A outer s H vs Q E hr h => ?_)
  · obtain ⟨x, y, r1, r2, rfl, _⟩ := h
    rfl
  · obtain ⟨x, y, r1, r2, rfl, hx, hy, k⟩ := h
    refine ⟨_, (pss_one (ps_ret (pe_and (pe_callB call_isi (by rfl) T.isinstance (by decide +kernel) (pa_cons (pv 1) (pa_cons (pe_glob (v := V.ref C) (by rfl) hC rfl) pa_nil))) (pe_one (pe_cmpR (op_eqD hr.units) (pe_fld (pv 0) rfl) (pe_fld (pv 1) rfl) (nomark _)))))), ?_⟩
    have ty := hy.tyx tc
    obtain ⟨p, dx, v, rfl, hp, hR⟩ := hx
    obtain ⟨q, dy, u, rfl, hq, hS⟩ := hy
    refine ⟨_, rfl, _, .ref C, .ref C, .ref C, true, rfl, .own C, ty, by simp [PySem.W.kitOne], true, rfl, ?_⟩
    refine ⟨_, rfl, p, C, dx, _, v, rfl, hp, tc.cl, tc.nR, tf_rows _ _, _, rfl, q, C, dy, _, u, rfl, hq, tc.cl, tc.nR, tf_rows _ _, dR r1, dR r2, hR.dp, hS.dp, sh_R r1, sh_R r2, ?_⟩
    rw [eqv_R]
    exact k H (Same.refl H)
end
end Fo

set_option maxRecDepth 100000
set_option maxHeartbeats 2000000
/-! What is a list or a tuple: walked, indexed. -/
namespace Fo
open PySem PySem.Spec PyProof.Rows L2
def Sq (b : Bool) (K : PySem.W.Frag) (H : Hp) (a : Addr) (xs : List V) : Prop := match b with
  | true => SqL K H a xs
  | false => SqT K H a xs
theorem Sq.same {b : Bool} {K : PySem.W.Frag} {H H' : Hp} {a : Addr} {xs : List V} (h : Sq b K H a xs) (e : Same H H') : Sq b K H' a xs := by
  cases b with
  | true => exact e.seq h
  | false => exact sqT_same e h
theorem Sq.or {b : Bool} {K : PySem.W.Frag} {H : Hp} {a : Addr} {xs : List V} (h : Sq b K H a xs) : SqL K H a xs ∨ SqT K H a xs := by
  cases b with
  | true => exact .inl h
  | false => exact .inr h
def iAlt (w1 w2 : TI) : TI := fun σ H R => w1 σ H R ∨ w2 σ H R
def rAlt (r1 r2 : R2) : R2 := fun x y H Q => r1 x y H Q ∨ r2 x y H Q
section
variable {X : Cx}
theorem pi_alt {tg e : Expr} {w1 w2 : TI} (h1 : PI X tg e w1) (h2 : PI X tg e w2) : PI X tg e (iAlt w1 w2) := ⟨fun pins s σ H R I h => h.elim (h1.run pins s σ H R I) (h2.run pins s σ H R I)⟩
theorem ix_sq : IxR X (rAlt (rIxL X.K) (rIxT X.K)) := by
  intro ev es pins s σ H x y v u Q I rx ry h pl
  rcases h with h | h
  · exact ix_list ev es pins s σ H x y v u Q I rx ry h pl
  · exact ix_tup ev es pins s σ H x y v u Q I rx ry h pl
end
section
variable {K : PySem.W.Frag}
def ItS (b : Bool) (K : PySem.W.Frag) (a : Addr) : It := match b with
  | true => Itl K a
  | false => Itt K a
def ItES (b : Bool) (K : PySem.W.Frag) (a : Addr) : It := match b with
  | true => Ite K a
  | false => IteT K a
theorem alt_it {b : Bool} {a : Addr} {te : TE} {σ : L2.St} {H H1 : Hp} {R : It → Hp → Prop} {xs : List V} (ht : ∀ Q : VK, Q (.ref a) H1 → te σ H Q) (hq : Sq b K H1 a xs) (hR : R (ItS b K a) H1) : iAlt (iList K te) (iTup K te) σ H R := by
  cases b with
  | true => exact .inl (ht _ ⟨a, rfl, ⟨xs, hq⟩, hR⟩)
  | false => exact .inr (ht _ ⟨a, rfl, ⟨xs, hq⟩, hR⟩)
theorem alt_en {b : Bool} {a : Addr} {ta : TA} {σ : L2.St} {H H1 : Hp} {R : It → Hp → Prop} {xs : List V} (ht : ∀ Q : List V → Hp → Prop, Q [.ref a] H1 → ta σ H Q) (hq : Sq b K H1 a xs) (hR : R (ItES b K a) H1) : iAlt (iEnum K ta) (iEnumT K ta) σ H R := by
  cases b with
  | true => exact .inl (ht _ ⟨a, xs, rfl, hq, hR⟩)
  | false => exact .inr (ht _ ⟨a, xs, rfl, hq, hR⟩)
theorem alt_ix {b : Bool} {a : Addr} {i : Int} {v : V} {H : Hp} {Q : VK} {xs : List V} (hq : Sq b K H a xs) (h : atI xs i = some v) (q : Q v H) : rAlt (rIxL K) (rIxT K) (.ref a) (.int i) H Q := by
  cases b with
  | true => exact .inl ⟨a, xs, i, v, rfl, rfl, hq, h, q⟩
  | false => exact .inr ⟨a, xs, i, v, rfl, rfl, hq, h, q⟩
theorem for_sq {b : Bool} {a : Addr} {xs : List V} {g : TG} {tb : TS} {D : Ends} {σ : L2.St} {H : Hp} (Pv : Nat → L2.St → Hp → Prop) (h0 : Pv 0 σ H) (hl : ∀ i σ H, i ≤ xs.length → Pv i σ H → Sq b K H a xs)
    (hs : ∀ i x σ H, xs[i]? = some x → Pv i σ H → g x σ H fun σ2 H2 => tb { D with nx := Pv (i + 1), ct := Pv (i + 1), bk := D.nx } σ2 H2) (hd : ∀ σ H, Pv xs.length σ H → D.nx σ H) :
    ∃ W : Nat → Nat → L2.St → Hp → Prop, (∃ m, W 0 m σ H) ∧ ∀ i m σ H, W i m σ H →
      ((ItS b K a).stop i H ∧ D.nx σ H) ∨ ((ItS b K a).go i H ∧ ∃ N : L2.St → Hp → Prop, (∀ σ' H', N σ' H' → ∃ m', m' < m ∧ W (i + 1) m' σ' H') ∧ ∀ x H', (ItS b K a).yld i H x H' → g x σ H' fun σ2 H2 => tb { D with nx := N, ct := N, bk := D.nx } σ2 H2) := by
  cases b with
  | true => exact for_list Pv h0 hl hs hd
  | false => exact for_tup Pv h0 hl hs hd
theorem lc_sq {b : Bool} {a : Addr} {xs : List V} {g : TG} {tt : TT} {te : TE} {vs : List Nat} {σ : L2.St} {H1 : Hp} {D : Addr} {Qd : Hp → Prop} (Pv : Nat → Hp → Prop) (h0 : Pv 0 (upd H1 D (.lst []))) (hl : ∀ i H, i ≤ xs.length → Pv i H → Sq b K H a xs)
    (hs : ∀ i x H, xs[i]? = some x → Pv i H → g x (wipe σ vs) H fun σ2 H2 => wipe σ2 vs = wipe σ vs ∧ tt σ2 H2 fun c H3 =>
      if c = true then te σ2 H3 fun y H4 => ∃ acc, H4 D = some (.lst acc) ∧ acc.length < sizeLine ∧ Pv (i + 1) (upd H4 D (.lst (acc ++ [y]))) else Pv (i + 1) H3) (hd : ∀ H, Pv xs.length H → Qd H) :
    ∃ W : Nat → Nat → Hp → Prop, (∃ m, W 0 m (upd H1 D (.lst []))) ∧ ∀ i m H, W i m H →
      ((ItS b K a).stop i H ∧ Qd H) ∨ ((ItS b K a).go i H ∧ ∃ Nx : Hp → Prop, (∀ H', Nx H' → ∃ m', m' < m ∧ W (i + 1) m' H') ∧ ∀ x H', (ItS b K a).yld i H x H' → g x (wipe σ vs) H' fun σ2 H2 => wipe σ2 vs = wipe σ vs ∧ tt σ2 H2 fun c H3 =>
        if c = true then te σ2 H3 fun y H4 => ∃ acc, H4 D = some (.lst acc) ∧ acc.length < sizeLine ∧ Nx (upd H4 D (.lst (acc ++ [y]))) else Nx H3) := by
  cases b with
  | true => exact lc_list Pv h0 hl hs hd
  | false => exact lc_tup Pv h0 hl hs hd
/-! lists counted -/
theorem for_enumL {a : Addr} {xs : List V} {g : TG} {tb : TS} {D : Ends} {σ : L2.St} {H : Hp} (Pv : Nat → L2.St → Hp → Prop) (h0 : Pv 0 σ H) (hl : ∀ i σ H, i ≤ xs.length → Pv i σ H → SqL K H a xs)
    (hs : ∀ i x σ H T, xs[i]? = some x → Pv i σ H → H T = none → g (.ref T) σ (upd H T (.tup [.int (i : Nat), x])) fun σ2 H2 => tb { D with nx := Pv (i + 1), ct := Pv (i + 1), bk := D.nx } σ2 H2) (hd : ∀ σ H, Pv xs.length σ H → D.nx σ H) :
    ∃ W : Nat → Nat → L2.St → Hp → Prop, (∃ m, W 0 m σ H) ∧ ∀ i m σ H, W i m σ H →
      ((Ite K a).stop i H ∧ D.nx σ H) ∨ ((Ite K a).go i H ∧ ∃ N : L2.St → Hp → Prop, (∀ σ' H', N σ' H' → ∃ m', m' < m ∧ W (i + 1) m' σ' H') ∧ ∀ x H', (Ite K a).yld i H x H' → g x σ H' fun σ2 H2 => tb { D with nx := N, ct := N, bk := D.nx } σ2 H2) := by
  refine ⟨fun i m σ H => m = xs.length - i ∧ i ≤ xs.length ∧ Pv i σ H, ⟨xs.length, by simp, Nat.zero_le _, h0⟩, ?_⟩
  rintro i m σ H ⟨rfl, hi, p⟩
  have q := hl i σ H hi p
  by_cases hlt : i < xs.length
  · refine .inr ⟨⟨xs, xs[i], q, by simp [hlt]⟩, Pv (i + 1), fun σ' H' p' => ⟨xs.length - (i + 1), by omega, rfl, hlt, p'⟩, fun x H' y => ?_⟩
    obtain ⟨T, x', rfl, nT, rfl, y⟩ := y
    exact hs i x' σ H T (y xs q) p nT
  · have e : i = xs.length := by omega
    subst e
    exact .inl ⟨⟨xs, q, Nat.le_refl _⟩, hd σ H p⟩
theorem lc_enumL {a : Addr} {xs : List V} {g : TG} {tt : TT} {te : TE} {vs : List Nat} {σ : L2.St} {H1 : Hp} {D : Addr} {Qd : Hp → Prop} (Pv : Nat → Hp → Prop) (h0 : Pv 0 (upd H1 D (.lst []))) (hl : ∀ i H, i ≤ xs.length → Pv i H → SqL K H a xs)
    (hs : ∀ i x H T, xs[i]? = some x → Pv i H → H T = none → g (.ref T) (wipe σ vs) (upd H T (.tup [.int (i : Nat), x])) fun σ2 H2 => wipe σ2 vs = wipe σ vs ∧ tt σ2 H2 fun b H3 =>
      if b = true then te σ2 H3 fun y H4 => ∃ acc, H4 D = some (.lst acc) ∧ acc.length < sizeLine ∧ Pv (i + 1) (upd H4 D (.lst (acc ++ [y]))) else Pv (i + 1) H3) (hd : ∀ H, Pv xs.length H → Qd H) :
    ∃ W : Nat → Nat → Hp → Prop, (∃ m, W 0 m (upd H1 D (.lst []))) ∧ ∀ i m H, W i m H →
      ((Ite K a).stop i H ∧ Qd H) ∨ ((Ite K a).go i H ∧ ∃ Nx : Hp → Prop, (∀ H', Nx H' → ∃ m', m' < m ∧ W (i + 1) m' H') ∧ ∀ x H', (Ite K a).yld i H x H' → g x (wipe σ vs) H' fun σ2 H2 => wipe σ2 vs = wipe σ vs ∧ tt σ2 H2 fun b H3 =>
        if b = true then te σ2 H3 fun y H4 => ∃ acc, H4 D = some (.lst acc) ∧ acc.length < sizeLine ∧ Nx (upd H4 D (.lst (acc ++ [y]))) else Nx H3) := by
  refine ⟨fun i m H => m = xs.length - i ∧ i ≤ xs.length ∧ Pv i H, ⟨xs.length, by simp, Nat.zero_le _, h0⟩, ?_⟩
  rintro i m H ⟨rfl, hi, p⟩
  have q := hl i H hi p
  by_cases hlt : i < xs.length
  · refine .inr ⟨⟨xs, xs[i], q, by simp [hlt]⟩, Pv (i + 1), fun H' p' => ⟨xs.length - (i + 1), by omega, rfl, hlt, p'⟩, fun x H' y => ?_⟩
    obtain ⟨T, x', rfl, nT, rfl, y⟩ := y
    exact hs i x' H T (y xs q) p nT
  · have e : i = xs.length := by omega
    subst e
    exact .inl ⟨⟨xs, q, Nat.le_refl _⟩, hd H p⟩
theorem for_enS {b : Bool} {a : Addr} {xs : List V} {g : TG} {tb : TS} {D : Ends} {σ : L2.St} {H : Hp} (Pv : Nat → L2.St → Hp → Prop) (h0 : Pv 0 σ H) (hl : ∀ i σ H, i ≤ xs.length → Pv i σ H → Sq b K H a xs)
    (hs : ∀ i x σ H T, xs[i]? = some x → Pv i σ H → H T = none → g (.ref T) σ (upd H T (.tup [.int (i : Nat), x])) fun σ2 H2 => tb { D with nx := Pv (i + 1), ct := Pv (i + 1), bk := D.nx } σ2 H2) (hd : ∀ σ H, Pv xs.length σ H → D.nx σ H) :
    ∃ W : Nat → Nat → L2.St → Hp → Prop, (∃ m, W 0 m σ H) ∧ ∀ i m σ H, W i m σ H →
      ((ItES b K a).stop i H ∧ D.nx σ H) ∨ ((ItES b K a).go i H ∧ ∃ N : L2.St → Hp → Prop, (∀ σ' H', N σ' H' → ∃ m', m' < m ∧ W (i + 1) m' σ' H') ∧ ∀ x H', (ItES b K a).yld i H x H' → g x σ H' fun σ2 H2 => tb { D with nx := N, ct := N, bk := D.nx } σ2 H2) := by
  cases b with
  | true => exact for_enumL Pv h0 hl hs hd
  | false => exact for_enumT Pv h0 hl hs hd
theorem lc_enS {b : Bool} {a : Addr} {xs : List V} {g : TG} {tt : TT} {te : TE} {vs : List Nat} {σ : L2.St} {H1 : Hp} {D : Addr} {Qd : Hp → Prop} (Pv : Nat → Hp → Prop) (h0 : Pv 0 (upd H1 D (.lst []))) (hl : ∀ i H, i ≤ xs.length → Pv i H → Sq b K H a xs)
    (hs : ∀ i x H T, xs[i]? = some x → Pv i H → H T = none → g (.ref T) (wipe σ vs) (upd H T (.tup [.int (i : Nat), x])) fun σ2 H2 => wipe σ2 vs = wipe σ vs ∧ tt σ2 H2 fun c H3 =>
      if c = true then te σ2 H3 fun y H4 => ∃ acc, H4 D = some (.lst acc) ∧ acc.length < sizeLine ∧ Pv (i + 1) (upd H4 D (.lst (acc ++ [y]))) else Pv (i + 1) H3) (hd : ∀ H, Pv xs.length H → Qd H) :
    ∃ W : Nat → Nat → Hp → Prop, (∃ m, W 0 m (upd H1 D (.lst []))) ∧ ∀ i m H, W i m H →
      ((ItES b K a).stop i H ∧ Qd H) ∨ ((ItES b K a).go i H ∧ ∃ Nx : Hp → Prop, (∀ H', Nx H' → ∃ m', m' < m ∧ W (i + 1) m' H') ∧ ∀ x H', (ItES b K a).yld i H x H' → g x (wipe σ vs) H' fun σ2 H2 => wipe σ2 vs = wipe σ vs ∧ tt σ2 H2 fun c H3 =>
        if c = true then te σ2 H3 fun y H4 => ∃ acc, H4 D = some (.lst acc) ∧ acc.length < sizeLine ∧ Nx (upd H4 D (.lst (acc ++ [y]))) else Nx H3) := by
  cases b with
  | true => exact lc_enumL Pv h0 hl hs hd
  | false => exact lc_enumT Pv h0 hl hs hd
end
/-! ### rows of either kind: tuples of tuples, or lists of lists -/
inductive RowsB (b : Bool) (K : PySem.W.Frag) (H : Hp) : List V → List (List Int) → Prop
  | nil : RowsB b K H [] []
  | cons {a : Addr} {vs : List V} {r : List Int} {rs : List (List Int)} : Sq b K H a (r.map V.int) → RowsB b K H vs rs → RowsB b K H (.ref a :: vs) (r :: rs)
theorem RowsB.same {b : Bool} {K : PySem.W.Frag} {H H' : Hp} (g : Same H H') : ∀ {vs : List V} {rs : List (List Int)}, RowsB b K H vs rs → RowsB b K H' vs rs
  | _, _, .nil => .nil
  | _, _, .cons h r => .cons (h.same g) (r.same g)
theorem RowsB.len {b : Bool} {K : PySem.W.Frag} {H : Hp} : ∀ {vs : List V} {rs : List (List Int)}, RowsB b K H vs rs → vs.length = rs.length
  | _, _, .nil => rfl
  | _, _, .cons _ r => by rw [List.length_cons, List.length_cons, r.len]
theorem RowsB.get {b : Bool} {K : PySem.W.Frag} {H : Hp} : ∀ {vs : List V} {rs : List (List Int)} {i : Nat} {v : V}, RowsB b K H vs rs → vs[i]? = some v → ∃ a r, v = .ref a ∧ rs[i]? = some r ∧ Sq b K H a (r.map V.int)
  | _, _, _, _, .nil, e => by simp at e
  | _, _, 0, v, .cons (a := a) (r := r) h _, e => by
    have e' : some (V.ref a) = some v := e
    cases e'
    exact ⟨a, r, rfl, rfl, h⟩
  | _, _, i + 1, v, .cons _ t, e => t.get (i := i) e
theorem RowsB.at_ {b : Bool} {K : PySem.W.Frag} {H : Hp} {vs : List V} {rs : List (List Int)} {i : Nat} {r : List Int} (h : RowsB b K H vs rs) (e : rs[i]? = some r) : ∃ a, vs[i]? = some (.ref a) ∧ Sq b K H a (r.map V.int) := by
  have hi : i < vs.length := by rw [h.len]; exact (List.getElem?_eq_some_iff.mp e).1
  obtain ⟨a, r', e1, e2, e3⟩ := h.get (List.getElem?_eq_getElem hi)
  rw [e] at e2
  cases e2
  exact ⟨a, by rw [List.getElem?_eq_getElem hi, e1], e3⟩
theorem RowsB.snoc {b : Bool} {K : PySem.W.Frag} {H : Hp} {a : Addr} {r : List Int} (h : Sq b K H a (r.map V.int)) : ∀ {vs : List V} {rs : List (List Int)}, RowsB b K H vs rs → RowsB b K H (vs ++ [.ref a]) (rs ++ [r])
  | _, _, .nil => .cons h .nil
  | _, _, .cons q t => .cons q (t.snoc h)
def RowsQ (b : Bool) (K : PySem.W.Frag) (H : Hp) (v : V) (rows : List (List Int)) : Prop := ∃ a vs, v = .ref a ∧ Sq b K H a vs ∧ RowsB b K H vs rows
theorem RowsQ.same {b : Bool} {K : PySem.W.Frag} {H H' : Hp} {v : V} {rows : List (List Int)} (h : RowsQ b K H v rows) (g : Same H H') : RowsQ b K H' v rows := by
  obtain ⟨a, vs, e, h1, h2⟩ := h
  exact ⟨a, vs, e, h1.same g, h2.same g⟩
theorem rowsB_T {K : PySem.W.Frag} {H : Hp} : ∀ {vs : List V} {rs : List (List Int)}, RowsT K H vs rs → RowsB false K H vs rs
  | _, _, .nil => .nil
  | _, _, .cons h r => .cons h (rowsB_T r)
theorem RowsAt.q {K : PySem.W.Frag} {H : Hp} {v : V} {rows : List (List Int)} (h : RowsAt K H v rows) : RowsQ false K H v rows := by
  obtain ⟨a, vs, e, h1, h2⟩ := h
  exact ⟨a, vs, e, h1, rowsB_T h2⟩
end Fo

set_option maxRecDepth 100000
set_option maxHeartbeats 1000000
/-! Matching: who can all get something at once. The mathematics alone, over lists and functions. -/
namespace Mt
open Classical
abbrev Rows := List (List Int)
def row (rows : Rows) (p : Nat) : List Int := rows[p]?.getD []
theorem row_lt {rows : Rows} {p : Nat} {t : Int} (h : t ∈ row rows p) : p < rows.length := by
  unfold row at h
  cases e : rows[p]? with
  | none => rw [e] at h; cases h
  | some r => exact (List.getElem?_eq_some_iff.mp e).1
theorem row_get {rows : Rows} {p : Nat} {r : List Int} (h : rows[p]? = some r) : row rows p = r := by
  unfold row
  rw [h]
  rfl
def fset {α β : Type} [DecidableEq α] (f : α → β) (a : α) (b : β) : α → β := fun x => if x = a then b else f x
theorem fset_same {α β : Type} [DecidableEq α] {f : α → β} {a : α} {b : β} : fset f a b a = b := if_pos rfl
theorem fset_ne {α β : Type} [DecidableEq α] {f : α → β} {a x : α} {b : β} (h : x ≠ a) : fset f a b x = f x := if_neg h
/-! counting -/
theorem len_le {α : Type} [DecidableEq α] : ∀ {l1 l2 : List α}, l1.Nodup → (∀ x ∈ l1, x ∈ l2) → l1.length ≤ l2.length
  | [], _, _, _ => Nat.zero_le _
  | x :: l1, l2, hn, hs => by
    have hx := hs x List.mem_cons_self
    have h2 := List.nodup_cons.mp hn
    have ih := len_le (l1 := l1) (l2 := l2.erase x) h2.2 fun y hy => (List.mem_erase_of_ne (fun (e : y = x) => h2.1 (e ▸ hy))).mpr (hs y (List.mem_cons_of_mem _ hy))
    rw [List.length_erase_of_mem hx] at ih
    have : 0 < l2.length := List.length_pos_of_mem hx
    rw [List.length_cons]
    omega
theorem all_in {α : Type} [DecidableEq α] {l1 l2 : List α} (hn : l1.Nodup) (hs : ∀ x ∈ l1, x ∈ l2) (hl : l2.length ≤ l1.length) : ∀ y ∈ l2, y ∈ l1 := by
  intro y hy
  refine Classical.byContradiction fun hc => ?_
  have h := len_le (l2 := l2.erase y) hn fun x hx => (List.mem_erase_of_ne (fun (e : x = y) => hc (e ▸ hx))).mpr (hs x hx)
  rw [List.length_erase_of_mem hy] at h
  have : 0 < l2.length := List.length_pos_of_mem hy
  omega
theorem nodup_map {α β : Type} {f : α → β} : ∀ {l : List α}, l.Nodup → (∀ x ∈ l, ∀ y ∈ l, f x = f y → x = y) → (l.map f).Nodup
  | [], _, _ => List.nodup_nil
  | x :: l, hn, hi => by
    have h2 := List.nodup_cons.mp hn
    rw [List.map_cons, List.nodup_cons]
    refine ⟨fun hm => ?_, nodup_map h2.2 fun a ha b hb => hi a (List.mem_cons_of_mem _ ha) b (List.mem_cons_of_mem _ hb)⟩
    obtain ⟨y, hy, e⟩ := List.mem_map.mp hm
    have := hi y (List.mem_cons_of_mem _ hy) x List.mem_cons_self e
    exact h2.1 (this ▸ hy)
/-- no map into itself that is one to one leaves one out -/
theorem no_room {n : Nat} {R : Nat → Prop} {f : Nat → Nat} {p : Nat} (hp : p < n) (hR : R p) (hf : ∀ x, x < n → R x → f x < n ∧ R (f x) ∧ f x ≠ p) (hi : ∀ x y, x < n → y < n → R x → R y → f x = f y → x = y) : False := by
  obtain ⟨L, eL⟩ : ∃ L, L = (List.range n).filter (fun x => decide (R x)) := ⟨_, rfl⟩
  have memL : ∀ x, x ∈ L ↔ x < n ∧ R x := fun x => by
    rw [eL, List.mem_filter, List.mem_range, decide_eq_true_iff]
  have nd : L.Nodup := by rw [eL]; exact List.Pairwise.filter _ List.nodup_range
  have nm : (L.map f).Nodup := nodup_map nd fun x hx y hy e => hi x y ((memL x).mp hx).1 ((memL y).mp hy).1 ((memL x).mp hx).2 ((memL y).mp hy).2 e
  have hs : ∀ y ∈ L.map f, y ∈ L.erase p := fun y hy => by
    obtain ⟨x, hx, rfl⟩ := List.mem_map.mp hy
    have h := (memL x).mp hx
    obtain ⟨a, b, c⟩ := hf x h.1 h.2
    exact (List.mem_erase_of_ne c).mpr ((memL _).mpr ⟨a, b⟩)
  have h := len_le nm hs
  have hpL : p ∈ L := (memL p).mpr ⟨hp, hR⟩
  rw [List.length_map, List.length_erase_of_mem hpL] at h
  have : 0 < L.length := List.length_pos_of_mem hpL
  omega
/-! dealings -/
structure Ds (rows : Rows) (D : List Int) : Prop where
  len : D.length = rows.length
  tie : ∀ (p : Nat) (t : Int), D[p]? = some t → t ∈ row rows p
  nd : D.Nodup
theorem Ds.get {rows : Rows} {D : List Int} (d : Ds rows D) {p : Nat} (h : p < rows.length) : ∃ t, D[p]? = some t ∧ t ∈ row rows p := by
  have h' : p < D.length := by rw [d.len]; exact h
  exact ⟨_, List.getElem?_eq_getElem h', d.tie p _ (List.getElem?_eq_getElem h')⟩
theorem nodup_get {α : Type} {l : List α} (h : l.Nodup) {i j : Nat} {x : α} (hi : l[i]? = some x) (hj : l[j]? = some x) : i = j := by
  have hi' := (List.getElem?_eq_some_iff.mp hi)
  have hj' := (List.getElem?_eq_some_iff.mp hj)
  obtain ⟨a, ea⟩ := hi'
  obtain ⟨b, eb⟩ := hj'
  refine Classical.byContradiction fun hc => ?_
  have pw := List.pairwise_iff_getElem.mp h
  rcases Nat.lt_or_gt_of_ne hc with z | z
  · exact pw i j a b z (ea.trans eb.symm)
  · exact pw j i b a z (eb.trans ea.symm)
/-! who holds what -/
structure MS where
  h : Nat → Option Int
  o : Int → Option Nat
structure Valid (rows : Rows) (m : MS) : Prop where
  inv : ∀ p t, m.h p = some t ↔ m.o t = some p
  tie : ∀ p t, m.h p = some t → t ∈ row rows p
def Closed (rows : Rows) (m : MS) (R : Nat → Prop) : Prop := ∀ q, R q → ∀ t ∈ row rows q, ∃ q', R q' ∧ m.h q' = some t
theorem Valid.inj {rows : Rows} {m : MS} (v : Valid rows m) {p q : Nat} {t : Int} (h1 : m.h p = some t) (h2 : m.h q = some t) : p = q := by
  have a := (v.inv p t).mp h1
  have b := (v.inv q t).mp h2
  rw [a] at b
  exact Option.some.inj b
theorem no_dealing {rows : Rows} {m : MS} {R : Nat → Prop} {p : Nat} (v : Valid rows m) (hp : p < rows.length) (hR : R p) (c : Closed rows m R) (h0 : m.h p = none) {D : List Int} (d : Ds rows D) : False := by
  refine no_room (n := rows.length) (R := R) (p := p) (f := fun x => (m.o (D[x]?.getD 0)).getD 0) hp hR (fun x hx rx => ?_) (fun x y hx hy rx ry e => ?_)
  · obtain ⟨t, e, ht⟩ := d.get hx
    obtain ⟨q, rq, hq⟩ := c x rx t ht
    have ho := (v.inv q t).mp hq
    show (m.o (D[x]?.getD 0)).getD 0 < _ ∧ R ((m.o (D[x]?.getD 0)).getD 0) ∧ (m.o (D[x]?.getD 0)).getD 0 ≠ p
    rw [e]
    show (m.o t).getD 0 < _ ∧ R ((m.o t).getD 0) ∧ (m.o t).getD 0 ≠ p
    rw [ho]
    refine ⟨row_lt (v.tie q t hq), rq, fun z => ?_⟩
    have z' : q = p := z
    rw [z', h0] at hq
    cases hq
  · obtain ⟨t, e1, ht⟩ := d.get hx
    obtain ⟨s, e2, hs⟩ := d.get hy
    obtain ⟨q, rq, hq⟩ := c x rx t ht
    obtain ⟨r, rr, hr⟩ := c y ry s hs
    have e' : (m.o (D[x]?.getD 0)).getD 0 = (m.o (D[y]?.getD 0)).getD 0 := e
    rw [e1, e2] at e'
    have e'' : (m.o t).getD 0 = (m.o s).getD 0 := e'
    rw [(v.inv q t).mp hq, (v.inv r s).mp hr] at e''
    have e3 : q = r := e''
    subst e3
    rw [hq] at hr
    cases hr
    exact nodup_get d.nd e1 e2
/-! going on from one who waits -/
abbrev Came := Int → Option Nat
def scan (o : Int → Option Nat) (one : Nat) : List Int → Came → List Nat → Option Int × Came × List Nat
  | [], c, w => (none, c, w)
  | t :: l, c, w => if (c t).isSome = true then scan o one l c w else match o t with
    | none => (some t, fset c t (some one), w)
    | some q => scan o one l (fset c t (some one)) (w ++ [q])
inductive Walk (rows : Rows) (o : Int → Option Nat) : Came → List Nat → Option Int → Came → Prop
  | nil {c : Came} : Walk rows o c [] none c
  | found {c c' : Came} {w w' : List Nat} {one : Nat} {t : Int} : scan o one (row rows one) c w = (some t, c', w') → Walk rows o c (w ++ [one]) (some t) c'
  | more {c c' c2 : Came} {w w' : List Nat} {one : Nat} {x : Option Int} : scan o one (row rows one) c w = (none, c', w') → Walk rows o c' w' x c2 → Walk rows o c (w ++ [one]) x c2
structure ScanOk (o : Int → Option Nat) (one : Nat) (l : List Int) (c : Came) (w : List Nat) (x : Option Int) (c' : Came) (w' : List Nat) : Prop where
  ext : ∀ t y, c t = some y → c' t = some y
  new : ∀ t y, c' t = some y → c t = some y ∨ (y = one ∧ t ∈ l ∧ c t = none ∧ ((∃ q, o t = some q ∧ q ∈ w') ∨ x = some t))
  found : ∀ t, x = some t → o t = none ∧ c' t = some one ∧ t ∈ l
  all : x = none → ∀ t ∈ l, c' t ≠ none
  sub : ∀ q ∈ w, q ∈ w'
  wn : ∀ q ∈ w', q ∈ w ∨ ∃ t, c' t = some one ∧ o t = some q
theorem scan_ok {o : Int → Option Nat} {one : Nat} : ∀ (l : List Int) (c : Came) (w : List Nat), ScanOk o one l c w (scan o one l c w).1 (scan o one l c w).2.1 (scan o one l c w).2.2
  | [], c, w => ⟨fun _ _ h => h, fun _ _ h => .inl h, fun _ h => (by cases h), fun _ _ h => (by cases h), fun _ h => h, fun _ h => .inl h⟩
  | t :: l, c, w => by
    by_cases hc : (c t).isSome = true
    · have e : scan o one (t :: l) c w = scan o one l c w := by
        show (if (c t).isSome = true then scan o one l c w else _) = _
        rw [if_pos hc]
      rw [e]
      have ih := scan_ok (o := o) (one := one) l c w
      refine ⟨ih.ext, fun s y h => ?_, fun s h => ?_, fun h s hs => ?_, ih.sub, ih.wn⟩
      · rcases ih.new s y h with a | ⟨a, b, d, f⟩
        · exact .inl a
        · exact .inr ⟨a, List.mem_cons_of_mem _ b, d, f⟩
      · obtain ⟨a, b, d⟩ := ih.found s h
        exact ⟨a, b, List.mem_cons_of_mem _ d⟩
      · rcases List.mem_cons.mp hs with q | q
        · obtain ⟨y, hy⟩ := Option.isSome_iff_exists.mp hc
          rw [q, ih.ext t y hy]
          exact fun z => nomatch z
        · exact ih.all h s q
    · have cn : c t = none := by
        cases z : c t with
        | none => rfl
        | some y => rw [z] at hc; exact absurd rfl hc
      cases ho : o t with
      | none =>
        have e : scan o one (t :: l) c w = (some t, fset c t (some one), w) := by
          show (if (c t).isSome = true then _ else match o t with | none => _ | some q => _) = _
          rw [if_neg hc, ho]
        rw [e]
        refine ⟨fun s y h => ?_, fun s y h => ?_, fun s h => ?_, fun h => (by cases h), fun _ h => h, fun _ h => .inl h⟩
        · show fset c t (some one) s = some y
          rw [fset_ne (fun z => by rw [z, cn] at h; cases h)]
          exact h
        · have h' : fset c t (some one) s = some y := h
          by_cases z : s = t
          · rw [z, fset_same] at h'
            cases h'
            exact .inr ⟨rfl, by rw [z]; exact List.mem_cons_self, by rw [z]; exact cn, .inr (by rw [z])⟩
          · rw [fset_ne z] at h'
            exact .inl h'
        · cases h
          exact ⟨ho, fset_same, List.mem_cons_self⟩
      | some q =>
        have e : scan o one (t :: l) c w = scan o one l (fset c t (some one)) (w ++ [q]) := by
          show (if (c t).isSome = true then _ else match o t with | none => _ | some q => _) = _
          rw [if_neg hc, ho]
        rw [e]
        have ih := scan_ok (o := o) (one := one) l (fset c t (some one)) (w ++ [q])
        have ct : (scan o one l (fset c t (some one)) (w ++ [q])).2.1 t = some one := ih.ext t one fset_same
        refine ⟨fun s y h => ?_, fun s y h => ?_, fun s h => ?_, fun h s hs => ?_, fun r h => ih.sub r (List.mem_append_left _ h), fun r h => ?_⟩
        · exact ih.ext s y (by rw [fset_ne (fun z => by rw [z, cn] at h; cases h)]; exact h)
        · by_cases z : s = t
          · rw [z] at h ⊢
            rw [ct] at h
            cases h
            exact .inr ⟨rfl, List.mem_cons_self, cn, .inl ⟨q, ho, ih.sub q (List.mem_append_right _ List.mem_cons_self)⟩⟩
          · rcases ih.new s y h with a | ⟨a, b, d, f⟩
            · rw [fset_ne z] at a
              exact .inl a
            · rw [fset_ne z] at d
              exact .inr ⟨a, List.mem_cons_of_mem _ b, d, f⟩
        · obtain ⟨a, b, d⟩ := ih.found s h
          exact ⟨a, b, List.mem_cons_of_mem _ d⟩
        · rcases List.mem_cons.mp hs with z | z
          · rw [z, ct]
            exact fun z => nomatch z
          · exact ih.all h s z
        · rcases ih.wn r h with a | a
          · rcases List.mem_append.mp a with b | b
            · exact .inl b
            · rw [List.mem_singleton.mp b]
              exact .inr ⟨t, ct, ho⟩
          · exact .inr a
theorem scan_is {o : Int → Option Nat} {one : Nat} {l : List Int} {c c' : Came} {w w' : List Nat} {x : Option Int} (h : scan o one l c w = (x, c', w')) : ScanOk o one l c w x c' w' := by
  have := scan_ok (o := o) (one := one) l c w
  rw [h] at this
  exact this
/-- how a thing was come to: k steps from p -/
inductive Chain (c : Came) (h : Nat → Option Int) (p : Nat) : Nat → Int → Prop
  | start {t : Int} : c t = some p → Chain c h p 0 t
  | step {k : Nat} {t s : Int} {q : Nat} : c t = some q → h q = some s → Chain c h p k s → Chain c h p (k + 1) t
theorem Chain.ext {c c' : Came} {h : Nat → Option Int} {p : Nat} (e : ∀ t y, c t = some y → c' t = some y) : ∀ {k : Nat} {t : Int}, Chain c h p k t → Chain c' h p k t
  | _, _, .start a => .start (e _ _ a)
  | _, _, .step a b d => .step (e _ _ a) b (d.ext e)
theorem Chain.one {c : Came} {h : Nat → Option Int} {p : Nat} (hp : h p = none) : ∀ {k j : Nat} {t : Int}, Chain c h p k t → Chain c h p j t → k = j
  | _, _, _, .start _, .start _ => rfl
  | _, _, _, .start a, .step b d _ => by
    rw [a] at b
    cases b
    rw [hp] at d
    cases d
  | _, _, _, .step b d _, .start a => by
    rw [a] at b
    cases b
    rw [hp] at d
    cases d
  | _, _, _, .step a b d, .step a' b' d' => by
    rw [a] at a'
    cases a'
    rw [b] at b'
    cases b'
    rw [d.one hp d']
def Vis (o : Int → Option Nat) (p : Nat) (c : Came) (q : Nat) : Prop := q = p ∨ ∃ t x, c t = some x ∧ o t = some q
structure WInv (rows : Rows) (m : MS) (p : Nat) (c : Came) (w : List Nat) : Prop where
  a : ∀ t x, c t = some x → t ∈ row rows x ∧ ∃ q, m.o t = some q
  b : ∀ t x, c t = some x → ∃ k, Chain c m.h p k t
  v : ∀ q ∈ w, Vis m.o p c q
  d : ∀ q, Vis m.o p c q → q ∉ w → ∀ t ∈ row rows q, c t ≠ none
theorem WInv.init {rows : Rows} {m : MS} {p : Nat} : WInv rows m p (fun _ => none) [p] :=
  ⟨fun _ _ h => (by cases h), fun _ _ h => (by cases h), fun q h => .inl (List.mem_singleton.mp h), fun q h n => by
    rcases h with h | ⟨t, x, h, _⟩
    · exact absurd (List.mem_singleton.mpr h) n
    · cases h⟩
theorem chain_of {rows : Rows} {m : MS} {p one : Nat} {c c' : Came} {w : List Nat} {t : Int} (v : Valid rows m) (i : WInv rows m p c w) (h1 : Vis m.o p c one) (e : ∀ t y, c t = some y → c' t = some y) (ht : c' t = some one) : ∃ k, Chain c' m.h p k t := by
  rcases h1 with h1 | ⟨s, x, hs, ho⟩
  · exact ⟨0, .start (by rw [← h1]; exact ht)⟩
  · obtain ⟨k, hk⟩ := i.b s x hs
    exact ⟨k + 1, .step ht ((v.inv one s).mpr ho) (hk.ext e)⟩
theorem WInv.next {rows : Rows} {m : MS} {p one : Nat} {c c' : Came} {w w' : List Nat} (v : Valid rows m) (i : WInv rows m p c (w ++ [one])) (h : scan m.o one (row rows one) c w = (none, c', w')) : WInv rows m p c' w' := by
  have s := scan_is h
  have h1 : Vis m.o p c one := i.v one (List.mem_append_right _ List.mem_cons_self)
  have up : ∀ q, Vis m.o p c q → Vis m.o p c' q := fun q z => z.imp id fun ⟨t, x, a, b⟩ => ⟨t, x, s.ext _ _ a, b⟩
  refine ⟨fun t x ht => ?_, fun t x ht => ?_, fun q hq => ?_, fun q hv hq t ht => ?_⟩
  · rcases s.new t x ht with a | ⟨a, b, d, f⟩
    · exact i.a t x a
    · rw [a]
      rcases f with ⟨q, f, _⟩ | f
      · exact ⟨b, q, f⟩
      · cases f
  · rcases s.new t x ht with a | ⟨a, b, d, f⟩
    · obtain ⟨k, hk⟩ := i.b t x a
      exact ⟨k, hk.ext s.ext⟩
    · rw [a] at ht
      exact chain_of v i h1 s.ext ht
  · rcases s.wn q hq with a | ⟨t, a, b⟩
    · exact up q (i.v q (List.mem_append_left _ a))
    · exact .inr ⟨t, one, a, b⟩
  · by_cases hone : q = one
    · rw [hone] at ht
      exact s.all rfl t ht
    · have hv' : Vis m.o p c q := by
        rcases hv with z | ⟨u, x, hu, ho⟩
        · exact .inl z
        · rcases s.new u x hu with a | ⟨a, b, d, f⟩
          · exact .inr ⟨u, x, a, ho⟩
          · rcases f with ⟨r, f, fr⟩ | f
            · rw [ho] at f
              cases f
              exact absurd fr hq
            · cases f
      have hq' : q ∉ w ++ [one] := fun z => by
        rcases List.mem_append.mp z with z | z
        · exact hq (s.sub q z)
        · exact hone (List.mem_singleton.mp z)
      have := i.d q hv' hq' t ht
      cases z : c t with
      | none => exact absurd z this
      | some y => rw [s.ext t y z]; exact fun z => nomatch z
theorem walk_none {rows : Rows} {m : MS} {p : Nat} (v : Valid rows m) {c c' : Came} {w : List Nat} {x : Option Int} (h : Walk rows m.o c w x c') : x = none → WInv rows m p c w → WInv rows m p c' [] := by
  induction h with
  | nil => exact fun _ i => i
  | found h => exact fun e => nomatch e
  | more h _ ih => exact fun e i => ih e (i.next v h)
theorem walk_closed {rows : Rows} {m : MS} {p : Nat} (v : Valid rows m) {c' : Came} (h : Walk rows m.o (fun _ => none) [p] none c') : Closed rows m (Vis m.o p c') := by
  have i := walk_none v h rfl WInv.init
  intro q hq t ht
  have hc := i.d q hq (by simp) t ht
  cases z : c' t with
  | none => exact absurd z hc
  | some x =>
    obtain ⟨_, r, hr⟩ := i.a t x z
    exact ⟨r, .inr ⟨t, x, z, hr⟩, (v.inv r t).mpr hr⟩
structure Found (rows : Rows) (m : MS) (p : Nat) (c : Came) (t : Int) : Prop where
  free : m.o t = none
  tie : ∀ s x, c s = some x → s ∈ row rows x
  chain : ∃ k, Chain c m.h p k t
theorem walk_found {rows : Rows} {m : MS} {p : Nat} (v : Valid rows m) {c c' : Came} {w : List Nat} {x : Option Int} (h : Walk rows m.o c w x c') : ∀ t, x = some t → WInv rows m p c w → Found rows m p c' t := by
  induction h with
  | nil => exact fun _ e => nomatch e
  | found h =>
    intro t e i
    cases e
    have s := scan_is h
    have f := s.found _ rfl
    refine ⟨f.1, fun u y hu => ?_, chain_of v i (i.v _ (List.mem_append_right _ List.mem_cons_self)) s.ext f.2.1⟩
    rcases s.new u y hu with a | ⟨a, b, _⟩
    · exact (i.a u y a).1
    · rw [a]; exact b
  | more h _ ih => exact fun t e i => ih t e (i.next v h)
/-! handing on -/
def put (m : MS) (q : Nat) (t : Int) : MS := ⟨fset m.h q (some t), fset m.o t (some q)⟩
inductive Hand (c : Came) : MS → Int → MS → Prop
  | last {m : MS} {t : Int} {q : Nat} : c t = some q → m.h q = none → Hand c m t (put m q t)
  | more {m m' : MS} {t s : Int} {q : Nat} : c t = some q → m.h q = some s → Hand c (put m q t) s m' → Hand c m t m'
/-- while things are handed on: m behind m0, t in hand, k steps left -/
structure HInv (rows : Rows) (m0 : MS) (p : Nat) (c : Came) (m : MS) (t : Int) (k : Nat) : Prop where
  ch : Chain c m0.h p k t
  ho : ∀ x s, m.h x = some s → m.o s = some x
  oh : ∀ x s, m.o s = some x → m.h x = some s ∨ s = t
  no : ∀ x, m.h x ≠ some t
  tie : ∀ x s, m.h x = some s → s ∈ row rows x
  dom : ∀ x, m.h x = none ↔ m0.h x = none
  old : ∀ x, m.h x ≠ m0.h x → ∃ s j, m0.h x = some s ∧ Chain c m0.h p j s ∧ k ≤ j
  cl : ∀ R, Closed rows m0 R → (∀ q, c t = some q → ¬ R q) ∧ ∀ x, R x → m.h x = m0.h x
theorem HInv.init {rows : Rows} {m : MS} {p : Nat} {c : Came} {t : Int} (v : Valid rows m) (f : Found rows m p c t) : ∃ k, HInv rows m p c m t k := by
  obtain ⟨k, hk⟩ := f.chain
  refine ⟨k, hk, fun x s h => (v.inv x s).mp h, fun x s h => .inl ((v.inv x s).mpr h), fun x h => ?_, v.tie, fun _ => Iff.rfl, fun x h => absurd rfl h, fun R hR => ⟨fun q hq rq => ?_, fun _ _ => rfl⟩⟩
  · have := (v.inv x t).mp h
    rw [f.free] at this
    cases this
  · obtain ⟨r, _, hr⟩ := hR q rq t (f.tie t q hq)
    have := (v.inv r t).mp hr
    rw [f.free] at this
    cases this
theorem HInv.at_ {rows : Rows} {m0 m : MS} {p : Nat} {c : Came} {t : Int} {k : Nat} (hp : m0.h p = none) (i : HInv rows m0 p c m t k) : ∃ q, c t = some q ∧ m.h q = m0.h q ∧ ((k = 0 ∧ q = p) ∨ ∃ s j, k = j + 1 ∧ m0.h q = some s ∧ Chain c m0.h p j s) := by
  have ch := i.ch
  cases ch with
  | start a =>
    refine ⟨p, a, ?_, .inl ⟨rfl, rfl⟩⟩
    rw [hp]
    exact (i.dom p).mpr hp
  | @step j _ s q a b d =>
    refine ⟨q, a, ?_, .inr ⟨s, j, rfl, b, d⟩⟩
    refine Classical.byContradiction fun hc => ?_
    obtain ⟨s', j', h1, h2, h3⟩ := i.old q hc
    rw [b] at h1
    cases h1
    have := d.one hp h2
    omega
theorem HInv.more {rows : Rows} {m0 m : MS} {p : Nat} {c : Came} {t s : Int} {k j q : Nat} (v0 : Valid rows m0) (hp : m0.h p = none) (tie : ∀ s x, c s = some x → s ∈ row rows x) (i : HInv rows m0 p c m t k) (hc : c t = some q) (e : m.h q = m0.h q) (hk : k = j + 1) (hs : m0.h q = some s) (hch : Chain c m0.h p j s) : HInv rows m0 p c (put m q t) s j := by
  have hms : m.h q = some s := e.trans hs
  have nst : s ≠ t := fun z => i.no q (by rw [hms, z])
  refine ⟨hch, fun x r h => ?_, fun x r h => ?_, fun x h => ?_, fun x r h => ?_, fun x => ?_, fun x h => ?_, fun R hR => ?_⟩
  · have h' : fset m.h q (some t) x = some r := h
    show fset m.o t (some q) r = some x
    by_cases z : x = q
    · rw [z, fset_same] at h'
      cases h'
      rw [fset_same, z]
    · rw [fset_ne z] at h'
      rw [fset_ne (fun y => i.no x (by rw [h', y]))]
      exact i.ho x r h'
  · have h' : fset m.o t (some q) r = some x := h
    show fset m.h q (some t) x = some r ∨ r = s
    by_cases z : r = t
    · rw [z, fset_same] at h'
      cases h'
      rw [fset_same, z]
      exact .inl rfl
    · rw [fset_ne z] at h'
      by_cases y : x = q
      · rcases i.oh x r h' with a | a
        · rw [y, hms] at a
          exact .inr (Option.some.inj a).symm
        · exact absurd a z
      · rw [fset_ne y]
        rcases i.oh x r h' with a | a
        · exact .inl a
        · exact absurd a z
  · have h' : fset m.h q (some t) x = some s := h
    by_cases z : x = q
    · rw [z, fset_same] at h'
      exact nst (Option.some.inj h').symm
    · rw [fset_ne z] at h'
      have a := i.ho x s h'
      have b := i.ho q s hms
      rw [a] at b
      exact z (Option.some.inj b)
  · have h' : fset m.h q (some t) x = some r := h
    by_cases z : x = q
    · rw [z, fset_same] at h'
      cases h'
      rw [z]
      exact tie t q hc
    · rw [fset_ne z] at h'
      exact i.tie x r h'
  · show fset m.h q (some t) x = none ↔ _
    by_cases z : x = q
    · rw [z, fset_same, hs]
      exact ⟨fun y => (by cases y), fun y => (by cases y)⟩
    · rw [fset_ne z]
      exact i.dom x
  · have h' : fset m.h q (some t) x ≠ m0.h x := h
    by_cases z : x = q
    · exact ⟨s, j, by rw [z]; exact hs, hch, Nat.le_refl _⟩
    · rw [fset_ne z] at h'
      obtain ⟨a, b, d, f, g⟩ := i.old x h'
      exact ⟨a, b, d, f, by omega⟩
  · obtain ⟨a, b⟩ := i.cl R hR
    refine ⟨fun r hr rr => ?_, fun x rx => ?_⟩
    · obtain ⟨y, ry, hy⟩ := hR r rr s (tie s r hr)
      have := v0.inj hy hs
      rw [this] at ry
      exact a q hc ry
    · show fset m.h q (some t) x = _
      rw [fset_ne (fun z => a q hc (by rw [← z]; exact rx))]
      exact b x rx
structure Given (rows : Rows) (m0 : MS) (p : Nat) (m : MS) : Prop where
  valid : Valid rows m
  got : m.h p ≠ none
  dom : ∀ x, x ≠ p → (m.h x = none ↔ m0.h x = none)
  cl : ∀ R, Closed rows m0 R → ∀ x, R x → m.h x = m0.h x
theorem HInv.last {rows : Rows} {m0 m : MS} {p : Nat} {c : Came} {t : Int} {k q : Nat} (hp : m0.h p = none) (tie : ∀ s x, c s = some x → s ∈ row rows x) (i : HInv rows m0 p c m t k) (hc : c t = some q) (hq : m.h q = none) : Given rows m0 p (put m q t) := by
  have hqp : q = p := by
    obtain ⟨r, h1, h2, h3⟩ := i.at_ hp
    rw [hc] at h1
    cases h1
    rcases h3 with ⟨_, e⟩ | ⟨s, j, _, e, _⟩
    · exact e
    · rw [h2, e] at hq
      cases hq
  refine ⟨⟨fun x r => ⟨fun h => ?_, fun h => ?_⟩, fun x r h => ?_⟩, ?_, fun x hx => ?_, fun R hR x rx => ?_⟩
  · have h' : fset m.h q (some t) x = some r := h
    show fset m.o t (some q) r = some x
    by_cases z : x = q
    · rw [z, fset_same] at h'
      cases h'
      rw [fset_same, z]
    · rw [fset_ne z] at h'
      rw [fset_ne (fun y => i.no x (by rw [h', y]))]
      exact i.ho x r h'
  · have h' : fset m.o t (some q) r = some x := h
    show fset m.h q (some t) x = some r
    by_cases z : r = t
    · rw [z, fset_same] at h'
      cases h'
      rw [fset_same, z]
    · rw [fset_ne z] at h'
      rcases i.oh x r h' with a | a
      · rw [fset_ne (fun y => by rw [y, hq] at a; cases a)]
        exact a
      · exact absurd a z
  · have h' : fset m.h q (some t) x = some r := h
    by_cases z : x = q
    · rw [z, fset_same] at h'
      cases h'
      rw [z]
      exact tie t q hc
    · rw [fset_ne z] at h'
      exact i.tie x r h'
  · show fset m.h q (some t) p ≠ none
    rw [hqp, fset_same]
    exact fun z => nomatch z
  · show fset m.h q (some t) x = none ↔ _
    rw [fset_ne (by rw [hqp]; exact hx)]
    exact i.dom x
  · obtain ⟨a, b⟩ := i.cl R hR
    show fset m.h q (some t) x = _
    rw [fset_ne (fun z => a q hc (by rw [← z]; exact rx))]
    exact b x rx
theorem hand_given {rows : Rows} {m0 : MS} {p : Nat} {c : Came} (v0 : Valid rows m0) (hp : m0.h p = none) (tie : ∀ s x, c s = some x → s ∈ row rows x) {m m' : MS} {t : Int} (h : Hand c m t m') : ∀ k, HInv rows m0 p c m t k → Given rows m0 p m' := by
  induction h with
  | last a b => exact fun k i => i.last hp tie a b
  | @more m m' t u r a b _ ih =>
    intro k i
    obtain ⟨r', h1, h2, h3⟩ := i.at_ hp
    rw [a] at h1
    obtain rfl := Option.some.inj h1
    rcases h3 with ⟨_, e⟩ | ⟨s, j, e1, e2, e3⟩
    · rw [h2, e, hp] at b
      cases b
    · have e4 : m0.h r = some _ := h2.symm.trans b
      rw [e2] at e4
      cases e4
      exact ih j (i.more v0 hp tie a h2 e1 e2 e3)
theorem hand_ex {rows : Rows} {m0 : MS} {p : Nat} {c : Came} (v0 : Valid rows m0) (hp : m0.h p = none) (tie : ∀ s x, c s = some x → s ∈ row rows x) : ∀ (k : Nat) {m : MS} {t : Int}, HInv rows m0 p c m t k → ∃ m', Hand c m t m'
  | 0, m, t, i => by
    obtain ⟨r, h1, h2, h3⟩ := i.at_ hp
    rcases h3 with ⟨_, e⟩ | ⟨s, j, e1, _⟩
    · exact ⟨_, .last h1 (by rw [h2, e, hp])⟩
    · omega
  | k + 1, m, t, i => by
    obtain ⟨r, h1, h2, h3⟩ := i.at_ hp
    rcases h3 with ⟨e, _⟩ | ⟨s, j, e1, e2, e3⟩
    · omega
    · have ej : j = k := by omega
      subst ej
      obtain ⟨m', hm⟩ := hand_ex v0 hp tie j (i.more v0 hp tie h1 h2 rfl e2 e3)
      exact ⟨m', .more h1 (h2.trans e2) hm⟩
end Mt

set_option maxRecDepth 100000
set_option maxHeartbeats 1000000
/-! Matching, on: giving to each in turn; ties that are in a dealing. -/
namespace Mt
open Classical
theorem filt_lt {α : Type} {P Q : α → Bool} (h : ∀ x, P x = true → Q x = true) : ∀ {l : List α} {t : α}, t ∈ l → Q t = true → P t = false → (l.filter P).length + 1 ≤ (l.filter Q).length
  | x :: l, t, ht, hq, hp => by
    have mono : ∀ l : List α, (l.filter P).length ≤ (l.filter Q).length := fun l => by
      induction l with
      | nil => exact Nat.le_refl _
      | cons y l ih =>
        cases hy : P y with
        | true => rw [List.filter_cons_of_pos hy, List.filter_cons_of_pos (h y hy), List.length_cons, List.length_cons]; omega
        | false =>
          rw [List.filter_cons_of_neg (by rw [hy]; decide)]
          cases hz : Q y with
          | true => rw [List.filter_cons_of_pos hz, List.length_cons]; omega
          | false => rw [List.filter_cons_of_neg (by rw [hz]; decide)]; exact ih
    rcases List.mem_cons.mp ht with e | e
    · rw [← e, List.filter_cons_of_neg (by rw [hp]; decide), List.filter_cons_of_pos hq, List.length_cons]
      have := mono l
      omega
    · have ih := filt_lt h e hq hp
      cases hy : P x with
      | true => rw [List.filter_cons_of_pos hy, List.filter_cons_of_pos (h x hy), List.length_cons, List.length_cons]; omega
      | false =>
        rw [List.filter_cons_of_neg (by rw [hy]; decide)]
        cases hz : Q x with
        | true => rw [List.filter_cons_of_pos hz, List.length_cons]; omega
        | false => rw [List.filter_cons_of_neg (by rw [hz]; decide)]; exact ih
/-- how much is left to do: things not come to, and people waiting -/
def todo (U : List Int) (c : Came) (w : List Nat) : Nat := (U.filter fun t => (c t).isNone).length + w.length
theorem scan_todo {o : Int → Option Nat} {one : Nat} {U : List Int} : ∀ (l : List Int) (c : Came) (w : List Nat), (∀ t ∈ l, t ∈ U) → (scan o one l c w).1 = none → todo U (scan o one l c w).2.1 (scan o one l c w).2.2 ≤ todo U c w
  | [], c, w, _, _ => Nat.le_refl _
  | t :: l, c, w, hU, hn => by
    by_cases hc : (c t).isSome = true
    · have e : scan o one (t :: l) c w = scan o one l c w := by
        show (if (c t).isSome = true then scan o one l c w else _) = _
        rw [if_pos hc]
      rw [e] at hn ⊢
      exact scan_todo l c w (fun s hs => hU s (List.mem_cons_of_mem _ hs)) hn
    · cases ho : o t with
      | none =>
        have e : scan o one (t :: l) c w = (some t, fset c t (some one), w) := by
          show (if (c t).isSome = true then _ else match o t with | none => _ | some q => _) = _
          rw [if_neg hc, ho]
        rw [e] at hn
        cases hn
      | some q =>
        have e : scan o one (t :: l) c w = scan o one l (fset c t (some one)) (w ++ [q]) := by
          show (if (c t).isSome = true then _ else match o t with | none => _ | some q => _) = _
          rw [if_neg hc, ho]
        rw [e] at hn ⊢
        refine Nat.le_trans (scan_todo l _ _ (fun s hs => hU s (List.mem_cons_of_mem _ hs)) hn) ?_
        unfold todo
        rw [List.length_append, List.length_singleton]
        have := filt_lt (P := fun s => (fset c t (some one) s).isNone) (Q := fun s => (c s).isNone) (l := U) (t := t) (fun x hx => by
          by_cases z : x = t
          · rw [z, fset_same] at hx
            cases hx
          · rw [fset_ne z] at hx
            exact hx) (hU t List.mem_cons_self) (by
          cases z : c t with
          | none => rfl
          | some y => rw [z] at hc; exact absurd rfl hc) (by rw [fset_same]; rfl)
        omega
theorem scan_todo' {o : Int → Option Nat} {one : Nat} {U : List Int} {l : List Int} {c c' : Came} {w w' : List Nat} (hU : ∀ t ∈ l, t ∈ U) (h : scan o one l c w = (none, c', w')) : todo U c' w' ≤ todo U c w := by
  have := scan_todo (o := o) (one := one) (U := U) l c w hU
  rw [h] at this
  exact this rfl
theorem todo_snoc {U : List Int} {c : Came} {w : List Nat} {q : Nat} : todo U c (w ++ [q]) = todo U c w + 1 := by
  unfold todo
  rw [List.length_append, List.length_singleton]
  omega
def things (rows : Rows) : List Int := rows.flatten
theorem mem_things {rows : Rows} {p : Nat} {t : Int} (h : t ∈ row rows p) : t ∈ things rows := by
  unfold row at h
  cases e : rows[p]? with
  | none => rw [e] at h; cases h
  | some r =>
    rw [e] at h
    exact List.mem_flatten.mpr ⟨r, List.mem_of_getElem? e, h⟩
theorem walk_ex {rows : Rows} {o : Int → Option Nat} : ∀ (n : Nat) (c : Came) (w : List Nat), todo (things rows) c w ≤ n → ∃ x c', Walk rows o c w x c'
  | n, c, w, h => by
    rcases List.eq_nil_or_concat w with e | ⟨w0, q, e⟩
    · rw [e]
      exact ⟨none, c, .nil⟩
    · rw [List.concat_eq_append] at e
      subst e
      cases n with
      | zero => rw [todo_snoc] at h; omega
      | succ n =>
        rw [todo_snoc] at h
        rcases hs : scan o q (row rows q) c w0 with ⟨x, c', w'⟩
        cases x with
        | some t => exact ⟨some t, c', .found hs⟩
        | none =>
          have := scan_todo' (U := things rows) (fun t ht => mem_things ht) hs
          obtain ⟨x, c2, hw⟩ := walk_ex (rows := rows) (o := o) n c' w' (by omega)
          exact ⟨x, c2, .more hs hw⟩
inductive Give (rows : Rows) (m : MS) (p : Nat) : MS → Prop
  | no {c : Came} : Walk rows m.o (fun _ => none) [p] none c → Give rows m p m
  | yes {c : Came} {t : Int} {m' : MS} : Walk rows m.o (fun _ => none) [p] (some t) c → Hand c m t m' → Give rows m p m'
theorem give_ex {rows : Rows} {m : MS} {p : Nat} (v : Valid rows m) (hp : m.h p = none) : ∃ m', Give rows m p m' := by
  obtain ⟨x, c, hw⟩ := walk_ex (rows := rows) (o := m.o) _ (fun _ => none) [p] (Nat.le_refl _)
  cases x with
  | none => exact ⟨m, .no hw⟩
  | some t =>
    have f := walk_found v hw t rfl WInv.init
    obtain ⟨k, i⟩ := HInv.init v f
    obtain ⟨m', hm⟩ := hand_ex v hp f.tie k i
    exact ⟨m', .yes hw hm⟩
theorem give_ok {rows : Rows} {m m' : MS} {p : Nat} (v : Valid rows m) (hp : m.h p = none) (g : Give rows m p m') : Given rows m p m' ∨ (m' = m ∧ ∃ R, R p ∧ Closed rows m R) := by
  cases g with
  | no hw => exact .inr ⟨rfl, _, .inl rfl, walk_closed v hw⟩
  | yes hw hh =>
    have f := walk_found v hw _ rfl WInv.init
    obtain ⟨k, i⟩ := HInv.init v f
    exact .inl (hand_given v hp f.tie hh k i)
/-! one answer alone -/
theorem walk_one {rows : Rows} {o : Int → Option Nat} {c c1 : Came} {w : List Nat} {x : Option Int} (a : Walk rows o c w x c1) : ∀ {y : Option Int} {c2 : Came}, Walk rows o c w y c2 → x = y ∧ c1 = c2 := by
  induction a with
  | nil =>
    intro y c2 b
    generalize ew : ([] : List Nat) = w' at b
    cases b with
    | nil => exact ⟨rfl, rfl⟩
    | found h => exact absurd ew (by simp)
    | more h _ => exact absurd ew (by simp)
  | @found c c' w w' one t h =>
    intro y c2 b
    generalize ew : w ++ [one] = w2 at b
    cases b with
    | nil => exact absurd ew (by simp)
    | found h2 =>
      obtain ⟨e1, e2⟩ := List.append_inj' ew rfl
      cases e2
      subst e1
      rw [h] at h2
      cases h2
      exact ⟨rfl, rfl⟩
    | more h2 _ =>
      obtain ⟨e1, e2⟩ := List.append_inj' ew rfl
      cases e2
      subst e1
      rw [h] at h2
      cases h2
  | @more c c' c2 w w' one x h _ ih =>
    intro y c3 b
    generalize ew : w ++ [one] = w2 at b
    cases b with
    | nil => exact absurd ew (by simp)
    | found h2 =>
      obtain ⟨e1, e2⟩ := List.append_inj' ew rfl
      cases e2
      subst e1
      rw [h] at h2
      cases h2
    | more h2 b2 =>
      obtain ⟨e1, e2⟩ := List.append_inj' ew rfl
      cases e2
      subst e1
      rw [h] at h2
      cases h2
      exact ih b2
theorem hand_one {c : Came} {m m1 : MS} {t : Int} (a : Hand c m t m1) : ∀ {m2 : MS}, Hand c m t m2 → m1 = m2 := by
  induction a with
  | last a b =>
    intro m2 h
    cases h with
    | last a2 b2 => rw [a] at a2; cases a2; rfl
    | more a2 b2 _ => rw [a] at a2; cases a2; rw [b] at b2; cases b2
  | more a b _ ih =>
    intro m2 h
    cases h with
    | last a2 b2 => rw [a] at a2; cases a2; rw [b] at b2; cases b2
    | more a2 b2 h2 => rw [a] at a2; cases a2; rw [b] at b2; cases b2; exact ih h2
theorem give_one {rows : Rows} {m m1 m2 : MS} {p : Nat} (a : Give rows m p m1) (b : Give rows m p m2) : m1 = m2 := by
  cases a with
  | no h =>
    cases b with
    | no h2 => rfl
    | yes h2 k2 => exact absurd (walk_one h h2).1 (by simp)
  | yes h k =>
    cases b with
    | no h2 => exact absurd (walk_one h h2).1 (by simp)
    | yes h2 k2 =>
      obtain ⟨e1, e2⟩ := walk_one h h2
      cases e1
      subst e2
      exact hand_one k k2
/-! each in turn -/
def m0 : MS := ⟨fun _ => none, fun _ => none⟩
inductive Upto (rows : Rows) : Nat → MS → Prop
  | zero : Upto rows 0 m0
  | succ {k : Nat} {m m' : MS} : Upto rows k m → Give rows m k m' → Upto rows (k + 1) m'
structure UpOk (rows : Rows) (k : Nat) (m : MS) : Prop where
  valid : Valid rows m
  late : ∀ p, k ≤ p → m.h p = none
  cl : ∀ p, p < k → m.h p = none → ∃ R, R p ∧ Closed rows m R
theorem upto_ok {rows : Rows} {k : Nat} {m : MS} (u : Upto rows k m) : UpOk rows k m := by
  induction u with
  | zero => exact ⟨⟨fun p t => ⟨fun h => (by cases h), fun h => (by cases h)⟩, fun p t h => (by cases h)⟩, fun _ _ => rfl, fun p h => absurd h (Nat.not_lt_zero _)⟩
  | @succ k m m' _ g ih =>
    have hk := ih.late k (Nat.le_refl _)
    rcases give_ok ih.valid hk g with a | ⟨rfl, R, r, c⟩
    · refine ⟨a.valid, fun p hp => (a.dom p (by omega)).mpr (ih.late p (by omega)), fun p hp hn => ?_⟩
      by_cases e : p = k
      · rw [e] at hn
        exact absurd hn a.got
      · obtain ⟨R, r, c⟩ := ih.cl p (by omega) ((a.dom p e).mp hn)
        refine ⟨R, r, fun q rq t ht => ?_⟩
        obtain ⟨q', r', hq'⟩ := c q rq t ht
        exact ⟨q', r', (a.cl R c q' r').trans hq'⟩
    · refine ⟨ih.valid, fun p hp => ih.late p (by omega), fun p hp hn => ?_⟩
      by_cases e : p = k
      · rw [e]
        exact ⟨R, r, c⟩
      · exact ih.cl p (by omega) hn
theorem upto_ex {rows : Rows} : ∀ k, ∃ m, Upto rows k m
  | 0 => ⟨_, .zero⟩
  | k + 1 => by
    obtain ⟨m, u⟩ := upto_ex (rows := rows) k
    have o := upto_ok u
    obtain ⟨m', g⟩ := give_ex o.valid (o.late k (Nat.le_refl _))
    exact ⟨m', .succ u g⟩
theorem upto_one {rows : Rows} : ∀ {k : Nat} {a b : MS}, Upto rows k a → Upto rows k b → a = b
  | 0, _, _, .zero, .zero => rfl
  | k + 1, _, _, .succ u g, .succ v h => by
    have := upto_one u v
    subst this
    exact give_one g h
def Full (rows : Rows) (m : MS) : Prop := ∀ p, p < rows.length → m.h p ≠ none
def dealt (n : Nat) (m : MS) : List Int := (List.range n).map fun p => (m.h p).getD 0
theorem dealt_get {n p : Nat} {m : MS} (h : p < n) : (dealt n m)[p]? = some ((m.h p).getD 0) := by
  unfold dealt
  rw [List.getElem?_map, List.getElem?_range h]
  rfl
theorem dealt_ok {rows : Rows} {m : MS} (v : Valid rows m) (f : Full rows m) : Ds rows (dealt rows.length m) ∧ ∀ p t, m.h p = some t → (dealt rows.length m)[p]? = some t := by
  have ln : (dealt rows.length m).length = rows.length := by unfold dealt; rw [List.length_map, List.length_range]
  have get : ∀ p t, m.h p = some t → (dealt rows.length m)[p]? = some t := fun p t h => by
    rw [dealt_get (row_lt (v.tie p t h)), h]
    rfl
  have back : ∀ p t, (dealt rows.length m)[p]? = some t → m.h p = some t := fun p t h => by
    have hp : p < rows.length := by
      have := (List.getElem?_eq_some_iff.mp h).1
      omega
    cases e : m.h p with
    | none => exact absurd e (f p hp)
    | some s =>
      rw [get p s e] at h
      exact h
  refine ⟨⟨ln, fun p t h => v.tie p t (back p t h), ?_⟩, get⟩
  unfold dealt
  refine nodup_map List.nodup_range fun x hx y hy e => ?_
  have hx' := List.mem_range.mp hx
  have hy' := List.mem_range.mp hy
  cases ex : m.h x with
  | none => exact absurd ex (f x hx')
  | some s =>
    cases ey : m.h y with
    | none => exact absurd ey (f y hy')
    | some t =>
      rw [ex, ey] at e
      have e' : s = t := e
      rw [e'] at ex
      exact v.inj ex ey
/-- either all are served, or there is no dealing -/
theorem full_or {rows : Rows} {m : MS} (o : UpOk rows rows.length m) : Full rows m ∨ ∃ p, p < rows.length ∧ m.h p = none ∧ ∀ D, ¬ Ds rows D := by
  by_cases f : Full rows m
  · exact .inl f
  · obtain ⟨p, hp⟩ := Classical.not_forall.mp f
    obtain ⟨h1, h2⟩ := Classical.not_imp.mp hp
    have h3 : m.h p = none := Classical.byContradiction h2
    obtain ⟨R, r, c⟩ := o.cl p h1 h3
    exact .inr ⟨p, h1, h3, fun D d => no_dealing o.valid h1 r c h3 d⟩
/-! steps from one to another -/
inductive Reach (rows : Rows) (o : Int → Option Nat) (q : Nat) : Nat → Prop
  | refl : Reach rows o q q
  | step {x y : Nat} {s : Int} : Reach rows o q x → s ∈ row rows x → o s = some y → Reach rows o q y
def Few (rows : Rows) : Prop := ∃ U : List Int, U.length ≤ rows.length ∧ ∀ p, ∀ t ∈ row rows p, t ∈ U
theorem owned {rows : Rows} {m : MS} (v : Valid rows m) (f : Full rows m) (few : Few rows) {p : Nat} {t : Int} (h : t ∈ row rows p) : ∃ q, m.o t = some q := by
  obtain ⟨U, hl, hU⟩ := few
  obtain ⟨d, get⟩ := dealt_ok v f
  have h1 := all_in d.nd (l2 := U) (fun x hx => by
    obtain ⟨i, hi⟩ := List.getElem?_of_mem hx
    exact hU i x (d.tie i x hi)) (by rw [d.len]; exact hl) t (hU p t h)
  obtain ⟨i, hi⟩ := List.getElem?_of_mem h1
  have hin : i < rows.length := row_lt (d.tie i t hi)
  cases e : m.h i with
  | none => exact absurd e (f i hin)
  | some s =>
    rw [get i s e] at hi
    cases hi
    exact ⟨i, (v.inv i t).mp e⟩
theorem reach_of {rows : Rows} {m : MS} {D : List Int} {p q : Nat} {t : Int} (v : Valid rows m) (f : Full rows m) (few : Few rows) (d : Ds rows D) (hD : D[p]? = some t) (ho : m.o t = some q) : Reach rows m.o q p := by
  refine Classical.byContradiction fun hc => ?_
  have hq : q < rows.length := row_lt (v.tie q t ((v.inv q t).mpr ho))
  have own : ∀ x, x < rows.length → ∃ s y, D[x]? = some s ∧ s ∈ row rows x ∧ m.o s = some y := fun x hx => by
    obtain ⟨s, e, hs⟩ := d.get hx
    obtain ⟨y, hy⟩ := owned v f few hs
    exact ⟨s, y, e, hs, hy⟩
  refine no_room (n := rows.length) (R := Reach rows m.o q) (p := q) (f := fun x => (m.o (D[x]?.getD 0)).getD 0) hq .refl (fun x hx rx => ?_) (fun x y hx hy rx ry e => ?_)
  · obtain ⟨s, y, e, hs, hy⟩ := own x hx
    show (m.o (D[x]?.getD 0)).getD 0 < _ ∧ Reach rows m.o q ((m.o (D[x]?.getD 0)).getD 0) ∧ (m.o (D[x]?.getD 0)).getD 0 ≠ q
    rw [e]
    show (m.o s).getD 0 < _ ∧ Reach rows m.o q ((m.o s).getD 0) ∧ (m.o s).getD 0 ≠ q
    rw [hy]
    refine ⟨row_lt (v.tie y s ((v.inv y s).mpr hy)), .step rx hs hy, fun z => ?_⟩
    have z' : y = q := z
    rw [z'] at hy
    have a := (v.inv q s).mpr hy
    have b := (v.inv q t).mpr ho
    rw [a] at b
    cases b
    exact hc (nodup_get d.nd e hD ▸ rx)
  · obtain ⟨s, u, e1, hs, hu⟩ := own x hx
    obtain ⟨s', u', e2, hs', hu'⟩ := own y hy
    have e' : (m.o (D[x]?.getD 0)).getD 0 = (m.o (D[y]?.getD 0)).getD 0 := e
    rw [e1, e2] at e'
    have e'' : (m.o s).getD 0 = (m.o s').getD 0 := e'
    rw [hu, hu'] at e''
    have e3 : u = u' := e''
    subst e3
    have a := (v.inv u s).mpr hu
    have b := (v.inv u s').mpr hu'
    rw [a] at b
    cases b
    exact nodup_get d.nd e1 e2
def narrow (rows : Rows) (p : Nat) (t : Int) : Rows := rows.mapIdx fun x r => if x = p then [t] else r.filter (fun s => decide (s ≠ t))
theorem narrow_len {rows : Rows} {p : Nat} {t : Int} : (narrow rows p t).length = rows.length := List.length_mapIdx
theorem narrow_get {rows : Rows} {p : Nat} {t : Int} (x : Nat) : (narrow rows p t)[x]? = rows[x]?.map fun r => if x = p then [t] else r.filter (fun s => decide (s ≠ t)) := List.getElem?_mapIdx
theorem row_narrow {rows : Rows} {p : Nat} {t : Int} {x : Nat} (h : x < rows.length) : row (narrow rows p t) x = if x = p then [t] else (row rows x).filter (fun s => decide (s ≠ t)) := by
  unfold row
  rw [narrow_get, List.getElem?_eq_getElem h]
  rfl
theorem mem_narrow {rows : Rows} {p : Nat} {t : Int} {x : Nat} {s : Int} (h : x < rows.length) : s ∈ row (narrow rows p t) x ↔ (x = p ∧ s = t) ∨ (x ≠ p ∧ s ∈ row rows x ∧ s ≠ t) := by
  rw [row_narrow h]
  by_cases e : x = p
  · rw [if_pos e, List.mem_singleton]
    exact ⟨fun z => .inl ⟨e, z⟩, fun z => z.elim (fun z => z.2) fun z => absurd e z.1⟩
  · rw [if_neg e, List.mem_filter, decide_eq_true_iff]
    exact ⟨fun z => .inr ⟨e, z⟩, fun z => z.elim (fun z => absurd z.1 e) fun z => z.2⟩
theorem ds_narrow {rows : Rows} {p : Nat} {t : Int} {D : List Int} (hp : p < rows.length) (ht : t ∈ row rows p) : Ds (narrow rows p t) D ↔ Ds rows D ∧ D[p]? = some t := by
  constructor
  · intro d
    have ln : D.length = rows.length := by rw [d.len, narrow_len]
    have hpt : D[p]? = some t := by
      obtain ⟨s, e, hs⟩ := d.get (p := p) (by rw [narrow_len]; exact hp)
      rcases (mem_narrow hp).mp hs with a | a
      · rw [e, a.2]
      · exact absurd rfl a.1
    refine ⟨⟨ln, fun x s e => ?_, d.nd⟩, hpt⟩
    have hx : x < rows.length := by
      have := (List.getElem?_eq_some_iff.mp e).1
      omega
    rcases (mem_narrow hx).mp (d.tie x s e) with a | a
    · rw [a.1, a.2]; exact ht
    · exact a.2.1
  · rintro ⟨d, hpt⟩
    refine ⟨by rw [narrow_len]; exact d.len, fun x s e => ?_, d.nd⟩
    have hx : x < rows.length := by
      have := (List.getElem?_eq_some_iff.mp e).1
      rw [d.len] at this
      exact this
    refine (mem_narrow hx).mpr ?_
    by_cases z : x = p
    · rw [z, hpt] at e
      exact .inl ⟨z, (Option.some.inj e).symm⟩
    · exact .inr ⟨z, d.tie x s e, fun y => z (nodup_get d.nd (by rw [y] at e; exact e) hpt)⟩
/-- a tie is in a dealing if the one who holds its thing comes to the person -/
theorem dealing_of {rows : Rows} {m : MS} {p q : Nat} {t : Int} (v : Valid rows m) (f : Full rows m) (ht : t ∈ row rows p) (ho : m.o t = some q) (r : Reach rows m.o q p) : ∃ D, Ds rows D ∧ D[p]? = some t := by
  have hp : p < rows.length := row_lt ht
  have hqt := (v.inv q t).mpr ho
  have hq : q < rows.length := row_lt (v.tie q t hqt)
  by_cases e : q = p
  · obtain ⟨d, get⟩ := dealt_ok v f
    exact ⟨_, d, get p t (by rw [← e]; exact hqt)⟩
  · obtain ⟨g, hg⟩ : ∃ g, m.h p = some g := by
      cases z : m.h p with
      | none => exact absurd z (f p hp)
      | some g => exact ⟨g, rfl⟩
    have hgt : g ≠ t := fun z => e (v.inj hqt (by rw [← z]; exact hg))
    obtain ⟨N, eN⟩ : ∃ N : MS, N = ⟨fset (fset m.h q none) p (some t), fset (fset m.o g none) t (some p)⟩ := ⟨_, rfl⟩
    have Nh : ∀ x, N.h x = if x = p then some t else if x = q then none else m.h x := fun x => by rw [eN]; rfl
    have No : ∀ s, N.o s = if s = t then some p else if s = g then none else m.o s := fun s => by rw [eN]; rfl
    have vN : Valid (narrow rows p t) N := by
      refine ⟨fun x s => ?_, fun x s h => ?_⟩
      · rw [Nh, No]
        by_cases a : x = p
        · rw [if_pos a]
          by_cases b : s = t
          · rw [if_pos b, a, b]
            exact ⟨fun _ => rfl, fun _ => rfl⟩
          · rw [if_neg b]
            refine ⟨fun z => absurd (Option.some.inj z).symm b, fun z => ?_⟩
            by_cases c : s = g
            · rw [if_pos c] at z; cases z
            · rw [if_neg c] at z
              have := (v.inv x s).mpr z
              rw [a, hg] at this
              exact absurd (Option.some.inj this).symm c
        · rw [if_neg a]
          by_cases b : s = t
          · rw [if_pos b]
            refine ⟨fun z => ?_, fun z => absurd (Option.some.inj z).symm a⟩
            by_cases c : x = q
            · rw [if_pos c] at z; cases z
            · rw [if_neg c, b] at z
              exact absurd (v.inj z hqt) c
          · rw [if_neg b]
            by_cases c : x = q
            · rw [if_pos c]
              refine ⟨fun z => (by cases z), fun z => ?_⟩
              by_cases d : s = g
              · rw [if_pos d] at z; cases z
              · rw [if_neg d] at z
                have := (v.inv x s).mpr z
                rw [c, hqt] at this
                exact absurd (Option.some.inj this).symm b
            · rw [if_neg c]
              by_cases d : s = g
              · rw [if_pos d]
                refine ⟨fun z => ?_, fun z => (by cases z)⟩
                rw [d] at z
                exact absurd (v.inj z hg) a
              · rw [if_neg d]
                exact v.inv x s
      · rw [Nh] at h
        by_cases a : x = p
        · rw [if_pos a] at h
          cases h
          exact (mem_narrow (by rw [a]; exact hp)).mpr (.inl ⟨a, rfl⟩)
        · rw [if_neg a] at h
          by_cases c : x = q
          · rw [if_pos c] at h; cases h
          · rw [if_neg c] at h
            have hs := v.tie x s h
            exact (mem_narrow (row_lt hs)).mpr (.inr ⟨a, hs, fun z => c (v.inj (by rw [z] at h; exact h) hqt)⟩)
    have hNq : N.h q = none := by rw [Nh, if_neg e, if_pos rfl]
    obtain ⟨m', g'⟩ := give_ex vN hNq
    rcases give_ok vN hNq g' with a | ⟨_, R, rq, c⟩
    · have full : Full (narrow rows p t) m' := fun x hx => by
        by_cases z : x = q
        · rw [z]; exact a.got
        · intro y
          have := (a.dom x z).mp y
          rw [Nh] at this
          by_cases w : x = p
          · rw [if_pos w] at this; cases this
          · rw [if_neg w, if_neg z] at this
            rw [narrow_len] at hx
            exact f x hx this
      have d := (dealt_ok a.valid full).1
      have := (ds_narrow hp ht).mp d
      exact ⟨_, this.1, this.2⟩
    · exfalso
      have all : ∀ x, Reach rows m.o q x → R x ∧ x ≠ p := fun x hx => by
        induction hx with
        | refl => exact ⟨rq, e⟩
        | @step x y s _ hs hy ih =>
          have hys := (v.inv y s).mpr hy
          by_cases z : s = t
          · rw [z, ho] at hy
            cases hy
            exact ⟨rq, e⟩
          · obtain ⟨y', ry', hy'⟩ := c x ih.1 s ((mem_narrow (row_lt hs)).mpr (.inr ⟨ih.2, hs, z⟩))
            rw [Nh] at hy'
            by_cases w : y' = p
            · rw [if_pos w] at hy'
              exact absurd (Option.some.inj hy').symm z
            · rw [if_neg w] at hy'
              by_cases u : y' = q
              · rw [if_pos u] at hy'; cases hy'
              · rw [if_neg u] at hy'
                have := v.inj hy' hys
                rw [← this]
                exact ⟨ry', w⟩
      exact (all p r).2 rfl
def Live (rows : Rows) (p : Nat) (t : Int) : Prop := ∃ D, Ds rows D ∧ D[p]? = some t
theorem live_iff {rows : Rows} {m : MS} {p q : Nat} {t : Int} (v : Valid rows m) (f : Full rows m) (few : Few rows) (ht : t ∈ row rows p) (ho : m.o t = some q) : Live rows p t ↔ Reach rows m.o q p :=
  ⟨fun ⟨_, d, e⟩ => reach_of v f few d e ho, fun r => dealing_of v f ht ho r⟩
/-- the rows without the ties that are in no dealing -/
noncomputable def liveR (rows : Rows) : Rows := rows.mapIdx fun p r => r.filter (fun t => decide (Live rows p t))
theorem liveR_len {rows : Rows} : (liveR rows).length = rows.length := List.length_mapIdx
theorem row_liveR {rows : Rows} {p : Nat} : row (liveR rows) p = (row rows p).filter (fun t => decide (Live rows p t)) := by
  unfold row liveR
  rw [List.getElem?_mapIdx]
  cases rows[p]? with
  | none => rfl
  | some r => rfl
theorem mem_liveR {rows : Rows} {p : Nat} {t : Int} : t ∈ row (liveR rows) p ↔ Live rows p t := by
  rw [row_liveR, List.mem_filter, decide_eq_true_iff]
  exact ⟨fun h => h.2, fun h => ⟨by obtain ⟨D, d, e⟩ := h; exact d.tie p t e, h⟩⟩
theorem ds_liveR {rows : Rows} {D : List Int} : Ds (liveR rows) D ↔ Ds rows D := by
  constructor
  · intro d
    refine ⟨by rw [d.len, liveR_len], fun p t e => ?_, d.nd⟩
    obtain ⟨D', d', e'⟩ := mem_liveR.mp (d.tie p t e)
    exact d'.tie p t e'
  · intro d
    exact ⟨by rw [liveR_len]; exact d.len, fun p t e => mem_liveR.mpr ⟨D, d, e⟩, d.nd⟩
end Mt

set_option maxRecDepth 100000
set_option maxHeartbeats 2000000
/-! Dicts from ints to people; stores with an operator; a while by a number that is told. -/
namespace Fo
open PySem PySem.Spec PyProof.Rows L2
section
variable {X : Cx}
theorem pip_of {op : Operator} {r : R2} (h : OpR X (inplaceOp op) r) : PIp X op r := fun pins s σ H x y v u Q I r1 r2 q => h pins s σ H x y v u Q I r1 r2 q
def rGetL (K : PySem.W.Frag) : V → V → Hp → VK → Prop := fun o i H Q => ∃ p xs k v, o = .ref p ∧ i = .int k ∧ 0 ≤ k ∧ SqL K H p xs ∧ atI xs k = some v ∧ Q v H
theorem get_list : PGet X (rGetL X.K) := by
  intro pins s σ H o i ov iv Q I ro ri h
  obtain ⟨p, xs, k, z, rfl, rfl, k0, hq, he, q⟩ := h
  cases ro
  obtain ⟨t, rfl⟩ := ri
  obtain ⟨its, r, pl, hz⟩ := I.list hq
  obtain ⟨j, h1, h2, h3, h4, h5⟩ := atI_get he
  obtain ⟨w, ew, rw'⟩ := r.get h2
  have hl := r.length
  have hn := line63
  have hj : k.toNat = j := by
    rw [seqIndex_of k0 h5] at h1
    exact Option.some.inj h1
  exact wpAny_getItem_list pl.isList k0 (by omega) (by rw [hj]; simpa using ew) ⟨z, H, I, rw', q⟩
end
theorem while_m {c : TT} {tb : TS} {D : Ends} {σ : L2.St} {H : Hp} (Pv : Nat → L2.St → Hp → Prop) (h0 : ∃ m, Pv m σ H)
    (hs : ∀ m σ H, Pv m σ H → c σ H fun b H1 => if b = true then tb { D with nx := fun σ' H' => ∃ j, j < m ∧ Pv j σ' H', ct := fun σ' H' => ∃ j, j < m ∧ Pv j σ' H', bk := D.nx } σ H1 else D.nx σ H1)
    (mono : ∀ σ H Q Q', (∀ b H1, Q b H1 → Q' b H1) → c σ H Q → c σ H Q') : tWhile c tb D σ H := by
  refine ⟨Pv, h0, fun m σ H p => mono σ H _ _ (fun b H1 q => ?_) (hs m σ H p)⟩
  cases b with
  | true => exact ⟨_, fun σ' H' h => h, q⟩
  | false => exact q
/-! ### dicts from ints to people -/
abbrev nV (q : Nat) : V := .int (q : Int)
def DR (H : Hp) (a : Addr) (f : Int → Option Nat) : Prop := ∃ kvs : List (Key × V), H a = some (.dK kvs) ∧ (∀ t : Int, valV kvs (.inl t) = (f t).map nV) ∧ (kvs.map (·.1)).Nodup ∧ ∀ k ∈ kvs.map (·.1), ∃ t : Int, k = .inl t ∧ f t ≠ none
theorem DR.new {H : Hp} {p : Addr} : DR (upd H p (.dK [])) p (fun _ => none) := ⟨[], upd_same, fun _ => rfl, List.nodup_nil, fun _ h => (by cases h)⟩
theorem DR.at_ {H H' : Hp} {a : Addr} {f : Int → Option Nat} (d : DR H a f) (h : ∀ o, H a = some o → H' a = some o) : DR H' a f := by
  obtain ⟨kvs, e, r⟩ := d
  exact ⟨kvs, h _ e, r⟩
theorem DR.isd {H : Hp} {a : Addr} {f : Int → Option Nat} (d : DR H a f) : ∃ kvs, H a = some (.dK kvs) := by
  obtain ⟨kvs, e, r⟩ := d
  exact ⟨kvs, e⟩
theorem keys_put {kvs : List (Key × V)} {k : Key} {v : V} : ∀ j ∈ (putK kvs k v).map (·.1), j = k ∨ j ∈ kvs.map (·.1) := by
  intro j hj
  unfold putK at hj
  by_cases c : (kvs.any fun kv => decide (kv.1 = k)) = true
  · rw [if_pos c, List.map_map] at hj
    right
    obtain ⟨kv, h1, h2⟩ := List.mem_map.mp hj
    refine List.mem_map.mpr ⟨kv, h1, ?_⟩
    rw [← h2]
    show kv.1 = (if kv.1 = k then (kv.1, v) else kv).1
    by_cases z : kv.1 = k
    · rw [if_pos z]
    · rw [if_neg z]
  · rw [if_neg c, List.map_append] at hj
    rcases List.mem_append.mp hj with h | h
    · exact .inr h
    · exact .inl (by simpa using h)
theorem nodup_put {kvs : List (Key × V)} {k : Key} {v : V} (h : (kvs.map (·.1)).Nodup) : ((putK kvs k v).map (·.1)).Nodup := by
  unfold putK
  by_cases c : (kvs.any fun kv => decide (kv.1 = k)) = true
  · rw [if_pos c, List.map_map]
    have e : kvs.map ((·.1) ∘ fun kv => if kv.1 = k then (kv.1, v) else kv) = kvs.map (·.1) := List.map_congr_left fun kv _ => by
      show (if kv.1 = k then (kv.1, v) else kv).1 = kv.1
      by_cases z : kv.1 = k
      · rw [if_pos z]
      · rw [if_neg z]
    rw [e]
    exact h
  · rw [if_neg c, List.map_append]
    refine List.nodup_append.mpr ⟨h, List.nodup_cons.mpr ⟨fun z => (by cases z), List.nodup_nil⟩, fun x hx y hy => ?_⟩
    have ey : y = k := by simpa using hy
    rw [ey]
    intro z
    apply c
    rw [List.any_eq_true]
    obtain ⟨kv, h1, h2⟩ := List.mem_map.mp hx
    exact ⟨kv, h1, decide_eq_true (by rw [h2, z])⟩
theorem DR.len {H : Hp} {a : Addr} {f : Int → Option Nat} {U : List Int} {kvs : List (Key × V)} (hn : (kvs.map (·.1)).Nodup) (hk : ∀ k ∈ kvs.map (·.1), ∃ t : Int, k = .inl t ∧ f t ≠ none) (hU : ∀ t, f t ≠ none → t ∈ U) : kvs.length ≤ U.length := by
  have := Mt.len_le (l2 := U.map (Sum.inl : Int → Key)) hn fun k hk' => by
    obtain ⟨t, e, h⟩ := hk k hk'
    exact List.mem_map.mpr ⟨t, hU t h, e.symm⟩
  rw [List.length_map, List.length_map] at this
  exact this
theorem DR.get {H : Hp} {a : Addr} {f : Int → Option Nat} (d : DR H a f) (t : Int) : DGet H a (.int t) ((f t).map nV) := by
  obtain ⟨kvs, e, h, _⟩ := d
  rw [← h t]
  exact DGet.k (k := .inl t) e
theorem DR.put {H : Hp} {a : Addr} {f : Int → Option Nat} {U : List Int} (d : DR H a f) (t : Int) (q : Nat) (hU : ∀ t, f t ≠ none → t ∈ U) (hl : U.length ≤ 100000) : ∃ H', DPut H a (.int t) (nV q) H' ∧ DR H' a (Mt.fset f t (some q)) ∧ ∀ b, b ≠ a → H' b = H b := by
  obtain ⟨kvs, e, h, hn, hk⟩ := d
  have ln := DR.len (H := H) (a := a) hn hk hU
  refine ⟨_, DPut.k (k := .inl t) e (small_lt (by omega)), ⟨_, upd_same, fun s => ?_, nodup_put hn, fun k hk' => ?_⟩, fun b hb => upd_ne hb⟩
  · rw [valV_put]
    by_cases z : s = t
    · rw [if_pos (by rw [z]), z, Mt.fset_same]
      rfl
    · rw [if_neg (fun y => z (by injection y)), Mt.fset_ne z]
      exact h s
  · rcases keys_put k hk' with z | z
    · exact ⟨t, z, by rw [Mt.fset_same]; exact fun y => nomatch y⟩
    · obtain ⟨s, e1, e2⟩ := hk k z
      refine ⟨s, e1, ?_⟩
      by_cases y : s = t
      · rw [y, Mt.fset_same]; exact fun y => nomatch y
      · rw [Mt.fset_ne y]; exact e2
/-- all but two places are kept -/
def Keep2 (a b : Addr) (H H' : Hp) : Prop := ∀ c o, c ≠ a → c ≠ b → H c = some o → H' c = some o
theorem Keep2.refl {a b : Addr} {H : Hp} : Keep2 a b H H := fun _ _ _ _ h => h
theorem Keep2.trans {a b : Addr} {H H1 H2 : Hp} (x : Keep2 a b H H1) (y : Keep2 a b H1 H2) : Keep2 a b H H2 := fun c o h1 h2 e => y c o h1 h2 (x c o h1 h2 e)
theorem Keep2.same {a b : Addr} {H H' : Hp} (s : Same H H') : Keep2 a b H H' := fun c o _ _ e => s c o e
theorem same_keep2 {a b : Addr} {H0 H H' : Hp} (s : Same H0 H) (k : Keep2 a b H H') (ha : H0 a = none) (hb : H0 b = none) : Same H0 H' := fun c o e => k c o (ne_of_none e ha) (ne_of_none e hb) (s c o e)
/-- who holds what, as a list -/
abbrev oI : Option Int → V
  | none => .non
  | some t => .int t
def heldV (n : Nat) (h : Nat → Option Int) : List V := (List.range n).map fun p => oI (h p)
theorem heldV_len {n : Nat} {h : Nat → Option Int} : (heldV n h).length = n := by unfold heldV; rw [List.length_map, List.length_range]
theorem heldV_get {n p : Nat} {h : Nat → Option Int} (hp : p < n) : (heldV n h)[p]? = some (oI (h p)) := by
  unfold heldV
  rw [List.getElem?_map, List.getElem?_range hp]
  rfl
theorem heldV_set {n q : Nat} {h : Nat → Option Int} {t : Int} : (heldV n h).set q (.int t) = heldV n (Mt.fset h q (some t)) := by
  apply List.ext_getElem?
  intro i
  rw [List.getElem?_set, heldV_len]
  by_cases hq : q = i
  · rw [if_pos hq]
    subst hq
    by_cases hn : q < n
    · rw [if_pos hn, heldV_get hn, Mt.fset_same]
    · rw [if_neg hn]
      symm
      rw [List.getElem?_eq_none_iff, heldV_len]
      omega
  · rw [if_neg hq]
    by_cases hn : i < n
    · rw [heldV_get hn, heldV_get hn, Mt.fset_ne (Ne.symm hq)]
    · rw [List.getElem?_eq_none (by rw [heldV_len]; omega), List.getElem?_eq_none (by rw [heldV_len]; omega)]
/-- handing on in so many steps -/
inductive HandN (c : Mt.Came) : Nat → Mt.MS → Int → Mt.MS → Prop
  | last {m : Mt.MS} {t : Int} {q : Nat} : c t = some q → m.h q = none → HandN c 0 m t (Mt.put m q t)
  | more {k : Nat} {m m' : Mt.MS} {t s : Int} {q : Nat} : c t = some q → m.h q = some s → HandN c k (Mt.put m q t) s m' → HandN c (k + 1) m t m'
theorem hand_n {c : Mt.Came} {m m' : Mt.MS} {t : Int} (h : Mt.Hand c m t m') : ∃ k, HandN c k m t m' := by
  induction h with
  | last a b => exact ⟨0, .last a b⟩
  | more a b _ ih =>
    obtain ⟨k, hk⟩ := ih
    exact ⟨k + 1, .more a b hk⟩
end Fo
namespace Fo
open PySem PySem.Spec PyProof.Rows L2
/-! a dict out of a list that is counted -/
theorem dc_enumL {K : PySem.W.Frag} {a : Addr} {xs : List V} {g : TG} {tt : TT} {tk tv : TE} {vs : List Nat} {σ : L2.St} {H1 : Hp} {D : Addr} {Qd : Hp → Prop} (Pv : Nat → Hp → Prop) (h0 : Pv 0 (upd H1 D (.dK []))) (hl : ∀ i H, i ≤ xs.length → Pv i H → SqL K H a xs)
    (hs : ∀ i x H T, xs[i]? = some x → Pv i H → H T = none → g (.ref T) (wipe σ vs) (upd H T (.tup [.int (i : Nat), x])) fun σ2 H2 => wipe σ2 vs = wipe σ vs ∧ tt σ2 H2 fun b H3 =>
      if b = true then tk σ2 H3 fun y H4 => tv σ2 H4 fun z H5 => ∃ kvs k, y = kV k ∧ H5 D = some (.dK kvs) ∧ kvs.length < sizeLine ∧ Pv (i + 1) (upd H5 D (.dK (putK kvs k z))) else Pv (i + 1) H3) (hd : ∀ H, Pv xs.length H → Qd H) :
    ∃ W : Nat → Nat → Hp → Prop, (∃ m, W 0 m (upd H1 D (.dK []))) ∧ ∀ i m H, W i m H →
      ((Ite K a).stop i H ∧ Qd H) ∨ ((Ite K a).go i H ∧ ∃ Nx : Hp → Prop, (∀ H', Nx H' → ∃ m', m' < m ∧ W (i + 1) m' H') ∧ ∀ x H', (Ite K a).yld i H x H' → g x (wipe σ vs) H' fun σ2 H2 => wipe σ2 vs = wipe σ vs ∧ tt σ2 H2 fun b H3 =>
        if b = true then tk σ2 H3 fun y H4 => tv σ2 H4 fun z H5 => ∃ kvs k, y = kV k ∧ H5 D = some (.dK kvs) ∧ kvs.length < sizeLine ∧ Nx (upd H5 D (.dK (putK kvs k z))) else Nx H3) := by
  refine ⟨fun i m H => m = xs.length - i ∧ i ≤ xs.length ∧ Pv i H, ⟨xs.length, by simp, Nat.zero_le _, h0⟩, ?_⟩
  rintro i m H ⟨rfl, hi, p⟩
  have q := hl i H hi p
  by_cases hlt : i < xs.length
  · refine .inr ⟨⟨xs, xs[i], q, by simp [hlt]⟩, Pv (i + 1), fun H' p' => ⟨xs.length - (i + 1), by omega, rfl, hlt, p'⟩, fun x H' y => ?_⟩
    obtain ⟨T, x', rfl, nT, rfl, y⟩ := y
    exact hs i x' H T (y xs q) p nT
  · have e : i = xs.length := by omega
    subst e
    exact .inl ⟨⟨xs, q, Nat.le_refl _⟩, hd H p⟩
/-- a list of numbers, by a function -/
def numL (n : Nat) (M : Nat → Nat) : List V := (List.range n).map fun p => nV (M p)
theorem numL_len {n : Nat} {M : Nat → Nat} : (numL n M).length = n := by unfold numL; rw [List.length_map, List.length_range]
theorem numL_get {n p : Nat} {M : Nat → Nat} (hp : p < n) : (numL n M)[p]? = some (nV (M p)) := by
  unfold numL
  rw [List.getElem?_map, List.getElem?_range hp]
  rfl
theorem numL_set {n q N : Nat} {M : Nat → Nat} : (numL n M).set q (nV N) = numL n (Mt.fset M q N) := by
  apply List.ext_getElem?
  intro i
  rw [List.getElem?_set, numL_len]
  by_cases hq : q = i
  · rw [if_pos hq]
    subst hq
    by_cases hn : q < n
    · rw [if_pos hn, numL_get hn, Mt.fset_same]
    · rw [if_neg hn]
      symm
      rw [List.getElem?_eq_none_iff, numL_len]
      omega
  · rw [if_neg hq]
    by_cases hn : i < n
    · rw [numL_get hn, numL_get hn, Mt.fset_ne (Ne.symm hq)]
    · rw [List.getElem?_eq_none (by rw [numL_len]; omega), List.getElem?_eq_none (by rw [numL_len]; omega)]
theorem numL_snoc {n N : Nat} {M : Nat → Nat} : numL n M ++ [nV N] = numL (n + 1) (Mt.fset M n N) := by
  unfold numL
  rw [List.range_succ, List.map_append]
  congr 1
  · exact List.map_congr_left fun p hp => by
      have := List.mem_range.mp hp
      rw [Mt.fset_ne (by omega)]
  · show _ = [nV (Mt.fset M n N n)]
    rw [Mt.fset_same]
/-! readings of the operators on bits -/
def rOdd : R2 := fun x y H Q => ∃ n : Nat, x = .int (n : Int) ∧ y = .int 1 ∧ Q (.int ((n % 2 : Nat) : Int)) H
def rOneShl : R2 := fun x y H Q => ∃ k : Nat, x = .int 1 ∧ y = .int (k : Int) ∧ k ≤ 134217727 ∧ Q (.int (2 ^ k)) H
theorem two_pow_nat (k : Nat) : ((2 : Int) ^ k) = ((2 ^ k : Nat) : Int) := by
  induction k with
  | zero => rfl
  | succ k ih => rw [Int.pow_succ, ih, Nat.pow_succ]; omega
theorem or_nat (a b : Nat) : Builtin.bitOr (a : Int) (b : Int) = ((a ||| b : Nat) : Int) := by
  rw [bitOr_nn (by omega) (by omega)]
  rfl
theorem shr_nat (a k : Nat) : (a : Int) / 2 ^ k = ((a / 2 ^ k : Nat) : Int) := by
  rw [two_pow_nat]
  rfl
end Fo
namespace Fo
open PySem PySem.Spec PyProof.Rows L2
def rNotN : R2 := fun x y H Q => y = .non ∧ Q (.bl (!decide (x = .non))) H
end Fo
namespace Fo
open PySem PySem.Spec PyProof.Rows L2
def retScope (s : Stmt) : Scope := match (defBody s).getLast? with
  | some (.Return (some (.ListComp _ _ sc _)) _) => sc
  | some (.Return (some (.Call _ [.ListComp _ _ sc _] _ _)) _) => sc
  | _ => defScope s
def envQ (sc : Scope) : Env := { scope := sc, locals := 0, globals := 0, cells := [], qual := "", func := none, code := .none, frame := none, builtins := 0 }
theorem non_in (n : Nat) (h : Nat → Option Int) : inV .non (heldV n h) = decide (∃ p, p < n ∧ h p = none) := by
  unfold inV heldV
  rw [List.any_map]
  by_cases c : ∃ p, p < n ∧ h p = none
  · rw [decide_eq_true c, List.any_eq_true]
    obtain ⟨p, h1, h2⟩ := c
    exact ⟨p, List.mem_range.mpr h1, by show eqV (oI (h p)) .non = true; rw [h2]; rfl⟩
  · rw [decide_eq_false c]
    rw [Bool.eq_false_iff]
    intro q
    rw [List.any_eq_true] at q
    obtain ⟨p, h1, h2⟩ := q
    cases e : h p with
    | none => exact c ⟨p, List.mem_range.mp h1, e⟩
    | some t =>
      have h2' : eqV (oI (h p)) .non = true := h2
      rw [e] at h2'
      cases h2'
theorem held_flat (n : Nat) (h : Nat → Option Int) : (heldV n h).all flatV = true := by
  unfold heldV
  rw [List.all_map, List.all_eq_true]
  intro p _
  show flatV (oI (h p)) = true
  cases h p <;> rfl
end Fo

set_option maxRecDepth 100000
set_option maxHeartbeats 4000000
namespace Fo
open PySem PySem.Spec PyProof.Rows L2
abbrev s_hand_on : Stmt := top 17
abbrev n_hand_on : List Str := ["held", "owner", "came", "thing", "person", "left"]
theorem sc_hand_on : FnScope n_hand_on ["held", "owner", "came", "thing"] (defScope s_hand_on) := ⟨rfl, rfl, rfl, by decide +kernel, rfl, by decide +kernel, by decide +kernel⟩
abbrev s_give : Stmt := top 16
abbrev n_give : List Str := ["rows", "held", "owner", "person", "came", "waiting", "one", "thing"]
theorem sc_give : FnScope n_give ["rows", "held", "owner", "person"] (defScope s_give) := ⟨rfl, rfl, rfl, by decide +kernel, rfl, by decide +kernel, by decide +kernel⟩
abbrev s_matched : Stmt := top 15
abbrev n_matched : List Str := ["rows", "held", "owner", "person"]
theorem sc_matched : FnScope n_matched ["rows"] (defScope s_matched) := ⟨rfl, rfl, rfl, by decide +kernel, rfl, by decide +kernel, by decide +kernel⟩
theorem ixN_nat {n q : Nat} (h : q < n) : ixN n (q : Int) = some q := by
  unfold ixN
  rw [if_pos (by omega), if_pos (by omega)]
  rfl
theorem at_nat {α : Type} {xs : List α} {x : α} {j : Nat} (h : xs[j]? = some x) : atI xs (j : Int) = some x := atI_nat h
section
variable {P : Program} {w : World} {K : PySem.W.Frag} {mg : Str → Option Value} {base : Heap} {C : Addr}
def HR (n : Nat) (H : Hp) (hd ow : Addr) (m : Mt.MS) : Prop := H hd = some (.lst (heldV n m.h)) ∧ DR H ow m.o
theorem HR.ne {n : Nat} {H : Hp} {hd ow : Addr} {m : Mt.MS} (h : HR n H hd ow m) : hd ≠ ow := by
  obtain ⟨kvs, e⟩ := h.2.isd
  exact ne_of h.1 e (by intro z; cases z)
theorem HR.at_ {n : Nat} {H H' : Hp} {hd ow : Addr} {m : Mt.MS} (h : HR n H hd ow m) (a : ∀ o, H hd = some o → H' hd = some o) (b : ∀ o, H ow = some o → H' ow = some o) : HR n H' hd ow m := ⟨a _ h.1, h.2.at_ b⟩
def spHand : Sp := fun vs H Q _ => ∃ (hd ow cm : Addr) (n : Nat) (m m' : Mt.MS) (c : Mt.Came) (t : Int) (U : List Int), vs = [.ref hd, .ref ow, .ref cm, .int t] ∧ HR n H hd ow m ∧ DR H cm c ∧ cm ≠ ow ∧ Mt.Hand c m t m' ∧
  (∀ s q, c s = some q → q < n ∧ s ∈ U) ∧ (∀ s, m.o s ≠ none → s ∈ U) ∧ U.length ≤ 100000 ∧ n ≤ 100000 ∧ ∀ H', Keep2 hd ow H H' → HR n H' hd ow m' → Q .non H'
theorem ok_hand (A : At K mg "_hand_on" s_hand_on ["held", "owner", "came", "thing"]) (T : Tx mg) : Dfn P w K mg base "_hand_on" ["held", "owner", "came", "thing"] 1 spHand := by
  refine A.ok sc_hand_on (fun vs H Q E h => ?_) (fun f cdv A outer s H vs Q E hr h => ?_)
  · obtain ⟨hd, ow, cm, n, m, m', c, t, U, rfl, _⟩ := h
    rfl
  · obtain ⟨hd, ow, cm, n, m, m', c, t, U, rfl, hm, hc, nco, hh, hcb, hU, hl, hn, k⟩ := h
    obtain ⟨j0, hj0⟩ := hand_n hh
    have ncd : cm ≠ hd := by
      obtain ⟨kvs, e⟩ := hc.isd
      exact ne_of e hm.1 (by intro z; cases z)
    refine ⟨_, (pss_one (ps_while PassesOwn.never (pt_cmpR op_notN (pv 3) pe_non (nomark _)) (pss_cons (ps_set (i := 4) sc_hand_on.nd rfl (Or.inl rfl) (pe_dget (hu_of hr) (pv 2) (pv 3) (fun _ _ => rfl)))
      (pss_cons (ps_set (i := 5) sc_hand_on.nd rfl (Or.inl rfl) (pe_ix ix_list (pv 0) (pv 4) (fun _ _ => rfl)))
      (pss_cons (ps_asg (pv 3) (pg_sub (pv 0) (pv 4) set_list))
      (pss_cons (ps_dput (hu_of hr) (pv 1) (pv 3) (pv 4) rfl)
      (pss_one (ps_set (i := 3) sc_hand_on.nd rfl (Or.inl rfl) (pv 5))))))))), ?_⟩
    refine while_m (fun z σ' H' => ∃ x4 x5, (∃ j m1 t1, z = j + 1 ∧ σ' = [some (.ref hd), some (.ref ow), some (.ref cm), some (.int t1), x4, x5] ∧ HandN c j m1 t1 m' ∧ HR n H' hd ow m1 ∧ DR H' cm c ∧ Keep2 hd ow H H' ∧ ∀ s, m1.o s ≠ none → s ∈ U) ∨ (z = 0 ∧ σ' = [some (.ref hd), some (.ref ow), some (.ref cm), some .non, x4, x5] ∧ HR n H' hd ow m' ∧ Keep2 hd ow H H')) ⟨_, _, _, .inl ⟨j0, m, t, rfl, rfl, hj0, hm, hc, Keep2.refl, hU⟩⟩ ?_ ?_
    · rintro z σ' H1 ⟨x4, x5, ⟨j, m1, t1, rfl, rfl, hj, h1, hc1, kp, hU1⟩ | ⟨rfl, rfl, h1, kp⟩⟩
      · refine ⟨_, rfl, rfl, _, rfl, ?_⟩
        have go : ∀ (q : Nat), c t1 = some q → ∃ H', DPut (upd H1 hd (.lst ((heldV n m1.h).set q (.int t1)))) ow (.int t1) (nV q) H' ∧ HR n H' hd ow (Mt.put m1 q t1) ∧ DR H' cm c ∧ Keep2 hd ow H H' ∧ (∀ s, (Mt.put m1 q t1).o s ≠ none → s ∈ U) := fun q hq => by
          have h2 : DR (upd H1 hd (.lst ((heldV n m1.h).set q (.int t1)))) ow m1.o := h1.2.at_ fun o e => by rw [upd_ne h1.ne.symm]; exact e
          obtain ⟨H', d1, d2, d3⟩ := h2.put t1 q hU1 hl
          refine ⟨H', d1, ⟨?_, d2⟩, hc1.at_ fun o e => ?_, fun b o n1 n2 e => ?_, fun s hs => ?_⟩
          · rw [d3 hd h1.ne, upd_same, heldV_set]
            rfl
          · rw [d3 cm nco, upd_ne ncd]
            exact e
          · rw [d3 b n2, upd_ne n1]
            exact kp b o n1 n2 e
          · have hs' : Mt.fset m1.o t1 (some q) s ≠ none := hs
            by_cases y : s = t1
            · rw [y]; exact (hcb t1 q hq).2
            · rw [Mt.fset_ne y] at hs'
              exact hU1 s hs'
        cases hj with
        | @last _ _ q a b =>
          obtain ⟨H', d1, d2, d3, d4, d5⟩ := go q a
          have qn := (hcb t1 q a).1
          have get := hc1.get t1
          rw [a] at get
          refine ⟨_, rfl, _, rfl, cm, _, rfl, get, ?_⟩
          refine ⟨_, rfl, _, rfl, hd, _, _, _, rfl, rfl, SqL.of h1.1, at_nat (heldV_get qn), ?_⟩
          refine ⟨_, rfl, _, rfl, _, rfl, hd, _, _, q, rfl, rfl, h1.1, by rw [heldV_len]; exact ixN_nat qn, ?_⟩
          refine ⟨_, rfl, _, rfl, _, rfl, ow, H', rfl, d1, ?_⟩
          rw [b]
          exact ⟨_, rfl, 0, Nat.zero_lt_succ _, _, _, .inr ⟨rfl, rfl, d2, d4⟩⟩
        | @more j _ _ _ s q a b d =>
          obtain ⟨H', d1, d2, d3, d4, d5⟩ := go q a
          have qn := (hcb t1 q a).1
          have get := hc1.get t1
          rw [a] at get
          refine ⟨_, rfl, _, rfl, cm, _, rfl, get, ?_⟩
          refine ⟨_, rfl, _, rfl, hd, _, _, _, rfl, rfl, SqL.of h1.1, at_nat (heldV_get qn), ?_⟩
          refine ⟨_, rfl, _, rfl, _, rfl, hd, _, _, q, rfl, rfl, h1.1, by rw [heldV_len]; exact ixN_nat qn, ?_⟩
          refine ⟨_, rfl, _, rfl, _, rfl, ow, H', rfl, d1, ?_⟩
          rw [b]
          exact ⟨_, rfl, j + 1, Nat.lt_succ_self _, _, _, .inl ⟨j, _, s, rfl, rfl, d, d2, d3, d4, d5⟩⟩
      · refine ⟨_, rfl, rfl, _, rfl, ?_⟩
        exact k H1 kp h1
    · rintro σ' H1 Q1 Q2 hQ ⟨a, b, c, d, e, f⟩
      exact ⟨a, b, c, d, e, hQ _ _ f⟩
theorem todo_put {o : Int → Option Nat} {U : List Int} {c : Mt.Came} {w : List Nat} {one q : Nat} {t : Int} (ht : t ∈ U) (hc : ¬ (c t).isSome = true) (ho : o t = some q) : Mt.todo U (Mt.fset c t (some one)) (w ++ [q]) ≤ Mt.todo U c w := by
  refine Mt.scan_todo' (o := o) (one := one) (l := [t]) (fun s hs => by rw [List.mem_singleton.mp hs]; exact ht) ?_
  show (if (c t).isSome = true then _ else match o t with | none => _ | some q => _) = _
  rw [if_neg hc, ho]
  rfl
theorem scan_some {o : Int → Option Nat} {c : Mt.Came} {w : List Nat} {one : Nat} {t : Int} {l : List Int} (hc : (c t).isSome = true) : Mt.scan o one (t :: l) c w = Mt.scan o one l c w := by
  show (if (c t).isSome = true then Mt.scan o one l c w else _) = _
  rw [if_pos hc]
theorem scan_free {o : Int → Option Nat} {c : Mt.Came} {w : List Nat} {one : Nat} {t : Int} {l : List Int} (hc : ¬ (c t).isSome = true) (ho : o t = none) : Mt.scan o one (t :: l) c w = (some t, Mt.fset c t (some one), w) := by
  show (if (c t).isSome = true then _ else match o t with | none => _ | some q => _) = _
  rw [if_neg hc, ho]
theorem scan_own {o : Int → Option Nat} {c : Mt.Came} {w : List Nat} {one q : Nat} {t : Int} {l : List Int} (hc : ¬ (c t).isSome = true) (ho : o t = some q) : Mt.scan o one (t :: l) c w = Mt.scan o one l (Mt.fset c t (some one)) (w ++ [q]) := by
  show (if (c t).isSome = true then _ else match o t with | none => _ | some q => _) = _
  rw [if_neg hc, ho]
def spGive (K : PySem.W.Frag) : Sp := fun vs H Q _ => ∃ (b : Bool) (H0 : Hp) (rv : V) (rows : List (List Int)) (hd ow : Addr) (p : Nat) (m : Mt.MS), vs = [rv, .ref hd, .ref ow, .int (p : Int)] ∧ RowsQ b K H0 rv rows ∧ Same H0 H ∧ H0 hd = none ∧ H0 ow = none ∧ HR rows.length H hd ow m ∧
  Mt.Valid rows m ∧ m.h p = none ∧ p < rows.length ∧ (Mt.things rows).length ≤ 90000 ∧ rows.length ≤ 90000 ∧ ∀ m' H', Mt.Give rows m p m' → Same H0 H' → HR rows.length H' hd ow m' → Q .non H'
theorem ok_give (A : At K mg "_give" s_give ["rows", "held", "owner", "person"]) (T : Tx mg) (G_hand_on : Dfn P w K mg base "_hand_on" ["held", "owner", "came", "thing"] 1 spHand) : Dfn P w K mg base "_give" ["rows", "held", "owner", "person"] 2 (spGive K) := by
  refine A.ok sc_give (fun vs H Q E h => ?_) (fun f cdv A outer s H vs Q E hr h => ?_)
  · obtain ⟨b, H0, rv, rows, hd, ow, p, m, rfl, _⟩ := h
    rfl
  · obtain ⟨b, H0, rv, rows, hd, ow, p, m, rfl, hR, s0, fhd, fow, hm, v, hp, hpn, hU, hn, k⟩ := h
    obtain ⟨ra, vs, rfl, hra, hrb⟩ := hR
    refine ⟨_, (pss_cons (ps_set (i := 4) sc_give.nd rfl (Or.inl rfl) pe_dnewK)
      (pss_cons (ps_set (i := 5) sc_give.nd rfl (Or.inl rfl) (pe_lst (pa_cons (pv 3) pa_nil)))
      (pss_one (ps_while PassesOwn.never (pt_truth (pv 5) (by intro _; rfl)) (pss_cons (ps_set (i := 6) sc_give.nd rfl (Or.inl rfl) (pe_bm0 PySem.F.plainAttrs_list PySem.F.slot_list_pop PySem.F.type_list_pop mt_pop (pv 5)))
      (pss_one (ps_for PassesOwn.never rfl (pi_alt (pi_list (pe_ix ix_sq (pv 0) (pv 6) (fun _ _ => rfl))) (pi_tup (pe_ix ix_sq (pv 0) (pv 6) (fun _ _ => rfl)))) (pg_name (i := 7) sc_give.nd rfl (Or.inl rfl))
      (pss_cons (ps_if (pt_cmp (pc_din (hu_of hr) (pv 7) (pv 4))) (pss_one ps_continue) pss_nil)
      (pss_cons (ps_dput (hu_of hr) (pv 4) (pv 7) (pv 6) rfl)
      (pss_cons (ps_if (pt_cmp (pc_dnotin (hu_of hr) (pv 7) (pv 2))) (pss_cons (ps_expr (pe_d G_hand_on (hr.mono (by decide)) (pa_cons (pv 1) (pa_cons (pv 2) (pa_cons (pv 4) (pa_cons (pv 7) pa_nil))))))
      (pss_one ps_retN)) pss_nil)
      (pss_one (ps_expr (pe_bm PySem.F.plainAttrs_list PySem.F.slot_list_append PySem.F.type_list_append mt_append (pv 5) (pa_cons (pe_dget (hu_of hr) (pv 2) (pv 7) (fun _ _ => rfl)) pa_nil)))))))))))))), ?_⟩
    refine fun cm hcm => ?_
    have sc := same_new (o := .dK []) hcm
    refine ⟨_, rfl, by show 1 ≤ sizeLine; decide, fun wt hwt => ?_⟩
    have sw := same_new (o := .lst [V.int (p : Int)]) hwt
    have nco : cm ≠ ow := by
      obtain ⟨kvs, e⟩ := hm.2.isd
      exact (ne_of_none e hcm).symm
    have nch : cm ≠ hd := (ne_of_none hm.1 hcm).symm
    have nwh : wt ≠ hd := (ne_of_none (sc _ _ hm.1) hwt).symm
    have nwo : wt ≠ ow := by
      obtain ⟨kvs, e⟩ := hm.2.isd
      exact (ne_of_none (sc _ _ e) hwt).symm
    have nwc : wt ≠ cm := (ne_of_none upd_same hwt).symm
    have f0c : H0 cm = none := s0.free hcm
    have f0w : H0 wt = none := (s0.trans sc).free hwt
    obtain ⟨H1, e1⟩ : ∃ H1, H1 = upd (upd H cm (.dK [])) wt (.lst [V.int (p : Int)]) := ⟨_, rfl⟩
    have s01 : Same H0 H1 := by rw [e1]; exact (s0.trans sc).trans sw
    have hw1 : H1 wt = some (.lst ([p].map nV)) := by rw [e1]; exact upd_same
    have hc1 : DR H1 cm (fun _ => none) := by rw [e1]; exact (DR.new (H := H) (p := cm)).at_ fun o e => by rw [upd_ne nwc.symm]; exact e
    have hm1 : HR rows.length H1 hd ow m := by
      rw [e1]
      exact hm.at_ (fun o e => by rw [upd_ne nwh.symm, upd_ne nch.symm]; exact e) (fun o e => by rw [upd_ne nwo.symm, upd_ne nco.symm]; exact e)
    rw [← e1]
    clear e1
    have oU : ∀ s, m.o s ≠ none → s ∈ Mt.things rows := fun s hs => by
      cases e : m.o s with
      | none => exact absurd e hs
      | some x => exact Mt.mem_things (v.tie x s ((v.inv x s).mpr e))
    dsimp only [gName]
    refine while_m (fun z σ' H' => ∃ x6 x7 c w, z = Mt.todo (Mt.things rows) c w ∧ σ' = [some (.ref ra), some (.ref hd), some (.ref ow), some (.int (p : Int)), some (.ref cm), some (.ref wt), x6, x7] ∧ H' wt = some (.lst (w.map nV)) ∧ DR H' cm c ∧ HR rows.length H' hd ow m ∧ Same H0 H' ∧ Mt.WInv rows m p c w ∧ Mt.todo (Mt.things rows) c w ≤ 90001 ∧ ∀ x c', Mt.Walk rows m.o c w x c' → Mt.Walk rows m.o (fun _ => none) [p] x c') ⟨_, _, _, _, [p], rfl, rfl, hw1, hc1, hm1, s01, Mt.WInv.init, ?_, fun _ _ h => h⟩ ?_ ?_
    · unfold Mt.todo
      have := List.length_filter_le (fun t => ((fun _ => none : Mt.Came) t).isNone) (Mt.things rows)
      show _ + 1 ≤ 90001
      omega
    · rintro z σ' H2 ⟨x6, x7, c, w, rfl, rfl, hw2, hc2, hm2, s2, iw, bd, cont⟩
      refine ⟨_, rfl, !(w.map nV).isEmpty, .inl ⟨_, SqL.of hw2, rfl⟩, ?_⟩
      rcases List.eq_nil_or_concat w with e | ⟨w0, one, e⟩
      · subst e
        exact k m H2 (.no (cont _ _ .nil)) s2 hm2
      · rw [List.concat_eq_append] at e
        subst e
        have ne : (!((w0 ++ [one]).map nV).isEmpty) = true := by rw [List.map_append]; cases w0.map nV <;> rfl
        rw [ne]
        have lst1 : ((w0 ++ [one]).map nV)[((w0 ++ [one]).map nV).length - 1]? = some (nV one) := by
          rw [List.map_append, List.length_append]
          simp
        have lst2 : ((w0 ++ [one]).map nV).dropLast = w0.map nV := by
          rw [List.map_append]
          exact List.dropLast_concat
        refine ⟨_, rfl, .inl ⟨rfl, _, SqL.of hw2⟩, wt, _, _, rfl, rfl, hw2, lst1, ?_⟩
        rw [lst2]
        have hvis := iw.v one (List.mem_append_right _ List.mem_cons_self)
        have hone : one < rows.length := by
          rcases hvis with e | ⟨t, x, _, ho⟩
          · rw [e]; exact hpn
          · exact Mt.row_lt (v.tie one t ((v.inv one t).mpr ho))
        have hro := List.getElem?_eq_getElem hone
        obtain ⟨r, er⟩ : ∃ r, r = rows[one] := ⟨_, rfl⟩
        rw [← er] at hro
        have hrow : Mt.row rows one = r := Mt.row_get hro
        obtain ⟨aa, hva, hqa⟩ := hrb.at_ hro
        rw [Mt.todo_snoc] at bd
        have rU : ∀ t ∈ r, t ∈ Mt.things rows := fun t ht => Mt.mem_things (p := one) (by rw [hrow]; exact ht)
        obtain ⟨H3, e3⟩ : ∃ H3, H3 = upd H2 wt (.lst (w0.map nV)) := ⟨_, rfl⟩
        have hw3 : H3 wt = some (.lst (w0.map nV)) := by rw [e3]; exact upd_same
        have hc3 : DR H3 cm c := by rw [e3]; exact hc2.at_ fun o e => by rw [upd_ne nwc.symm]; exact e
        have hm3 : HR rows.length H3 hd ow m := by rw [e3]; exact hm2.at_ (fun o e => by rw [upd_ne nwh.symm]; exact e) (fun o e => by rw [upd_ne nwo.symm]; exact e)
        have s3 : Same H0 H3 := by rw [e3]; exact same_mut s2 f0w
        rw [← e3]
        clear e3
        have ctie : ∀ s x, c s = some x → s ∈ Mt.row rows x := fun s x e => (iw.a s x e).1
        refine alt_it (b := b) (xs := r.map V.int) (fun Q' q => ⟨_, rfl, _, rfl, alt_ix (hra.same s3) (at_nat hva) q⟩) (hqa.same s3) (for_sq (fun i σ' H' => ∃ x7 c1 w1, σ' = [some (.ref ra), some (.ref hd), some (.ref ow), some (.int (p : Int)), some (.ref cm), some (.ref wt), some (nV one), x7] ∧ H' wt = some (.lst (w1.map nV)) ∧ DR H' cm c1 ∧ HR rows.length H' hd ow m ∧ Same H0 H' ∧ Mt.scan m.o one (r.drop i) c1 w1 = Mt.scan m.o one r c w0 ∧ (∀ s x, c1 s = some x → s ∈ Mt.row rows x) ∧ Mt.todo (Mt.things rows) c1 w1 ≤ 90001) ⟨_, c, w0, rfl, hw3, hc3, hm3, s3, rfl, ctie, by omega⟩ (fun i σ' H' _ hp' => by obtain ⟨_, _, _, _, _, _, _, s4, _⟩ := hp'; exact hqa.same s4) ?_ ?_)
        · rintro i x σ' H4 hx ⟨y7, c1, w1, rfl, hw4, hc4, hm4, s4, sc4, ct4, bd4⟩
          have hir : i < r.length := by
            have := (List.getElem?_eq_some_iff.mp hx).1
            rw [List.length_map] at this
            exact this
          have hri := List.getElem?_eq_getElem hir
          obtain ⟨t, et⟩ : ∃ t, t = r[i] := ⟨_, rfl⟩
          rw [← et] at hri
          rw [List.getElem?_map, hri] at hx
          have ex : V.int t = x := Option.some.inj hx
          subst ex
          have htr : t ∈ r := List.mem_of_getElem? hri
          have hd' : r.drop i = t :: r.drop (i + 1) := by rw [et]; exact List.drop_eq_getElem_cons hir
          rw [hd'] at sc4
          have w1l : w1.length ≤ 90001 := by unfold Mt.todo at bd4; omega
          refine ⟨_, rfl, _, rfl, cm, _, rfl, hc4.get t, ?_⟩
          by_cases hin : (c1 t).isSome = true
          · have d : ((c1 t).map nV).isSome = true := by rw [Option.isSome_map]; exact hin
            rw [d]
            rw [scan_some hin] at sc4
            exact ⟨_, rfl, ⟨_, c1, w1, rfl, hw4, hc4, hm4, s4, sc4, ct4, bd4⟩⟩
          · have d : ((c1 t).map nV).isSome = false := by rw [Option.isSome_map]; exact Bool.eq_false_iff.mpr hin
            rw [d]
            have c1U : ∀ s, c1 s ≠ none → s ∈ Mt.things rows := fun s hs => by
              cases e : c1 s with
              | none => exact absurd e hs
              | some x => exact Mt.mem_things (ct4 s x e)
            obtain ⟨H5, d1, d2, d3⟩ := hc4.put t one c1U (by omega)
            have hw5 : H5 wt = some (.lst (w1.map nV)) := by rw [d3 wt nwc]; exact hw4
            have hm5 : HR rows.length H5 hd ow m := hm4.at_ (fun o e => by rw [d3 hd nch.symm]; exact e) (fun o e => by rw [d3 ow nco.symm]; exact e)
            have s5 : Same H0 H5 := fun a o e => by rw [d3 a (ne_of_none e f0c)]; exact s4 a o e
            have ct5 : ∀ s x, Mt.fset c1 t (some one) s = some x → s ∈ Mt.row rows x := fun s x e => by
              by_cases y : s = t
              · rw [y, Mt.fset_same] at e
                cases e
                rw [y, hrow]
                exact htr
              · rw [Mt.fset_ne y] at e
                exact ct4 s x e
            refine ⟨_, rfl, _, rfl, _, rfl, _, rfl, cm, H5, rfl, d1, ?_⟩
            refine ⟨_, rfl, _, rfl, ow, _, rfl, hm5.2.get t, ?_⟩
            cases ho : m.o t with
            | none =>
              rw [scan_free hin ho] at sc4
              have hwalk := cont (some t) (Mt.fset c1 t (some one)) (.found (by rw [hrow]; exact sc4.symm))
              have fo := Mt.walk_found v hwalk t rfl Mt.WInv.init
              obtain ⟨kk, hi⟩ := Mt.HInv.init v fo
              obtain ⟨m', hm'⟩ := Mt.hand_ex v hp fo.tie kk hi
              refine ⟨_, rfl, _, rfl, _, rfl, _, rfl, _, rfl, hd, ow, cm, rows.length, m, m', _, t, Mt.things rows, rfl, hm5, d2, nco, hm', fun s q e => ⟨Mt.row_lt (ct5 s q e), Mt.mem_things (ct5 s q e)⟩, oU, by omega, by omega, fun H6 kp hr6 => ?_⟩
              exact k m' H6 (.yes hwalk hm') (same_keep2 s5 kp fhd fow) hr6
            | some q =>
              rw [scan_own hin ho] at sc4
              have get5 := hm5.2.get t
              rw [ho] at get5
              refine ⟨_, rfl, _, rfl, .inl ⟨rfl, _, SqL.of hw5⟩, _, rfl, _, rfl, ow, _, rfl, get5, wt, _, nV q, rfl, rfl, hw5, small_lt (by rw [List.length_map]; omega), ?_⟩
              refine ⟨_, _, w1 ++ [q], rfl, by rw [upd_same, List.map_append]; rfl, d2.at_ fun o e => (by rw [upd_ne nwc.symm]; exact e), hm5.at_ (fun o e => by rw [upd_ne nwh.symm]; exact e) (fun o e => by rw [upd_ne nwo.symm]; exact e), same_mut s5 f0w, sc4, ct5, Nat.le_trans (todo_put (rU t htr) hin ho) bd4⟩
        · rintro σ' H4 ⟨y7, c1, w1, rfl, hw4, hc4, hm4, s4, sc4, ct4, bd4⟩
          rw [List.length_map, List.drop_length] at sc4
          have sc5 : Mt.scan m.o one (Mt.row rows one) c w0 = (none, c1, w1) := by rw [hrow]; exact sc4.symm
          have td := Mt.scan_todo' (U := Mt.things rows) (fun t ht => Mt.mem_things ht) sc5
          refine ⟨Mt.todo (Mt.things rows) c1 w1, by rw [Mt.todo_snoc]; omega, _, _, c1, w1, rfl, rfl, hw4, hc4, hm4, s4, iw.next v sc5, bd4, fun x c' hwk => cont x c' (.more sc5 hwk)⟩
    · rintro σ' H1 Q1 Q2 hQ ⟨a, b, c, d, e⟩
      exact ⟨a, b, c, d, hQ _ _ e⟩
end
end Fo

set_option maxRecDepth 100000
set_option maxHeartbeats 1000000
/-! Who comes to whom, as bits; short lots. -/
namespace Mt
open Classical
theorem Reach.trans {rows : Rows} {o : Int → Option Nat} {a b c : Nat} (x : Reach rows o a b) (y : Reach rows o b c) : Reach rows o a c := by
  induction y with
  | refl => exact x
  | step _ h1 h2 ih => exact .step ih h1 h2
def S0 (rows : Rows) (o : Int → Option Nat) (p q : Nat) : Prop := q = p ∨ ∃ t ∈ row rows p, o t = some q
def WS (rows : Rows) (o : Int → Option Nat) : Nat → Nat → Nat → Prop
  | 0 => S0 rows o
  | k + 1 => fun p q => WS rows o k p q ∨ (WS rows o k p k ∧ WS rows o k k q)
theorem ws_up {rows : Rows} {o : Int → Option Nat} {p q : Nat} : ∀ {k j : Nat}, k ≤ j → WS rows o k p q → WS rows o j p q
  | k, 0, h, w => by
    have : k = 0 := by omega
    rw [this] at w
    exact w
  | k, j + 1, h, w => by
    by_cases e : k = j + 1
    · rw [e] at w; exact w
    · exact .inl (ws_up (k := k) (j := j) (by omega) w)
theorem ws_reach {rows : Rows} {o : Int → Option Nat} : ∀ {k p q : Nat}, WS rows o k p q → Reach rows o p q
  | 0, p, q, h => by
    rcases h with h | ⟨t, h1, h2⟩
    · rw [h]; exact .refl
    · exact .step .refl h1 h2
  | k + 1, p, q, h => by
    rcases h with h | ⟨h1, h2⟩
    · exact ws_reach h
    · exact (ws_reach h1).trans (ws_reach h2)
theorem ws_mid {rows : Rows} {o : Int → Option Nat} : ∀ {k p m q : Nat}, m < k → WS rows o k p m → WS rows o k m q → WS rows o k p q
  | 0, _, _, _, h, _, _ => absurd h (Nat.not_lt_zero _)
  | k + 1, p, m, q, h, a, b => by
    by_cases e : m = k
    · subst e
      have a' : WS rows o m p m := a.elim id fun z => z.1
      have b' : WS rows o m m q := b.elim id fun z => z.2
      exact .inr ⟨a', b'⟩
    · have hm : m < k := by omega
      rcases a with a | ⟨a1, a2⟩
      · rcases b with b | ⟨b1, b2⟩
        · exact .inl (ws_mid hm a b)
        · exact .inr ⟨ws_mid hm a b1, b2⟩
      · rcases b with b | ⟨b1, b2⟩
        · exact .inr ⟨a1, ws_mid hm a2 b⟩
        · exact .inr ⟨a1, b2⟩
theorem reach_ws {rows : Rows} {o : Int → Option Nat} {p q : Nat} (h : Reach rows o p q) : WS rows o rows.length p q := by
  induction h with
  | refl => exact ws_up (Nat.zero_le _) (.inl rfl)
  | @step x y s _ h1 h2 ih => exact ws_mid (row_lt h1) ih (ws_up (Nat.zero_le _) (.inr ⟨s, h1, h2⟩))
theorem ws_iff {rows : Rows} {o : Int → Option Nat} {p q : Nat} : WS rows o rows.length p q ↔ Reach rows o p q := ⟨ws_reach, reach_ws⟩
/-- a number whose bits say who is in -/
def Bits (N : Nat) (S : Nat → Prop) : Prop := ∀ q, N.testBit q = true ↔ S q
theorem bits_one (p : Nat) : Bits (2 ^ p) (fun q => q = p) := fun q => by
  rw [Nat.testBit_two_pow, decide_eq_true_iff]
  exact ⟨fun h => h.symm, fun h => h.symm⟩
theorem bits_or {N M : Nat} {S T : Nat → Prop} (a : Bits N S) (b : Bits M T) : Bits (N ||| M) (fun q => S q ∨ T q) := fun q => by
  rw [Nat.testBit_or, Bool.or_eq_true, a q, b q]
theorem Bits.congr {N : Nat} {S T : Nat → Prop} (a : Bits N S) (h : ∀ q, S q ↔ T q) : Bits N T := fun q => (a q).trans (h q)
theorem bit_of (N p : Nat) : N / 2 ^ p % 2 = if N.testBit p = true then 1 else 0 := by
  rw [Nat.testBit_eq_decide_div_mod_eq]
  have := Nat.mod_two_eq_zero_or_one (N / 2 ^ p)
  rcases this with h | h <;> rw [h] <;> simp
theorem ws_step {rows : Rows} {o : Int → Option Nat} {k j : Nat} {N M : Nat} (a : Bits N (WS rows o k j)) (b : Bits M (WS rows o k k)) (h : N.testBit k = true) : Bits (N ||| M) (WS rows o (k + 1) j) :=
  (bits_or a b).congr fun q => ⟨fun z => z.elim .inl fun z => .inr ⟨(a k).mp h, z⟩, fun z => z.elim .inl fun z => .inr z.2⟩
theorem ws_stay {rows : Rows} {o : Int → Option Nat} {k j : Nat} {N : Nat} (a : Bits N (WS rows o k j)) (h : ¬ N.testBit k = true) : Bits N (WS rows o (k + 1) j) :=
  a.congr fun q => ⟨.inl, fun z => z.elim id fun z => absurd ((a k).mpr z.1) h⟩
theorem ws_self {rows : Rows} {o : Int → Option Nat} {k : Nat} {N : Nat} (a : Bits N (WS rows o (k + 1) k)) : Bits N (WS rows o k k) :=
  a.congr fun q => ⟨fun z => z.elim id fun z => z.2, .inl⟩
/-! short lots -/
structure Short (rows : Rows) (L : List Nat) : Prop where
  asc : L.Pairwise (· < ·)
  lt : ∀ p ∈ L, p < rows.length
  few : ∃ U : List Int, U.length < L.length ∧ ∀ p ∈ L, ∀ t ∈ row rows p, t ∈ U
theorem short_no {rows : Rows} {L : List Nat} (s : Short rows L) {D : List Int} (d : Ds rows D) : False := by
  obtain ⟨U, hl, hU⟩ := s.few
  have nd : L.Nodup := s.asc.imp fun {a b} h => Nat.ne_of_lt h
  have n2 : (L.map fun p => D[p]?.getD 0).Nodup := nodup_map nd fun x hx y hy e => by
    obtain ⟨t, e1, _⟩ := d.get (s.lt x hx)
    obtain ⟨u, e2, _⟩ := d.get (s.lt y hy)
    rw [e1, e2] at e
    have e' : t = u := e
    rw [e'] at e1
    exact nodup_get d.nd e1 e2
  have := len_le n2 (l2 := U) fun z hz => by
    obtain ⟨p, hp, rfl⟩ := List.mem_map.mp hz
    obtain ⟨t, e1, ht⟩ := d.get (s.lt p hp)
    rw [e1]
    exact hU p hp t ht
  rw [List.length_map] at this
  omega
def reached (n N : Nat) : List Nat := (List.range n).filter fun q => N.testBit q
theorem mem_reached {n N q : Nat} : q ∈ reached n N ↔ q < n ∧ N.testBit q = true := by
  unfold reached
  rw [List.mem_filter, List.mem_range]
theorem short_of {rows : Rows} {m : MS} {p N n : Nat} (o : UpOk rows rows.length m) (hp : p < rows.length) (h0 : m.h p = none) (hN : Bits N (Reach rows m.o p)) (hn : ∀ q, N.testBit q = true → q < n) : Short rows (reached n N) := by
  obtain ⟨R, r, c⟩ := o.cl p hp h0
  have inR : ∀ x, Reach rows m.o p x → R x := fun x hx => by
    induction hx with
    | refl => exact r
    | @step x y s _ h1 h2 ih =>
      obtain ⟨q', rq, hq⟩ := c x ih s h1
      have := (o.valid.inv q' s).mp hq
      rw [h2] at this
      cases this
      exact rq
  have own : ∀ x, Reach rows m.o p x → ∀ t ∈ row rows x, ∃ y, m.o t = some y ∧ Reach rows m.o p y := fun x hx t ht => by
    obtain ⟨y, _, hy⟩ := c x (inR x hx) t ht
    have h2 := (o.valid.inv y t).mp hy
    exact ⟨y, h2, .step hx ht h2⟩
  have lt : ∀ x, Reach rows m.o p x → x < rows.length := fun x hx => by
    cases hx with
    | refl => exact hp
    | @step _ _ s _ h1 h2 => exact row_lt (o.valid.tie _ s ((o.valid.inv _ s).mpr h2))
  have mem : ∀ x, x ∈ reached n N ↔ Reach rows m.o p x := fun x => by
    rw [mem_reached]
    exact ⟨fun h => (hN x).mp h.2, fun h => ⟨hn x ((hN x).mpr h), (hN x).mpr h⟩⟩
  refine ⟨?_, fun x hx => lt x ((mem x).mp hx), ((reached n N).erase p).map fun x => (m.h x).getD 0, ?_, fun x hx t ht => ?_⟩
  · unfold reached
    exact List.Pairwise.filter _ List.pairwise_lt_range
  · have hpm : p ∈ reached n N := (mem p).mpr .refl
    rw [List.length_map, List.length_erase_of_mem hpm]
    have : 0 < (reached n N).length := List.length_pos_of_mem hpm
    omega
  · obtain ⟨y, h1, h2⟩ := own x ((mem x).mp hx) t ht
    have hy := (o.valid.inv y t).mpr h1
    have yp : y ≠ p := fun e => by rw [e, h0] at hy; cases hy
    exact List.mem_map.mpr ⟨y, (List.mem_erase_of_ne yp).mpr ((mem y).mpr h2), by rw [hy]; rfl⟩
end Mt

set_option maxRecDepth 100000
set_option maxHeartbeats 4000000
namespace Fo
open PySem PySem.Spec PyProof.Rows L2
abbrev s_owners : Stmt := top 18
abbrev n_owners : List Str := ["held", "person", "thing"]
theorem sc_owners : FnScope n_owners ["held"] (defScope s_owners) := ⟨rfl, rfl, rfl, by decide +kernel, rfl, by decide +kernel, by decide +kernel⟩
abbrev s_reaches : Stmt := top 19
abbrev n_reaches : List Str := ["rows", "held", "owner", "found", "person", "row", "mask", "thing", "middle"]
theorem sc_reaches : FnScope n_reaches ["rows", "held"] (defScope s_reaches) := ⟨rfl, rfl, rfl, by decide +kernel, rfl, by decide +kernel, by decide +kernel⟩
abbrev s_people_of : Stmt := top 20
abbrev n_people_of : List Str := ["mask", "person"]
theorem sc_people_of : FnScope n_people_of ["mask"] (defScope s_people_of) := ⟨rfl, rfl, rfl, by decide +kernel, rfl, by decide +kernel, by decide +kernel⟩
theorem nones {n : Nat} : (List.replicate n [V.non]).flatten = heldV n (fun _ => none) := by
  unfold heldV
  induction n with
  | zero => rfl
  | succ n ih =>
    rw [List.range_succ, List.map_append, ← ih, List.replicate_succ', List.flatten_append]
    rfl
section
variable {P : Program} {w : World} {K : PySem.W.Frag} {mg : Str → Option Value} {base : Heap} {C : Addr}
def spMatched (K : PySem.W.Frag) : Sp := fun vs H Q _ => ∃ (b : Bool) (rv : V) (rows : List (List Int)), vs = [rv] ∧ RowsQ b K H rv rows ∧ (Mt.things rows).length ≤ 90000 ∧ rows.length ≤ 90000 ∧
  ∀ m l H', Mt.Upto rows rows.length m → Same H H' → H l = none → H' l = some (.lst (heldV rows.length m.h)) → Q (.ref l) H'
theorem ok_matched (A : At K mg "matched" s_matched ["rows"]) (T : Tx mg) (G_give : Dfn P w K mg base "_give" ["rows", "held", "owner", "person"] 2 (spGive K)) : Dfn P w K mg base "matched" ["rows"] 3 (spMatched K) := by
  refine A.ok sc_matched (fun vs H Q E h => ?_) (fun f cdv A outer s H vs Q E hr h => ?_)
  · obtain ⟨b, rv, rows, rfl, _⟩ := h
    rfl
  · obtain ⟨b, rv, rows, rfl, hR, hU, hn, k⟩ := h
    obtain ⟨ra, vs, rfl, hra, hrb⟩ := id hR
    have vl := hrb.len
    refine ⟨_, (pss_cons (ps_set (i := 1) sc_matched.nd rfl (Or.inl rfl) (pe_op op_rep (pe_lst (pa_cons pe_non pa_nil)) (pe_callB c_len (by rfl) T.len (by decide +kernel) (pa_cons (pv 0) pa_nil))))
      (pss_cons (ps_set (i := 2) sc_matched.nd rfl (Or.inl rfl) pe_dnewK)
      (pss_cons (ps_for PassesOwn.never rfl (pi_range1 rfl T.range (pa_cons (pe_callB c_len (by rfl) T.len (by decide +kernel) (pa_cons (pv 0) pa_nil)) pa_nil)) (pg_name (i := 3) sc_matched.nd rfl (Or.inl rfl))
      (pss_one (ps_expr (pe_d G_give (hr.mono (by decide)) (pa_cons (pv 0) (pa_cons (pv 1) (pa_cons (pv 2) (pa_cons (pv 3) pa_nil))))))))
      (pss_one (ps_ret (pv 1)))))), ?_⟩
    refine ⟨by show 1 ≤ sizeLine; decide, fun l1 h1 => ?_⟩
    have s1 := same_new (o := .lst [V.non]) h1
    refine ⟨_, rfl, ra, vs, rfl, (hra.same s1).or, l1, _, [V.non], rfl, rfl, upd_same, by omega, by omega, ?_, fun hd hhd => ?_⟩
    · rw [List.length_singleton, Int.toNat_natCast, Nat.one_mul]
      exact small_le (by omega)
    rw [Int.toNat_natCast, vl, nones]
    have s2 := s1.trans (same_new (o := .lst (heldV rows.length (fun _ => none))) hhd)
    have fhd : H hd = none := s1.free hhd
    refine fun ow how => ?_
    have s3 := s2.trans (same_new (o := .dK []) how)
    have fow : H ow = none := s2.free how
    have nho : hd ≠ ow := ne_of_none upd_same how
    have hm0 : HR rows.length (upd (upd (upd H l1 (.lst [V.non])) hd (.lst (heldV rows.length (fun _ => none)))) ow (.dK [])) hd ow Mt.m0 := ⟨by rw [upd_ne nho, upd_same]; rfl, DR.new⟩
    refine ⟨_, rfl, ra, vs, rfl, (hra.same s3).or, _, rfl, by omega, by omega, for_range (lo := 0) (n := ((vs.length : Nat) : Int).toNat) (fun i σ' H' => ∃ x3 m, σ' = [some (.ref ra), some (.ref hd), some (.ref ow), x3] ∧ Mt.Upto rows i m ∧ HR rows.length H' hd ow m ∧ Same H H') ⟨_, _, rfl, .zero, hm0, s3⟩ ?_ ?_⟩
    · rintro i σ' H1 hi ⟨x3, m, rfl, u, hm, s4⟩
      have o := Mt.upto_ok u
      refine ⟨_, rfl, _, rfl, _, rfl, _, rfl, b, H, .ref ra, rows, hd, ow, i, m, by rw [Int.zero_add]; rfl, hR, s4, fhd, fow, hm, o.valid, o.late i (Nat.le_refl _), by omega, hU, hn, fun m' H' g s5 hm' => ?_⟩
      exact ⟨_, m', rfl, .succ u g, hm', s5⟩
    · rintro σ' H1 ⟨x3, m, rfl, u, hm, s4⟩
      have e : ((vs.length : Nat) : Int).toNat = rows.length := by omega
      rw [e] at u
      exact ⟨_, rfl, k m hd H1 u s4 fhd hm.1⟩
/-- who holds a thing, of the first i people -/
def cutO (i : Nat) (m : Mt.MS) : Int → Option Nat := fun t => match m.o t with
  | some p => if p < i then some p else none
  | none => none
theorem cutO_zero {m : Mt.MS} : cutO 0 m = fun _ => none := by
  funext t
  unfold cutO
  cases m.o t with
  | none => rfl
  | some p => rfl
theorem cutO_put {m : Mt.MS} {i : Nat} {t : Int} (iv : ∀ p t, m.h p = some t ↔ m.o t = some p) (h : m.h i = some t) : Mt.fset (cutO i m) t (some i) = cutO (i + 1) m := by
  funext s
  by_cases e : s = t
  · rw [e, Mt.fset_same]
    unfold cutO
    rw [(iv i t).mp h]
    show some i = if i < i + 1 then some i else none
    rw [if_pos (Nat.lt_succ_self i)]
  · rw [Mt.fset_ne e]
    unfold cutO
    cases ho : m.o s with
    | none => rfl
    | some p =>
      have hp : p ≠ i := fun z => by
        have := (iv p s).mpr ho
        rw [z, h] at this
        exact e (Option.some.inj this).symm
      show (if p < i then some p else none) = if p < i + 1 then some p else none
      by_cases c : p < i
      · rw [if_pos c, if_pos (by omega)]
      · rw [if_neg c, if_neg (by omega)]
theorem cutO_skip {m : Mt.MS} {i : Nat} (iv : ∀ p t, m.h p = some t ↔ m.o t = some p) (h : m.h i = none) : cutO i m = cutO (i + 1) m := by
  funext s
  unfold cutO
  cases ho : m.o s with
  | none => rfl
  | some p =>
    have hp : p ≠ i := fun z => by
      have := (iv p s).mpr ho
      rw [z, h] at this
      cases this
    show (if p < i then some p else none) = if p < i + 1 then some p else none
    by_cases c : p < i
    · rw [if_pos c, if_pos (by omega)]
    · rw [if_neg c, if_neg (by omega)]
theorem cutO_all {m : Mt.MS} {n : Nat} (iv : ∀ p t, m.h p = some t ↔ m.o t = some p) (late : ∀ p, n ≤ p → m.h p = none) : cutO n m = m.o := by
  funext s
  unfold cutO
  cases ho : m.o s with
  | none => rfl
  | some p =>
    have hp : p < n := by
      refine Nat.lt_of_not_le fun z => ?_
      have := (iv p s).mpr ho
      rw [late p z] at this
      cases this
    show (if p < n then some p else none) = some p
    rw [if_pos hp]
def spOwners (K : PySem.W.Frag) : Sp := fun vs H Q _ => ∃ (hd : Addr) (n : Nat) (m : Mt.MS), vs = [.ref hd] ∧ H hd = some (.lst (heldV n m.h)) ∧ (∀ p t, m.h p = some t ↔ m.o t = some p) ∧ (∀ p, n ≤ p → m.h p = none) ∧ n ≤ 90000 ∧
  ∀ d H', Same H H' → H d = none → DR H' d m.o → Q (.ref d) H'
theorem ok_owners (A : At K mg "owners" s_owners ["held"]) (T : Tx mg) : Dfn P w K mg base "owners" ["held"] 1 (spOwners K) := by
  refine A.ok sc_owners (fun vs H Q E h => ?_) (fun f cdv A outer s H vs Q E hr h => ?_)
  · obtain ⟨hd, n, m, rfl, _⟩ := h
    rfl
  · obtain ⟨hd, n, m, rfl, hh, iv, late, hn, k⟩ := h
    refine ⟨_, (pss_one (ps_ret (pe_dc (own := [("person", 1), ("thing", 2)]) (g := (gTup K 2 (gCons (gName 1) (gCons (gName 2) gNil)))) (tt := (tTest (tOp rNotN (tVar 2) (tC V.non)))) (tk := (tVar 2)) (tv := (tVar 1)) (by rfl) sc_owners.nd (pi_enum (by rfl) T.enumerate (pa_cons (pv 0) pa_nil)) (blkOk_by (own := [("person", 1), ("thing", 2)]) (N := n_owners) (sc := (defScope s_owners)) (by decide +kernel)) (fun _ _ _ _ _ => (pg_tup rfl (pgs_cons (pg_name (i := 1) sc_owners.nd rfl (Or.inl rfl)) (pgs_cons (pg_name (i := 2) sc_owners.nd rfl (Or.inl rfl)) pgs_nil)))) (fun _ _ _ _ _ => (pts_one (pt_cmpR op_notN (pv 2) pe_non (nomark _)))) (fun _ _ _ _ _ => (pv 2)) (fun _ _ _ _ _ => (pv 1))))), ?_⟩
    refine ⟨_, rfl, hd, _, rfl, SqL.of hh, fun D hD => ?_⟩
    refine dc_enumL (xs := heldV n m.h) (fun i H' => DR H' D (cutO i m) ∧ Same H H') ⟨by rw [cutO_zero]; exact DR.new, same_new hD⟩ (fun i H' _ h => SqL.of (h.2 _ _ hh)) ?_ ?_
    · rintro i x H1 c hx ⟨d1, s1⟩ hc
      have hin : i < n := by
        have := (List.getElem?_eq_some_iff.mp hx).1
        rw [heldV_len] at this
        exact this
      rw [heldV_get hin] at hx
      have ex : oI (m.h i) = x := Option.some.inj hx
      subst ex
      have nDc : D ≠ c := by
        obtain ⟨kvs, e⟩ := d1.isd
        exact ne_of_none e hc
      have s2 := s1.trans (same_new (o := .tup [.int ((i : Nat) : Int), oI (m.h i)]) hc)
      have d2 : DR (upd H1 c (.tup [.int ((i : Nat) : Int), oI (m.h i)])) D (cutO i m) := d1.at_ fun o e => by rw [upd_ne nDc]; exact e
      refine ⟨c, _, rfl, SqT.of upd_same, rfl, _, _, rfl, _, _, rfl, rfl, ?_⟩
      cases hi : m.h i with
      | none =>
        rw [hi] at d2 s2
        refine ⟨rfl, _, rfl, rfl, _, rfl, ?_⟩
        exact ⟨by rw [← cutO_skip iv hi]; exact d2, s2⟩
      | some t =>
        rw [hi] at d2 s2
        refine ⟨rfl, _, rfl, rfl, _, rfl, ?_⟩
        obtain ⟨kvs, e, h, hnd, hk⟩ := id d2
        have ln := DR.len (U := (List.range n).map fun p => (m.h p).getD 0) (f := cutO i m) (H := H1) (a := D) hnd hk fun s hs => by
          unfold cutO at hs
          cases ho : m.o s with
          | none => rw [ho] at hs; exact absurd rfl hs
          | some p =>
            have hp := (iv p s).mpr ho
            have hpn : p < n := Nat.lt_of_not_le fun z => by rw [late p z] at hp; cases hp
            exact List.mem_map.mpr ⟨p, List.mem_range.mpr hpn, by rw [hp]; rfl⟩
        rw [List.length_map, List.length_range] at ln
        refine ⟨_, rfl, _, rfl, kvs, .inl t, rfl, e, small_lt (by omega), ?_, same_mut s2 hD⟩
        obtain ⟨H', d3, d4, _⟩ := d2.put t i (U := (List.range n).map fun p => (m.h p).getD 0) (fun s hs => by
          unfold cutO at hs
          cases ho : m.o s with
          | none => rw [ho] at hs; exact absurd rfl hs
          | some p =>
            have hp := (iv p s).mpr ho
            have hpn : p < n := Nat.lt_of_not_le fun z => by rw [late p z] at hp; cases hp
            exact List.mem_map.mpr ⟨p, List.mem_range.mpr hpn, by rw [hp]; rfl⟩) (by rw [List.length_map, List.length_range]; omega)
        rw [cutO_put iv hi] at d4
        have d5 : DPut (upd H1 c (.tup [.int ((i : Nat) : Int), V.int t])) D (.int t) (nV i) (upd (upd H1 c (.tup [.int ((i : Nat) : Int), V.int t])) D (.dK (putK kvs (.inl t) (nV i)))) := DPut.k (k := .inl t) e (small_lt (by omega))
        have e6 : H' = upd (upd H1 c (.tup [.int ((i : Nat) : Int), V.int t])) D (.dK (putK kvs (.inl t) (nV i))) := by
          rcases d3 with ⟨kvs2, k2, a1, a2, a3, a4⟩ | ⟨kvs2, k2, b2, a1, _⟩
          · have a1' := a1.symm.trans e
            cases a1'
            have : k2 = .inl t := by
              cases k2 with
              | inl z => have a2' : V.int t = V.int z := a2; injection a2' with a2'; rw [a2']
              | inr z => cases a2
            rw [a4, this]
          · have a1' := a1.symm.trans e
            cases a1'
        rw [← e6]
        exact d4
    · rintro H1 ⟨d1, s1⟩
      rw [heldV_len, cutO_all iv late] at d1
      exact k D H1 s1 hD d1
theorem at_nat0 {α : Type} {xs : List α} {x : α} {j : Nat} (h : xs[j]? = some x) : atI xs (0 + (j : Int)) = some x := by rw [Int.zero_add]; exact at_nat h
theorem ixN_nat0 {n q : Nat} (h : q < n) : ixN n (0 + (q : Int)) = some q := by rw [Int.zero_add]; exact ixN_nat h
def spReaches (K : PySem.W.Frag) : Sp := fun vs H Q _ => ∃ (b : Bool) (rv : V) (rows : List (List Int)) (hd : Addr) (m : Mt.MS), vs = [rv, .ref hd] ∧ RowsQ b K H rv rows ∧ H hd = some (.lst (heldV rows.length m.h)) ∧ (∀ p t, m.h p = some t ↔ m.o t = some p) ∧ (∀ p, rows.length ≤ p → m.h p = none) ∧ rows.length ≤ 90000 ∧
  ∀ l (M : Nat → Nat) H', Same H H' → H l = none → H' l = some (.lst (numL rows.length M)) → (∀ p, p < rows.length → Mt.Bits (M p) (Mt.Reach rows m.o p)) → Q (.ref l) H'
theorem ok_reaches (A : At K mg "reaches" s_reaches ["rows", "held"]) (T : Tx mg) (G_owners : Dfn P w K mg base "owners" ["held"] 1 (spOwners K)) : Dfn P w K mg base "reaches" ["rows", "held"] 2 (spReaches K) := by
  refine A.ok sc_reaches (fun vs H Q E h => ?_) (fun f cdv A outer s H vs Q E hr h => ?_)
  · obtain ⟨b, rv, rows, hd, m, rfl, _⟩ := h
    rfl
  · obtain ⟨b, rv, rows, hd, m, rfl, hR, hh, iv, late, hn, k⟩ := h
    obtain ⟨ra, vs, rfl, hra, hrb⟩ := id hR
    have vl := hrb.len
    refine ⟨_, (pss_cons (ps_set (i := 2) sc_reaches.nd rfl (Or.inl rfl) (pe_d G_owners (hr.mono (by decide)) (pa_cons (pv 1) pa_nil)))
      (pss_cons (ps_set (i := 3) sc_reaches.nd rfl (Or.inl rfl) (pe_lst pa_nil))
      (pss_cons (ps_for PassesOwn.never rfl (pi_alt (pi_enum (by rfl) T.enumerate (pa_cons (pv 0) pa_nil)) (pi_enumT (by rfl) T.enumerate (pa_cons (pv 0) pa_nil))) (pg_tup rfl (pgs_cons (pg_name (i := 4) sc_reaches.nd rfl (Or.inl rfl)) (pgs_cons (pg_name (i := 5) sc_reaches.nd rfl (Or.inl rfl)) pgs_nil)))
      (pss_cons (ps_set (i := 6) sc_reaches.nd rfl (Or.inl rfl) (pe_op op_oneShl pe_int (pv 4)))
      (pss_cons (ps_for PassesOwn.never rfl (pi_alt (pi_list (pv 5)) (pi_tup (pv 5))) (pg_name (i := 7) sc_reaches.nd rfl (Or.inl rfl))
      (pss_one (ps_if (pt_cmp (pc_din (hu_of hr) (pv 7) (pv 2))) (pss_one (ps_aug (i := 6) sc_reaches.nd rfl (Or.inl rfl) (pe_op op_oneShl pe_int (pe_dget (hu_of hr) (pv 2) (pv 7) (fun _ _ => rfl))) (pip_of iop_or))) pss_nil)))
      (pss_one (ps_expr (pe_bm PySem.F.plainAttrs_list PySem.F.slot_list_append PySem.F.type_list_append mt_append (pv 3) (pa_cons (pv 6) pa_nil)))))))
      (pss_cons (ps_for PassesOwn.never rfl (pi_range1 rfl T.range (pa_cons (pe_callB c_len (by rfl) T.len (by decide +kernel) (pa_cons (pv 0) pa_nil)) pa_nil)) (pg_name (i := 8) sc_reaches.nd rfl (Or.inl rfl))
      (pss_one (ps_for PassesOwn.never rfl (pi_range1 rfl T.range (pa_cons (pe_callB c_len (by rfl) T.len (by decide +kernel) (pa_cons (pv 0) pa_nil)) pa_nil)) (pg_name (i := 4) sc_reaches.nd rfl (Or.inl rfl))
      (pss_one (ps_if (pt_truth (pe_op op_odd (pe_op op_shr (pe_ix ix_list (pv 3) (pv 4) (fun _ _ => rfl)) (pv 8)) pe_int) (by intro _; rfl)) (pss_one (ps_augS (pv 3) (pv 4) get_list (pe_ix ix_list (pv 3) (pv 8) (fun _ _ => rfl)) (pip_of iop_or) set_list)) pss_nil)))))
      (pss_one (ps_ret (pv 3))))))), ?_⟩
    refine ⟨_, rfl, hd, rows.length, m, rfl, hh, iv, late, hn, fun ow H1 s1 how d1 => ?_⟩
    refine ⟨Nat.zero_le _, fun fa hfa => ?_⟩
    have sf := same_new (o := .lst []) hfa
    have f0 : H fa = none := s1.free hfa
    have nfo : fa ≠ ow := by
      obtain ⟨kvs, e⟩ := d1.isd
      exact (ne_of_none e hfa).symm
    have d2 : DR (upd H1 fa (.lst [])) ow m.o := d1.at_ fun o e => by rw [upd_ne nfo.symm]; exact e
    have qlt : ∀ t q, m.o t = some q → q < rows.length := fun t q e => Nat.lt_of_not_le fun z => by
      have := (iv q t).mpr e
      rw [late q z] at this
      cases this
    refine alt_en (b := b) (xs := vs) (fun Q' q => ⟨_, rfl, q⟩) (hra.same (s1.trans sf)) (for_enS (fun i σ' H' => ∃ x4 x5 x6 x7 x8 M, σ' = [some (.ref ra), some (.ref hd), some (.ref ow), some (.ref fa), x4, x5, x6, x7, x8] ∧ H' fa = some (.lst (numL i M)) ∧ DR H' ow m.o ∧ Same H H' ∧ ∀ p, p < i → Mt.Bits (M p) (Mt.S0 rows m.o p)) ⟨_, _, _, _, _, fun _ => 0, rfl, upd_same, d2, s1.trans sf, fun p hp => absurd hp (Nat.not_lt_zero _)⟩ (fun i σ' H' _ hp => by obtain ⟨_, _, _, _, _, _, _, _, _, s3, _⟩ := hp; exact hra.same s3) ?_ ?_)
    · rintro i x σ' H2 c hx ⟨x4, x5, x6, x7, x8, M, rfl, h2, d3, s3, hM⟩ hc
      obtain ⟨aa, r, ex, hri, hqa⟩ := hrb.get hx
      subst ex
      have hir : i < rows.length := (List.getElem?_eq_some_iff.mp hri).1
      have hrow : Mt.row rows i = r := Mt.row_get hri
      obtain ⟨H3, e3⟩ : ∃ H3, H3 = upd H2 c (.tup [.int ((i : Nat) : Int), V.ref aa]) := ⟨_, rfl⟩
      have s4 : Same H2 H3 := by rw [e3]; exact same_new hc
      have hcT : SqT K H3 c [.int ((i : Nat) : Int), V.ref aa] := by rw [e3]; exact SqT.of upd_same
      rw [← e3]
      clear e3
      have h3 := s4 _ _ h2
      have d4 : DR H3 ow m.o := d3.at_ fun o e => s4 _ _ e
      have s5 := s3.trans s4
      refine ⟨c, _, rfl, hcT, rfl, _, _, rfl, _, _, rfl, rfl, ?_⟩
      refine ⟨_, rfl, i, rfl, rfl, by omega, ?_⟩
      refine alt_it (b := b) (xs := r.map V.int) (fun Q' q => ⟨_, rfl, q⟩) (hqa.same s5) (for_sq (fun j σ' H' => ∃ y7 N, σ' = [some (.ref ra), some (.ref hd), some (.ref ow), some (.ref fa), some (nV i), some (.ref aa), some (nV N), y7, x8] ∧ H' = H3 ∧ Mt.Bits N (fun q => q = i ∨ ∃ t ∈ r.take j, m.o t = some q)) ⟨x7, 2 ^ i, by rw [two_pow_nat]; rfl, rfl, (Mt.bits_one i).congr fun q => ⟨.inl, fun z => z.elim id fun ⟨t, ht, _⟩ => (by cases ht)⟩⟩ (fun j σ' H' _ hp => by obtain ⟨_, _, _, e, _⟩ := hp; rw [e]; exact hqa.same s5) ?_ ?_)
      · rintro j x σ' H4 hx2 ⟨y7, N, rfl, rfl, hN⟩
        have hjr : j < r.length := by
          have := (List.getElem?_eq_some_iff.mp hx2).1
          rw [List.length_map] at this
          exact this
        have hrj := List.getElem?_eq_getElem hjr
        obtain ⟨t, et⟩ : ∃ t, t = r[j] := ⟨_, rfl⟩
        rw [← et] at hrj
        rw [List.getElem?_map, hrj] at hx2
        have ex : V.int t = x := Option.some.inj hx2
        subst ex
        refine ⟨_, rfl, _, rfl, ow, _, rfl, d4.get t, ?_⟩
        have step : ∀ q, (∃ s ∈ r.take (j + 1), m.o s = some q) ↔ ((∃ s ∈ r.take j, m.o s = some q) ∨ m.o t = some q) := fun q => by
          rw [List.take_add_one, hrj]
          constructor
          · rintro ⟨s, hs, e⟩
            rcases List.mem_append.mp hs with g | g
            · exact .inl ⟨s, g, e⟩
            · rw [List.mem_singleton.mp g] at e; exact .inr e
          · rintro (⟨s, hs, e⟩ | e)
            · exact ⟨s, List.mem_append_left _ hs, e⟩
            · exact ⟨t, List.mem_append_right _ List.mem_cons_self, e⟩
        cases ho : m.o t with
        | none =>
          refine ⟨_, rfl, _, N, rfl, rfl, hN.congr fun q => ?_⟩
          rw [step q, ho]
          exact ⟨fun z => z.elim .inl fun z => .inr (.inl z), fun z => z.elim .inl fun z => z.elim .inr fun z => (by cases z)⟩
        | some q =>
          have get := d4.get t
          rw [ho] at get
          refine ⟨_, rfl, _, rfl, _, rfl, _, rfl, ow, _, rfl, get, q, rfl, rfl, by have := qlt t q ho; omega, _, _, rfl, rfl, ?_⟩
          have eb : V.int (Builtin.bitOr (N : Int) ((2 : Int) ^ q)) = nV (N ||| 2 ^ q) := by rw [two_pow_nat, or_nat]
          refine ⟨some (.int t), N ||| 2 ^ q, congrArg (fun z => [some (V.ref ra), some (.ref hd), some (.ref ow), some (.ref fa), some (nV i), some (.ref aa), some z, some (.int t), x8]) eb, rfl, (Mt.bits_or hN (Mt.bits_one q)).congr fun y => ?_⟩
          rw [step y, ho]
          constructor
          · rintro ((z | z) | z)
            · exact .inl z
            · exact .inr (.inl z)
            · exact .inr (.inr (by rw [z]))
          · rintro (z | z | z)
            · exact .inl (.inl z)
            · exact .inl (.inr z)
            · exact .inr (Option.some.inj z).symm
      · rintro σ' H4 ⟨y7, N, rfl, rfl, hN⟩
        rw [List.length_map, List.take_length] at hN
        refine ⟨_, rfl, .inl ⟨rfl, _, SqL.of h3⟩, _, rfl, fa, _, nV N, rfl, rfl, h3, small_lt (by rw [numL_len]; omega), ?_⟩
        refine ⟨_, _, _, _, _, Mt.fset M i N, rfl, by rw [upd_same, numL_snoc], d4.at_ fun o e => (by rw [upd_ne nfo.symm]; exact e), same_mut s5 f0, fun p hp => ?_⟩
        by_cases z : p = i
        · rw [z, Mt.fset_same]
          refine hN.congr fun q => ?_
          unfold Mt.S0
          rw [hrow]
        · rw [Mt.fset_ne z]
          exact hM p (by omega)
    · rintro σ' H2 ⟨x4, x5, x6, x7, x8, M, rfl, h2, d3, s3, hM⟩
      rw [vl] at h2 hM
      refine ⟨_, rfl, ra, vs, rfl, (hra.same s3).or, _, rfl, by omega, by omega, ?_⟩
      have en : ((vs.length : Nat) : Int).toNat = rows.length := by omega
      rw [en]
      refine for_range (lo := 0) (n := rows.length) (fun k σ' H' => ∃ x4 x5 x6 x7 x8 M, σ' = [some (.ref ra), some (.ref hd), some (.ref ow), some (.ref fa), x4, x5, x6, x7, x8] ∧ H' fa = some (.lst (numL rows.length M)) ∧ Same H H' ∧ ∀ p, p < rows.length → Mt.Bits (M p) (Mt.WS rows m.o k p)) ⟨_, _, _, _, _, M, rfl, h2, s3, hM⟩ ?_ ?_
      · rintro kk σ' H3 hk ⟨x4, x5, x6, x7, x8, M, rfl, h3, s4, hM⟩
        refine ⟨_, rfl, ra, vs, rfl, (hra.same s4).or, _, rfl, by omega, by omega, ?_⟩
        rw [en]
        refine for_range (lo := 0) (n := rows.length) (fun j σ' H' => ∃ x4 M, σ' = [some (.ref ra), some (.ref hd), some (.ref ow), some (.ref fa), x4, x5, x6, x7, some (.int (0 + (kk : Int)))] ∧ H' fa = some (.lst (numL rows.length M)) ∧ Same H H' ∧ (∀ p, p < j → p < rows.length → Mt.Bits (M p) (Mt.WS rows m.o (kk + 1) p)) ∧ ∀ p, j ≤ p → p < rows.length → Mt.Bits (M p) (Mt.WS rows m.o kk p)) ⟨_, M, rfl, h3, s4, fun p hp => absurd hp (Nat.not_lt_zero _), fun p _ hp => hM p hp⟩ ?_ ?_
        · rintro j σ' H4 hj ⟨y4, M, rfl, h4, s5, hA, hB⟩
          have hkb : Mt.Bits (M kk) (Mt.WS rows m.o kk kk) := by
            by_cases c : kk < j
            · exact Mt.ws_self (hA kk c hk)
            · exact hB kk (by omega) hk
          have hjb := hB j (Nat.le_refl _) hj
          refine ⟨_, rfl, _, rfl, fa, _, _, _, rfl, rfl, SqL.of h4, at_nat0 (numL_get hj), ?_⟩
          refine ⟨_, rfl, _, _, rfl, rfl, by omega, M j / 2 ^ kk, by rw [← shr_nat, Int.zero_add]; rfl, rfl, (((M j / 2 ^ kk % 2 : Nat) : Int) != 0), rfl, ?_⟩
          rw [Mt.bit_of]
          by_cases hb : (M j).testBit kk = true
          · rw [if_pos hb]
            refine ⟨_, rfl, _, rfl, fa, _, _, _, rfl, rfl, by omega, SqL.of h4, at_nat0 (numL_get hj), ?_⟩
            refine ⟨_, rfl, _, rfl, fa, _, _, _, rfl, rfl, SqL.of h4, at_nat0 (numL_get hk), ?_⟩
            refine ⟨_, _, rfl, rfl, fa, _, _, j, rfl, rfl, h4, by rw [numL_len]; exact ixN_nat0 hj, ?_⟩
            refine ⟨_, Mt.fset M j (M j ||| M kk), rfl, by rw [upd_same]; show some (HO.lst ((numL rows.length M).set j (V.int (Builtin.bitOr (M j : Int) (M kk : Int))))) = _; rw [or_nat, numL_set], same_mut s5 f0, fun p hp hpn => ?_, fun p hp hpn => ?_⟩
            · by_cases z : p = j
              · rw [z, Mt.fset_same]
                exact Mt.ws_step hjb hkb hb
              · rw [Mt.fset_ne z]
                exact hA p (by omega) hpn
            · rw [Mt.fset_ne (by omega)]
              exact hB p (by omega) hpn
          · rw [if_neg hb]
            refine ⟨_, M, rfl, h4, s5, fun p hp hpn => ?_, fun p hp hpn => hB p (by omega) hpn⟩
            by_cases z : p = j
            · rw [z]
              exact Mt.ws_stay hjb hb
            · exact hA p (by omega) hpn
        · rintro σ' H4 ⟨y4, M, rfl, h4, s5, hA, hB⟩
          exact ⟨_, _, _, _, _, M, rfl, h4, s5, fun p hp => hA p hp hp⟩
      · rintro σ' H3 ⟨x4, x5, x6, x7, x8, M, rfl, h3, s4, hM⟩
        exact ⟨_, rfl, k fa M H3 s4 f0 h3 fun p hp => (hM p hp).congr fun q => Mt.ws_iff⟩
theorem bits_lt {N q : Nat} (h : N.testBit q = true) : q < Builtin.Int.intBits (N : Int) := by
  have h2 : 2 ^ q ≤ N := Nat.ge_two_pow_of_testBit h
  have hN : N ≠ 0 := fun z => by rw [z] at h2; have := Nat.two_pow_pos q; omega
  have h3 : q ≤ N.log2 := (Nat.le_log2 hN).mpr h2
  unfold Builtin.Int.intBits
  have e : ((N : Int)).natAbs = N := Int.natAbs_natCast N
  simp [e, hN]
  omega
def spPeople (K : PySem.W.Frag) : Sp := fun vs H Q _ => ∃ N : Nat, vs = [.int (N : Int)] ∧ Builtin.Int.intBits (N : Int) ≤ 90000 ∧ ∀ p H', Same H H' → SqT K H' p ((Mt.reached (Builtin.Int.intBits (N : Int)) N).map nV) → Q (.ref p) H'
theorem ok_people (A : At K mg "people_of" s_people_of ["mask"]) (T : Tx mg) : Dfn P w K mg base "people_of" ["mask"] 1 (spPeople K) := by
  refine A.ok sc_people_of (fun vs H Q E h => ?_) (fun f cdv A outer s H vs Q E hr h => ?_)
  · obtain ⟨N, rfl, _⟩ := h
    rfl
  · obtain ⟨N, rfl, hb, k⟩ := h
    refine ⟨_, (pss_one (ps_ret (pe_callTy c_tuple (by rfl) T.tuple (by decide +kernel) (pa_cons (pe_lc (own := [("person", 1)]) (g := (gName 1)) (tt := (tTru K (tOp rOdd (tOp (rI (fun _ j => 0 ≤ j) fun i j => .int (i / 2 ^ j.toNat)) (tVar 0) (tVar 1)) (tC (V.int 1))))) (te := (tVar 1)) (by rfl) sc_people_of.nd (pi_range1 rfl T.range (pa_cons (pe_bits (pv 0)) pa_nil)) (blkOk_by (own := [("person", 1)]) (N := n_people_of) (sc := (defScope s_people_of)) (by decide +kernel)) (fun _ _ _ _ _ => (pg_name (i := 1) sc_people_of.nd rfl (Or.inl rfl))) (fun _ _ _ _ _ => (pts_one (pt_truth (pe_op op_odd (pe_op op_shr (pv 0) (pv 1)) pe_int) (by intro _; rfl)))) (fun _ _ _ _ _ => (pv 1))) pa_nil)))), ?_⟩
    refine ⟨_, rfl, _, rfl, _, rfl, by omega, by omega, fun D hD => ?_⟩
    rw [Int.toNat_natCast]
    refine lc_range (lo := 0) (n := Builtin.Int.intBits (N : Int)) (fun i H' => H' D = some (.lst ((((List.range i).filter fun q => N.testBit q)).map nV)) ∧ Same H H') ⟨upd_same, same_new hD⟩ ?_ ?_
    · rintro i H1 hi ⟨h1, s1⟩
      refine ⟨rfl, _, rfl, _, rfl, _, _, rfl, rfl, by omega, N / 2 ^ i, by rw [← shr_nat, Int.zero_add]; rfl, rfl, ((N / 2 ^ i % 2 : Nat) : Int) != 0, rfl, ?_⟩
      rw [Mt.bit_of]
      have er : (List.range (i + 1)).filter (fun q => N.testBit q) = (List.range i).filter (fun q => N.testBit q) ++ if N.testBit i = true then [i] else [] := by
        rw [List.range_succ, List.filter_append]
        congr 1
        by_cases hb : N.testBit i = true
        · rw [if_pos hb, List.filter_cons_of_pos hb]; rfl
        · rw [if_neg hb, List.filter_cons_of_neg hb]; rfl
      by_cases hb : N.testBit i = true
      · rw [if_pos hb]
        rw [if_pos hb] at er
        refine ⟨_, rfl, _, h1, by rw [List.length_map]; exact small_lt (Nat.le_trans (List.length_filter_le _ _) (by rw [List.length_range]; omega)), ?_, same_mut s1 hD⟩
        rw [upd_same, er, List.map_append, Int.zero_add]
        rfl
      · rw [if_neg hb]
        rw [if_neg hb] at er
        exact ⟨by rw [er, List.append_nil]; exact h1, s1⟩
    · rintro H1 ⟨h1, s1⟩
      exact ⟨D, _, rfl, .inl ⟨SqL.of h1, fun q hq => k q _ (s1.trans (same_new hq)) (SqT.of upd_same)⟩⟩
end
end Fo

set_option maxRecDepth 100000
set_option maxHeartbeats 4000000
namespace Fo
open PySem PySem.Spec PyProof.Rows L2
open Classical in
noncomputable def liveB (rows : List (List Int)) (p : Nat) (t : Int) : Bool := decide (Mt.Live rows p t)
open Classical in
theorem liveB_iff {rows : List (List Int)} {p : Nat} {t : Int} : liveB rows p t = true ↔ Mt.Live rows p t := by
  unfold liveB
  exact decide_eq_true_iff
abbrev s_live_rows : Stmt := top 21
abbrev n_live_rows : List Str := ["rows", "held", "found", "owner", "person", "row", "thing"]
theorem sc_live_rows : FnScope n_live_rows ["rows"] (defScope s_live_rows) := ⟨rfl, rfl, rfl, by decide +kernel, rfl, by decide +kernel, by decide +kernel⟩
abbrev s_narrowed : Stmt := top 22
abbrev n_narrowed : List Str := ["rows", "person", "thing", "one", "row", "left"]
theorem sc_narrowed : FnScope n_narrowed ["rows", "person", "thing"] (defScope s_narrowed) := ⟨rfl, rfl, rfl, by decide +kernel, rfl, by decide +kernel, by decide +kernel⟩
theorem liveR_get {rows : List (List Int)} {p : Nat} {r : List Int} (h : rows[p]? = some r) : (Mt.liveR rows)[p]? = some (r.filter (liveB rows p)) := by
  unfold Mt.liveR
  rw [List.getElem?_mapIdx, h]
  rfl
theorem take_snoc {α : Type} {l : List α} {i : Nat} {x : α} (h : l[i]? = some x) : l.take (i + 1) = l.take i ++ [x] := by rw [List.take_add_one, h]; rfl
section
variable {P : Program} {w : World} {K : PySem.W.Frag} {mg : Str → Option Value} {base : Heap} {C : Addr}
/-- a list that changes is no row of an older heap -/
theorem RowsB.put {H : Hp} {f : Addr} {us ws : List V} {rs : List (List Int)} (e : ∀ (a : Addr) (r : List Int), Sq true K H a (r.map V.int) → (∃ v ∈ us, v = .ref a) → Sq true K (upd H f (.lst ws)) a (r.map V.int)) : ∀ {vs : List V}, (∀ v ∈ vs, v ∈ us) → RowsB true K H vs rs → RowsB true K (upd H f (.lst ws)) vs rs := by
  intro vs
  induction rs generalizing vs with
  | nil =>
    intro _ h
    cases h
    exact .nil
  | cons r rs ih =>
    intro hv h
    cases h with
    | cons h t => exact .cons (e _ r h ⟨_, hv _ List.mem_cons_self, rfl⟩) (ih (fun v hm => hv v (List.mem_cons_of_mem _ hm)) t)
def spLive (K : PySem.W.Frag) : Sp := fun vs H Q _ => ∃ (b : Bool) (rv : V) (rows : List (List Int)), vs = [rv] ∧ RowsQ b K H rv rows ∧ (Mt.things rows).length ≤ 90000 ∧ rows.length ≤ 90000 ∧ (∀ r ∈ rows, r.length ≤ 90000) ∧ Mt.Few rows ∧
  ((∀ D, ¬ Mt.Ds rows D) → ∀ H', Same H H' → Q .non H') ∧ ((∃ D, Mt.Ds rows D) → ∀ l H', Same H H' → H l = none → RowsQ true K H' (.ref l) (Mt.liveR rows) → Q (.ref l) H')
theorem ok_live (A : At K mg "live_rows" s_live_rows ["rows"]) (T : Tx mg) (G_matched : Dfn P w K mg base "matched" ["rows"] 3 (spMatched K)) (G_reaches : Dfn P w K mg base "reaches" ["rows", "held"] 2 (spReaches K)) (G_owners : Dfn P w K mg base "owners" ["held"] 1 (spOwners K)) : Dfn P w K mg base "live_rows" ["rows"] 4 (spLive K) := by
  refine A.ok sc_live_rows (fun vs H Q E h => ?_) (fun f cdv A outer s H vs Q E hr h => ?_)
  · obtain ⟨b, rv, rows, rfl, _⟩ := h
    rfl
  · obtain ⟨b, rv, rows, rfl, hR, hU, hn, hrl, few, k1, k2⟩ := h
    obtain ⟨ra, vs, rfl, hra, hrb⟩ := id hR
    have vl := hrb.len
    refine ⟨_, (pss_cons (ps_set (i := 1) sc_live_rows.nd rfl (Or.inl rfl) (pe_d G_matched (hr.mono (by decide)) (pa_cons (pv 0) pa_nil)))
      (pss_cons (ps_if (pt_cmpR op_in_seq pe_non (pv 1) rfl) (pss_one (ps_ret pe_non)) pss_nil)
      (pss_cons (ps_set (i := 2) sc_live_rows.nd rfl (Or.inr rfl) (pe_d G_reaches (hr.mono (by decide)) (pa_cons (pv 0) (pa_cons (pv 1) pa_nil))))
      (pss_cons (ps_set (i := 3) sc_live_rows.nd rfl (Or.inr rfl) (pe_d G_owners (hr.mono (by decide)) (pa_cons (pv 1) pa_nil)))
      (pss_one (ps_ret (pe_lc (own := [("person", 4), ("row", 5)]) (g := (gTup K 2 (gCons (gName 4) (gCons (gName 5) gNil)))) (tt := tYes) (te := (tLc (iAlt (iList K (tVar 5)) (iTup K (tVar 5))) (gName 6) (tTru K (tOp rOdd (tOp (rI (fun _ j => 0 ≤ j) fun i j => .int (i / 2 ^ j.toNat)) (tOp (rIxL K) (tVar 2) (tDGet (tVar 3) (tVar 6))) (tVar 4)) (tC (V.int 1)))) (tVar 6) [6])) (by rfl) sc_live_rows.nd (pi_alt (pi_enum (by rfl) T.enumerate (pa_cons (pv 0) pa_nil)) (pi_enumT (by rfl) T.enumerate (pa_cons (pv 0) pa_nil))) (blkOk_by (own := [("person", 4), ("row", 5)]) (N := n_live_rows) (sc := (defScope s_live_rows)) (by decide +kernel)) (fun _ _ _ _ _ => (pg_tup rfl (pgs_cons (pg_name (i := 4) sc_live_rows.nd rfl (Or.inr rfl)) (pgs_cons (pg_name (i := 5) sc_live_rows.nd rfl (Or.inl rfl)) pgs_nil)))) (fun _ _ _ _ _ => pts_nil) (fun _ _ _ _ _ => (pe_lc (own := [("thing", 6)]) (g := (gName 6)) (tt := (tTru K (tOp rOdd (tOp (rI (fun _ j => 0 ≤ j) fun i j => .int (i / 2 ^ j.toNat)) (tOp (rIxL K) (tVar 2) (tDGet (tVar 3) (tVar 6))) (tVar 4)) (tC (V.int 1))))) (te := (tVar 6)) (by rfl) sc_live_rows.nd (pi_alt (pi_list (pv 5)) (pi_tup (pv 5))) (blkOk_by (own := [("thing", 6)]) (N := n_live_rows) (sc := (relabel (retScope s_live_rows) (envQ (defScope s_live_rows)))) (by decide +kernel)) (fun _ _ _ _ _ => (pg_name (i := 6) sc_live_rows.nd rfl (Or.inl rfl))) (fun _ _ _ _ _ => (pts_one (pt_truth (pe_op op_odd (pe_op op_shr (pe_ix ix_list (pv 2) (pe_dget (hu_of hr) (pv 3) (pv 6) (fun _ _ => rfl)) (fun _ _ => rfl)) (pv 4)) pe_int) (by intro _; rfl)))) (fun _ _ _ _ _ => (pv 6))))))))))), ?_⟩
    refine ⟨_, rfl, b, .ref ra, rows, rfl, hR, hU, hn, fun m hd H1 u s1 f1 hh => ?_⟩
    have o := Mt.upto_ok u
    refine ⟨_, rfl, hd, _, rfl, .inl (SqL.of hh), rfl, held_flat _ _, _, rfl, ?_⟩
    have ei : inV .non (heldV rows.length m.h) = decide (∃ p, p < rows.length ∧ m.h p = none) := non_in _ _
    rcases Mt.full_or o with full | ⟨p, h1, h2, h3⟩
    · have e0 : inV .non (heldV rows.length m.h) = false := by
        rw [ei]
        exact decide_eq_false fun ⟨p, a, b⟩ => full p a b
      rw [show (if false = true then !inV V.non (heldV rows.length m.h) else inV V.non (heldV rows.length m.h)) = false from e0]
      refine ⟨_, rfl, _, rfl, b, .ref ra, rows, hd, m, rfl, hR.same s1, hh, o.valid.inv, o.late, hn, fun fl M H2 s2 ffl hfl bits => ?_⟩
      have hh2 := s2 _ _ hh
      refine ⟨_, rfl, hd, rows.length, m, rfl, hh2, o.valid.inv, o.late, hn, fun ow H3 s3 fow dr => ?_⟩
      have hfl3 := s3 _ _ hfl
      have s13 := (s1.trans s2).trans s3
      have dex : ∃ D, Mt.Ds rows D := ⟨_, (Mt.dealt_ok o.valid full).1⟩
      refine alt_en (b := b) (xs := vs) (fun Q' q => ⟨_, rfl, q⟩) (hra.same s13) fun D hD => ?_
      refine lc_enS (fun i H' => ∃ ws, H' D = some (.lst ws) ∧ RowsB true K H' ws ((Mt.liveR rows).take i) ∧ Same H3 H' ∧ ∀ v ∈ ws, ∃ a, v = .ref a ∧ a ≠ D) ⟨[], upd_same, .nil, same_new hD, fun v hv => (by cases hv)⟩ (fun i H' _ hp => by obtain ⟨_, _, _, s4, _⟩ := hp; exact hra.same (s13.trans s4)) ?_ ?_
      · rintro i x H4 c hx ⟨ws, h4, hw, s4, hne⟩ hc
        obtain ⟨aa, r, ex, hri, hqa⟩ := hrb.get hx
        subst ex
        have hir : i < rows.length := (List.getElem?_eq_some_iff.mp hri).1
        have hrow : Mt.row rows i = r := Mt.row_get hri
        have rl := hrl r (List.mem_of_getElem? hri)
        have nDc : D ≠ c := ne_of_none h4 hc
        have sc := same_new (o := .tup [.int ((i : Nat) : Int), V.ref aa]) hc
        refine ⟨c, _, rfl, SqT.of upd_same, rfl, _, _, rfl, _, _, rfl, rfl, rfl, ?_⟩
        have s5 := s4.trans sc
        refine alt_it (b := b) (xs := r.map V.int) (fun Q' q => ⟨_, rfl, q⟩) (hqa.same (s13.trans s5)) fun D2 hD2 => ?_
        have fD2 : H4 D2 = none := sc.free hD2
        refine lc_sq (fun j H' => H' D2 = some (.lst (((r.take j).filter (liveB rows i)).map V.int)) ∧ Same (upd H4 c (.tup [.int ((i : Nat) : Int), V.ref aa])) H') ⟨upd_same, same_new hD2⟩ (fun j H' _ hp => hqa.same (s13.trans (s5.trans hp.2))) ?_ ?_
        · rintro j y H5 hy ⟨h5, s6⟩
          have hjr : j < r.length := by
            have := (List.getElem?_eq_some_iff.mp hy).1
            rw [List.length_map] at this
            exact this
          have hrj := List.getElem?_eq_getElem hjr
          obtain ⟨t, et⟩ : ∃ t, t = r[j] := ⟨_, rfl⟩
          rw [← et] at hrj
          rw [List.getElem?_map, hrj] at hy
          have ey : V.int t = y := Option.some.inj hy
          subst ey
          have htr : t ∈ Mt.row rows i := by rw [hrow]; exact List.mem_of_getElem? hrj
          obtain ⟨q, hq⟩ := Mt.owned o.valid full few htr
          have hqn : q < rows.length := Mt.row_lt (o.valid.tie q t ((o.valid.inv q t).mpr hq))
          have s36 := s5.trans s6
          have dr6 : DR H5 ow m.o := dr.at_ fun z e => s36 _ _ e
          have get := dr6.get t
          rw [hq] at get
          have li : liveB rows i t = (M q).testBit i := by
            have := (Mt.live_iff o.valid full few htr hq).trans (bits q hqn i).symm
            cases hb : (M q).testBit i with
            | true => exact liveB_iff.mpr (this.mpr hb)
            | false =>
              cases hl : liveB rows i t with
              | false => rfl
              | true => rw [this.mp (liveB_iff.mp hl)] at hb; cases hb
          refine ⟨rfl, _, rfl, _, rfl, _, rfl, ow, _, rfl, get, fl, _, _, _, rfl, rfl, SqL.of (s36 _ _ hfl3), at_nat (numL_get hqn), _, rfl, _, _, rfl, rfl, by omega, M q / 2 ^ i, by rw [← shr_nat]; rfl, rfl, ((M q / 2 ^ i % 2 : Nat) : Int) != 0, rfl, ?_⟩
          rw [Mt.bit_of]
          have et2 : ((r.take (j + 1)).filter (liveB rows i)) = (r.take j).filter (liveB rows i) ++ if (M q).testBit i = true then [t] else [] := by
            rw [take_snoc hrj, List.filter_append]
            congr 1
            by_cases hb : (M q).testBit i = true
            · rw [if_pos hb, List.filter_cons_of_pos (by rw [li]; exact hb)]; rfl
            · rw [if_neg hb, List.filter_cons_of_neg (by rw [li]; exact hb)]; rfl
          by_cases hb : (M q).testBit i = true
          · rw [if_pos hb]
            rw [if_pos hb] at et2
            refine ⟨_, rfl, _, h5, by rw [List.length_map]; exact small_lt (Nat.le_trans (List.length_filter_le _ _) (by rw [List.length_take]; omega)), ?_, same_mut s6 hD2⟩
            rw [upd_same, et2, List.map_append]
            rfl
          · rw [if_neg hb]
            rw [if_neg hb] at et2
            exact ⟨by rw [et2, List.append_nil]; exact h5, s6⟩
        · rintro H5 ⟨h5, s6⟩
          rw [List.length_map, List.take_length] at h5
          have s46 := sc.trans s6
          have h5D := s46 _ _ h4
          have nD2 : D2 ≠ D := (ne_of_none h4 fD2).symm
          have wl : ws.length ≤ 90000 := by rw [hw.len, List.length_take, Mt.liveR_len]; omega
          refine ⟨ws, h5D, small_lt (by omega), ws ++ [.ref D2], upd_same, ?_, same_mut (s4.trans s46) hD, fun v hv => ?_⟩
          · rw [take_snoc (liveR_get hri)]
            refine RowsB.snoc (b := true) (r := r.filter (liveB rows i)) (show SqL K _ D2 _ from SqL.of (by rw [upd_ne nD2]; exact h5)) ?_
            refine RowsB.put (us := ws) (fun a r' h ⟨v, hv, ev⟩ => ?_) (fun v hv => hv) (hw.same s46)
            obtain ⟨a', e1, n1⟩ := hne v hv
            rw [ev] at e1
            cases e1
            rcases h with (h | ⟨o', h⟩) | h
            · exact .inl (.inl (by rw [upd_ne n1]; exact h))
            · exact .inl (.inr ⟨o', by rw [upd_ne n1]; exact h⟩)
            · exact .inr h
          · rcases List.mem_append.mp hv with g | g
            · exact hne v g
            · exact ⟨D2, List.mem_singleton.mp g, nD2⟩
      · rintro H4 ⟨ws, h4, hw, s4, hne⟩
        have e : (Mt.liveR rows).take vs.length = Mt.liveR rows := List.take_of_length_le (by rw [Mt.liveR_len, vl]; exact Nat.le_refl _)
        rw [e] at hw
        exact k2 dex D H4 (s13.trans s4) (s13.free hD) ⟨D, ws, rfl, SqL.of h4, hw⟩
    · have e0 : inV .non (heldV rows.length m.h) = true := by
        rw [ei]
        exact decide_eq_true ⟨p, h1, h2⟩
      rw [show (if false = true then !inV V.non (heldV rows.length m.h) else inV V.non (heldV rows.length m.h)) = true from e0]
      exact k1 h3 H1 s1
theorem RowsB.snocL {H : Hp} {D D2 : Addr} {ws : List V} {rs : List (List Int)} {r : List Int} (h2 : H D2 = some (.lst (r.map V.int))) (n : D2 ≠ D) (hne : ∀ v ∈ ws, ∃ a, v = .ref a ∧ a ≠ D) (hw : RowsB true K H ws rs) : RowsB true K (upd H D (.lst (ws ++ [.ref D2]))) (ws ++ [.ref D2]) (rs ++ [r]) := by
  refine RowsB.snoc (b := true) (r := r) (show SqL K _ D2 _ from SqL.of (by rw [upd_ne n]; exact h2)) ?_
  refine RowsB.put (us := ws) (fun a r' h ⟨v, hv, ev⟩ => ?_) (fun v hv => hv) hw
  obtain ⟨a', e1, n1⟩ := hne v hv
  rw [ev] at e1
  cases e1
  rcases h with (h | ⟨o', h⟩) | h
  · exact .inl (.inl (by rw [upd_ne n1]; exact h))
  · exact .inl (.inr ⟨o', by rw [upd_ne n1]; exact h⟩)
  · exact .inr h
def spNarrowed (K : PySem.W.Frag) : Sp := fun vs H Q _ => ∃ (b : Bool) (rv : V) (rows : List (List Int)) (p : Nat) (t : Int), vs = [rv, .int (p : Int), .int t] ∧ RowsQ b K H rv rows ∧ rows.length ≤ 90000 ∧ (∀ r ∈ rows, r.length ≤ 90000) ∧ ∀ l H', Same H H' → H l = none → RowsQ true K H' (.ref l) (Mt.narrow rows p t) → Q (.ref l) H'
theorem ok_narrowed (A : At K mg "narrowed" s_narrowed ["rows", "person", "thing"]) (T : Tx mg) : Dfn P w K mg base "narrowed" ["rows", "person", "thing"] 1 (spNarrowed K) := by
  refine A.ok sc_narrowed (fun vs H Q E h => ?_) (fun f cdv A outer s H vs Q E hr h => ?_)
  · obtain ⟨b, rv, rows, p, t, rfl, _⟩ := h
    rfl
  · obtain ⟨b, rv, rows, p, t, rfl, hR, hn, hrl, k⟩ := h
    obtain ⟨ra, vs, rfl, hra, hrb⟩ := id hR
    have vl := hrb.len
    refine ⟨_, (pss_one (ps_ret (pe_lc (own := [("one", 3), ("row", 4)]) (g := (gTup K 2 (gCons (gName 3) (gCons (gName 4) gNil)))) (tt := tYes) (te := (tIf (tTest (tOp rEq (tVar 3) (tVar 1))) (tLst (tCons (tVar 2) tNil)) (tLc (iAlt (iList K (tVar 4)) (iTup K (tVar 4))) (gName 5) (tTest (tOp rNe (tVar 5) (tVar 2))) (tVar 5) [5]))) (by rfl) sc_narrowed.nd (pi_alt (pi_enum (by rfl) T.enumerate (pa_cons (pv 0) pa_nil)) (pi_enumT (by rfl) T.enumerate (pa_cons (pv 0) pa_nil))) (blkOk_by (own := [("one", 3), ("row", 4)]) (N := n_narrowed) (sc := (defScope s_narrowed)) (by decide +kernel)) (fun _ _ _ _ _ => (pg_tup rfl (pgs_cons (pg_name (i := 3) sc_narrowed.nd rfl (Or.inl rfl)) (pgs_cons (pg_name (i := 4) sc_narrowed.nd rfl (Or.inl rfl)) pgs_nil)))) (fun _ _ _ _ _ => pts_nil) (fun _ _ _ _ _ => (pe_ifExp (pt_cmpR op_eq (pv 3) (pv 1) (nomark _)) (pe_lst (pa_cons (pv 2) pa_nil)) (pe_lc (own := [("left", 5)]) (g := (gName 5)) (tt := (tTest (tOp rNe (tVar 5) (tVar 2)))) (te := (tVar 5)) (by rfl) sc_narrowed.nd (pi_alt (pi_list (pv 4)) (pi_tup (pv 4))) (blkOk_by (own := [("left", 5)]) (N := n_narrowed) (sc := (relabel (retScope s_narrowed) (envQ (defScope s_narrowed)))) (by decide +kernel)) (fun _ _ _ _ _ => (pg_name (i := 5) sc_narrowed.nd rfl (Or.inl rfl))) (fun _ _ _ _ _ => (pts_one (pt_cmpR op_ne (pv 5) (pv 2) (nomark _)))) (fun _ _ _ _ _ => (pv 5)))))))), ?_⟩
    refine alt_en (b := b) (xs := vs) (fun Q' q => ⟨_, rfl, q⟩) hra fun D hD => ?_
    refine lc_enS (fun i H' => ∃ ws, H' D = some (.lst ws) ∧ RowsB true K H' ws ((Mt.narrow rows p t).take i) ∧ Same H H' ∧ ∀ v ∈ ws, ∃ a, v = .ref a ∧ a ≠ D) ⟨[], upd_same, .nil, same_new hD, fun v hv => (by cases hv)⟩ (fun i H' _ hp => by obtain ⟨_, _, _, s4, _⟩ := hp; exact hra.same s4) ?_ ?_
    · rintro i x H4 c hx ⟨ws, h4, hw, s4, hne⟩ hc
      obtain ⟨aa, r, ex, hri, hqa⟩ := hrb.get hx
      subst ex
      have hir : i < rows.length := (List.getElem?_eq_some_iff.mp hri).1
      have rl := hrl r (List.mem_of_getElem? hri)
      have nDc : D ≠ c := ne_of_none h4 hc
      have sc := same_new (o := .tup [.int ((i : Nat) : Int), V.ref aa]) hc
      have s5 := s4.trans sc
      have wl : ws.length ≤ 90000 := by rw [hw.len, List.length_take, Mt.narrow_len]; omega
      have hget : (Mt.narrow rows p t)[i]? = some (if i = p then [t] else r.filter (fun s => decide (s ≠ t))) := by rw [Mt.narrow_get, hri]; rfl
      refine ⟨c, _, rfl, SqT.of upd_same, rfl, _, _, rfl, _, _, rfl, rfl, rfl, ?_⟩
      refine ⟨_, rfl, _, rfl, rfl, _, rfl, ?_⟩
      refine ite2 (fun hc2 => ?_) (fun hc2 => ?_)
      · have eip : i = p := by
          have := of_decide_eq_true hc2
          injection this with this
          omega
        rw [if_pos eip] at hget
        refine ⟨_, rfl, by show 1 ≤ sizeLine; decide, fun D2 hD2 => ?_⟩
        have fD2 : H4 D2 = none := sc.free hD2
        have nD2 : D2 ≠ D := (ne_of_none h4 fD2).symm
        have s46 := sc.trans (same_new (o := .lst [V.int t]) hD2)
        refine ⟨ws, s46 _ _ h4, small_lt (by omega), ws ++ [.ref D2], upd_same, ?_, same_mut (s4.trans s46) hD, fun v hv => ?_⟩
        · rw [take_snoc hget]
          exact RowsB.snocL (r := [t]) upd_same nD2 hne (hw.same s46)
        · rcases List.mem_append.mp hv with g | g
          · exact hne v g
          · exact ⟨D2, List.mem_singleton.mp g, nD2⟩
      · have eip : ¬ i = p := fun z => hc2 (decide_eq_true (by rw [z]))
        rw [if_neg eip] at hget
        refine alt_it (b := b) (xs := r.map V.int) (fun Q' q => ⟨_, rfl, q⟩) (hqa.same s5) fun D2 hD2 => ?_
        have fD2 : H4 D2 = none := sc.free hD2
        refine lc_sq (fun j H' => H' D2 = some (.lst (((r.take j).filter (fun s => decide (s ≠ t))).map V.int)) ∧ Same (upd H4 c (.tup [.int ((i : Nat) : Int), V.ref aa])) H') ⟨upd_same, same_new hD2⟩ (fun j H' _ hp => hqa.same (s5.trans hp.2)) ?_ ?_
        · rintro j y H5 hy ⟨h5, s6⟩
          have hjr : j < r.length := by
            have := (List.getElem?_eq_some_iff.mp hy).1
            rw [List.length_map] at this
            exact this
          have hrj := List.getElem?_eq_getElem hjr
          obtain ⟨u, eu⟩ : ∃ u, u = r[j] := ⟨_, rfl⟩
          rw [← eu] at hrj
          rw [List.getElem?_map, hrj] at hy
          have ey : V.int u = y := Option.some.inj hy
          subst ey
          refine ⟨rfl, _, rfl, _, rfl, rfl, _, rfl, ?_⟩
          by_cases hut : u = t
          · have d : (!decide (V.int u = V.int t)) = false := by rw [hut, decide_eq_true rfl]; rfl
            rw [d]
            refine ⟨?_, s6⟩
            rw [take_snoc hrj, List.filter_append, List.filter_cons_of_neg (by rw [hut]; simp), List.filter_nil, List.append_nil]
            exact h5
          · have d : (!decide (V.int u = V.int t)) = true := by rw [decide_eq_false (fun z => hut (by injection z))]; rfl
            rw [d]
            refine ⟨_, rfl, _, h5, by rw [List.length_map]; exact small_lt (Nat.le_trans (List.length_filter_le _ _) (by rw [List.length_take]; omega)), ?_, same_mut s6 hD2⟩
            rw [upd_same, take_snoc hrj, List.filter_append, List.filter_cons_of_pos (by simpa using hut), List.filter_nil, List.map_append]
            rfl
        · rintro H5 ⟨h5, s6⟩
          rw [List.length_map, List.take_length] at h5
          have s46 := sc.trans s6
          have nD2 : D2 ≠ D := (ne_of_none h4 fD2).symm
          refine ⟨ws, s46 _ _ h4, small_lt (by omega), ws ++ [.ref D2], upd_same, ?_, same_mut (s4.trans s46) hD, fun v hv => ?_⟩
          · rw [take_snoc hget]
            exact RowsB.snocL h5 nD2 hne (hw.same s46)
          · rcases List.mem_append.mp hv with g | g
            · exact hne v g
            · exact ⟨D2, List.mem_singleton.mp g, nD2⟩
    · rintro H4 ⟨ws, h4, hw, s4, hne⟩
      have e : (Mt.narrow rows p t).take vs.length = Mt.narrow rows p t := List.take_of_length_le (by rw [Mt.narrow_len, vl]; exact Nat.le_refl _)
      rw [e] at hw
      exact k D H4 s4 hD ⟨D, ws, rfl, SqL.of h4, hw⟩
end
end Fo

set_option maxRecDepth 100000
set_option maxHeartbeats 1000000
/-! The least dealing; all dealings in order. -/
namespace Mt
open Classical
structure Least (rows : Rows) (E : List Int) : Prop where
  ds : Ds rows E
  le : ∀ (D : List Int), Ds rows D → ∀ q : Nat, (∀ j : Nat, j < q → D[j]? = E[j]?) → ∀ x y : Int, E[q]? = some x → D[q]? = some y → x ≤ y
theorem Least.one {rows : Rows} {A B : List Int} (a : Least rows A) (b : Least rows B) : A = B := by
  have h : ∀ q : Nat, ∀ j : Nat, j < q → A[j]? = B[j]? := by
    intro q
    induction q with
    | zero => exact fun j hj => absurd hj (Nat.not_lt_zero _)
    | succ q ih =>
      intro j hj
      by_cases e : j = q
      · subst e
        by_cases hn : j < rows.length
        · obtain ⟨x, hx, _⟩ := a.ds.get hn
          obtain ⟨y, hy, _⟩ := b.ds.get hn
          have h1 := a.le B b.ds j (fun i hi => (ih i hi).symm) x y hx hy
          have h2 := b.le A a.ds j ih y x hy hx
          rw [hx, hy]
          congr 1
          omega
        · rw [List.getElem?_eq_none (by rw [a.ds.len]; omega), List.getElem?_eq_none (by rw [b.ds.len]; omega)]
      · exact ih j (by omega)
  exact List.ext_getElem? fun j => h (j + 1) j (Nat.lt_succ_self j)
/-- behind the choices of the first i people -/
structure Gree (rows : Rows) (i : Nat) (L : Rows) : Prop where
  len : L.length = rows.length
  ex : ∃ D, Ds L D
  live : ∀ p, ∀ t ∈ row L p, Live L p t
  sub : ∀ D, Ds L D → Ds rows D
  asc : ∀ p, (row L p).Pairwise (· < ·)
  one : ∀ q, q < i → q < rows.length → ∃ e, row L q = [e]
  cmp : ∀ D, Ds rows D → (∀ q, q < i → ∀ e, row L q = [e] → D[q]? = some e) → Ds L D
  min : ∀ q, q < i → ∀ e, row L q = [e] → ∀ D, Ds rows D → (∀ j, j < q → ∀ f, row L j = [f] → D[j]? = some f) → ∀ y, D[q]? = some y → e ≤ y
theorem pair_filter {r : List Int} {f : Int → Bool} (h : r.Pairwise (· < ·)) : (r.filter f).Pairwise (· < ·) := List.Pairwise.filter _ h
theorem Gree.init {rows : Rows} (asc : ∀ p, (row rows p).Pairwise (· < ·)) (ex : ∃ D, Ds rows D) : Gree rows 0 (liveR rows) where
  len := liveR_len
  ex := by obtain ⟨D, d⟩ := ex; exact ⟨D, ds_liveR.mpr d⟩
  live := fun p t h => by
    obtain ⟨D, d, e⟩ := mem_liveR.mp h
    exact ⟨D, ds_liveR.mpr d, e⟩
  sub := fun D d => ds_liveR.mp d
  asc := fun p => by rw [row_liveR]; exact pair_filter (asc p)
  one := fun q h => absurd h (Nat.not_lt_zero _)
  cmp := fun D d _ => ds_liveR.mpr d
  min := fun q h => absurd h (Nat.not_lt_zero _)
theorem single_live {L : Rows} {q : Nat} {e : Int} {D : List Int} (h : row L q = [e]) (d : Ds L D) (hq : q < L.length) : D[q]? = some e := by
  obtain ⟨t, ht, hm⟩ := d.get hq
  rw [h] at hm
  rw [ht, List.mem_singleton.mp hm]
theorem first_le {r : List Int} {t y : Int} {l : List Int} (h : r.Pairwise (· < ·)) (e : r = t :: l) (hy : y ∈ r) : t ≤ y := by
  rw [e] at h hy
  rcases List.mem_cons.mp hy with z | z
  · omega
  · have := (List.pairwise_cons.mp h).1 y z
    omega
/-- the person has one thing alone: nothing to choose -/
theorem Gree.stay {rows L : Rows} {i : Nat} {t : Int} (g : Gree rows i L) (hi : i < rows.length) (h : row L i = [t]) : Gree rows (i + 1) L where
  len := g.len
  ex := g.ex
  live := g.live
  sub := g.sub
  asc := g.asc
  one := fun q hq hn => by
    by_cases e : q = i
    · rw [e]; exact ⟨t, h⟩
    · exact g.one q (by omega) hn
  cmp := fun D d hD => g.cmp D d fun q hq e he => hD q (by omega) e he
  min := fun q hq e he D d hD y hy => by
    by_cases z : q = i
    · subst z
      have dl := g.cmp D d fun j hj f hf => hD j hj f hf
      have := single_live he dl (by rw [g.len]; exact hi)
      rw [this] at hy
      cases hy
      exact Int.le_refl _
    · exact g.min q (by omega) e he D d hD y hy
/-- the person takes the first thing -/
theorem Gree.take {rows L : Rows} {i : Nat} {t : Int} {l : List Int} (g : Gree rows i L) (hi : i < rows.length) (h : row L i = t :: l) : Gree rows (i + 1) (liveR (narrow L i t)) := by
  have hiL : i < L.length := by rw [g.len]; exact hi
  have ht : t ∈ row L i := by rw [h]; exact List.mem_cons_self
  have ex2 : ∃ D, Ds (narrow L i t) D := by
    obtain ⟨D, d, e⟩ := g.live i t ht
    exact ⟨D, (ds_narrow hiL ht).mpr ⟨d, e⟩⟩
  have len2 : (liveR (narrow L i t)).length = rows.length := by rw [liveR_len, narrow_len, g.len]
  have dsn : ∀ D, Ds (liveR (narrow L i t)) D ↔ Ds L D ∧ D[i]? = some t := fun D => ds_liveR.trans (ds_narrow hiL ht)
  have rown : ∀ p, p < rows.length → ∀ s, s ∈ row (liveR (narrow L i t)) p ↔ ∃ D, Ds L D ∧ D[i]? = some t ∧ D[p]? = some s := fun p hp s => by
    rw [mem_liveR]
    constructor
    · rintro ⟨D, d, e⟩
      obtain ⟨a, b⟩ := (ds_narrow hiL ht).mp d
      exact ⟨D, a, b, e⟩
    · rintro ⟨D, a, b, e⟩
      exact ⟨D, (ds_narrow hiL ht).mpr ⟨a, b⟩, e⟩
  have asc2 : ∀ p, (row (liveR (narrow L i t)) p).Pairwise (· < ·) := fun p => by
    rw [row_liveR]
    refine pair_filter ?_
    by_cases hp : p < L.length
    · rw [row_narrow hp]
      by_cases e : p = i
      · rw [if_pos e]; exact List.pairwise_singleton _ _
      · rw [if_neg e]; exact pair_filter (g.asc p)
    · have : row (narrow L i t) p = [] := by
        unfold row
        rw [narrow_get, List.getElem?_eq_none (by omega)]
        rfl
      rw [this]
      exact .nil
  have one_of : ∀ p, p < rows.length → ∀ e, (∀ D, Ds L D → D[i]? = some t → D[p]? = some e) → row (liveR (narrow L i t)) p = [e] := fun p hp e he => by
    have all : ∀ s ∈ row (liveR (narrow L i t)) p, s = e := fun s hs => by
      obtain ⟨D, a, b, c⟩ := (rown p hp s).mp hs
      have := he D a b
      rw [c] at this
      exact Option.some.inj this
    have mem : e ∈ row (liveR (narrow L i t)) p := by
      obtain ⟨D, d, b⟩ := g.live i t ht
      exact (rown p hp e).mpr ⟨D, d, b, he D d b⟩
    have as := asc2 p
    cases hr : row (liveR (narrow L i t)) p with
    | nil => rw [hr] at mem; cases mem
    | cons a r =>
      rw [hr] at all as
      have ea := all a List.mem_cons_self
      cases r with
      | nil => rw [ea]
      | cons b r =>
        have eb := all b (List.mem_cons_of_mem _ List.mem_cons_self)
        have := (List.pairwise_cons.mp as).1 b List.mem_cons_self
        omega
  have old : ∀ q, q < i → q < rows.length → ∀ e, row L q = [e] → row (liveR (narrow L i t)) q = [e] := fun q hq hn e he =>
    one_of q hn e fun D d _ => single_live he d (by rw [g.len]; exact hn)
  have new : row (liveR (narrow L i t)) i = [t] := one_of i hi t fun D _ b => b
  refine ⟨len2, ?_, fun p s hs => ?_, fun D d => g.sub D ((dsn D).mp d).1, asc2, fun q hq hn => ?_, fun D d hD => ?_, fun q hq e he D d hD y hy => ?_⟩
  · obtain ⟨D, d⟩ := ex2
    exact ⟨D, ds_liveR.mpr d⟩
  · obtain ⟨D, d, e⟩ := mem_liveR.mp hs
    exact ⟨D, ds_liveR.mpr d, e⟩
  · by_cases z : q = i
    · rw [z]; exact ⟨t, new⟩
    · obtain ⟨e, he⟩ := g.one q (by omega) hn
      exact ⟨e, old q (by omega) hn e he⟩
  · refine (dsn D).mpr ⟨g.cmp D d fun q hq e he => hD q (by omega) e ?_, hD i (Nat.lt_succ_self i) t new⟩
    have hn : q < rows.length := by omega
    exact old q hq hn e he
  · have hn : q < rows.length := by omega
    have back : ∀ j, j < i → j < rows.length → ∀ f, row L j = [f] → row (liveR (narrow L i t)) j = [f] := old
    by_cases z : q = i
    · subst z
      rw [new] at he
      cases he
      have dl := g.cmp D d fun j hj f hf => hD j hj f (old j hj (by omega) f hf)
      obtain ⟨y', e1, m1⟩ := dl.get hiL
      rw [hy] at e1
      cases e1
      exact first_le (g.asc q) h m1
    · have hq2 : q < i := by omega
      obtain ⟨f, hf⟩ := g.one q hq2 hn
      have := old q hq2 hn f hf
      rw [this] at he
      cases he
      exact g.min q hq2 e hf D d (fun j hj f hf => hD j hj f (old j (by omega) (by omega) f hf)) y hy
theorem Gree.done {rows L : Rows} (g : Gree rows rows.length L) : Least rows (L.map fun r => r.headD 0) := by
  obtain ⟨D, d⟩ := g.ex
  have get : ∀ q, q < rows.length → ∃ e, row L q = [e] ∧ D[q]? = some e ∧ (L.map fun r => r.headD 0)[q]? = some e := fun q hq => by
    obtain ⟨e, he⟩ := g.one q hq hq
    refine ⟨e, he, single_live he d (by rw [g.len]; exact hq), ?_⟩
    have hqL : q < L.length := by rw [g.len]; exact hq
    rw [List.getElem?_map, List.getElem?_eq_getElem hqL]
    have : row L q = L[q] := row_get (List.getElem?_eq_getElem hqL)
    rw [this] at he
    show some (L[q].headD 0) = some e
    rw [he]
    rfl
  have e : (L.map fun r => r.headD 0) = D := by
    refine List.ext_getElem? fun q => ?_
    by_cases hq : q < rows.length
    · obtain ⟨e, _, h1, h2⟩ := get q hq
      rw [h1, h2]
    · rw [List.getElem?_eq_none (by rw [List.length_map, g.len]; omega), List.getElem?_eq_none (by rw [d.len, g.len]; omega)]
  rw [e]
  refine ⟨g.sub D d, fun D2 d2 q hj x y hx hy => ?_⟩
  have hq : q < rows.length := by
    have := (List.getElem?_eq_some_iff.mp hx).1
    rw [d.len, g.len] at this
    exact this
  obtain ⟨e, he, h1, _⟩ := get q hq
  rw [hx] at h1
  cases h1
  refine g.min q hq x he D2 d2 (fun j hjq f hf => ?_) y hy
  rw [hj j hjq]
  obtain ⟨f', hf', h3, _⟩ := get j (by omega)
  rw [hf] at hf'
  cases hf'
  exact h3
/-! all dealings, row by row -/
def ext (found : List (List Int)) (r : List Int) : List (List Int) := found.flatMap fun d => (r.filter fun t => decide (t ∉ d)).map fun t => d ++ [t]
def deals (rows : Rows) : List (List Int) := rows.foldl ext [[]]
theorem mem_ext {found : List (List Int)} {r : List Int} {x : List Int} : x ∈ ext found r ↔ ∃ d ∈ found, ∃ t ∈ r, t ∉ d ∧ x = d ++ [t] := by
  unfold ext
  rw [List.mem_flatMap]
  constructor
  · rintro ⟨d, hd, hx⟩
    obtain ⟨t, ht, e⟩ := List.mem_map.mp hx
    have := List.mem_filter.mp ht
    exact ⟨d, hd, t, this.1, of_decide_eq_true this.2, e.symm⟩
  · rintro ⟨d, hd, t, ht, hn, e⟩
    exact ⟨d, hd, List.mem_map.mpr ⟨t, List.mem_filter.mpr ⟨ht, decide_eq_true hn⟩, e.symm⟩⟩
theorem deals_snoc {rows : Rows} {r : List Int} : deals (rows ++ [r]) = ext (deals rows) r := by
  unfold deals
  rw [List.foldl_append]
  rfl
theorem row_app {rows : Rows} {r : List Int} {p : Nat} (h : p < rows.length) : row (rows ++ [r]) p = row rows p := by
  unfold row
  rw [List.getElem?_append_left h]
theorem row_last {rows : Rows} {r : List Int} : row (rows ++ [r]) rows.length = r := by
  unfold row
  rw [List.getElem?_append_right (Nat.le_refl _), Nat.sub_self]
  rfl
theorem ds_snoc {rows : Rows} {r : List Int} {x : List Int} : Ds (rows ++ [r]) x ↔ ∃ d t, Ds rows d ∧ t ∈ r ∧ t ∉ d ∧ x = d ++ [t] := by
  constructor
  · intro h
    have hl : x.length = rows.length + 1 := by rw [h.len, List.length_append]; rfl
    rcases List.eq_nil_or_concat x with e | ⟨d, t, e⟩
    · rw [e] at hl; cases hl
    · rw [List.concat_eq_append] at e
      subst e
      have dl : d.length = rows.length := by
        rw [List.length_append, List.length_singleton] at hl
        omega
      have nd := List.nodup_append.mp h.nd
      refine ⟨d, t, ⟨dl, fun p s hs => ?_, nd.1⟩, ?_, fun hm => nd.2.2 t hm t List.mem_cons_self rfl, rfl⟩
      · have hp : p < d.length := (List.getElem?_eq_some_iff.mp hs).1
        have := h.tie p s (by rw [List.getElem?_append_left hp]; exact hs)
        rw [row_app (by omega)] at this
        exact this
      · have := h.tie d.length t (by rw [List.getElem?_append_right (Nat.le_refl _), Nat.sub_self]; rfl)
        rw [dl, row_last] at this
        exact this
  · rintro ⟨d, t, h, ht, hn, rfl⟩
    refine ⟨by rw [List.length_append, List.length_append, h.len]; rfl, fun p s hs => ?_, ?_⟩
    · by_cases hp : p < d.length
      · rw [List.getElem?_append_left hp] at hs
        rw [row_app (by rw [← h.len]; exact hp)]
        exact h.tie p s hs
      · rw [List.getElem?_append_right (by omega)] at hs
        have hp2 : p - d.length = 0 := by
          have := (List.getElem?_eq_some_iff.mp hs).1
          rw [List.length_singleton] at this
          omega
        rw [hp2] at hs
        have hs' : some t = some s := hs
        cases hs'
        have : p = rows.length := by rw [← h.len]; omega
        rw [this, row_last]
        exact ht
    · exact List.nodup_append.mpr ⟨h.nd, List.nodup_cons.mpr ⟨fun z => (by cases z), List.nodup_nil⟩, fun x hx y hy => by rw [List.mem_singleton.mp hy]; exact fun e => hn (e ▸ hx)⟩
theorem rev_ind {α : Type} {P : List α → Prop} (h0 : P []) (h1 : ∀ l x, P l → P (l ++ [x])) : ∀ l, P l := by
  intro l
  have : ∀ n, ∀ l : List α, l.length = n → P l := by
    intro n
    induction n with
    | zero => intro l hl; rw [List.length_eq_zero_iff.mp hl]; exact h0
    | succ n ih =>
      intro l hl
      rcases List.eq_nil_or_concat l with e | ⟨d, t, e⟩
      · rw [e] at hl; cases hl
      · rw [List.concat_eq_append] at e
        rw [e] at hl ⊢
        rw [List.length_append, List.length_singleton] at hl
        exact h1 d t (ih d (by omega))
  exact this _ l rfl
theorem mem_deals {rows : Rows} : ∀ x, x ∈ deals rows ↔ Ds rows x := by
  refine rev_ind (P := fun rows => ∀ x, x ∈ deals rows ↔ Ds rows x) ?_ ?_ rows
  · intro x
    show x ∈ [[]] ↔ _
    rw [List.mem_singleton]
    constructor
    · rintro rfl
      exact ⟨rfl, fun p t h => by simp at h, List.nodup_nil⟩
    · intro h
      exact List.length_eq_zero_iff.mp h.len
  · intro rows r ih x
    rw [deals_snoc, mem_ext, ds_snoc]
    constructor
    · rintro ⟨d, hd, t, ht, hn, e⟩
      exact ⟨d, t, (ih d).mp hd, ht, hn, e⟩
    · rintro ⟨d, t, hd, ht, hn, e⟩
      exact ⟨d, (ih d).mpr hd, t, ht, hn, e⟩
/-- smaller at the first place where they differ -/
def Lx (a b : List Int) : Prop := ∃ (q : Nat) (x y : Int), (∀ j : Nat, j < q → a[j]? = b[j]?) ∧ a[q]? = some x ∧ b[q]? = some y ∧ x < y
theorem lx_app {a b u v : List Int} (h : Lx a b) : Lx (a ++ u) (b ++ v) := by
  obtain ⟨q, x, y, h1, h2, h3, h4⟩ := h
  have ha := (List.getElem?_eq_some_iff.mp h2).1
  have hb := (List.getElem?_eq_some_iff.mp h3).1
  refine ⟨q, x, y, fun j hj => ?_, ?_, ?_, h4⟩
  · rw [List.getElem?_append_left (by omega), List.getElem?_append_left (by omega)]
    exact h1 j hj
  · rw [List.getElem?_append_left ha]; exact h2
  · rw [List.getElem?_append_left hb]; exact h3
theorem lx_last {d : List Int} {s t : Int} (h : s < t) : Lx (d ++ [s]) (d ++ [t]) := by
  refine ⟨d.length, s, t, fun j hj => ?_, ?_, ?_, h⟩
  · rw [List.getElem?_append_left hj, List.getElem?_append_left hj]
  · rw [List.getElem?_append_right (Nat.le_refl _), Nat.sub_self]; rfl
  · rw [List.getElem?_append_right (Nat.le_refl _), Nat.sub_self]; rfl
theorem pair_flat {f : List Int → List (List Int)} : ∀ {l : List (List Int)}, l.Pairwise Lx → (∀ d ∈ l, (f d).Pairwise Lx) → (∀ a ∈ l, ∀ b ∈ l, Lx a b → ∀ x ∈ f a, ∀ y ∈ f b, Lx x y) → (l.flatMap f).Pairwise Lx
  | [], _, _, _ => .nil
  | d :: l, hp, h1, h2 => by
    rw [List.flatMap_cons, List.pairwise_append]
    have hc := List.pairwise_cons.mp hp
    refine ⟨h1 d List.mem_cons_self, pair_flat hc.2 (fun e he => h1 e (List.mem_cons_of_mem _ he)) (fun a ha b hb => h2 a (List.mem_cons_of_mem _ ha) b (List.mem_cons_of_mem _ hb)), fun x hx y hy => ?_⟩
    obtain ⟨e, he, hy⟩ := List.mem_flatMap.mp hy
    exact h2 d List.mem_cons_self e (List.mem_cons_of_mem _ he) (hc.1 e he) x hx y hy
theorem ext_lx {found : List (List Int)} {r : List Int} (hf : found.Pairwise Lx) (hr : r.Pairwise (· < ·)) : (ext found r).Pairwise Lx := by
  unfold ext
  refine pair_flat hf (fun d _ => ?_) (fun a _ b _ hab x hx y hy => ?_)
  · rw [List.pairwise_map]
    exact (pair_filter hr).imp fun {s t} h => lx_last h
  · obtain ⟨s, _, rfl⟩ := List.mem_map.mp hx
    obtain ⟨t, _, rfl⟩ := List.mem_map.mp hy
    exact lx_app hab
theorem deals_lx {rows : Rows} (asc : ∀ r ∈ rows, r.Pairwise (· < ·)) : (deals rows).Pairwise Lx := by
  revert asc
  refine rev_ind (P := fun rows => (∀ r ∈ rows, r.Pairwise (· < ·)) → (deals rows).Pairwise Lx) ?_ ?_ rows
  · intro _
    exact List.pairwise_singleton _ _
  · intro rows r ih asc
    rw [deals_snoc]
    exact ext_lx (ih fun x hx => asc x (List.mem_append_left _ hx)) (asc r (List.mem_append_right _ List.mem_cons_self))
/-- the least dealing comes first -/
theorem deals_head {rows : Rows} (asc : ∀ r ∈ rows, r.Pairwise (· < ·)) {E : List Int} (h : Least rows E) : ∃ l, deals rows = E :: l := by
  have hm := (mem_deals E).mpr h.ds
  have pw := deals_lx asc
  cases hd : deals rows with
  | nil => rw [hd] at hm; cases hm
  | cons D l =>
    rw [hd] at hm pw
    rcases List.mem_cons.mp hm with e | e
    · rw [e]; exact ⟨l, rfl⟩
    · exfalso
      obtain ⟨q, x, y, h1, h2, h3, h4⟩ := (List.pairwise_cons.mp pw).1 E e
      have dD : Ds rows D := (mem_deals D).mp (by rw [hd]; exact List.mem_cons_self)
      have := h.le D dD q h1 y x h3 h2
      omega
end Mt

set_option maxRecDepth 100000
set_option maxHeartbeats 1000000
/-! right rows: all that the matching asks -/
namespace Fo
open PySem PySem.Spec PyProof.Rows L2
theorem row_mem {rows : List (List Int)} {p : Nat} {t : Int} (h : t ∈ Mt.row rows p) : ∃ r ∈ rows, t ∈ r := by
  unfold Mt.row at h
  cases e : rows[p]? with
  | none => rw [e] at h; cases h
  | some r => rw [e] at h; exact ⟨r, List.mem_of_getElem? e, h⟩
theorem Good.row_rng {rows : List (List Int)} (G : Good rows) {p : Nat} {t : Int} (h : t ∈ Mt.row rows p) : 0 ≤ t ∧ t < (rows.length : Int) := by
  obtain ⟨r, hr, ht⟩ := row_mem h
  exact G.rng r hr t ht
theorem Good.row_asc {rows : List (List Int)} (G : Good rows) (p : Nat) : (Mt.row rows p).Pairwise (· < ·) := by
  unfold Mt.row
  cases e : rows[p]? with
  | none => exact .nil
  | some r => exact G.asc r (List.mem_of_getElem? e)
theorem Good.few {rows : List (List Int)} (G : Good rows) : Mt.Few rows :=
  ⟨rangeI rows.length, by rw [rangeI_len]; exact Nat.le_refl _, fun p t h => mem_rangeI.mpr (G.row_rng h)⟩
theorem asc_len {r : List Int} {n : Nat} (h : r.Pairwise (· < ·)) (hr : ∀ x ∈ r, 0 ≤ x ∧ x < (n : Int)) : r.length ≤ n := by
  have nd : r.Nodup := h.imp fun {a b} h => by omega
  have := Mt.len_le (l2 := rangeI n) nd fun x hx => mem_rangeI.mpr (hr x hx)
  rw [rangeI_len] at this
  exact this
theorem Good.row_len {rows : List (List Int)} (G : Good rows) : ∀ r ∈ rows, r.length ≤ rows.length := fun r hr => asc_len (G.asc r hr) (G.rng r hr)
theorem flat_len {n : Nat} : ∀ {l : List (List Int)}, (∀ r ∈ l, r.length ≤ n) → l.flatten.length ≤ l.length * n
  | [], _ => Nat.zero_le _
  | r :: l, h => by
    rw [List.flatten_cons, List.length_append, List.length_cons, Nat.succ_mul]
    have h1 := h r List.mem_cons_self
    have h2 := flat_len (l := l) fun r hr => h r (List.mem_cons_of_mem _ hr)
    omega
theorem Good.few_things {rows : List (List Int)} (G : Good rows) {n : Nat} (h : rows.length ≤ n) : (Mt.things rows).length ≤ n * n :=
  Nat.le_trans (flat_len G.row_len) (Nat.mul_le_mul h h)
theorem mapIdx_get {α β : Type} {f : Nat → α → β} {l : List α} {y : β} (h : y ∈ l.mapIdx f) : ∃ (i : Nat) (x : α), l[i]? = some x ∧ y = f i x := by
  obtain ⟨i, hi⟩ := List.getElem?_of_mem h
  rw [List.getElem?_mapIdx] at hi
  cases e : l[i]? with
  | none => rw [e] at hi; cases hi
  | some x => rw [e] at hi; exact ⟨i, x, e, (Option.some.inj hi).symm⟩
theorem Good.live {rows : List (List Int)} (G : Good rows) : Good (Mt.liveR rows) where
  pos := by rw [Mt.liveR_len]; exact G.pos
  asc := fun r hr => by
    obtain ⟨i, x, e, rfl⟩ := mapIdx_get hr
    exact List.Pairwise.filter _ (G.asc x (List.mem_of_getElem? e))
  rng := fun r hr t ht => by
    rw [Mt.liveR_len]
    obtain ⟨i, x, e, rfl⟩ := mapIdx_get hr
    exact G.rng x (List.mem_of_getElem? e) t (List.mem_filter.mp ht).1
theorem Good.narrow {rows : List (List Int)} (G : Good rows) {p : Nat} {t : Int} (hp : t ∈ Mt.row rows p) : Good (Mt.narrow rows p t) where
  pos := by rw [Mt.narrow_len]; exact G.pos
  asc := fun r hr => by
    obtain ⟨i, x, e, rfl⟩ := mapIdx_get hr
    by_cases c : i = p
    · rw [if_pos c]; exact List.pairwise_singleton _ _
    · rw [if_neg c]; exact List.Pairwise.filter _ (G.asc x (List.mem_of_getElem? e))
  rng := fun r hr u hu => by
    rw [Mt.narrow_len]
    obtain ⟨i, x, e, rfl⟩ := mapIdx_get hr
    by_cases c : i = p
    · rw [if_pos c] at hu
      rw [List.mem_singleton.mp hu]
      exact G.row_rng hp
    · rw [if_neg c] at hu
      exact G.rng x (List.mem_of_getElem? e) u (List.mem_filter.mp hu).1
end Fo

set_option maxRecDepth 100000
set_option maxHeartbeats 4000000
namespace Fo
open PySem PySem.Spec PyProof.Rows L2
abbrev s_dealing : Stmt := top 34
abbrev n_dealing : List Str := ["table", "live", "person", "row"]
theorem sc_dealing : FnScope n_dealing ["table"] (defScope s_dealing) := ⟨rfl, rfl, rfl, by decide +kernel, rfl, by decide +kernel, by decide +kernel⟩
section
variable {P : Program} {w : World} {K : PySem.W.Frag} {mg : Str → Option Value} {base : Heap} {C : Addr}
def spDealing (K : PySem.W.Frag) (C : Addr) : Sp := fun vs H Q _ => ∃ (x : V) (rows : List (List Int)), vs = [x] ∧ TableAt K C H x rows ∧ Good rows ∧ rows.length ≤ 40 ∧
  ((∀ D, ¬ Mt.Ds rows D) → ∀ H', Same H H' → Q .non H') ∧ (∀ E, Mt.Least rows E → ∀ p H', Same H H' → SqT K H' p (E.map V.int) → Q (.ref p) H')
theorem ok_dealing (A : At K mg "dealing" s_dealing ["table"]) (T : Tx mg) (tc : TC K C) (G_live_rows : Dfn P w K mg base "live_rows" ["rows"] 4 (spLive K)) (G_narrowed : Dfn P w K mg base "narrowed" ["rows", "person", "thing"] 1 (spNarrowed K)) : Dfn P w K mg base "dealing" ["table"] 5 (spDealing K C) := by
  refine A.ok sc_dealing (fun vs H Q E h => ?_) (fun f cdv A outer s H vs Q E hr h => ?_)
  · obtain ⟨x, rows, rfl, _⟩ := h
    rfl
  · obtain ⟨x, rows, rfl, ⟨p, dx, v, rfl, hp, hR⟩, G, hn, k1, k2⟩ := h
    refine ⟨_, (pss_cons (ps_set (i := 1) sc_dealing.nd rfl (Or.inl rfl) (pe_d G_live_rows (hr.mono (by decide)) (pa_cons (pe_fld (pv 0) rfl) pa_nil)))
      (pss_cons (ps_if (pt_cmpR op_isN (pv 1) pe_non (nomark _)) (pss_one (ps_ret pe_non)) pss_nil)
      (pss_cons (ps_for PassesOwn.never rfl (pi_range1 rfl T.range (pa_cons (pe_fld (pv 0) rfl) pa_nil)) (pg_name (i := 2) sc_dealing.nd rfl (Or.inl rfl))
      (pss_one (ps_if (pt_cmpR op_gt (pe_callB c_len (by rfl) T.len (by decide +kernel) (pa_cons (pe_ix ix_list (pv 1) (pv 2) (fun _ _ => rfl)) pa_nil)) pe_int (nomark _)) (pss_one (ps_set (i := 1) sc_dealing.nd rfl (Or.inl rfl) (pe_d G_live_rows (hr.mono (by decide)) (pa_cons (pe_d G_narrowed (hr.mono (by decide)) (pa_cons (pv 1) (pa_cons (pv 2) (pa_cons (pe_ix ix_list (pe_ix ix_list (pv 1) (pv 2) (fun _ _ => rfl)) pe_int (fun _ _ => rfl)) pa_nil)))) pa_nil)))) pss_nil)))
      (pss_one (ps_ret (pe_callTy c_tuple (by rfl) T.tuple (by decide +kernel) (pa_cons (pe_lc (own := [("row", 3)]) (g := (gName 3)) (tt := tYes) (te := (tOp (rIxL K) (tVar 3) (tC (V.int 0)))) (by rfl) sc_dealing.nd (pi_list (pv 1)) (blkOk_by (own := [("row", 3)]) (N := n_dealing) (sc := (defScope s_dealing)) (by decide +kernel)) (fun _ _ _ _ _ => (pg_name (i := 3) sc_dealing.nd rfl (Or.inl rfl))) (fun _ _ _ _ _ => pts_nil) (fun _ _ _ _ _ => (pe_ix ix_list (pv 3) pe_int (fun _ _ => rfl)))) pa_nil))))))), ?_⟩
    have big : 40 * 40 ≤ 90000 := by decide
    refine ⟨_, rfl, p, C, dx, _, v, rfl, hp, tc.cl, tc.nR, tf_rows _ _, false, v, rows, rfl, hR.q, Nat.le_trans (G.few_things hn) big, by omega, fun r hr => by have := G.row_len r hr; omega, G.few, fun hno H1 s1 => ?_, fun hex l H1 s1 f1 hq => ?_⟩
    · refine ⟨_, rfl, rfl, _, rfl, ?_⟩
      rw [show decide (V.non = V.non) = true from decide_eq_true rfl]
      exact k1 hno H1 s1
    · refine ⟨_, rfl, rfl, _, rfl, ?_⟩
      rw [show decide (V.ref l = V.non) = false from decide_eq_false (by intro z; cases z)]
      refine ⟨_, rfl, p, C, dx, _, _, rfl, s1 _ _ hp, tc.cl, tc.nS, tf_size _ _, _, rfl, by omega, by omega, for_range (lo := 0) (n := ((rows.length : Nat) : Int).toNat) (fun i σ' H' => ∃ x2 x3 la L, σ' = [some (.ref p), some (.ref la), x2, x3] ∧ RowsQ true K H' (.ref la) L ∧ Mt.Gree rows i L ∧ Good L ∧ Same H H') ⟨_, _, l, Mt.liveR rows, rfl, hq, .init G.row_asc hex, G.live, s1⟩ ?_ ?_⟩
      · rintro i σ' H2 hi ⟨x2, x3, la, L, rfl, hq, g, GL, s2⟩
        have hir : i < rows.length := by omega
        have hiL : i < L.length := by rw [g.len]; exact hir
        obtain ⟨a, ws, ea, ha, hw⟩ := id hq
        cases ea
        obtain ⟨ra, hra, hsr⟩ := hw.at_ (List.getElem?_eq_getElem hiL)
        have hrow : Mt.row L i = L[i] := Mt.row_get (List.getElem?_eq_getElem hiL)
        have hne : ∃ t l, L[i] = t :: l := by
          obtain ⟨D, d⟩ := g.ex
          obtain ⟨t, _, hm⟩ := d.get hiL
          rw [hrow] at hm
          cases e : L[i] with
          | nil => rw [e] at hm; cases hm
          | cons t l => exact ⟨t, l, rfl⟩
        obtain ⟨t, r, er⟩ := hne
        rw [er] at hsr hrow
        have rl : (t :: r).length ≤ 40 := by
          have := GL.row_len _ (List.getElem_mem hiL)
          rw [er, g.len] at this
          omega
        refine ⟨_, rfl, _, rfl, la, ws, _, .ref ra, rfl, rfl, ha, at_nat0 hra, ra, _, rfl, Sq.or (b := true) hsr, _, _, rfl, rfl, _, rfl, ?_⟩
        have htr : t ∈ Mt.row L i := by rw [hrow]; exact List.mem_cons_self
        have gl := g.len
        rw [List.length_map]
        refine ite2 (fun hc => ?_) (fun hc => ?_)
        · have ex2 : ∃ D, Mt.Ds (Mt.narrow L i t) D := by
            obtain ⟨D, d, e⟩ := g.live i t htr
            exact ⟨D, (Mt.ds_narrow hiL htr).mpr ⟨d, e⟩⟩
          have GN := GL.narrow htr
          have nl : (Mt.narrow L i t).length = L.length := Mt.narrow_len
          refine ⟨_, rfl, _, rfl, _, rfl, _, rfl, la, ws, _, .ref ra, rfl, rfl, ha, at_nat0 hra, ra, _, _, .int t, rfl, rfl, hsr, at_nat (j := 0) rfl, ?_⟩
          refine ⟨true, .ref la, L, i, t, by rw [Int.zero_add]; rfl, hq, by omega, fun r hr => by have := GL.row_len r hr; omega, fun nr H3 s3 fnr hn3 => ?_⟩
          refine ⟨true, .ref nr, Mt.narrow L i t, rfl, hn3, Nat.le_trans (GN.few_things (n := 40) (by omega)) big, by omega, fun r hr => by have := GN.row_len r hr; omega, GN.few, fun hno => ?_, fun _ l4 H4 s4 f4 hq4 => ?_⟩
          · obtain ⟨D, d⟩ := ex2
            exact absurd d (hno D)
          · exact ⟨_, _, l4, _, rfl, hq4, g.take hir hrow, GN.live, s2.trans (s3.trans s4)⟩
        · have e1 : r = [] := by
            cases r with
            | nil => rfl
            | cons u r =>
              exfalso
              apply hc
              refine decide_eq_true ?_
              rw [List.length_cons, List.length_cons]
              omega
          rw [e1] at hrow
          exact ⟨_, _, la, L, rfl, hq, g.stay hir hrow, GL, s2⟩
      · rintro σ' H2 ⟨x2, x3, la, L, rfl, hq, g, GL, s2⟩
        obtain ⟨a, ws, ea, ha, hw⟩ := id hq
        cases ea
        rw [Int.toNat_natCast] at g
        have wl := hw.len
        have gl := g.len
        refine ⟨_, rfl, la, rfl, ⟨ws, ha⟩, fun D hD => ?_⟩
        refine lc_list (xs := ws) (fun i H' => H' D = some (.lst (((L.take i).map fun r => r.headD 0).map V.int)) ∧ Same H2 H') ⟨upd_same, same_new hD⟩ (fun i H' _ hp => Sq.same (b := true) ha hp.2) ?_ ?_
        · rintro i x H3 hx ⟨h3, s3⟩
          obtain ⟨ra, r, rfl, hr, hqr⟩ := hw.get hx
          have hir : i < rows.length := by have := (List.getElem?_eq_some_iff.mp hr).1; omega
          obtain ⟨e, he⟩ := g.one i hir hir
          rw [Mt.row_get hr] at he
          subst he
          refine ⟨rfl, _, rfl, ra, _, _, _, rfl, rfl, hqr.same s3, (at_nat (j := 0) rfl), _, h3, by rw [List.length_map, List.length_map, List.length_take]; exact small_lt (by omega), ?_, same_mut s3 hD⟩
          rw [upd_same, take_snoc hr, List.map_append, List.map_append]
          rfl
        · rintro H3 ⟨h3, s3⟩
          rw [List.take_of_length_le (by omega)] at h3
          exact ⟨D, _, rfl, .inl ⟨SqL.of h3, fun q hq => k2 _ g.done q _ (s2.trans (s3.trans (same_new hq))) (SqT.of upd_same)⟩⟩
end
end Fo

set_option maxRecDepth 100000
set_option maxHeartbeats 4000000
namespace Fo
open PySem PySem.Spec PyProof.Rows L2
section
variable {P : Program} {w : World} {K : PySem.W.Frag} {mg : Str → Option Value} {base : Heap} {C : Addr}
theorem catA {a b : Addr} {xs ys : List V} {H : Hp} {Q : VK} (ha : SqT K H a xs) (hb : SqT K H b ys) (hz : xs.length + ys.length ≤ 100000) (k : ∀ p H', Same H H' → SqT K H' p (xs ++ ys) → Q (.ref p) H') : rCatA K (.ref a) (.ref b) H Q := by
  refine ⟨a, b, xs, ys, rfl, rfl, ha, hb, small_le hz, fun h => ?_, fun _ h => ?_, fun _ _ p hp => k p _ (same_new hp) (SqT.of upd_same)⟩
  · subst h
    exact k b H (Same.refl H) hb
  · subst h
    exact k a H (Same.refl H) (by rw [List.append_nil]; exact ha)
theorem slA {a : Addr} {xs : List V} {lo hi : Option Int} {H : Hp} {Q : VK} (ha : SqT K H a xs) (k : ∀ p H', Same H H' → SqT K H' p (cutV xs lo hi) → Q (.ref p) H') : rSlA K (.ref a) lo hi H Q := by
  refine ⟨a, xs, rfl, ha, fun hw => k a H (Same.refl H) ?_, fun _ p hp => k p _ (same_new hp) (SqT.of upd_same)⟩
  have e : cutV xs lo hi = xs := by
    unfold cutV
    rw [hw.1, hw.2]
    simp
  rw [e]
  exact ha
theorem cut_to {xs : List V} {n : Nat} (h : n ≤ xs.length) : cutV xs none (some (n : Int)) = xs.take n := by
  unfold cutV
  rw [HT.sIx_none, HT.sIx_nat, show min n xs.length = n by omega]
  rfl
theorem cut_from {xs : List V} {n : Nat} (h : n ≤ xs.length) : cutV xs (some (n : Int)) none = xs.drop n := by
  unfold cutV
  rw [HT.sIx_none, HT.sIx_nat, show min n xs.length = n by omega]
  rw [List.take_of_length_le]
  rw [List.length_drop]
  omega
theorem RowsT.app {H : Hp} : ∀ {vs ws : List V} {rs ss : List (List Int)}, RowsT K H vs rs → RowsT K H ws ss → RowsT K H (vs ++ ws) (rs ++ ss)
  | _, _, _, _, .nil, s => s
  | _, _, _, _, .cons h r, s => .cons h (r.app s)
theorem RowsT.takeN {H : Hp} : ∀ {vs : List V} {rs : List (List Int)} (n : Nat), RowsT K H vs rs → RowsT K H (vs.take n) (rs.take n)
  | _, _, 0, _ => .nil
  | _, _, _ + 1, .nil => .nil
  | _, _, n + 1, .cons h r => .cons h (r.takeN n)
theorem RowsT.dropN {H : Hp} : ∀ {vs : List V} {rs : List (List Int)} (n : Nat), RowsT K H vs rs → RowsT K H (vs.drop n) (rs.drop n)
  | _, _, 0, r => r
  | _, _, _ + 1, .nil => .nil
  | _, _, n + 1, .cons _ r => r.dropN n
theorem set_eq {α : Type} : ∀ (l : List α) (n : Nat) (x : α), n < l.length → l.set n x = l.take n ++ [x] ++ l.drop (n + 1)
  | _ :: _, 0, _, _ => rfl
  | y :: l, n + 1, x, h => by
    show y :: l.set n x = y :: (l.take n ++ [x] ++ l.drop (n + 1))
    rw [set_eq l n x (by simpa using h)]
end
theorem ext_by {α : Type} (f : α → Int) : ∀ {l1 l2 : List α}, l1.Pairwise (fun a b => f a < f b) → l2.Pairwise (fun a b => f a < f b) → (∀ x, x ∈ l1 ↔ x ∈ l2) → l1 = l2
  | [], [], _, _, _ => rfl
  | [], y :: r, _, _, h => absurd ((h y).mpr List.mem_cons_self) (by simp)
  | x :: r, [], _, _, h => absurd ((h x).mp List.mem_cons_self) (by simp)
  | x :: r, y :: q, h1, h2, h => by
    have p1 := List.pairwise_cons.mp h1
    have p2 := List.pairwise_cons.mp h2
    have e : x = y := by
      rcases List.mem_cons.mp ((h x).mp List.mem_cons_self) with e | m
      · exact e
      · rcases List.mem_cons.mp ((h y).mpr List.mem_cons_self) with e | m2
        · exact e.symm
        · have a := p2.1 x m
          have b := p1.1 y m2
          omega
    subst e
    have t : r = q := ext_by f p1.2 p2.2 fun z => by
      constructor
      · intro hz
        rcases List.mem_cons.mp ((h z).mp (List.mem_cons_of_mem _ hz)) with e | m
        · have := p1.1 z hz
          rw [e] at this
          omega
        · exact m
      · intro hz
        rcases List.mem_cons.mp ((h z).mpr (List.mem_cons_of_mem _ hz)) with e | m
        · have := p2.1 z hz
          rw [e] at this
          omega
        · exact m
    rw [t]
theorem asc_ext {l1 l2 : List Int} (h1 : l1.Pairwise (· < ·)) (h2 : l2.Pairwise (· < ·)) (h : ∀ x, x ∈ l1 ↔ x ∈ l2) : l1 = l2 := ext_by id h1 h2 h
theorem good_set {rows : List (List Int)} {i : Nat} {r' : List Int} (G : Good rows) (h1 : r'.Pairwise (· < ·)) (h2 : ∀ x ∈ r', 0 ≤ x ∧ x < (rows.length : Int)) : Good (rows.set i r') := by
  refine ⟨by rw [List.length_set]; exact G.pos, fun r hr => ?_, fun r hr x hx => ?_⟩
  · rcases List.mem_or_eq_of_mem_set hr with h | h
    · exact G.asc r h
    · rw [h]; exact h1
  · rw [List.length_set]
    rcases List.mem_or_eq_of_mem_set hr with h | h
    · exact G.rng r h x hx
    · rw [h] at hx; exact h2 x hx
theorem set_same {rows : List (List Int)} {i : Nat} {r : List Int} (h : rows[i]? = some r) : rows.set i r = rows := by
  apply List.ext_getElem?
  intro j
  rw [List.getElem?_set]
  by_cases e : i = j
  · subst e
    rw [if_pos rfl, if_pos (List.getElem?_eq_some_iff.mp h).1, h]
  · rw [if_neg e]
theorem set_get {rows : List (List Int)} {i : Nat} {r' : List Int} (h : i < rows.length) : (rows.set i r')[i]? = some r' := by
  rw [List.getElem?_set, if_pos rfl, if_pos h]
theorem set_set' {rows : List (List Int)} {i : Nat} {r' r2 : List Int} : (rows.set i r').set i r2 = rows.set i r2 := by rw [List.set_set]
section
variable {K : PySem.W.Frag} {H : Hp}
theorem RowsT.keys : ∀ {vs : List V} {rs : List (List Int)}, RowsT K H vs rs → ∃ ks : List (Addr × List Int), vs = ks.map (fun p => V.ref p.1) ∧ rs = ks.map (·.2) ∧ ∀ p ∈ ks, SqT K H p.1 (p.2.map V.int)
  | _, _, .nil => ⟨[], rfl, rfl, fun _ h => (by cases h)⟩
  | _, _, .cons (a := a) (r := r) h t => by
    obtain ⟨ks, e1, e2, h3⟩ := t.keys
    refine ⟨(a, r) :: ks, by rw [e1]; rfl, by rw [e2]; rfl, fun p hp => ?_⟩
    rcases List.mem_cons.mp hp with q | q
    · rw [q]; exact h
    · exact h3 p q
theorem rows_keys : ∀ {ks : List (Addr × List Int)}, (∀ p ∈ ks, SqT K H p.1 (p.2.map V.int)) → RowsT K H (ks.map fun p => V.ref p.1) (ks.map (·.2))
  | [], _ => .nil
  | p :: ks, h => .cons (h p List.mem_cons_self) (rows_keys fun q hq => h q (List.mem_cons_of_mem _ hq))
end
theorem dp_LU {K : PySem.W.Frag} {H : Hp} {z : Addr} {vs : List V} {rs : List (List Int)} (r : RowsT K (upd H z (.lst vs)) vs rs) : Dp K (upd H z (.lst vs)) (.ref z) (.list (rs.map dI)) := dp_L upd_same r
end Fo

set_option maxRecDepth 100000
set_option maxHeartbeats 2000000
namespace Fo
open PySem PySem.Spec PyProof.Rows L2
/-- a set of the ints of a tuple; how many there are is left open but for the bound -/
def rSetI (K : PySem.W.Frag) (w : World) : List V → Hp → VK → Prop := fun xs H Q => ∃ (p : Addr) (ns : List Int), xs = [.ref p] ∧ SqT K H p (ns.map V.int) ∧ ns.length ≤ 1000 ∧ ∀ (a : Addr) (n : Nat), H a = none → n ≤ ns.length → Q (.ref a) (upd H a (SetO w a (fun j => decide (j ∈ ns)) n))
theorem ints_of : ∀ {ns : List Int} {us : List Value}, Vals (ns.map V.int) us → IntsAre us ns
  | [], [], _ => .nil
  | n :: ns, u :: us, .cons r t => by
    obtain ⟨k, rfl⟩ := r
    exact .cons n k (ints_of t)
theorem cr_setI {X : Cx} (hc : X.calm = true) : CallR X (.type "set") (rSetI X.K X.w) := by
  intro pins s σ H xs us Q I r h
  obtain ⟨p, ns, rfl, hS, hl, q⟩ := h
  cases r with
  | cons r0 r1 =>
    cases r1
    cases r0
    obtain ⟨its, rv, hT, hz⟩ := I.tuple hS
    refine call_set_tupI ns (I.ok.hd hc) hT (by simpa using ints_of rv) (by have : (1002 : Nat) < scanBound := by decide
                                                                            omega) fun h' tk c hR hcn hk => ?_
    refine ⟨.ref s.heap.objs.size, _, I.laid (a := s.heap.objs.size) (o := SetO X.w s.heap.objs.size (fun j => decide (j ∈ ns)) c) hk (Nat.le_refl _) ?_, rfl, q _ c (I.hok.fresh (Nat.le_refl _)) hcn⟩
    refine ⟨hR, ?_, fun h1 h2 a b => ?_⟩
    · obtain ⟨o, _, _, _, g, _⟩ := hR
      exact ⟨o, g⟩
    · obtain ⟨o, es, ep, t, g, r⟩ := a
      exact ⟨o, es, ep, t, b o g, r⟩
end Fo

set_option maxRecDepth 100000
set_option maxHeartbeats 2000000
/-! sorted of a set of ints, however many there are -/
namespace Fo
open PySem PySem.Spec PyProof.Rows L2
section
variable {P : Program} {w : World} {A : Around} {E : Value → Shared → Prop} {s : Shared} {a : Addr}
theorem sorted_setA {M : Int → Bool} {many : Nat} {Want : Value → Shared → Prop} (set : SetR w s.heap a M many) (calm : A.handled = none) (small : many ≤ 100000)
    (go : ∀ (s2 : Shared) (L : Addr) (vals : Array Value) (u : Nat) (ks : List Int), (∀ b o, s.heap.get? b = some o → s2.heap.get? b = some o) → s2.gens = s.gens → s2.os = s.os → s.heap.objs.size ≤ L →
      s2.heap.get? L = some (seqObj "list" vals u) → IntsAre vals.toList ks → ks.Pairwise (· < ·) → (∀ k, k ∈ ks ↔ M k = true) → ks.length = many → Want (.ref L) s2) :
    wpAny (model P w) A (call (.builtin "sorted") [.ref a]) Want E s := by
  obtain ⟨ob, ents, ep, tt, at1, ex1, dat1, raws, one1, mem1, bnd1, fil1, cnt1, rr1, ll1⟩ := set
  refine Calls.call_function_entry kind_sorted plain_sorted entry_sorted (args_sorted1 _) ?_
  unfold Builtin.«sorted»
  refine wpAny_bind (m := checkCount "sorted" 1 1 _) (wpAny_pure ?_)
  refine wpAny_bind (collect_set (A := A.in1) calm ⟨ob, at1, ex1.1, dat1⟩ fil1 bnd1 rr1 ll1 fun s3 items kept sz gens3 os3 perm => ?_)
  have count : items.length = many := Eq.trans perm.length_eq (by rw [List.length_map, Array.length_toList]; exact cnt1)
  have lim : items.length ≤ sizeLine := by rw [count]; exact small_le small
  have allInts := L2.ints_of items fun v hv => by
    obtain ⟨en, hen, q⟩ := List.mem_map.mp (perm.mem_iff.mp hv)
    obtain ⟨k, tk, h1, _⟩ := raws en hen
    exact ⟨k, tk, q.symm.trans h1⟩
  have keys : (items.map Builtin.Re.reRawOf).Perm (ents.toList.map keyOf) := by
    have q := perm.map Builtin.Re.reRawOf
    rw [List.map_map] at q
    exact q
  refine wpAny_bind (wpAny_newList ?_ lim)
  have new := Heap.get?_push_size s3.heap (o := seqObj "list" items.toArray 0) rfl
  refine wpAny_bind (wpAny_holding (wpAny_call_entry slot_list_sort ⟨_, new, rfl⟩ entry_list_sort (list_sort_treeAny new allInts lim fun vals ks are pm up => ⟨_, rfl, ?_⟩) (args_list_sort _)))
  obtain ⟨u, hu⟩ := sortedHeap_at (vs := items) (out := vals) new
  have all : ks.Perm (ents.toList.map keyOf) := pm.trans keys
  have less := L2.lt_of_le_nodup ks up (all.nodup_iff.mpr one1)
  refine wpAny_pure ⟨_, rfl, go _ s3.heap.objs.size vals u ks ?_ gens3 os3 sz hu are less (fun k => by rw [mem1 k, all.mem_iff]) ?_⟩
  · intro b o e
    have old := kept b o e
    have lt := Heap.lt_size old
    have ne : b ≠ s3.heap.objs.size := Nat.ne_of_lt lt
    exact (sortedHeap_old ne (by rw [size_push']; exact Nat.lt_succ_of_lt lt)).trans (Heap.get?_push_of_some _ old)
  · exact all.length_eq.trans (by rw [List.length_map, Array.length_toList]; exact cnt1)
end
def rSortSetA (w : World) : List V → Hp → VK → Prop := fun xs H Q => ∃ (a : Addr) (M : Int → Bool) (many : Nat), xs = [.ref a] ∧ H a = some (SetO w a M many) ∧ many ≤ 100000 ∧
  ∀ (ks : List Int) (L : Addr), ks.Pairwise (· < ·) → (∀ k : Int, k ∈ ks ↔ M k = true) → ks.length = many → H L = none → Q (.ref L) (upd H L (.lst (ks.map V.int)))
theorem cr_sortSetA {X : Cx} (calm : X.calm = true) : CallR X (.builtin "sorted") (rSortSetA X.w) := by
  intro pins s σ H xs us Q I r h
  obtain ⟨a, M, many, rfl, at1, small, q⟩ := h
  have R := setO_get I at1
  rw [Vals.ref1 r]
  refine sorted_setA R (I.ok.hd calm) small fun s2 L vals u ks kept gens2 os2 sz at2 are up mem len => ?_
  have fit : (ks.map V.int).length ≤ sizeLine := by rw [List.length_map, len]; exact small_le small
  have free : H L = none := I.hok.fresh sz
  have J : Inv X pins σ (upd H L (.lst (ks.map V.int))) { s with heap := s2.heap, gens := s2.gens, drawn := s2.drawn, toks := s2.toks } :=
    I.call (ch := []) (Un.laid kept sz free) (I.hok.laid kept sz ⟨fit, vals.toList, u, vals_of_ints are, at2⟩) (by rw [gens2]; exact I.bare) (fun _ z => nomatch z)
  have same : s2 = { s with heap := s2.heap, gens := s2.gens, drawn := s2.drawn, toks := s2.toks } := by
    cases s2
    cases s
    cases os2
    rfl
  rw [same]
  exact ⟨.ref L, _, J, rfl, q ks L up mem len free⟩
end Fo

set_option maxRecDepth 100000
set_option maxHeartbeats 4000000
/-! t[::-1] of a tuple: always a new one. -/
namespace Fo
open PySem PySem.Spec PyProof.Rows HT
section
variable {prog : Program} {w : World} {A : Around} {E : Value → Shared → Prop} {s : Shared}
theorem adjust_back (n : Nat) : Builtin.Slice.sliceAdjust none none (-1) (n : Int) = ((n : Int) - 1, -1) := by
  unfold Builtin.Slice.sliceAdjust
  have h1 : ((-1 : Int) < 0) := by omega
  simp only [h1, if_true]
theorem places_back (n : Nat) : Builtin.Slice.slicePlaces ((n : Int) - 1) (-1) (-1) = n := by
  unfold Builtin.Slice.slicePlaces
  have h1 : ¬ ((-1 : Int) > 0) := by omega
  have h2 : (- (-1) : Int) = 1 := by omega
  simp only [h1, if_false, h2, Int.ediv_one]
  split <;> omega
theorem applied_back {sl : Addr} {vl vu vs : Value} {n : Nat} {Q : Int × Int × Nat → Shared → Prop} (hs : s.heap.IsSliceOf sl vl vu vs) (pl : IsPart vl none) (pu : IsPart vu none) (ps : IsPart vs (some (-1)))
    (h : Q ((n : Int) - 1, -1, n) s) : wpAny (model prog w) A (Builtin.Slice.sliceApplied (.ref sl) (pure (n : Int))) Q E s := by
  obtain ⟨os, hos, hcs, hds⟩ := id hs
  unfold Builtin.Slice.sliceApplied Builtin.Slice.sliceFields
  refine wpAny_bind (wpAny_bind (wpAny_field hos hds (x := vl) rfl (wpAny_bind (wpAny_field hos hds (x := vu) rfl (wpAny_bind (wpAny_field hos hds (x := vs) rfl (wpAny_pure ?_)))))))
  refine wpAny_bind (slicePart_ ps ?_)
  show wpAny _ _ (if ((-1 : Int) == 0) = true then _ else _) _ _ s
  rw [if_neg (by decide)]
  refine wpAny_bind (slicePart_ pl (wpAny_bind (slicePart_ pu (wpAny_bind (wpAny_pure ?_)))))
  show wpAny _ _ (match Builtin.Slice.sliceAdjust none none (-1) (n : Int) with | (lo, hi) => pure (lo, (-1 : Int), Builtin.Slice.slicePlaces lo hi (-1))) _ _ s
  rw [adjust_back n]
  show wpAny _ _ (pure ((n : Int) - 1, (-1 : Int), Builtin.Slice.slicePlaces ((n : Int) - 1) (-1) (-1))) _ _ s
  rw [places_back]
  exact wpAny_pure h
theorem pick_back (xs : Array Value) : ((List.range xs.size).filterMap fun (m : Nat) => xs[(((xs.size : Int) - 1) + (m : Int) * (-1)).toNat]?).toArray = xs.toList.reverse.toArray := by
  have e : ((List.range xs.size).filterMap fun (m : Nat) => xs[(((xs.size : Int) - 1) + (m : Int) * (-1)).toNat]?) = ((List.range xs.size).map fun k => xs.size - 1 - k).filterMap (xs[·]?) := by
    rw [List.filterMap_map]
    have aux : ∀ (l : List Nat) (f g : Nat → Option Value), (∀ x ∈ l, f x = g x) → l.filterMap f = l.filterMap g := by
      intro l f g hfg
      induction l with
      | nil => rfl
      | cons x l ih =>
        rw [List.filterMap_cons, List.filterMap_cons, hfg x List.mem_cons_self, ih fun y hy => hfg y (List.mem_cons_of_mem _ hy)]
    refine aux _ _ _ fun m hm => ?_
    have hm := List.mem_range.mp hm
    have e1 : (((xs.size : Int) - 1) + (m : Int) * (-1)).toNat = xs.size - 1 - m := by omega
    show xs[(((xs.size : Int) - 1) + (m : Int) * (-1)).toNat]? = xs[xs.size - 1 - m]?
    rw [e1]
  rw [e, PySem.W.krv_range, List.filterMap_reverse, PySem.W.krv_all]
theorem getItem_tuple_back {t sl : Addr} {items : Array Value} {vl vu vs : Value} {Q : Value → Shared → Prop} (ht : IsTup s.heap t items) (hs : s.heap.IsSliceOf sl vl vu vs) (pl : IsPart vl none) (pu : IsPart vu none) (ps : IsPart vs (some (-1)))
    (h : Q (.ref s.heap.objs.size) { s with heap := s.heap.push { cls := .type "tuple", data := .seq items.toList.reverse.toArray } })
    (hsz : items.size ≤ sizeLine) : wpAny (model prog w) A (getItem (.ref t) (.ref sl)) Q E s := by
  have htake : sizeOk (.seq items.toList.reverse.toArray) := by
    show items.toList.reverse.toArray.size ≤ sizeLine
    rw [List.size_toArray, List.length_reverse, Array.length_toList]
    exact hsz
  obtain ⟨os, hos, hcs, hds⟩ := id hs
  have hTs : s.TypeIs (.ref sl) "slice" := ⟨os, hos, hcs⟩
  unfold getItem
  try with_reducible refine wpAny_holding ?_
  first | refine wpAny_bind (wpAny_pure ?_) | skip
  refine wpAny_bind (wpAny_sequenceKey ht.typeIs (by decide) ?_)
  refine wpAny_bind (wpAny_callSpecial?_slot (name := Str.ofString "__getitem__") ht.typeIs PyProof.Rows.slot_tuple_getitem
    (wpAny_call_entry PyProof.Rows.slot_tuple_getitem ht.typeIs entry_tuple_getitem ?_ (args_tuple_getitem _ _)))
  show wpAny _ _ (Builtin.Tuple.tupleItemsOf (.ref t) >>= _) _ _ s
  refine wpAny_bind (tupleItemsOf_ ht ?_)
  refine wpAny_bind (wpAny_typeOf hTs ?_)
  rw [if_pos (by decide)]
  refine wpAny_bind (applied_back hs pl pu ps ?_)
  have hno : ¬ ((((items.size : Int) - 1) == 0 && (-1 : Int) == 1 && items.size == items.size) = true) := by
    intro q
    rw [Bool.and_eq_true, Bool.and_eq_true] at q
    exact absurd q.1.2 (by decide)
  show wpAny _ _ (if (((items.size : Int) - 1) == 0 && (-1 : Int) == 1 && items.size == items.size) = true then _ else _) _ _ s
  rw [if_neg hno, pick_back]
  first
    | exact wpAny_bind (m := Builtin.Tuple.tupleExact _) (wpAny_newObj_type (wpAny_pure ⟨_, rfl, wpAny_pure h⟩) htake)
    | exact wpAny_bind (m := Builtin.Tuple.tupleExact _) (wpAny_newObj_type (wpAny_bind (wpAny_pure (wpAny_pure ⟨_, rfl, wpAny_pure h⟩))) htake)
    | exact wpAny_bind (wpAny_bind (m := Builtin.Tuple.tupleExact _) (wpAny_newObj_type (wpAny_pure (wpAny_pure ⟨_, rfl, wpAny_pure h⟩)) htake))
    | exact wpAny_bind (wpAny_bind (m := Builtin.Tuple.tupleExact _) (wpAny_newObj_type (wpAny_pure ⟨_, rfl, wpAny_pure h⟩) htake))
end
end Fo
namespace Fo
open PySem PySem.Spec PyProof.Rows L2
def tRevA (K : PySem.W.Frag) (te : TE) : TE := fun σ H Q => te σ H fun x H1 => ∃ a xs, x = .ref a ∧ SqT K H1 a xs ∧ ∀ p, H1 p = none → Q (.ref p) (upd H1 p (.tup xs.reverse))
theorem pe_revA {X : Cx} {e : Expr} {te : TE} {k : Nat} {p1 p2 p3 pos : Pos} (he : PE X e te) : PE X (.Subscript e (.Slice none none (some (.UnaryOp .USub (.Constant (.int 1) k p1) p2)) p3) pos) (tRevA X.K te) := by
  refine ⟨fun pins s σ H Q I h => ?_⟩
  refine Subscript_ (thn (he.run pins s σ H _ I h) fun v s1 ⟨x, H1, I1, r1, q1⟩ => ?_)
  obtain ⟨a, xs, ex, hx, q⟩ := q1
  subst ex
  cases r1
  have hst : PO X (some (.UnaryOp .USub (.Constant (.int 1) k p1) p2)) (tPart (tUn (rU fun i => .int (-i)) (tC (.int 1)))) := po_some (pe_un un_neg pe_int)
  refine wpAny_Slice (thn (po_none.run pins s1 σ H1 (fun o H2 => o = none ∧ H2 = H1) I1 ⟨rfl, rfl⟩) fun vl s2 ⟨l, H2, I2, pl, el, e2⟩ => ?_)
  subst el e2
  refine thn (po_none.run pins s2 σ H2 (fun o H3 => o = none ∧ H3 = H2) I2 ⟨rfl, rfl⟩) fun vu s3 ⟨u, H3, I3, pu, eu, e3⟩ => ?_
  subst eu e3
  refine thn (hst.run pins s3 σ H3 (fun o H4 => o = some (-1) ∧ H4 = H3) I3 ⟨1, rfl, -1, rfl, rfl, rfl⟩) fun vs s4 ⟨o, H4, I4, ps, eo, e4⟩ => ?_
  subst eo e4
  have I5 : Inv X pins σ H4 { s4 with heap := s4.heap.push { cls := .type "slice", data := .fields #[vl, vu, vs] } } := I4.kept (t' := s4.toks) fun b ob q => Heap.get?_push_of_some _ q
  obtain ⟨its, r, ht, hz⟩ := I5.tuple hx
  have hlen : its.toArray.size = xs.length := by rw [List.size_toArray]; exact r.length.symm
  show wpAny (model X.prog X.w) X.A (subscriptTail e (.Slice none none (some (.UnaryOp .USub (.Constant (.int 1) k p1) p2)) p3) (.ref a) (.ref s4.heap.objs.size)) (EP X pins σ Q) X.xe { s4 with heap := s4.heap.push { cls := .type "slice", data := .fields #[vl, vu, vs] } }
  refine tail_any (ops := [.ref a, .ref s4.heap.objs.size]) ht.typeIs PyProof.Rows.slot_tuple_getitem.lookup ?_ (by with_unfolding_all rfl)
  refine getItem_tuple_back ht (Heap.IsSliceOf.new _ vl vu vs) pl pu ps ?_ (by rw [hlen]; exact hz)
  refine ⟨.ref _, _, I5.laid (t' := s4.toks) (o := .tup xs.reverse) (fun b ob q => Heap.get?_push_of_some _ q) (Nat.le_refl _) ?_, rfl, q _ (I5.hok.fresh (Nat.le_refl _))⟩
  exact ⟨by rw [List.length_reverse]; exact hz, _, r.reverse, IsTup.new _ _⟩
end Fo

set_option maxRecDepth 100000
set_option maxHeartbeats 4000000
/-! Things that are nested: to a depth, none longer than a bound, whatever the tape does. -/
namespace Fo
open PySem PySem.Spec PyProof.Rows L2
section
variable {K : PySem.W.Frag} {C : Addr} {t l : Addr} {m : Nat}
def Ng (K : PySem.W.Frag) (C t : Addr) (m : Nat) : Nat → Hp → V → Prop
  | 0, H, x => ∀ H', Gr t H H' → Th K C H' x
  | n + 1, H, x => (∀ H', Gr t H H' → ∃ ty, TyX K H' x ty ∧ (∀ c, ty = .ref c → c = C) ∧ PySem.W.kitOne K ty (.type "tuple") = some false) ∨ ∃ a xs, x = .ref a ∧ SqT K H a xs ∧ xs.length ≤ m ∧ ∀ y ∈ xs, Ng K C t m n H y
theorem Ng.gr : ∀ {n : Nat} {H H' : Hp} {x : V}, Gr t H H' → Tape H t l → Ng K C t m n H x → Ng K C t m n H' x
  | 0, _, _, _, g, _, h => fun H3 g3 => h H3 (g.trans g3)
  | n + 1, _, _, _, g, T, h => by
    rcases h with h | ⟨a, xs, e, hs, hl, hy⟩
    · exact .inl fun H3 g3 => h H3 (g.trans g3)
    · exact .inr ⟨a, xs, e, gr_T g T hs, hl, fun y hy' => (hy y hy').gr g T⟩
theorem Ng.le {m' : Nat} (hm : m ≤ m') : ∀ {n : Nat} {H : Hp} {x : V}, Ng K C t m n H x → Ng K C t m' n H x
  | 0, _, _, h => h
  | n + 1, _, _, h => by
    rcases h with h | ⟨a, xs, e, hs, hl, hy⟩
    · exact .inl h
    · exact .inr ⟨a, xs, e, hs, Nat.le_trans hl hm, fun y hy' => (hy y hy').le hm⟩
theorem th_sqT {H : Hp} {a : Addr} {xs : List V} (h : SqT K H a xs) : Th K C H (.ref a) := ⟨_, tyX_sqT h, fun c e => by cases e⟩
theorem Ng.down : ∀ {n : Nat} {H : Hp} {x : V}, Tape H t l → Ng K C t m (n + 1) H x → Ng K C t m n H x
  | 0, _, _, T, h => by
    rcases h with h | ⟨a, xs, e, hs, hl, hy⟩
    · exact fun H3 g3 => let ⟨ty, h1, h2, _⟩ := h H3 g3; ⟨ty, h1, h2⟩
    · intro H3 g3
      rw [e]
      exact th_sqT (gr_T g3 T hs)
  | n + 1, _, _, T, h => by
    rcases h with h | ⟨a, xs, e, hs, hl, hy⟩
    · exact .inl h
    · exact .inr ⟨a, xs, e, hs, hl, fun y hy' => (hy y hy').down T⟩
theorem Ng.th {n : Nat} {H : Hp} {x : V} (T : Tape H t l) (h : Ng K C t m n H x) : Th K C H x := by
  induction n with
  | zero => exact h H (Gr.refl H)
  | succ n ih => exact ih (h.down T)
theorem Ng.tup {n : Nat} {H : Hp} {a : Addr} {xs : List V} (T : Tape H t l) (hs : SqT K H a xs) (hl : xs.length ≤ m) (h : ∀ y ∈ xs, Ng K C t m n H y) : Ng K C t m (n + 1) H (.ref a) := .inr ⟨a, xs, rfl, hs, hl, h⟩
theorem Ng.no {H : Hp} {x : V} {s : String} (ty : ∀ H', Gr t H H' → TyX K H' x (.type s)) (hk : kitB s "tuple" = some false) : ∀ n, Ng K C t m n H x
  | 0 => fun H' g => ⟨_, ty H' g, fun c e => by cases e⟩
  | n + 1 => .inl fun H' g => ⟨_, ty H' g, fun c e => (by cases e), kit_ty hk⟩
theorem Ng.int {n : Nat} {H : Hp} {i : Int} : Ng K C t m n H (.int i) := Ng.no (fun _ _ => .base (.int i)) (by decide +kernel) n
theorem Ng.bl {n : Nat} {H : Hp} {i : Bool} : Ng K C t m n H (.bl i) := Ng.no (fun _ _ => .base (.bl i)) (by decide +kernel) n
theorem Ng.str {n : Nat} {H : Hp} {i : Str} : Ng K C t m n H (.str i) := Ng.no (fun _ _ => .base (.str i)) (by decide +kernel) n
theorem Ng.non {n : Nat} {H : Hp} : Ng K C t m n H .non := Ng.no (fun _ _ => .base .non) (by decide +kernel) n
theorem Ng.lst {n : Nat} {H : Hp} {a : Addr} {xs : List V} (h : H a = some (.lst xs)) (ne : a ≠ t) : Ng K C t m n H (.ref a) := Ng.no (fun H' g => .base (.lst (g _ _ ne h))) (by decide +kernel) n
theorem Ng.dK {n : Nat} {H : Hp} {a : Addr} (h : H a = some (.dK [])) (ne : a ≠ t) : Ng K C t m n H (.ref a) := Ng.no (fun H' g => .base (.dK (g _ _ ne h))) (by decide +kernel) n
theorem Ng.table {n : Nat} {H : Hp} {x : V} {rows : List (List Int)} (tc : TC K C) (T : Tape H t l) (h : TableAt K C H x rows) : Ng K C t m n H x := by
  cases n with
  | zero => exact fun H' g => ⟨_, (h.gr g T).tyx tc, fun c e => by cases e; rfl⟩
  | succ n => exact .inl fun H' g => ⟨_, (h.gr g T).tyx tc, fun c e => (by cases e; rfl), tc.kT⟩
theorem Ng.row {n : Nat} {H : Hp} {a : Addr} {ns : List Int} (T : Tape H t l) (h : SqT K H a (ns.map V.int)) (hl : ns.length ≤ m) : Ng K C t m n H (.ref a) := by
  cases n with
  | zero => exact fun H' g => th_sqT (gr_T g T h)
  | succ n => exact .inr ⟨a, _, rfl, h, by rw [List.length_map]; exact hl, fun y hy => by
      obtain ⟨i, _, rfl⟩ := List.mem_map.mp hy
      exact .int⟩
/-- tuples within tuples, one or none in each -/
def Tn (K : PySem.W.Frag) : Nat → Hp → V → Prop
  | 0, H, x => ∃ a xs, x = .ref a ∧ SqT K H a xs
  | n + 1, H, x => ∃ a xs, x = .ref a ∧ SqT K H a xs ∧ xs.length ≤ 1 ∧ ∀ y ∈ xs, Tn K n H y
theorem Tn.same : ∀ {n : Nat} {H H' : Hp} {x : V}, Same H H' → Tn K n H x → Tn K n H' x
  | 0, _, _, _, s, ⟨a, xs, e, h⟩ => ⟨a, xs, e, sqT_same s h⟩
  | n + 1, _, _, _, s, ⟨a, xs, e, h, hl, hy⟩ => ⟨a, xs, e, sqT_same s h, hl, fun y q => (hy y q).same s⟩
theorem Tn.ng : ∀ {n : Nat} {H : Hp} {x : V}, Tape H t l → 1 ≤ m → Tn K n H x → Ng K C t m n H x
  | 0, _, _, T, _, ⟨a, xs, e, h⟩ => fun H' g => by
    rw [e]
    exact th_sqT (gr_T g T h)
  | n + 1, _, _, T, h1, ⟨a, xs, e, h, hl, hy⟩ => .inr ⟨a, xs, e, h, Nat.le_trans hl h1, fun y q => (hy y q).ng T h1⟩
theorem cut_from' {xs : List V} {n : Nat} : cutV xs (some (n : Int)) none = xs.drop n := by
  by_cases h : n ≤ xs.length
  · exact cut_from h
  · unfold cutV
    rw [HT.sIx_none, HT.sIx_nat, show min n xs.length = xs.length by omega, List.drop_of_length_le (Nat.le_refl _), List.drop_of_length_le (by omega), List.take_nil]
/-- xs[:i] + (y,) + xs[j:] -/
theorem cat3 {σ : L2.St} {H : Hp} {Q : VK} {a : Addr} {xs : List V} {v u i j : Nat} {Y D : TE} {Pr : V → Hp → Prop} (e1 : σ[v]? = some (some (.ref a))) (e2 : σ[u]? = some (some (.int (i : Nat)))) (T : Tape H t l) (hs : SqT K H a xs) (hl : xs.length ≤ 1000) (hi : i ≤ xs.length)
    (hD : ∀ (H2 : Hp) (Q' : VK), Q' (.int (j : Nat)) H2 → D σ H2 Q')
    (hY : ∀ (H1 : Hp) (Q' : VK), Same H H1 → (∀ y H2, Gr t H1 H2 → Tape H2 t l → Pr y H2 → Q' y H2) → Y σ H1 Q')
    (k : ∀ y H2 p H3, Gr t H H2 → Tape H2 t l → Pr y H2 → Same H2 H3 → SqT K H3 p (xs.take i ++ [y] ++ xs.drop j) → Q (.ref p) H3) :
    tOp (rCatA K) (tOp (rCatA K) (tSl (rSlA K) (tVar v) tNoPart (tPart (tVar u))) (tTup (tCons Y tNil))) (tSl (rSlA K) (tVar v) (tPart D) tNoPart) σ H Q := by
  refine ⟨_, e1, _, e2, _, rfl, slA hs fun d H1 s1 hd => ?_⟩
  rw [cut_to hi] at hd
  refine hY H1 _ s1 fun y H2 g2 T2 hy => ⟨by show 1 ≤ sizeLine; decide, fun o ho => ?_⟩
  have hd2 := gr_T g2 (T.keep s1) hd
  have so := same_new (o := .tup [y]) ho
  refine catA (sqT_same so hd2) (SqT.of upd_same) (by rw [List.length_take]; show _ + 1 ≤ 100000; omega) fun p H4 s4 hp => ?_
  refine ⟨_, e1, hD H4 _ ⟨_, rfl, ?_⟩⟩
  delta tNoPart
  have s24 := so.trans s4
  refine slA (sqT_same s24 (gr_T g2 (T.keep s1) (sqT_same s1 hs))) fun q H5 s5 hq => ?_
  rw [cut_from'] at hq
  refine catA (sqT_same s5 hp) hq (by rw [List.length_append, List.length_take, List.length_drop]; show _ + 1 + _ ≤ 100000; omega) fun r H6 s6 hr => ?_
  exact k y H2 r H6 ((Gr.of s1).trans g2) T2 hy ((s24.trans s5).trans s6) hr
theorem mem_cat3 {α : Type} {xs : List α} {y z : α} {i j : Nat} (h : z ∈ xs.take i ++ [y] ++ xs.drop j) : z ∈ xs ∨ z = y := by
  rcases List.mem_append.mp h with h | h
  · rcases List.mem_append.mp h with h | h
    · exact .inl (List.mem_of_mem_take h)
    · exact .inr (List.mem_singleton.mp h)
  · exact .inl (List.mem_of_mem_drop h)
theorem len_cat3 {α : Type} {xs : List α} {y : α} {i j m : Nat} (h : xs.length ≤ m) (hi : i ≤ j) : (xs.take i ++ [y] ++ xs.drop j).length ≤ m + 1 := by
  rw [List.length_append, List.length_append, List.length_take, List.length_drop]
  show _ + 1 + _ ≤ m + 1
  omega
end
end Fo

set_option maxRecDepth 100000
set_option maxHeartbeats 4000000
namespace Fo
open PySem PySem.Spec PyProof.Rows L2
abbrev s_law_is_number : Stmt := top 44
abbrev n_law_is_number : List Str := ["thing", "many"]
theorem sc_law_is_number : FnScope n_law_is_number ["thing", "many"] (defScope s_law_is_number) := ⟨rfl, rfl, rfl, by decide +kernel, rfl, by decide +kernel, by decide +kernel⟩
abbrev s_law_deep : Stmt := top 47
abbrev n_law_deep : List Str := ["deep", "k"]
theorem sc_law_deep : FnScope n_law_deep [] (defScope s_law_deep) := ⟨rfl, rfl, rfl, by decide +kernel, rfl, by decide +kernel, by decide +kernel⟩
abbrev s_law_is_lot : Stmt := top 45
abbrev n_law_is_lot : List Str := ["thing", "many", "one"]
theorem sc_law_is_lot : FnScope n_law_is_lot ["thing", "many"] (defScope s_law_is_lot) := ⟨rfl, rfl, rfl, by decide +kernel, rfl, by decide +kernel, by decide +kernel⟩
section
variable {P : Program} {w : World} {K : PySem.W.Frag} {mg : Str → Option Value} {base : Heap} {C : Addr}
def spLawNum (K : PySem.W.Frag) (C : Addr) : Sp := fun vs H Q _ => ∃ (b : Int) (x : V), vs = [x, .int b] ∧ Th K C H x ∧ Q (.bl (numV b x)) H
theorem ok_lawnum (A : At K mg "_law_is_number" s_law_is_number ["thing", "many"]) (T : Tx mg) (tc : TC K C) : Dfn P w K mg base "_law_is_number" ["thing", "many"] 1 (spLawNum K C) := by
  refine A.ok sc_law_is_number (fun vs H Q E h => ?_) (fun f cdv A outer s H vs Q E hr h => ?_)
  · obtain ⟨b, x, rfl, _⟩ := h
    rfl
  · obtain ⟨b, x, rfl, hx, k⟩ := h
    obtain ⟨t, b1, b2, ty, h1, h2, h3⟩ := th_kit tc hx
    refine ⟨_, (pss_one (ps_ret (pe_and (pe_callB call_isi (by rfl) T.isinstance (by decide +kernel) (pa_cons (pv 0) (pa_cons (pe_bltn (v := V.ty "int") (by rfl) T.int (by decide +kernel) rfl) pa_nil))) (pe_and (pe_not (pe_callB call_isi (by rfl) T.isinstance (by decide +kernel) (pa_cons (pv 0) (pa_cons (pe_bltn (v := V.ty "bool") (by rfl) T.bool (by decide +kernel) rfl) pa_nil)))) (pe_one (pe_chain op_le op_lt pe_int (pv 0) (pv 1))))))), ?_⟩
    refine ⟨_, rfl, x, .ty "int", t, .type "int", b1, rfl, .ty "int", ty, h1, b1, rfl, ?_⟩
    have no : isIntV x = false → numV b x = false := fun q => by
      cases x <;> first | rfl | (simp [isIntV] at q)
    cases b1 with
    | false =>
      rw [Bool.false_and] at h3
      rw [no h3.symm] at k
      exact k
    | true =>
      refine ⟨_, rfl, x, .ty "bool", t, .type "bool", b2, rfl, .ty "bool", ty, h2, b2, rfl, ?_⟩
      rw [Bool.true_and] at h3
      cases b2 with
      | true =>
        rw [no h3.symm] at k
        exact ⟨_, rfl, k⟩
      | false =>
        obtain ⟨i, rfl⟩ : ∃ i, x = .int i := by
          cases x <;> first | exact ⟨_, rfl⟩ | (simp [isIntV] at h3)
        refine ⟨_, rfl, _, rfl, _, _, rfl, rfl, _, rfl, ?_⟩
        by_cases c : 0 ≤ i
        · rw [decide_eq_true c]
          refine ⟨_, rfl, _, _, rfl, rfl, ?_⟩
          have e : numV b (.int i) = decide (i < b) := by
            show (decide (0 ≤ i) && decide (i < b)) = _
            rw [decide_eq_true c, Bool.true_and]
          rw [e] at k
          exact k
        · rw [decide_eq_false c]
          have e : numV b (.int i) = false := by
            show (decide (0 ≤ i) && decide (i < b)) = _
            rw [decide_eq_false c, Bool.false_and]
          rw [e] at k
          exact k
def spDeep (K : PySem.W.Frag) (C : Addr) : Sp := fun vs H Q _ => vs = [] ∧ ∀ (x : V) (H' : Hp), Same H H' → (∀ n, Tn K n H' x) → Q x H'
theorem ok_lawdeep (A : At K mg "_law_deep" s_law_deep []) (T : Tx mg) : Dfn P w K mg base "_law_deep" [] 1 (spDeep K C) := by
  refine A.ok sc_law_deep (fun vs H Q E h => ?_) (fun f cdv A outer s H vs Q E hr h => ?_)
  · obtain ⟨rfl, _⟩ := h
    rfl
  · obtain ⟨rfl, k⟩ := h
    refine ⟨_, (pss_cons (ps_set (i := 0) sc_law_deep.nd rfl (Or.inl rfl) (pe_tup pa_nil))
      (pss_cons (ps_for PassesOwn.never rfl (pi_range1 rfl T.range (pa_cons pe_int pa_nil)) (pg_name (i := 1) sc_law_deep.nd rfl (Or.inl rfl))
      (pss_one (ps_set (i := 0) sc_law_deep.nd rfl (Or.inl rfl) (pe_tup (pa_cons (pv 0) pa_nil)))))
      (pss_one (ps_ret (pv 0))))), ?_⟩
    refine ⟨by show 0 ≤ sizeLine; decide, fun a0 ha0 => ?_⟩
    refine ⟨_, rfl, by decide, by decide, for_range (lo := 0) (n := 36) (fun i σ' H' => ∃ (x : V) (x1 : Option V), σ' = [some x, x1] ∧ Same H H' ∧ ∀ n, Tn K n H' x) ⟨.ref a0, _, rfl, same_new ha0, fun n => ?_⟩ ?_ ?_⟩
    · cases n with
      | zero => exact ⟨a0, [], rfl, SqT.of upd_same⟩
      | succ n => exact ⟨a0, [], rfl, SqT.of upd_same, by decide, fun _ h => (by cases h)⟩
    · rintro i σ' H1 hi ⟨x, x1, rfl, s1, hx⟩
      refine ⟨_, rfl, by show 1 ≤ sizeLine; decide, fun c hc => ?_⟩
      refine ⟨.ref c, _, rfl, s1.trans (same_new hc), fun n => ?_⟩
      cases n with
      | zero => exact ⟨c, [x], rfl, SqT.of upd_same⟩
      | succ n => exact ⟨c, [x], rfl, SqT.of upd_same, Nat.le_refl 1, fun y h => by rw [List.mem_singleton.mp h]; exact (hx n).same (same_new hc)⟩
    · rintro σ' H1 ⟨x, x1, rfl, s1, hx⟩
      exact ⟨_, rfl, k x H1 s1 hx⟩
theorem eqv_LI (a b : List Int) : PyData.eqv (.list (a.map PyData.int)) (.list (b.map PyData.int)) = decide (a = b) := by
  rw [PyData.eqv]
  exact PySem.W.ked_eqvAll a b
theorem sh_LI (ns : List Int) : SeqAt.shaped (.list (ns.map PyData.int)) = true := sh_I ns
theorem nums_ints {b : Int} : ∀ {xs : List V}, xs.all (numV b) = true → ∃ ns : List Int, xs = ns.map V.int ∧ ∀ x ∈ ns, 0 ≤ x ∧ x < b
  | [], _ => ⟨[], rfl, fun _ h => (by cases h)⟩
  | x :: xs, h => by
    rw [List.all_cons, Bool.and_eq_true] at h
    obtain ⟨ns, e, hn⟩ := nums_ints h.2
    cases x with
    | int i =>
      have h1 : (decide (0 ≤ i) && decide (i < b)) = true := h.1
      rw [Bool.and_eq_true] at h1
      refine ⟨i :: ns, by rw [e]; rfl, fun z hz => ?_⟩
      rcases List.mem_cons.mp hz with q | q
      · rw [q]; exact ⟨of_decide_eq_true h1.1, of_decide_eq_true h1.2⟩
      · exact hn z q
    | _ => exact absurd h.1 (by simp [numV])
theorem asc_of_V {b : Int} : ∀ {ns : List Int}, ascV b (ns.map V.int) = true → ns.Pairwise (· < ·)
  | [], _ => .nil
  | [x], _ => List.pairwise_singleton _ _
  | x :: y :: r, h => by
    have h' : (numV b (.int x) && decide (x < y) && ascV b ((y :: r).map V.int)) = true := h
    rw [Bool.and_eq_true, Bool.and_eq_true] at h'
    have p := asc_of_V h'.2
    have xy := of_decide_eq_true h'.1.2
    refine List.pairwise_cons.mpr ⟨fun z hz => ?_, p⟩
    rcases List.mem_cons.mp hz with q | q
    · rw [q]; exact xy
    · have := (List.pairwise_cons.mp p).1 z q
      omega
def spLawLot (K : PySem.W.Frag) (C : Addr) : Sp := fun vs H Q _ => ∃ (b : Int) (x : V) (o : Option (List V)), vs = [x, .int b] ∧ Tg K C H x o ∧ (∀ xs, o = some xs → xs.length ≤ 900) ∧ ∀ H', Same H H' → Q (.bl (ascOf b o)) H'
theorem ok_lawlot (A : At K mg "_law_is_lot" s_law_is_lot ["thing", "many"]) (T : Tx mg) (G_law_is_number : Dfn P w K mg base "_law_is_number" ["thing", "many"] 1 (spLawNum K C)) : Dfn P w K mg base "_law_is_lot" ["thing", "many"] 2 (spLawLot K C) := by
  refine A.ok sc_law_is_lot (fun vs H Q E h => ?_) (fun f cdv A outer s H vs Q E hr h => ?_)
  · obtain ⟨b, x, o, rfl, _⟩ := h
    rfl
  · obtain ⟨b, x, o, rfl, hx, hl, k⟩ := h
    refine ⟨_, (pss_cons (ps_if (PW.pt (pw_or (pt_not (pt_val (pe_callB call_isi (by rfl) T.isinstance (by decide +kernel) (pa_cons (pv 0) (pa_cons (pe_bltn (v := V.ty "tuple") (by rfl) T.tuple (by decide +kernel) rfl) pa_nil))))) (pw_or1 (pt_not (pt_val (pe_callB (cr_all rfl) (by rfl) T.all (by decide +kernel) (pa_cons (pe_lc (own := [("one", 2)]) (g := (gName 2)) (tt := tYes) (te := (tCall (spLawNum K C) [] E0 (tCons (tVar 2) (tCons (tVar 1) tNil)))) (by rfl) sc_law_is_lot.nd (pi_tup (pv 0)) (blkOk_by (own := [("one", 2)]) (N := n_law_is_lot) (sc := (defScope s_law_is_lot)) (by decide +kernel)) (fun _ _ _ _ _ => (pg_name (i := 2) sc_law_is_lot.nd rfl (Or.inl rfl))) (fun _ _ _ _ _ => pts_nil) (fun _ _ _ _ _ => (pe_d G_law_is_number (hr.mono (by decide)) (pa_cons (pv 2) (pa_cons (pv 1) pa_nil))))) pa_nil))))))) (pss_one (ps_ret pe_bl)) pss_nil)
      (pss_one (ps_ret (pe_cmpR (op_eqD hr.units) (pe_callTy c_list (by rfl) T.list (by decide +kernel) (pa_cons (pv 0) pa_nil)) (pe_callB (cr_sortSetA rfl) (by rfl) T.sorted (by decide +kernel) (pa_cons (pe_callTy (cr_setI rfl) (by rfl) T.set (by decide +kernel) (pa_cons (pv 0) pa_nil)) pa_nil)) (nomark _))))), ?_⟩
    cases hx with
    | no ty hk =>
      refine ⟨_, rfl, x, .ty "tuple", _, .type "tuple", false, rfl, .ty "tuple", ty, hk, false, rfl, ?_⟩
      exact k H (Same.refl H)
    | tup hq hi hz =>
      rename_i a xs
      have hl' := hl xs rfl
      refine ⟨_, rfl, .ref a, .ty "tuple", _, .type "tuple", true, rfl, .ty "tuple", tyX_sqT hq, kit_ty (by decide +kernel), true, rfl, ?_⟩
      refine ⟨_, rfl, a, rfl, ⟨xs, hq⟩, fun D hD => ?_⟩
      refine lc_tup (xs := xs) (fun i H' => H' D = some (.lst ((xs.take i).map fun x => V.bl (numV b x))) ∧ Same H H') ⟨upd_same, same_new hD⟩ (fun i H' _ p => sqT_same p.2 hq) ?_ ?_
      · rintro i y H1 hy ⟨h1, s1⟩
        refine ⟨rfl, _, rfl, _, rfl, b, y, rfl, (hi y (List.mem_of_getElem? hy)).same s1, _, h1, by rw [List.length_map, List.length_take]; exact small_lt (by omega), ?_, same_mut s1 hD⟩
        rw [upd_same, List.take_add_one, hy, List.map_append]
        rfl
      · rintro H1 ⟨h1, s1⟩
        rw [List.take_length] at h1
        refine ⟨D, xs.map (numV b), rfl, SqL.of (by rw [h1, List.map_map]; rfl), _, rfl, ?_⟩
        have e : (xs.map (numV b)).all id = xs.all (numV b) := by rw [List.all_map]; rfl
        rw [e]
        cases ha : xs.all (numV b) with
        | false =>
          have e2 : ascOf b (some xs) = false := by
            show ascV b xs = false
            rw [ascV_eq, ha, Bool.false_and]
          rw [e2] at k
          exact k H1 s1
        | true =>
          obtain ⟨ns, rfl, hn⟩ := nums_ints ha
          rw [List.length_map] at hl'
          refine ⟨_, rfl, a, _, rfl, .inr (sqT_same s1 hq), fun q hq0 => ?_⟩
          have s2 := s1.trans (same_new (o := .lst (ns.map V.int)) hq0)
          refine ⟨_, rfl, a, ns, rfl, sqT_same s2 hq, by omega, fun c n hc hn' => ?_⟩
          refine ⟨c, _, n, rfl, upd_same, by omega, fun ns' p pw mem len hp => ?_⟩
          have hqc : q ≠ c := ne_of_none (upd_same (H := H1) (a := q) (o := .lst (ns.map V.int))) hc
          have s3 := s2.trans (same_new (o := SetO w c (fun j => decide (j ∈ ns)) n) hc)
          have hqp : q ≠ p := ne_of_none (by rw [upd_ne hqc]; exact upd_same) hp
          refine ⟨.list (ns.map PyData.int), .list (ns'.map PyData.int), .lst (SqL.of (by rw [upd_ne hqp, upd_ne hqc]; exact upd_same)) (dpAll_ints ns), .lst (SqL.of upd_same) (dpAll_ints ns'), sh_LI _, sh_LI _, ?_⟩
          rw [eqv_LI]
          have e3 : decide (ns = ns') = ascOf b (some (ns.map V.int)) := by
            show _ = ascV b (ns.map V.int)
            by_cases c1 : ns = ns'
            · rw [decide_eq_true c1, ascV_ints (by rw [c1]; exact pw) hn]
            · rw [decide_eq_false c1]
              cases e4 : ascV b (ns.map V.int) with
              | false => rfl
              | true =>
                exfalso
                refine c1 (asc_ext (asc_of_V e4) pw fun z => ?_)
                rw [mem z]
                exact decide_eq_true_iff.symm
          rw [e3]
          exact k _ (s3.trans (same_new hp))
end
end Fo

set_option maxRecDepth 100000
set_option maxHeartbeats 4000000
/-! a set made of a list of ints -/
namespace Fo
open PySem PySem.Spec PyProof.Rows L2
abbrev emptyS (w : World) : Obj := { cls := .type "set", dict := none, data := .set #[] 0 (.fresh 0 0 (!w.params.followText "set-order")) }
section
variable {P : Program} {w : World} {A : Around} {E : Value → Shared → Prop} {s : Shared}
theorem call_set_listI {l : Addr} {items : Array Value} (ns : List Int) {Q : Value → Shared → Prop} (calm : A.handled = none) (hl : s.heap.IsList l items) (areI : IntsAre items.toList ns) (room : ns.length + 1 < scanBound)
    (go : ∀ (h' : Heap) (tk c : Nat), SetR w h' s.heap.objs.size (fun j => decide (j ∈ ns)) c → c ≤ ns.length → (∀ b o, s.heap.get? b = some o → h'.get? b = some o) → Q (.ref s.heap.objs.size) { s with heap := h', toks := tk }) :
    wpAny (model P w) A (call (.type "set") [.ref l]) Q E s := by
  have many : items.size = ns.length := (Array.length_toList (xs := items)).symm.trans (IntsAre.length areI)
  obtain ⟨c, tl, hmro⟩ := F.called_set.mro
  have f1 := F.called_set.made
  have f2 := F.called_set.sub
  refine wpAny_call (codeAny_of_tree ?_)
  show wpAny _ _ (callAny (.type "set") _) _ _ _
  refine wpAny_pure ⟨Code.quiet_builtin _ (by decide +kernel), codeAny_builtin F.entry_type_call ?_⟩
  rw [Around.under_plain (weight_type_call_type "set" [.ref l] []) rfl]
  have f3 := F.called_set.notType
  have f4 := F.called_set.canCreate
  have f5 := F.typeCall_set_1 (.ref l)
  repeat (any_goals (first | assumption | wp_step))
  refine codeAny_mono (code_set_led1 (.ref l) (E := E) (Q₁ := fun obj s₁ => obj = .ref s.heap.objs.size ∧ s₁ = { s with heap := s.heap.push (emptyS w) }) ⟨rfl, rfl⟩) fun r s₁ hr => ?_
  cases r with
  | error e => exact hr
  | ok fl =>
    cases fl with
    | ret obj =>
      obtain ⟨rfl, rfl⟩ := hr
      have at0 : (s.heap.push (emptyS w)).get? s.heap.objs.size = some (emptyS w) := Heap.get?_push_size _ rfl
      have ty0 : Shared.TypeIs { s with heap := s.heap.push (emptyS w) } (.ref s.heap.objs.size) "set" := ⟨_, at0, rfl⟩
      have f6 := F.called_set.init.lookup
      have f7 := F.called_set.init.bind (.ref s.heap.objs.size)
      repeat (any_goals (first | assumption | wp_step))
      refine codeAny_mono (codeAny_call_builtin (R := wants (fun r s₂ => r = .none ∧ ∃ h' tk c, s₂ = { s with heap := h', toks := tk } ∧ SetR w h' s.heap.objs.size (fun j => decide (j ∈ ns)) c ∧ c ≤ ns.length ∧
          (∀ b o, s.heap.get? b = some o → h'.get? b = some o)) E) F.called_set.init.plain F.entry_set_init (check_set_init_1 ty0 ?_)) fun r₂ s₂ hr₂ => ?_
      · obtain ⟨⟨ocls, odict, odata, oslots⟩, old, hcl, nl, hdl⟩ := hl
        dsimp only at hcl hdl
        subst hcl; subst hdl
        have old' : (s.heap.push (emptyS w)).get? l = some { cls := .type "list", dict := odict, data := .seq items nl, slots := oslots } := Heap.get?_push_of_some _ old
        have f8 := F.sub_list_set
        have f9 := F.sub_list_frozenset
        have f10 : (Value.type "list" == Value.type "dict") = false := by decide
        have isl : (s.heap.push (emptyS w)).IsList l items := ⟨_, old', rfl, nl, rfl⟩
        unfold Builtin.«set.__init__» noKeywords Builtin.Frozenset.updateFrom
        generalize hPI : pyIter = PI
        wp_walk
        subst hPI
        refine wpAny_pyIter_list isl ?_
        refine wpAny_bind (wpAny_runValue ?_)
        have lt : l < s.heap.objs.size := Heap.lt_size old
        have calm3 : A.in1.in1.in1.handled = none := by simp [calm]
        have sz : (s.heap.push (emptyS w)).objs.size = s.heap.objs.size + 1 := Heap.size_push ..
        have ne1 : l ≠ (s.heap.push (emptyS w)).objs.size := by
          rw [sz]; exact Nat.ne_of_lt (Nat.lt_succ_of_lt lt)
        have apart : s.heap.objs.size ∉ [(s.heap.push (emptyS w)).objs.size, l] := by
          rw [sz]; simp only [List.mem_cons, List.not_mem_nil, or_false, not_or]
          exact ⟨Nat.ne_of_lt (Nat.lt_succ_self _), Nat.ne_of_gt lt⟩
        have each : ∀ (i : Nat) (v : Value), items[i]? = some v → ∃ k t, ns[i]? = some k ∧ v = .int k t := fun i v hv => by
          have hi : i < ns.length := by rw [← many]; exact (Array.getElem?_eq_some_iff.mp hv).1
          obtain ⟨t, e⟩ := PyProof.Rows.IntsAre.int_at areI i v (by rw [Array.getElem?_toList]; exact hv)
          refine ⟨ns[i], t, List.getElem?_eq_getElem hi, ?_⟩
          rw [e, List.getD_eq_getElem?_getD, List.getElem?_eq_getElem hi] <;> rfl
        refine set_update_ints ((Walks.list calm3 _ l ne1 items).toS) s.heap.objs.size
          apart ns many room each (items.size - 0) 0 _ (by omega) (Nat.zero_le _)
          ⟨⟨_, Heap.get?_push_size _ rfl, rfl, rfl⟩, (isl.push _)⟩ ?start ?fin
        case start =>
          exact ⟨0, Nat.le_refl 0, setR_new_at (Heap.get?_push_of_some _ at0)⟩
        case fin =>
          intro s' c' moved cl R
          obtain ⟨h', g2, d', tk', os'⟩ := s'
          have eg : g2 = s.gens := moved.gens
          have ed : d' = s.drawn := moved.drawn
          have eo : os' = s.os := moved.os
          subst eg; subst ed; subst eo
          show wpAny _ _ _ _ _ _
          refine wpAny_pure ?_
          show wpAny _ _ (ret Value.none) _ _ _
          rw [many] at cl
          refine wpAny_pure ⟨rfl, h', tk', c', rfl, R, cl, fun b o e => ?_⟩
          have b0 : b < s.heap.objs.size := Heap.lt_size e
          refine moved.heap b o ?_ (Heap.get?_push_of_some _ (Heap.get?_push_of_some _ e))
          simp only [sz, List.mem_cons, List.not_mem_nil, or_false, not_or]
          exact ⟨Nat.ne_of_lt b0, Nat.ne_of_lt (Nat.lt_succ_of_lt b0)⟩
      · cases r₂ with
        | error e => exact hr₂
        | ok fl₂ =>
          cases fl₂ with
          | ret r =>
            obtain ⟨rfl, h', tk, c', rfl, R, cl, kept⟩ := hr₂
            repeat (any_goals (first | assumption | wp_step))
            exact go _ _ _ R cl kept
          | _ => exact hr₂.elim
    | _ => exact hr.elim
end
theorem setR_len {w : World} {h : Heap} {a : Addr} {ns : List Int} {c : Nat} (R : SetR w h a (fun j => decide (j ∈ ns)) c) : ∀ ks : List Int, ks.Nodup → (∀ k, k ∈ ks ↔ k ∈ ns) → ks.length = c := by
  intro ks nd mem
  obtain ⟨o, es, ep, t, _, _, _, _, one, m, _, _, n, _⟩ := R
  have p : ks.Perm (es.toList.map keyOf) := by
    refine (List.perm_ext_iff_of_nodup nd one).mpr fun k => ?_
    rw [mem k, ← m k, decide_eq_true_iff]
  rw [p.length_eq, List.length_map, Array.length_toList]
  exact n
def rLenO (w : World) : List V → Hp → VK → Prop := fun xs H Q => ∃ (a : Addr) (M : Int → Bool) (n : Nat), xs = [.ref a] ∧ H a = some (SetO w a M n) ∧ Q (.int n) H
theorem cr_lenO {X : Cx} : CallR X (.builtin "len") (rLenO X.w) := by
  intro pins s σ H xs us Q I r h
  obtain ⟨a, M, n, rfl, at1, q⟩ := h
  rw [Vals.ref1 r]
  obtain ⟨o, es, ep, t, ho, hex, hd, _, _, _, bnd, hf, hn, _⟩ := setO_get I at1
  refine call_len_set ho hex hd hf (by have : (scanBound : Int) < 2 ^ 63 := by decide
                                       omega) ⟨.int n, H, I.tok _, ⟨_, by rw [hn]⟩, q⟩
/-- a set of the ints of a list; how many there are is left open but for the bound -/
def rSetL (K : PySem.W.Frag) (w : World) : List V → Hp → VK → Prop := fun xs H Q => ∃ (p : Addr) (ns : List Int), xs = [.ref p] ∧ SqL K H p (ns.map V.int) ∧ ns.length ≤ 4000 ∧ ∀ (a : Addr) (n : Nat), H a = none → n ≤ ns.length → (∀ ks : List Int, ks.Nodup → (∀ k, k ∈ ks ↔ k ∈ ns) → ks.length = n) → Q (.ref a) (upd H a (SetO w a (fun j => decide (j ∈ ns)) n))
theorem cr_setL {X : Cx} (hc : X.calm = true) : CallR X (.type "set") (rSetL X.K X.w) := by
  intro pins s σ H xs us Q I r h
  obtain ⟨p, ns, rfl, hS, hl, q⟩ := h
  cases r with
  | cons r0 r1 =>
    cases r1
    cases r0
    obtain ⟨its, rv, hT, hz⟩ := I.list hS
    refine call_set_listI ns (I.ok.hd hc) hT.isList (by simpa using Fo.ints_of rv) (by
      have : (4002 : Nat) < scanBound := by decide
      omega) fun h' tk c hR hcn hk => ?_
    refine ⟨.ref s.heap.objs.size, _, I.laid (a := s.heap.objs.size) (o := SetO X.w s.heap.objs.size (fun j => decide (j ∈ ns)) c) hk (Nat.le_refl _) ?_, rfl, q _ c (I.hok.fresh (Nat.le_refl _)) hcn (setR_len hR)⟩
    refine ⟨hR, ?_, fun h1 h2 a b => ?_⟩
    · obtain ⟨o, _, _, _, g, _⟩ := hR
      exact ⟨o, g⟩
    · obtain ⟨o, es, ep, t, g, r⟩ := a
      exact ⟨o, es, ep, t, b o g, r⟩
end Fo

set_option maxRecDepth 100000
set_option maxHeartbeats 2000000
/-! walking a list or a tuple, whatever is done with each -/
namespace Fo
open PySem PySem.Spec PyProof.Rows L2
theorem walk_sq {K : PySem.W.Frag} {b : Bool} {a : Addr} {xs : List V} {H0 : Hp} {B : V → Hp → (Hp → Prop) → Prop} {Qd : Hp → Prop} (Pv : Nat → Hp → Prop) (h0 : Pv 0 H0) (hl : ∀ i H, i ≤ xs.length → Pv i H → Sq b K H a xs)
    (hs : ∀ i x H, xs[i]? = some x → Pv i H → B x H (Pv (i + 1))) (hd : ∀ H, Pv xs.length H → Qd H) :
    ∃ W : Nat → Nat → Hp → Prop, (∃ m, W 0 m H0) ∧ ∀ i m H, W i m H →
      ((ItS b K a).stop i H ∧ Qd H) ∨ ((ItS b K a).go i H ∧ ∃ Nx : Hp → Prop, (∀ H', Nx H' → ∃ m', m' < m ∧ W (i + 1) m' H') ∧ ∀ x H', (ItS b K a).yld i H x H' → B x H' Nx) := by
  refine ⟨fun i m H => m = xs.length - i ∧ i ≤ xs.length ∧ Pv i H, ⟨xs.length, by simp, Nat.zero_le _, h0⟩, ?_⟩
  rintro i m H ⟨rfl, hi, p⟩
  have q := hl i H hi p
  by_cases hlt : i < xs.length
  · have hx : xs[i]? = some xs[i] := List.getElem?_eq_getElem hlt
    have step : ∀ x H', H' = H → xs[i]? = some x → B x H' (Pv (i + 1)) := fun x H' e y => by
      subst e
      exact hs i x _ y p
    refine .inr ⟨?_, Pv (i + 1), fun H' p' => ⟨xs.length - (i + 1), by omega, rfl, hlt, p'⟩, fun x H' y => ?_⟩
    · cases b with
      | true => exact ⟨xs, xs[i], q, hx⟩
      | false => exact ⟨xs, xs[i], q, hx⟩
    · cases b with
      | true => exact step x H' y.1 (y.2 xs q)
      | false => exact step x H' y.1 (y.2 xs q)
  · have e : i = xs.length := by omega
    subst e
    refine .inl ⟨?_, hd H p⟩
    cases b with
    | true => exact ⟨xs, q, Nat.le_refl _⟩
    | false => exact ⟨xs, q, Nat.le_refl _⟩
end Fo

set_option maxRecDepth 100000
set_option maxHeartbeats 2000000
/-! a tuple put behind a list -/
namespace Fo
open PySem PySem.Spec PyProof.Rows L2 PyProof
theorem ext_tup (l : Addr) (items : Array Value) (n : Nat) (b : Addr) (items2 : Array Value) (n2 : Nat) (od : Option Addr) (sl : Array (Option Value)) (hs0 : ¬(!items.isEmpty && Builtin.List.listTooLong (items.size + items2.size)) = true) (hs1 : items.size ≤ sizeLine) (hs2 : items.size + items2.size ≤ sizeLine + 1) :
    Meets (Builtin.«list.extend» ⟨[.ref l, .ref b], []⟩) (fun _ R s => s.heap.get? l = some { cls := .type "list", dict := none, data := .seq items n, slots := #[] } ∧ s.heap.get? b = some { cls := .type "tuple", dict := od, data := .seq items2 n2, slots := sl } ∧ R (.ok (.ret Value.none)) { s with heap := s.heap.update l (Obj.mapSeq fun x => x ++ items2), toks := s.toks }) :=
  .of_wp fun prog w A R s h => by
    obtain ⟨hp, g, d, tk, os⟩ := s
    obtain ⟨hl, hb, h⟩ := h
    have f1 := AutoSeq1.idx_int; have f2 := AutoSeq1.sub_tuple_tuple; have f3 := AutoSeq1.sub_list_list; have f4 := AutoSeq1.sub_tuple_list; have f5 := AutoSeq1.sub_list_tuple
    have hz' : (items ++ items2).size ≤ sizeLine + 1 := by rw [Array.size_append]; exact hs2
    wp_walk using (wpAny_updateSeq hl rfl (hz := hs1) (_hz' := hz')), AutoSeq1.wpAny_loadPart' hl, AutoSeq1.wpAny_loadPart' hb
    exact ⟨_, rfl, h⟩
section
variable {X : Cx}
def rExtT (K : PySem.W.Frag) : V → List V → Hp → VK → Prop := fun x vs H Q => ∃ l b xs zs, x = .ref l ∧ vs = [.ref b] ∧ H l = some (.lst xs) ∧ SqT K H b zs ∧ xs.length + zs.length ≤ 100000 ∧ Q .non (upd H l (.lst (xs ++ zs)))
theorem mt_extT : MtM X "list.extend" (rExtT X.K) := by
  intro pins s σ H x vs v us Q I rx rv h
  obtain ⟨l, b, xs, zs, rfl, rfl, hH, hB, hz, q⟩ := h
  have hz := small_le hz
  cases rx
  obtain ⟨u, rfl, ru⟩ := rv.one
  cases ru
  obtain ⟨z, its, n, r, hl, e⟩ := I.lstM hH
  obtain ⟨its2, r2, ⟨⟨oc, od, dd, sl⟩, e2, ec, n2, ed⟩, hz2⟩ := I.tuple hB
  dsimp only at ec ed
  subst ec; subst ed
  have hl2 : zs.length = its2.length := r2.length
  have hsz : its.toArray.size + its2.toArray.size ≤ sizeLine := by rw [List.size_toArray, List.size_toArray]; omega
  have hlong : ¬ (!its.toArray.isEmpty && Builtin.List.listTooLong (its.toArray.size + its2.toArray.size)) = true := by
    rw [notLongL hsz, Bool.and_false]
    exact Bool.false_ne_true
  refine call_meets F.slot_list_extend ⟨_, e, rfl⟩ F.entry_list_extend (F.args_list_extend_2 _ _)
    (ext_tup l its.toArray n b its2.toArray n2 od sl hlong (by rw [List.size_toArray]; omega) (by omega)) ⟨e, e2, ?_⟩
  refine ⟨.non, _, I.lset (its' := its ++ its2) hH e (by simp) (r.append r2) ?_, rfl, q⟩
  rw [List.length_append]
  omega
end
end Fo

set_option maxRecDepth 100000
set_option maxHeartbeats 1000000
/-! the short lot that is told -/
namespace Fo
open PySem PySem.Spec PyProof.Rows L2
theorem least_of {Pr : Nat → Prop} : ∀ {p : Nat}, Pr p → ∃ q, Pr q ∧ q ≤ p ∧ ∀ j, j < q → ¬ Pr j := by
  intro p
  induction p using Nat.strongRecOn with
  | ind p ih =>
    intro h
    by_cases c : ∃ j, j < p ∧ Pr j
    · obtain ⟨j, hj, hP⟩ := c
      obtain ⟨q, a, b, d⟩ := ih j hj hP
      exact ⟨q, a, by omega, d⟩
    · exact ⟨p, h, Nat.le_refl _, fun j hj hP => c ⟨j, hj, hP⟩⟩
structure ShortOf (rows : List (List Int)) (L : List Nat) : Prop where
  is : ∃ (m : Mt.MS) (p N : Nat), Mt.Upto rows rows.length m ∧ p < rows.length ∧ m.h p = none ∧ (∀ j, j < p → m.h j ≠ none) ∧ Mt.Bits N (Mt.Reach rows m.o p) ∧ L = Mt.reached (Builtin.Int.intBits (N : Int)) N
theorem bits_lt' {N q : Nat} (h : N.testBit q = true) : q < Builtin.Int.intBits (N : Int) := by
  have h2 : 2 ^ q ≤ N := Nat.ge_two_pow_of_testBit h
  have hN : N ≠ 0 := fun z => by rw [z] at h2; have := Nat.two_pow_pos q; omega
  have h3 : q ≤ N.log2 := (Nat.le_log2 hN).mpr h2
  unfold Builtin.Int.intBits
  have e : ((N : Int)).natAbs = N := Int.natAbs_natCast N
  simp [e, hN]
  omega
theorem bits_top {N n : Nat} (h : ∀ q, N.testBit q = true → q < n) : Builtin.Int.intBits (N : Int) ≤ n := by
  unfold Builtin.Int.intBits
  have e : ((N : Int)).natAbs = N := Int.natAbs_natCast N
  by_cases hN : N = 0
  · simp [e, hN]
  · have := h N.log2 (Nat.testBit_log2 hN)
    simp [e, hN]
    omega
theorem reach_lt {rows : List (List Int)} {m : Mt.MS} (v : Mt.Valid rows m) {p q : Nat} (hp : p < rows.length) (h : Mt.Reach rows m.o p q) : q < rows.length := by
  cases h with
  | refl => exact hp
  | @step _ _ s _ h1 h2 => exact Mt.row_lt (v.tie _ s ((v.inv _ s).mpr h2))
theorem ShortOf.one {rows : List (List Int)} {A B : List Nat} (a : ShortOf rows A) (b : ShortOf rows B) : A = B := by
  obtain ⟨m, p, N, u, h1, h2, h3, h4, rfl⟩ := a.is
  obtain ⟨m', p', N', u', g1, g2, g3, g4, rfl⟩ := b.is
  have em := Mt.upto_one u u'
  subst em
  have ep : p = p' := by
    rcases Nat.lt_trichotomy p p' with z | z | z
    · exact absurd h2 (g3 p z)
    · exact z
    · exact absurd g2 (h3 p' z)
  subst ep
  have en : N = N' := Nat.eq_of_testBit_eq fun q => by
    have := (h4 q).trans (g4 q).symm
    cases x : N.testBit q <;> cases y : N'.testBit q <;> simp_all
  subst en
  rfl
theorem ShortOf.short {rows : List (List Int)} {L : List Nat} (a : ShortOf rows L) : Mt.Short rows L := by
  obtain ⟨m, p, N, u, h1, h2, h3, h4, rfl⟩ := a.is
  exact Mt.short_of (Mt.upto_ok u) h1 h2 h4 fun q h => bits_lt' h
theorem bits_le {rows : List (List Int)} {m : Mt.MS} (v : Mt.Valid rows m) {p N : Nat} (hp : p < rows.length) (h : Mt.Bits N (Mt.Reach rows m.o p)) : Builtin.Int.intBits (N : Int) ≤ rows.length :=
  bits_top fun q hq => reach_lt v hp ((h q).mp hq)
end Fo

namespace Mt
/-- a lot of people who may get, all together, just as many things as they are, this thing among them -/
structure Lot (rows : Rows) (t : Int) (L : List Nat) : Prop where
  asc : L.Pairwise (· < ·)
  lt : ∀ p ∈ L, p < rows.length
  hold : ∃ U : List Int, U.Nodup ∧ U.length = L.length ∧ (∀ u, u ∈ U ↔ ∃ x ∈ L, u ∈ row rows x) ∧ t ∈ U
theorem Lot.nd {rows : Rows} {t : Int} {L : List Nat} (h : Lot rows t L) : L.Nodup := h.asc.imp fun {a b} z => Nat.ne_of_lt z
theorem lot_of {rows : Rows} {m : MS} {q N n : Nat} {t : Int} (v : Valid rows m) (f : Full rows m) (few : Few rows) (ho : m.o t = some q) (hN : Bits N (Reach rows m.o q)) (hn : ∀ z, N.testBit z = true → z < n) : Lot rows t (reached n N) := by
  have hq : q < rows.length := row_lt (v.tie q t ((v.inv q t).mpr ho))
  have lt : ∀ x, Reach rows m.o q x → x < rows.length := fun x hx => by
    cases hx with
    | refl => exact hq
    | @step _ _ s _ h1 h2 => exact row_lt (v.tie _ s ((v.inv _ s).mpr h2))
  have mem : ∀ x, x ∈ reached n N ↔ Reach rows m.o q x := fun x => by
    rw [mem_reached]
    exact ⟨fun h => (hN x).mp h.2, fun h => ⟨hn x ((hN x).mpr h), (hN x).mpr h⟩⟩
  have asc : (reached n N).Pairwise (· < ·) := by
    unfold reached
    exact List.Pairwise.filter _ List.pairwise_lt_range
  have has : ∀ x, x < rows.length → ∃ u, m.h x = some u := fun x hx => by
    cases e : m.h x with
    | none => exact absurd e (f x hx)
    | some u => exact ⟨u, rfl⟩
  refine ⟨asc, fun x hx => lt x ((mem x).mp hx), (reached n N).map fun x => (m.h x).getD 0, ?_, List.length_map _, fun u => ⟨fun h => ?_, fun ⟨x, hx, hu⟩ => ?_⟩, ?_⟩
  · refine nodup_map (asc.imp fun {a b} z => Nat.ne_of_lt z) fun x hx y hy e => ?_
    obtain ⟨u, hu⟩ := has x (lt x ((mem x).mp hx))
    obtain ⟨z, hz⟩ := has y (lt y ((mem y).mp hy))
    rw [hu, hz] at e
    have e' : u = z := e
    rw [e'] at hu
    exact v.inj hu hz
  · obtain ⟨x, hx, rfl⟩ := List.mem_map.mp h
    obtain ⟨u, hu⟩ := has x (lt x ((mem x).mp hx))
    exact ⟨x, hx, by rw [hu]; exact v.tie x u hu⟩
  · obtain ⟨y, hy⟩ := owned v f few hu
    refine List.mem_map.mpr ⟨y, (mem y).mpr (.step ((mem x).mp hx) hu hy), ?_⟩
    rw [(v.inv y u).mpr hy]
    rfl
  · refine List.mem_map.mpr ⟨q, (mem q).mpr .refl, ?_⟩
    rw [(v.inv q t).mpr ho]
    rfl
theorem Lot.deal {rows : Rows} {t : Int} {L : List Nat} (h : Lot rows t L) {D : List Int} (d : Ds rows D) : ∃ x ∈ L, D[x]? = some t := by
  obtain ⟨U, nd, hl, hU, ht⟩ := h.hold
  have n2 : (L.map fun p => D[p]?.getD 0).Nodup := nodup_map h.nd fun x hx y hy e => by
    obtain ⟨t, e1, _⟩ := d.get (h.lt x hx)
    obtain ⟨u, e2, _⟩ := d.get (h.lt y hy)
    rw [e1, e2] at e
    have e' : t = u := e
    rw [e'] at e1
    exact nodup_get d.nd e1 e2
  have := all_in n2 (l2 := U) (fun z hz => by
    obtain ⟨p, hp, rfl⟩ := List.mem_map.mp hz
    obtain ⟨u, e1, hu⟩ := d.get (h.lt p hp)
    rw [e1]
    exact (hU u).mpr ⟨p, hp, hu⟩) (by rw [List.length_map]; omega) t ht
  obtain ⟨x, hx, e⟩ := List.mem_map.mp this
  obtain ⟨u, e1, _⟩ := d.get (h.lt x hx)
  rw [e1] at e
  have e' : u = t := e
  exact ⟨x, hx, by rw [e1, e']⟩
theorem Lot.full {rows : Rows} {t : Int} {L : List Nat} (h : Lot rows t L) {ks : List Int} (nd : ks.Nodup) (mem : ∀ u, u ∈ ks ↔ ∃ x ∈ L, u ∈ row rows x) : ks.length = L.length ∧ t ∈ ks := by
  obtain ⟨U, nU, hl, hU, ht⟩ := h.hold
  have a := len_le nd (l2 := U) fun x hx => (hU x).mpr ((mem x).mp hx)
  have b := len_le nU (l2 := ks) fun x hx => (mem x).mpr ((hU x).mp hx)
  exact ⟨by omega, (mem t).mpr ((hU t).mp ht)⟩
/-- if the tie is in a dealing, no lot of others is filled for it -/
theorem rest_no {rows : Rows} {p : Nat} {t : Int} {L : List Nat} {ks : List Int} (live : Live rows p t) (nd : L.Nodup) (lt : ∀ x ∈ L, x < rows.length) (hp : p ∉ L) (nk : ks.Nodup) (mem : ∀ u, u ∈ ks ↔ ∃ x ∈ L, u ∈ row rows x) (hl : ks.length = L.length) (ht : t ∈ ks) : False := by
  obtain ⟨D, d, hD⟩ := live
  have n2 : (L.map fun p => D[p]?.getD 0).Nodup := nodup_map nd fun x hx y hy e => by
    obtain ⟨t, e1, _⟩ := d.get (lt x hx)
    obtain ⟨u, e2, _⟩ := d.get (lt y hy)
    rw [e1, e2] at e
    have e' : t = u := e
    rw [e'] at e1
    exact nodup_get d.nd e1 e2
  have := all_in n2 (l2 := ks) (fun z hz => by
    obtain ⟨x, hx, rfl⟩ := List.mem_map.mp hz
    obtain ⟨u, e1, hu⟩ := d.get (lt x hx)
    rw [e1]
    exact (mem u).mpr ⟨x, hx, hu⟩) (by rw [List.length_map]; omega) t ht
  obtain ⟨x, hx, e⟩ := List.mem_map.mp this
  obtain ⟨u, e1, _⟩ := d.get (lt x hx)
  rw [e1] at e
  have e' : u = t := e
  rw [e'] at e1
  exact hp (nodup_get d.nd hD e1 ▸ hx)
end Mt

set_option maxRecDepth 100000
set_option maxHeartbeats 4000000
namespace Fo
open PySem PySem.Spec PyProof.Rows L2
theorem un65 {B : Nat} {A : Around} (hr : Room B A) : A.units + 65 < cLine := by have := hr.un; omega
def natV : V → Nat
  | .int i => i.toNat
  | _ => 0
/-- the things that people may get, ascending -/
def gotL (rows : List (List Int)) (ps : List Nat) : List Int := (rangeI rows.length).filter fun t => decide (t ∈ Mt.things (ps.map (Mt.row rows)))
theorem gotL_asc {rows : List (List Int)} {ps : List Nat} : (gotL rows ps).Pairwise (· < ·) := by
  unfold gotL
  refine List.Pairwise.filter _ ?_
  unfold rangeI
  rw [List.pairwise_map]
  exact List.pairwise_lt_range.imp fun h => by omega
theorem Good.mem_got {rows : List (List Int)} (G : Good rows) {ps : List Nat} {t : Int} : t ∈ gotL rows ps ↔ t ∈ Mt.things (ps.map (Mt.row rows)) := by
  unfold gotL
  rw [List.mem_filter, decide_eq_true_iff]
  refine ⟨fun h => h.2, fun h => ⟨?_, h⟩⟩
  obtain ⟨r, hr, ht⟩ := List.mem_flatten.mp h
  obtain ⟨p, _, rfl⟩ := List.mem_map.mp hr
  exact mem_rangeI.mpr (G.row_rng ht)
theorem nat_back {ns : List Int} (h : ∀ x ∈ ns, 0 ≤ x) : ns.map V.int = ((ns.map V.int).map natV).map nV := by
  rw [List.map_map, List.map_map]
  refine List.map_congr_left fun x hx => ?_
  show V.int x = V.int ((x.toNat : Nat) : Int)
  rw [Int.toNat_of_nonneg (h x hx)]
theorem Good.row_all {rows : List (List Int)} (G : Good rows) (p : Nat) : (Mt.row rows p).length ≤ rows.length := asc_len (G.row_asc p) fun _ h => G.row_rng h
abbrev s_things_of : Stmt := top 23
abbrev n_things_of : List Str := ["rows", "row", "thing"]
theorem sc_things_of : FnScope n_things_of ["rows"] (defScope s_things_of) := ⟨rfl, rfl, rfl, by decide +kernel, rfl, by decide +kernel, by decide +kernel⟩
abbrev s_rows_of : Stmt := top 24
abbrev n_rows_of : List Str := ["rows", "people", "person"]
theorem sc_rows_of : FnScope n_rows_of ["rows", "people"] (defScope s_rows_of) := ⟨rfl, rfl, rfl, by decide +kernel, rfl, by decide +kernel, by decide +kernel⟩
section
variable {P : Program} {w : World} {K : PySem.W.Frag} {mg : Str → Option Value} {base : Heap} {C : Addr}
/-- rows of one kind in a list or a tuple -/
def RowsX (c b : Bool) (K : PySem.W.Frag) (H : Hp) (v : V) (rows : List (List Int)) : Prop := ∃ a vs, v = .ref a ∧ Sq c K H a vs ∧ RowsB b K H vs rows
theorem RowsQ.x {b : Bool} {K : PySem.W.Frag} {H : Hp} {v : V} {rows : List (List Int)} (h : RowsQ b K H v rows) : RowsX b b K H v rows := h
def spThings (K : PySem.W.Frag) : Sp := fun vs H Q _ => ∃ (c b : Bool) (rv : V) (rows : List (List Int)), vs = [rv] ∧ RowsX c b K H rv rows ∧ (Mt.things rows).length ≤ 4000 ∧
  ∀ (ks : List Int) p H', Same H H' → ks.Pairwise (· < ·) → (∀ k : Int, k ∈ ks ↔ k ∈ Mt.things rows) → SqL K H' p (ks.map V.int) → Q (.ref p) H'
theorem ok_things (A : At K mg "things_of" s_things_of ["rows"]) (T : Tx mg) : Dfn P w K mg base "things_of" ["rows"] 1 (spThings K) := by
  refine A.ok sc_things_of (fun vs H Q E h => ?_) (fun f cdv A outer s H vs Q E hr h => ?_)
  · obtain ⟨c, b, rv, rows, rfl, _⟩ := h
    rfl
  · obtain ⟨c, b, rv, rows, rfl, hR, hU, k⟩ := h
    obtain ⟨ra, vs, rfl, hra, hrb⟩ := id hR
    have vl := hrb.len
    refine ⟨_, (pss_one (ps_ret (pe_callB (cr_sortSetA rfl) (by rfl) T.sorted (by decide +kernel) (pa_cons (pe_callTy (cr_setL rfl) (by rfl) T.set (by decide +kernel) (pa_cons (pe_lc2 (own := [("row", 1), ("thing", 2)]) (vs1 := [2]) (g := (gName 1)) (tt := tYes) (wi1 := (iAlt (iList K (tVar 1)) (iTup K (tVar 1)))) (g1 := (gName 2)) (tt1 := tYes) (te := (tVar 2)) (by rfl) sc_things_of.nd (pi_alt (pi_list (pv 0)) (pi_tup (pv 0))) (blkOk_by (own := [("row", 1), ("thing", 2)]) (N := n_things_of) (sc := (defScope s_things_of)) (by decide +kernel)) (by decide) (fun _ _ _ _ _ => (pg_name (i := 1) sc_things_of.nd rfl (Or.inl rfl))) (fun _ _ _ _ _ => pts_nil) (fun _ _ _ _ _ => (pi_alt (pi_list (pv 1)) (pi_tup (pv 1)))) (fun _ _ _ _ _ => (pg_name (i := 2) sc_things_of.nd rfl (Or.inl rfl))) (fun _ _ _ _ _ => pts_nil) (fun _ _ _ _ _ => (pv 2))) pa_nil)) pa_nil)))), ?_⟩
    refine alt_it (b := c) (xs := vs) (fun Q' q => ⟨_, rfl, q⟩) hra fun D hD => ?_
    refine walk_sq (b := c) (xs := vs) (fun i H' => H' D = some (.lst (((rows.take i).flatten).map V.int)) ∧ Same H H') ⟨upd_same, same_new hD⟩ (fun i H' _ hp => hra.same hp.2) ?_ ?_
    · rintro i x H1 hx ⟨h1, s1⟩
      obtain ⟨aa, r, rfl, hri, hqa⟩ := hrb.get hx
      have hir : i < rows.length := (List.getElem?_eq_some_iff.mp hri).1
      have lk : ∀ j, ((rows.take i).flatten ++ r.take j).length ≤ 4000 := fun j => by
        have e : rows = rows.take i ++ r :: rows.drop (i + 1) := by
          have := List.getElem?_eq_some_iff.mp hri
          rw [← this.2, ← List.drop_eq_getElem_cons, List.take_append_drop]
        have hU' : rows.flatten.length ≤ 4000 := hU
        rw [e, List.flatten_append, List.flatten_cons, List.length_append, List.length_append] at hU'
        rw [List.length_append, List.length_take]
        omega
      refine ⟨rfl, ?_⟩
      refine alt_it (b := b) (xs := r.map V.int) (fun Q' q => ⟨_, rfl, q⟩) (hqa.same s1) ?_
      refine walk_sq (b := b) (xs := r.map V.int) (fun j H' => H' D = some (.lst (((rows.take i).flatten ++ r.take j).map V.int)) ∧ Same H H') ⟨by rw [List.take_zero, List.append_nil]; exact h1, s1⟩ (fun i H' _ hp => hqa.same hp.2) ?_ ?_
      · rintro j y H2 hy ⟨h2, s2⟩
        obtain ⟨u, hu, rfl⟩ : ∃ u, r[j]? = some u ∧ y = V.int u := by
          rw [List.getElem?_map] at hy
          cases e : r[j]? with
          | none => rw [e] at hy; cases hy
          | some u => rw [e] at hy; exact ⟨u, rfl, (Option.some.inj hy).symm⟩
        refine ⟨rfl, _, rfl, _, h2, by rw [List.length_map]; exact small_lt (by have := lk j; omega), ?_, same_mut s2 hD⟩
        rw [upd_same, take_snoc hu, ← List.append_assoc, List.map_append (l₂ := [u])]
        rfl
      · rintro H2 ⟨h2, s2⟩
        rw [List.length_map, List.take_length] at h2
        refine ⟨?_, s2⟩
        rw [h2, take_snoc hri, List.flatten_append, List.flatten_singleton]
    · rintro H1 ⟨h1, s1⟩
      rw [List.take_of_length_le (by omega)] at h1
      refine ⟨D, rows.flatten, rfl, SqL.of h1, hU, fun a n ha hn _ => ?_⟩
      have hU' : rows.flatten.length ≤ 4000 := hU
      refine ⟨a, _, n, rfl, upd_same, by omega, fun ks L asc mem len hL => ?_⟩
      have s2 := s1.trans (same_new (o := SetO w a (fun j => decide (j ∈ rows.flatten)) n) ha)
      exact k ks L _ (s2.trans (same_new hL)) asc (fun z => (mem z).trans decide_eq_true_iff) (SqL.of upd_same)
def spRowsOf (K : PySem.W.Frag) : Sp := fun vs H Q _ => ∃ (b : Bool) (rv : V) (rows : List (List Int)) (pa : Addr) (ps : List Nat), vs = [rv, .ref pa] ∧ RowsQ b K H rv rows ∧ (∃ c, Sq c K H pa (ps.map nV)) ∧ ps.length ≤ 4000 ∧ (∀ p ∈ ps, p < rows.length) ∧
  ∀ l H', Same H H' → RowsX true b K H' (.ref l) (ps.map (Mt.row rows)) → Q (.ref l) H'
theorem ok_rows_of (A : At K mg "rows_of" s_rows_of ["rows", "people"]) (T : Tx mg) : Dfn P w K mg base "rows_of" ["rows", "people"] 1 (spRowsOf K) := by
  refine A.ok sc_rows_of (fun vs H Q E h => ?_) (fun f cdv A outer s H vs Q E hr h => ?_)
  · obtain ⟨b, rv, rows, pa, ps, rfl, _⟩ := h
    rfl
  · obtain ⟨b, rv, rows, pa, ps, rfl, hR, ⟨c, hpa⟩, hl, hlt, k⟩ := h
    obtain ⟨ra, vs, rfl, hra, hrb⟩ := id hR
    have vl := hrb.len
    refine ⟨_, (pss_one (ps_ret (pe_lc (own := [("person", 2)]) (g := (gName 2)) (tt := tYes) (te := (tOp (rAlt (rIxL K) (rIxT K)) (tVar 0) (tVar 2))) (by rfl) sc_rows_of.nd (pi_alt (pi_list (pv 1)) (pi_tup (pv 1))) (blkOk_by (own := [("person", 2)]) (N := n_rows_of) (sc := (defScope s_rows_of)) (by decide +kernel)) (fun _ _ _ _ _ => (pg_name (i := 2) sc_rows_of.nd rfl (Or.inl rfl))) (fun _ _ _ _ _ => pts_nil) (fun _ _ _ _ _ => (pe_ix ix_sq (pv 0) (pv 2) (fun _ _ => rfl)))))), ?_⟩
    refine alt_it (b := c) (xs := ps.map nV) (fun Q' q => ⟨_, rfl, q⟩) hpa fun D hD => ?_
    refine walk_sq (b := c) (xs := ps.map nV) (fun i H' => ∃ ws, H' D = some (.lst ws) ∧ RowsB b K H ws ((ps.take i).map (Mt.row rows)) ∧ Same H H') ⟨[], upd_same, .nil, same_new hD⟩ (fun i H' _ hp => by obtain ⟨_, _, _, s1⟩ := hp; exact hpa.same s1) ?_ ?_
    · rintro i x H1 hx ⟨ws, h1, hw, s1⟩
      obtain ⟨q, hq, rfl⟩ : ∃ q, ps[i]? = some q ∧ x = nV q := by
        rw [List.getElem?_map] at hx
        cases e : ps[i]? with
        | none => rw [e] at hx; cases hx
        | some u => rw [e] at hx; exact ⟨u, rfl, (Option.some.inj hx).symm⟩
      have qn := hlt q (List.mem_of_getElem? hq)
      have il := (List.getElem?_eq_some_iff.mp hq).1
      obtain ⟨aa, ha, hsa⟩ := hrb.at_ (List.getElem?_eq_getElem qn)
      have wl : ws.length ≤ 4000 := by rw [hw.len, List.length_map, List.length_take]; omega
      refine ⟨rfl, _, rfl, _, rfl, alt_ix (hra.same s1) (at_nat ha) ⟨_, h1, small_lt (by omega), ws ++ [.ref aa], upd_same, ?_, same_mut s1 hD⟩⟩
      rw [take_snoc hq, List.map_append]
      refine RowsB.snoc ?_ hw
      rw [show Mt.row rows q = rows[q] from Mt.row_get (List.getElem?_eq_getElem qn)]
      exact hsa
    · rintro H1 ⟨ws, h1, hw, s1⟩
      rw [List.length_map, List.take_length] at hw
      exact k D H1 s1 ⟨D, ws, rfl, SqL.of h1, hw.same s1⟩
end
end Fo

set_option maxRecDepth 100000
set_option maxHeartbeats 4000000
namespace Fo
open PySem PySem.Spec PyProof.Rows L2
abbrev s_check_person : Stmt := top 12
abbrev n_check_person : List Str := ["table", "person"]
theorem sc_check_person : FnScope n_check_person ["table", "person"] (defScope s_check_person) := ⟨rfl, rfl, rfl, by decide +kernel, rfl, by decide +kernel, by decide +kernel⟩
abbrev s_check_thing : Stmt := top 13
abbrev n_check_thing : List Str := ["table", "thing"]
theorem sc_check_thing : FnScope n_check_thing ["table", "thing"] (defScope s_check_thing) := ⟨rfl, rfl, rfl, by decide +kernel, rfl, by decide +kernel, by decide +kernel⟩
abbrev s_held_for_tie : Stmt := top 32
abbrev n_held_for_tie : List Str := ["table", "person", "thing", "held"]
theorem sc_held_for_tie : FnScope n_held_for_tie ["table", "person", "thing"] (defScope s_held_for_tie) := ⟨rfl, rfl, rfl, by decide +kernel, rfl, by decide +kernel, by decide +kernel⟩
abbrev s_filled_lot : Stmt := top 30
abbrev n_filled_lot : List Str := ["table", "person", "thing", "held", "lot"]
theorem sc_filled_lot : FnScope n_filled_lot ["table", "person", "thing"] (defScope s_filled_lot) := ⟨rfl, rfl, rfl, by decide +kernel, rfl, by decide +kernel, by decide +kernel⟩
abbrev s_is_filled_lot : Stmt := top 31
abbrev n_is_filled_lot : List Str := ["table", "person", "thing", "lot", "things"]
theorem sc_is_filled_lot : FnScope n_is_filled_lot ["table", "person", "thing", "lot"] (defScope s_is_filled_lot) := ⟨rfl, rfl, rfl, by decide +kernel, rfl, by decide +kernel, by decide +kernel⟩
/-- the lot that is told for a tie: whom the one who holds the thing comes to -/
def FillOf (rows : List (List Int)) (t : Int) (L : List Nat) : Prop := ∃ (m : Mt.MS) (q N : Nat), Mt.Upto rows rows.length m ∧ Mt.Full rows m ∧ m.o t = some q ∧ Mt.Bits N (Mt.Reach rows m.o q) ∧ L = Mt.reached (Builtin.Int.intBits (N : Int)) N
theorem FillOf.one {rows : List (List Int)} {t : Int} {A B : List Nat} (a : FillOf rows t A) (b : FillOf rows t B) : A = B := by
  obtain ⟨m, q, N, u, f, ho, hN, rfl⟩ := a
  obtain ⟨m2, q2, N2, u2, f2, ho2, hN2, rfl⟩ := b
  obtain rfl := Mt.upto_one u u2
  rw [ho] at ho2
  cases ho2
  have e : N = N2 := Nat.eq_of_testBit_eq fun i => by
    rw [Bool.eq_iff_iff]
    exact (hN i).trans (hN2 i).symm
  rw [e]
theorem FillOf.mem {rows : List (List Int)} {L : List Nat} {m : Mt.MS} {q N : Nat} (hN : Mt.Bits N (Mt.Reach rows m.o q)) (e : L = Mt.reached (Builtin.Int.intBits (N : Int)) N) (p : Nat) : p ∈ L ↔ Mt.Reach rows m.o q p := by
  rw [e, Mt.mem_reached]
  exact ⟨fun h => (hN p).mp h.2, fun h => ⟨bits_lt' ((hN p).mpr h), (hN p).mpr h⟩⟩
theorem FillOf.lot {rows : List (List Int)} (G : Good rows) {t : Int} {L : List Nat} (a : FillOf rows t L) : Mt.Lot rows t L := by
  obtain ⟨m, q, N, u, f, ho, hN, rfl⟩ := a
  exact Mt.lot_of (Mt.upto_ok u).valid f G.few ho hN fun z hz => bits_lt' hz
theorem FillOf.live {rows : List (List Int)} (G : Good rows) {p : Nat} {t : Int} (ht : t ∈ Mt.row rows p) {L : List Nat} (a : FillOf rows t L) : p ∈ L ↔ Mt.Live rows p t := by
  obtain ⟨m, q, N, u, f, ho, hN, rfl⟩ := a
  exact (FillOf.mem hN rfl p).trans (Mt.live_iff (Mt.upto_ok u).valid f G.few ht ho).symm
/-- whether xs are a lot filled for a tie -/
def fillV (rows : List (List Int)) (p : Nat) (t : Int) (xs : List V) : Bool := ascV rows.length xs && (!inV (nV p) xs && (decide ((gotL rows (xs.map natV)).length = xs.length) && decide (t ∈ gotL rows (xs.map natV))))
def fillO (rows : List (List Int)) (p : Nat) (t : Int) : Option (List V) → Bool
  | some xs => fillV rows p t xs
  | none => false
theorem inV_nats (p : Nat) (L : List Nat) : inV (nV p) (L.map nV) = decide (p ∈ L) := by
  have e : L.map nV = (L.map fun (q : Nat) => (q : Int)).map V.int := by rw [List.map_map]; rfl
  rw [e]
  show inV (V.int (p : Int)) _ = _
  rw [inV_ints]
  refine decide_eq_decide.mpr ⟨fun h => ?_, fun h => List.mem_map.mpr ⟨p, h, rfl⟩⟩
  obtain ⟨q, hq, e⟩ := List.mem_map.mp h
  have : q = p := by omega
  exact this ▸ hq
theorem flat_nats (L : List Nat) : (L.map nV).all flatV = true := by
  have e : L.map nV = (L.map fun (q : Nat) => (q : Int)).map V.int := by rw [List.map_map]; rfl
  rw [e]
  exact all_flat_ints _
section
variable {P : Program} {w : World} {K : PySem.W.Frag} {mg : Str → Option Value} {base : Heap} {C : Addr}
def spCheckN (K : PySem.W.Frag) (C : Addr) : Sp := fun vs H Q _ => ∃ (x : V) (rows : List (List Int)) (i : Int), vs = [x, .int i] ∧ TableAt K C H x rows ∧ 0 ≤ i ∧ i < rows.length ∧ Q .non H
theorem num_true {b i : Int} (h0 : 0 ≤ i) (h1 : i < b) : numV b (.int i) = true := by
  show (decide (0 ≤ i) && decide (i < b)) = true
  rw [decide_eq_true h0, decide_eq_true h1]
  rfl
theorem ok_check_person (A : At K mg "check_person" s_check_person ["table", "person"]) (tc : TC K C) (G_is_number : Dfn P w K mg base "is_number" ["bound", "thing"] 2 (spNumber K C)) : Dfn P w K mg base "check_person" ["table", "person"] 3 (spCheckN K C) := by
  refine A.ok sc_check_person (fun vs H Q E h => ?_) (fun f cdv A outer s H vs Q E hr h => ?_)
  · obtain ⟨x, rows, i, rfl, _⟩ := h
    rfl
  · obtain ⟨x, rows, i, rfl, ⟨p, dx, v, rfl, hp, hR⟩, h0, h1, k⟩ := h
    refine ⟨_, (pss_one (ps_if (pt_not (pt_val (pe_d G_is_number (hr.mono (by decide)) (pa_cons (pe_fld (pv 0) rfl) (pa_cons (pv 1) pa_nil))))) (pss_one ps_never) pss_nil)), ?_⟩
    refine ⟨_, rfl, p, C, dx, _, _, rfl, hp, tc.cl, tc.nS, tf_size _ _, _, rfl, _, _, rfl, th_int, _, rfl, ?_⟩
    rw [num_true h0 h1]
    exact k
theorem ok_check_thing (A : At K mg "check_thing" s_check_thing ["table", "thing"]) (tc : TC K C) (G_is_number : Dfn P w K mg base "is_number" ["bound", "thing"] 2 (spNumber K C)) : Dfn P w K mg base "check_thing" ["table", "thing"] 3 (spCheckN K C) := by
  refine A.ok sc_check_thing (fun vs H Q E h => ?_) (fun f cdv A outer s H vs Q E hr h => ?_)
  · obtain ⟨x, rows, i, rfl, _⟩ := h
    rfl
  · obtain ⟨x, rows, i, rfl, ⟨p, dx, v, rfl, hp, hR⟩, h0, h1, k⟩ := h
    refine ⟨_, (pss_one (ps_if (pt_not (pt_val (pe_d G_is_number (hr.mono (by decide)) (pa_cons (pe_fld (pv 0) rfl) (pa_cons (pv 1) pa_nil))))) (pss_one ps_never) pss_nil)), ?_⟩
    refine ⟨_, rfl, p, C, dx, _, _, rfl, hp, tc.cl, tc.nS, tf_size _ _, _, rfl, _, _, rfl, th_int, _, rfl, ?_⟩
    rw [num_true h0 h1]
    exact k
def spHeldTie (K : PySem.W.Frag) (C : Addr) : Sp := fun vs H Q _ => ∃ (x : V) (rows : List (List Int)) (p : Nat) (t : Int), vs = [x, .int (p : Int), .int t] ∧ TableAt K C H x rows ∧ Good rows ∧ rows.length ≤ 40 ∧ t ∈ Mt.row rows p ∧ (∃ D, Mt.Ds rows D) ∧
  ∀ m l H', Mt.Upto rows rows.length m → Mt.Full rows m → Same H H' → H' l = some (.lst (heldV rows.length m.h)) → Q (.ref l) H'
theorem ok_held_tie (A : At K mg "_held_for_tie" s_held_for_tie ["table", "person", "thing"]) (T : Tx mg) (tc : TC K C) (G_check_person : Dfn P w K mg base "check_person" ["table", "person"] 3 (spCheckN K C)) (G_check_thing : Dfn P w K mg base "check_thing" ["table", "thing"] 3 (spCheckN K C)) (G_matched : Dfn P w K mg base "matched" ["rows"] 3 (spMatched K)) : Dfn P w K mg base "_held_for_tie" ["table", "person", "thing"] 4 (spHeldTie K C) := by
  refine A.ok sc_held_for_tie (fun vs H Q E h => ?_) (fun f cdv A outer s H vs Q E hr h => ?_)
  · obtain ⟨x, rows, p, t, rfl, _⟩ := h
    rfl
  · obtain ⟨x, rows, pp, t, rfl, ht, G, hn, htr, ⟨D, hD⟩, k⟩ := h
    obtain ⟨p, dx, v, rfl, hp, hR⟩ := id ht
    obtain ⟨ra, rvs, rfl, hra, hrt⟩ := id hR
    have pr := Mt.row_lt htr
    have tr := G.row_rng htr
    refine ⟨_, (pss_cons (ps_expr (pe_d G_check_person (hr.mono (by decide)) (pa_cons (pv 0) (pa_cons (pv 1) pa_nil))))
      (pss_cons (ps_expr (pe_d G_check_thing (hr.mono (by decide)) (pa_cons (pv 0) (pa_cons (pv 2) pa_nil))))
      (pss_cons (ps_if (pt_cmpR op_notIn_seq (pv 2) (pe_ix ix_tup (pe_fld (pv 0) rfl) (pv 1) (fun _ _ => rfl)) rfl) (pss_one ps_never) pss_nil)
      (pss_cons (ps_set (i := 3) sc_held_for_tie.nd rfl (Or.inl rfl) (pe_d G_matched (hr.mono (by decide)) (pa_cons (pe_fld (pv 0) rfl) pa_nil)))
      (pss_cons (ps_if (pt_cmpR op_in_seq pe_non (pv 3) rfl) (pss_one ps_never) pss_nil)
      (pss_one (ps_ret (pv 3)))))))), ?_⟩
    obtain ⟨q, hq1, hq2⟩ := hrt.get (List.getElem?_eq_getElem pr)
    have er : Mt.row rows pp = rows[pp] := Mt.row_get (List.getElem?_eq_getElem pr)
    rw [← er] at hq2
    have big : 40 * 40 ≤ 90000 := by decide
    refine ⟨_, rfl, _, rfl, .ref p, rows, (pp : Int), rfl, ht, by omega, by omega, ?_⟩
    refine ⟨_, rfl, _, rfl, .ref p, rows, t, rfl, ht, tr.1, tr.2, ?_⟩
    refine ⟨_, rfl, _, rfl, p, C, dx, _, _, rfl, hp, tc.cl, tc.nR, tf_rows _ _, _, rfl, ra, rvs, (pp : Int), .ref q, rfl, rfl, hra, at_nat hq1, q, _, rfl, .inr hq2, rfl, all_flat_ints _, _, rfl, ?_⟩
    rw [show (if true = true then !inV (V.int t) ((Mt.row rows pp).map V.int) else inV (V.int t) ((Mt.row rows pp).map V.int)) = false from by rw [if_pos rfl, inV_ints, decide_eq_true htr]; rfl]
    refine ⟨_, rfl, p, C, dx, _, _, rfl, hp, tc.cl, tc.nR, tf_rows _ _, false, .ref ra, rows, rfl, hR.q, Nat.le_trans (G.few_things hn) big, by omega, fun m hd H1 u s1 f1 hh => ?_⟩
    have o := Mt.upto_ok u
    have full : Mt.Full rows m := by
      rcases Mt.full_or o with full | ⟨q, h1, h2, h3⟩
      · exact full
      · exact absurd hD (h3 D)
    refine ⟨_, rfl, hd, _, rfl, .inl (SqL.of hh), rfl, held_flat _ _, _, rfl, ?_⟩
    rw [show (if false = true then !inV V.non (heldV rows.length m.h) else inV V.non (heldV rows.length m.h)) = false from by
      rw [if_neg (by decide), non_in]
      exact decide_eq_false fun ⟨p, a, b⟩ => full p a b]
    exact ⟨_, rfl, k m hd H1 u full s1 hh⟩
def spFilled (K : PySem.W.Frag) (C : Addr) : Sp := fun vs H Q _ => ∃ (x : V) (rows : List (List Int)) (p : Nat) (t : Int), vs = [x, .int (p : Int), .int t] ∧ TableAt K C H x rows ∧ Good rows ∧ rows.length ≤ 40 ∧ t ∈ Mt.row rows p ∧ (∃ D, Mt.Ds rows D) ∧
  (Mt.Live rows p t → ∀ H', Same H H' → Q .non H') ∧ (∀ L, ¬ Mt.Live rows p t → FillOf rows t L → ∀ l H', Same H H' → SqT K H' l (L.map nV) → Q (.ref l) H')
theorem ok_filled (A : At K mg "filled_lot" s_filled_lot ["table", "person", "thing"]) (T : Tx mg) (tc : TC K C) (G_held_for_tie : Dfn P w K mg base "_held_for_tie" ["table", "person", "thing"] 4 (spHeldTie K C)) (G_reaches : Dfn P w K mg base "reaches" ["rows", "held"] 2 (spReaches K)) (G_people_of : Dfn P w K mg base "people_of" ["mask"] 1 (spPeople K)) : Dfn P w K mg base "filled_lot" ["table", "person", "thing"] 5 (spFilled K C) := by
  refine A.ok sc_filled_lot (fun vs H Q E h => ?_) (fun f cdv A outer s H vs Q E hr h => ?_)
  · obtain ⟨x, rows, p, t, rfl, _⟩ := h
    rfl
  · obtain ⟨x, rows, pp, t, rfl, ht, G, hn, htr, hex, k1, k2⟩ := h
    obtain ⟨p, dx, v, rfl, hp, hR⟩ := id ht
    have pr := Mt.row_lt htr
    refine ⟨_, (pss_cons (ps_set (i := 3) sc_filled_lot.nd rfl (Or.inl rfl) (pe_d G_held_for_tie (hr.mono (by decide)) (pa_cons (pv 0) (pa_cons (pv 1) (pa_cons (pv 2) pa_nil)))))
      (pss_cons (ps_set (i := 4) sc_filled_lot.nd rfl (Or.inl rfl) (pe_d G_people_of (hr.mono (by decide)) (pa_cons (pe_ix ix_list (pe_d G_reaches (hr.mono (by decide)) (pa_cons (pe_fld (pv 0) rfl) (pa_cons (pv 3) pa_nil))) (pe_bm PySem.F.plainAttrs_list PySem.F.slot_list_index PySem.F.type_list_index mt_index (pv 3) (pa_cons (pv 2) pa_nil)) (fun _ _ => rfl)) pa_nil)))
      (pss_one (ps_ret (pe_ifExp (pt_cmpR op_in_seq (pv 1) (pv 4) rfl) pe_non (pv 4)))))), ?_⟩
    refine ⟨_, rfl, _, rfl, _, rfl, .ref p, rows, pp, t, rfl, ht, G, hn, htr, hex, fun m hd H1 u full s1 hh => ?_⟩
    have o := Mt.upto_ok u
    obtain ⟨q0, ho⟩ := Mt.owned o.valid full G.few htr
    have hq0 := (o.valid.inv q0 t).mpr ho
    have hqn : q0 < rows.length := Mt.row_lt (o.valid.tie q0 t hq0)
    refine ⟨_, rfl, p, C, dx, _, v, rfl, s1 _ _ hp, tc.cl, tc.nR, tf_rows _ _, _, rfl, false, v, rows, hd, m, rfl, (hR.q).same s1, hh, o.valid.inv, o.late, by omega, fun fl M H2 s2 ffl hfl bits => ?_⟩
    have hh2 := s2 _ _ hh
    refine ⟨_, rfl, .inl ⟨rfl, _, SqL.of hh2⟩, _, rfl, hd, _, .int t, q0, _, rfl, rfl, SqL.of hh2, rfl, held_flat _ _, heldV_get hqn, by rw [hq0]; exact beq_self_eq_true t, fun j z hj hz => ?_, fl, _, _, _, rfl, rfl, SqL.of hfl, at_nat (numL_get hqn), M q0, rfl, ?_, fun a H3 s3 hs3 => ?_⟩
    · rw [heldV_get (by omega)] at hz
      cases e : m.h j with
      | none => rw [e] at hz; cases hz; rfl
      | some u =>
        rw [e] at hz
        cases hz
        have ne : u ≠ t := fun z => by
          rw [z] at e
          have := o.valid.inj e hq0
          omega
        exact beq_eq_false_iff_ne.mpr ne
    · have := bits_le o.valid hqn (bits q0 hqn)
      omega
    · have F : FillOf rows t (Mt.reached (Builtin.Int.intBits ((M q0 : Nat) : Int)) (M q0)) := ⟨m, q0, M q0, u, full, ho, bits q0 hqn, rfl⟩
      have s03 := (s1.trans s2).trans s3
      refine ⟨_, rfl, _, rfl, a, _, rfl, .inr hs3, rfl, flat_nats _, _, rfl, ?_⟩
      by_cases hl : Mt.Live rows pp t
      · rw [show (if false = true then !inV (V.int (pp : Int)) ((Mt.reached (Builtin.Int.intBits ((M q0 : Nat) : Int)) (M q0)).map nV) else inV (V.int (pp : Int)) ((Mt.reached (Builtin.Int.intBits ((M q0 : Nat) : Int)) (M q0)).map nV)) = true from by
          rw [if_neg (by decide)]
          exact (inV_nats pp _).trans (decide_eq_true ((F.live G htr).mpr hl))]
        exact k1 hl H3 s03
      · rw [show (if false = true then !inV (V.int (pp : Int)) ((Mt.reached (Builtin.Int.intBits ((M q0 : Nat) : Int)) (M q0)).map nV) else inV (V.int (pp : Int)) ((Mt.reached (Builtin.Int.intBits ((M q0 : Nat) : Int)) (M q0)).map nV)) = false from by
          rw [if_neg (by decide)]
          exact (inV_nats pp _).trans (decide_eq_false fun z => hl ((F.live G htr).mp z))]
        exact ⟨_, rfl, k2 _ hl F a H3 s03 hs3⟩
def spIsFilled (K : PySem.W.Frag) (C : Addr) : Sp := fun vs H Q _ => ∃ (x y : V) (rows : List (List Int)) (p : Nat) (t : Int) (o : Option (List V)), vs = [x, .int (p : Int), .int t, y] ∧ TableAt K C H x rows ∧ Good rows ∧ rows.length ≤ 40 ∧ t ∈ Mt.row rows p ∧ (∃ D, Mt.Ds rows D) ∧ Tg K C H y o ∧ ∀ H', Same H H' → Q (.bl (fillO rows p t o)) H'
theorem ok_is_filled (A : At K mg "is_filled_lot" s_is_filled_lot ["table", "person", "thing", "lot"]) (T : Tx mg) (tc : TC K C) (G_held_for_tie : Dfn P w K mg base "_held_for_tie" ["table", "person", "thing"] 4 (spHeldTie K C)) (G_is_ascending : Dfn P w K mg base "is_ascending" ["bound", "thing"] 4 (spAsc K C)) (G_things_of : Dfn P w K mg base "things_of" ["rows"] 1 (spThings K)) (G_rows_of : Dfn P w K mg base "rows_of" ["rows", "people"] 1 (spRowsOf K)) : Dfn P w K mg base "is_filled_lot" ["table", "person", "thing", "lot"] 5 (spIsFilled K C) := by
  refine A.ok sc_is_filled_lot (fun vs H Q E h => ?_) (fun f cdv A outer s H vs Q E hr h => ?_)
  · obtain ⟨x, y, rows, p, t, o, rfl, _⟩ := h
    rfl
  · obtain ⟨x, y, rows, pp, t, o, rfl, ht, G, hn, htr, hex, hy, k⟩ := h
    obtain ⟨p, dx, v, rfl, hp, hR⟩ := id ht
    refine ⟨_, (pss_cons (ps_expr (pe_d G_held_for_tie (hr.mono (by decide)) (pa_cons (pv 0) (pa_cons (pv 1) (pa_cons (pv 2) pa_nil)))))
      (pss_cons (ps_if (PW.pt (pw_or (pt_not (pt_val (pe_d G_is_ascending (hr.mono (by decide)) (pa_cons (pe_fld (pv 0) rfl) (pa_cons (pv 3) pa_nil))))) (pw_or1 (pt_cmpR op_in_seq (pv 1) (pv 3) rfl)))) (pss_one (ps_ret pe_bl)) pss_nil)
      (pss_cons (ps_set (i := 4) sc_is_filled_lot.nd rfl (Or.inl rfl) (pe_d G_things_of (hr.mono (by decide)) (pa_cons (pe_d G_rows_of (hr.mono (by decide)) (pa_cons (pe_fld (pv 0) rfl) (pa_cons (pv 3) pa_nil))) pa_nil)))
      (pss_one (ps_ret (pe_and (pe_cmpR op_eq (pe_callB c_len (by rfl) T.len (by decide +kernel) (pa_cons (pv 4) pa_nil)) (pe_callB c_len (by rfl) T.len (by decide +kernel) (pa_cons (pv 3) pa_nil)) (nomark _)) (pe_one (pe_cmpR op_in_seq (pv 2) (pv 4) rfl)))))))), ?_⟩
    refine ⟨_, rfl, _, rfl, _, rfl, .ref p, rows, pp, t, rfl, ht, G, hn, htr, hex, fun m hd H0 u full s0 hh => ?_⟩
    have hp0 := s0 _ _ hp
    refine ⟨_, rfl, p, C, dx, _, _, rfl, hp0, tc.cl, tc.nS, tf_size _ _, _, rfl, _, y, o, rfl, hy.same s0, fun H1 s01 => ⟨_, rfl, ?_⟩⟩
    have s1 := s0.trans s01
    cases hasc : ascOf rows.length o with
    | false =>
      have e : fillO rows pp t o = false := by
        cases o with
        | none => rfl
        | some xs =>
          show (ascV rows.length xs && _) = false
          rw [show ascV rows.length xs = false from hasc, Bool.false_and]
      rw [e] at k
      exact k H1 s1
    | true =>
      cases hy with
      | no ty hk => cases hasc
      | @tup a xs hq hi hz =>
        have hasc' : ascV rows.length xs = true := hasc
        have hall : xs.all (numV rows.length) = true := by
          rw [ascV_eq, Bool.and_eq_true] at hasc'
          exact hasc'.1
        obtain ⟨ns, rfl, hb⟩ := all_num_ints hall
        have pw := asc_of_V hasc'
        have h0 : ∀ x ∈ ns, 0 ≤ x := fun x hx => (hb x hx).1
        obtain ⟨ps, eps⟩ : ∃ ps, ps = (ns.map V.int).map natV := ⟨_, rfl⟩
        have back := nat_back h0
        rw [← eps] at back
        have pl : ps.length = ns.length := by rw [eps, List.length_map, List.length_map]
        have nl : ns.length ≤ rows.length := asc_len pw hb
        have plt : ∀ q ∈ ps, q < rows.length := fun q hq => by
          rw [eps, List.map_map] at hq
          obtain ⟨z, hz, rfl⟩ := List.mem_map.mp hq
          have := hb z hz
          show z.toNat < _
          omega
        have hbig : (Mt.things (ps.map (Mt.row rows))).length ≤ 4000 := by
          have := flat_len (n := rows.length) (l := ps.map (Mt.row rows)) fun r hr => by
            obtain ⟨q, _, rfl⟩ := List.mem_map.mp hr
            exact G.row_all q
          rw [List.length_map] at this
          have h2 : ps.length * rows.length ≤ 40 * 40 := Nat.mul_le_mul (by omega) hn
          show (ps.map (Mt.row rows)).flatten.length ≤ 4000
          omega
        have hq1 := sqT_same s1 hq
        rw [back] at hq1
        have e : fillO rows pp t (some (ns.map V.int)) = (!inV (nV pp) (ps.map nV) && (decide ((gotL rows ps).length = ps.length) && decide (t ∈ gotL rows ps))) := by
          show (ascV rows.length (ns.map V.int) && (!inV (nV pp) (ns.map V.int) && (decide ((gotL rows ((ns.map V.int).map natV)).length = (ns.map V.int).length) && decide (t ∈ gotL rows ((ns.map V.int).map natV))))) = _
          rw [hasc', Bool.true_and, ← eps, back, List.length_map]
        rw [e] at k
        refine ⟨_, rfl, _, rfl, a, _, rfl, .inr hq1, rfl, flat_nats _, _, rfl, ?_⟩
        cases hin : inV (V.int (pp : Int)) (ps.map nV) with
        | true =>
          rw [show (!inV (nV pp) (ps.map nV)) = false from by rw [show inV (nV pp) (ps.map nV) = true from hin]; rfl, Bool.false_and] at k
          exact k H1 s1
        | false =>
          rw [show (!inV (nV pp) (ps.map nV)) = true from by rw [show inV (nV pp) (ps.map nV) = false from hin]; rfl, Bool.true_and] at k
          refine ⟨_, rfl, p, C, dx, _, v, rfl, s1 _ _ hp, tc.cl, tc.nR, tf_rows _ _, _, rfl, false, v, rows, a, ps, rfl, (hR.q).same s1, ⟨false, hq1⟩, by omega, plt, fun l H2 s2 hx2 => ?_⟩
          refine ⟨true, false, .ref l, _, rfl, hx2, hbig, fun ks L H3 s3 asc mem hL => ?_⟩
          have ek : ks = gotL rows ps := asc_ext asc gotL_asc fun z => (mem z).trans G.mem_got.symm
          rw [← ek] at k
          have k3 := k H3 ((s1.trans s2).trans s3)
          have hq3 := sqT_same (s2.trans s3) hq1
          refine ⟨_, rfl, L, _, rfl, .inl hL, _, rfl, a, _, rfl, .inr hq3, rfl, _, rfl, ?_⟩
          have e1 : decide (V.int (((ks.map V.int).length : Nat) : Int) = V.int (((ps.map nV).length : Nat) : Int)) = decide (ks.length = ps.length) := by
            rw [List.length_map, List.length_map]
            refine decide_eq_decide.mpr ⟨fun h => ?_, fun h => by rw [h]⟩
            injection h with h
            omega
          rw [e1]
          cases hc : decide (ks.length = ps.length) with
          | false =>
            rw [hc, Bool.false_and] at k3
            exact k3
          | true =>
            rw [hc, Bool.true_and] at k3
            refine ⟨_, rfl, _, rfl, L, _, rfl, .inl hL, rfl, all_flat_ints _, ?_⟩
            rw [show (if false = true then !inV (V.int t) (ks.map V.int) else inV (V.int t) (ks.map V.int)) = decide (t ∈ ks) from by rw [if_neg (by decide), inV_ints]]
            exact k3
end
end Fo

set_option maxRecDepth 100000
set_option maxHeartbeats 2000000
namespace Fo
open PySem PySem.Spec PyProof.Rows L2
theorem isi_exact {prog : Program} {w : World} {A : Around} {E : Value → Shared → Prop} {s : Shared} {a : Addr} {o : Obj} {Q : Value → Shared → Prop} (ho : s.heap.get? a = some o) (h : Q (.bool true) s) :
    wpAny (model prog w) A (call (.builtin "isinstance") [.ref a, o.cls]) Q E s := by
  refine call_isinstance (S := fun _ R s' => s'.heap.get? a = some o ∧ R (.ok (.ret (.bool true))) s') (fun prog w A R s hs => isinstance_outer ?_) ⟨ho, h⟩
  obtain ⟨h1, h2⟩ := hs
  unfold Builtin.«isinstance.nested»
  refine wpAny_bind (wpAny_typeOf_ref h1 ?_)
  refine wpAny_ite_true (by simp) ?_
  refine wpAny_bind ?_
  wp_step
  exact wpAny_pure h2
/-- isinstance of a caught error and its own class -/
def rIsX (cls : Value) (a : Addr) : List V → Hp → VK → Prop := fun xs H Q => ∃ D : Addr, cls = .ref D ∧ xs = [.ref a, .ref D] ∧ Q (.bl true) H
theorem call_isX {X : Cx} {a : Addr} {oe : Obj} {pn : List (Addr × Obj)} {cls : Value} {d : Option Addr} (hz : Zc cls d oe) : CallR (X.suite a ((a, oe) :: pn)) (.builtin "isinstance") (rIsX cls a) := by
  intro pins s σ H xs us Q I r h
  obtain ⟨D, rfl, rfl, q⟩ := h
  cases r with
  | cons r0 r1 =>
    cases r1 with
    | cons r2 r3 =>
      cases r3
      cases r0
      cases r2
      have hp := (I.pin (a, oe) (by simp)).1
      have e := isi_exact (prog := X.prog) (w := X.w) (A := (X.suite a ((a, oe) :: pn)).A) (E := (X.suite a ((a, oe) :: pn)).xe) (Q := EP (X.suite a ((a, oe) :: pn)) pins σ Q) hp ⟨.bl true, H, I, rfl, q⟩
      rw [hz.1] at e
      exact e
end Fo

set_option maxRecDepth 100000
set_option maxHeartbeats 2000000
/-! isinstance of a caught error that has a dict of its own, true or false. -/
namespace Fo
open PySem PySem.Spec PyProof.Rows L2
structure XcC (K : PySem.W.Frag) (D : Addr) : Prop where
  hc : (PySem.W.clsIn K D).isSome = true
  hg : PySem.W.findIn K (.ref D) "__getattribute__" = some (some (.builtin "BaseException.__getattribute__"))
  hk : PySem.W.findIn K (.ref D) "__getattr__" = some none
  hs : PySem.W.subIn K (.ref D) (.type "BaseException") = some true
  ha : PySem.W.findIn K (.ref D) "__class__" = some (some (.builtin "object.__class__"))
  hn : PySem.W.specialIn K (.builtin "object.__class__") "__get__" = some (some (.builtin "getset_descriptor.__get__"))
  ht : PySem.W.takesIn K (.builtin "object.__class__") = some true
  hm : PySem.W.mroIn K D (.type "object") = some true
def rIsX2 (K : PySem.W.Frag) (cls : Value) (d : Option Addr) (a : Addr) : List V → Hp → VK → Prop := fun xs H Q => ∃ (D D2 dd : Addr) (b : Bool) (fs : List (Str × V)), cls = .ref D ∧ xs = [.ref a, .ref D2] ∧ d = some dd ∧ H dd = some (.xd fs) ∧ XcC K D ∧ PySem.W.kitOne K (.ref D) (.ref D2) = some b ∧ Q (.bl b) H
theorem call_isX2 {X : Cx} {a : Addr} {oe : Obj} {pn : List (Addr × Obj)} {cls : Value} {d : Option Addr} (hz : Zc cls d oe) (hf : ∃ vs, oe.data = .fields vs) : CallR (X.suite a ((a, oe) :: pn)) (.builtin "isinstance") (rIsX2 X.K cls d a) := by
  intro pins s σ H xs us Q I r h
  obtain ⟨D, D2, dd, b, fs, rfl, rfl, rfl, ed, C, e, q⟩ := h
  cases r with
  | cons r0 r1 =>
    cases r1 with
    | cons r2 r3 =>
      cases r3
      cases r0
      cases r2
      obtain ⟨hget, _⟩ := I.pin (a, oe) (List.mem_append.mpr (.inl List.mem_cons_self))
      obtain ⟨vs, hv⟩ := hf
      have hx : ObjOk X.prog X.w H s.heap dd (.xd fs) := I.hok dd _ ed
      obtain ⟨mA, hns, hr⟩ := hx
      obtain ⟨od, ho, hl⟩ := lookIn_ns hns
      have J : PySem.W.InstAt s.heap a oe D (some od) := ⟨hget, hz.1, by unfold PySem.W.notCls; rw [hv] <;> rfl, by rw [hz.2]; exact ho⟩
      exact PySem.W.kia_one (PySem.W.kitx_exc C.hc C.hg C.hk C.hs C.ha C.hn C.ht C.hm) I.kIn J e (fun z => nomatch z) fun tk => ⟨.bl b, H, I.kept (t' := tk) fun _ _ z => z, rfl, q⟩
theorem kit_same {K : PySem.W.Frag} {D : Addr} : PySem.W.kitOne K (.ref D) (.ref D) = some true := by
  unfold PySem.W.kitOne
  rw [if_pos (beq_self_eq_true _)]
theorem kit_other {K : PySem.W.Frag} {D D2 : Addr} (h1 : (PySem.W.clsIn K D2).isSome = true) (h2 : PySem.W.typeIn K (.ref D2) = some (.type "type")) (h3 : PySem.W.subIn K (.ref D) (.ref D2) = some false) (h4 : PySem.W.subIn K (.ref D2) (.ref D2) = some true) : PySem.W.kitOne K (.ref D) (.ref D2) = some false := by
  have ne : (Value.ref D == Value.ref D2) = false := by
    rw [beq_eq_false_iff_ne]
    intro q
    cases q
    rw [h3] at h4
    cases h4
  have e2 : ((PySem.W.clsIn K D2).isSome && PySem.W.typeIn K (.ref D2) == some (.type "type")) = true := by rw [h1, h2] <;> rfl
  unfold PySem.W.kitOne
  rw [ne, if_neg (by decide)]
  show (if ((PySem.W.clsIn K D2).isSome && PySem.W.typeIn K (.ref D2) == some (.type "type")) = true then PySem.W.subIn K (.ref D) (.ref D2) else none) = some false
  rw [if_pos e2]
  exact h3
end Fo

set_option maxRecDepth 100000
set_option maxHeartbeats 4000000
/-! errors without fields: their making, isinstance of such a caught one. -/
namespace Fo
open PySem PySem.Spec PyProof.Rows L2
/-- the promise of an __init__ that does nothing -/
def spPass : Sp := fun vs H Q _ => ∃ a : Addr, vs = [.ref a] ∧ Q .non H
section
variable {X : Cx}
theorem mk_endN {pins : List (Addr × Obj)} {σ : L2.St} {H1 : Hp} {Q : XK} {hp hp2 h2 : Heap} {g1 g2 : Array GenState} {d1 d2 : Drawn} {t1 t2 : Nat} {os1 os2 : OsState} {a C : Addr} (T : Raises X (.ref C)) (I1 : Inv X pins σ H1 ⟨hp, g1, d1, t1, os1⟩)
    (ha : hp.objs.size ≤ a) (k : ∀ b o, hp.get? b = some o → hp2.get? b = some o) (un : Un (frs X.stack) [] (upd H1 a (exo a C none)) (upd H1 a (exo a C none)) hp2 h2) (hok : HOk X.prog X.w (upd H1 a (exo a C none)) h2) (ho : os2 = os1) (hb : AllBare g2)
    (q : Q (.ref C) none H1) : MkP X pins σ Q (.ref a) ⟨h2, g2, d2, t2, os2⟩ := by
  have ea : upd H1 a (exo a C none) a = some (exo a C none) := upd_same
  obtain ⟨t0, hoe⟩ := exo_at hok ea
  have hn : H1 a = none := I1.hok.fresh ha
  obtain ⟨G, g1', g2'⟩ := restrict h2 fun b => decide (b ≠ a)
  have gk : ∀ b, b ≠ a → G.get? b = h2.get? b := fun b hb => g1' b (decide_eq_true hb)
  have ge : G.get? a = none := g2' a (by simp)
  have nha : ∀ {b : Addr} {o : Obj}, hp.get? b = some o → b ≠ a := fun {b o} z => Nat.ne_of_lt (Nat.lt_of_lt_of_le (Heap.lt_size z) ha)
  have up : ∀ {b : Addr}, b ≠ a → H1 b = none → upd H1 a (exo a C none) b = none := fun {b} hb n => by rw [upd_ne hb]; exact n
  have U : Un (frs X.stack) [] H1 H1 hp G := {
    keep := fun b o z n hf hx => by
      rw [gk b (nha z)]
      exact un.keep b o (k b o z) (up (nha z) n) hf hx
    slot := fun b o z n hf hx => by
      rw [gk b (nha z)]
      exact un.slot b o (k b o z) (up (nha z) n) hf hx
    free := fun b o z n hx => n
    there := fun b o z hx => by
      rw [gk b (nha z)]
      exact un.there b o (k b o z) hx
    tups := fun b xs z => z
    frzs := fun b o v z => z
    tbls := fun b ps z => ⟨#[], by rw [Array.append_empty]; exact z⟩ }
  have hok3 : HOk X.prog X.w H1 G := fun b o z => by
    have hba : b ≠ a := ne_of_none z hn
    have z2 : upd H1 a (exo a C none) b = some o := by rw [upd_ne hba]; exact z
    have noa : ∀ {c : Addr}, upd H1 a (exo a C none) c = some (.own b) → c ≠ a := fun {c} hc => at_ne ea hc exo_own
    exact (hok b o z2).stay (fun c v hc y => by
        have hca : c ≠ a := by
          rcases hc with hc | hc
          · rw [hc]
            exact hba
          · exact noa hc
        rw [gk c hca]
        exact y)
      (fun c hc => by
        have := noa hc
        rw [upd_ne this] at hc
        exact hc) (fun c xs hc => by
        have := at_ne ea hc exo_tup
        rw [upd_ne this] at hc
        exact hc)
  have J : Inv X pins σ H1 ⟨G, g2, d2, t2, os2⟩ := I1.call' (ch := []) ho U hok3 hb (fun b z => absurd z (by simp))
  refine ⟨a, _, _, ⟨G, g2, d2, t2, os2⟩, _, .ref C, none, rfl, J, fun b o z => ?_, ge, hoe, ⟨rfl, rfl⟩, rfl, rfl, hn, rfl, hb, T, q⟩
  by_cases hba : b = a
  · rw [hba, ge] at z
    cases z
  · exact (gk b hba).symm.trans z
theorem pmk_oex0 {x : Str} {C fI : Addr} {k : Nat} {fd : FuncData} {p pos : Pos} (T : OexC X.K C) (iC : PySem.W.findIn X.K (.ref C) "__init__" = some (some (.ref fI))) (tI : PySem.W.typeIn X.K (.ref fI) = some (.type "function"))
    (F1 : FnOk X.prog X.w X.K X.mg X.base CX0 k fI fd ["self"] spPass) (hr : Room (k + 1) X.A) (hb : Binds X.K fd ["self"] []) (hg : Gl X x) (hm : X.mg x = some (.ref C))
    (hdb : (x == ("__debug__" : Str)) = false := by decide) : PMk X (.Call (.Name x p) [] [] pos) (fun _ H Q => Q (.ref C) none H) := by
  intro pins s σ H Q I h
  obtain ⟨nm, q, N, bs, bm, sn, sub, ab, col, dd, k0, k1, k2, k3, k5, hC, hbm⟩ := T.cls
  refine wpAny_Call_Name_kw (ld_glob I hg hm ?_ hdb)
  refine PySem.W.callWith_K0 I.kIn T.kC ?_
  show wpAny _ _ (call (.ref C) []) _ _ _
  obtain ⟨hp, g, dr, tk, os⟩ := s
  have hsz : hp.objs.size ≤ hp.objs.size + 1 := Nat.le_succ _
  have hn : H (hp.objs.size + 1) = none := I.hok.fresh hsz
  have kk : ∀ b o, hp.get? b = some o → ((hp.push (PySem.W.kdv_tup [])).push (PySem.HandSPX.excO C hp.objs.size)).get? b = some o := fun b o e => Heap.get?_push_of_some _ (Heap.get?_push_of_some _ e)
  have hget : ((hp.push (PySem.W.kdv_tup [])).push (PySem.HandSPX.excO C hp.objs.size)).get? (hp.objs.size + 1) = some (PySem.HandSPX.excO C hp.objs.size) := by heap_get
  have I2 : Inv X pins σ (upd H (hp.objs.size + 1) (exo (hp.objs.size + 1) C none)) ⟨(hp.push (PySem.W.kdv_tup [])).push (PySem.HandSPX.excO C hp.objs.size), g, dr, tk, os⟩ :=
    I.laid (t' := tk) (a := hp.objs.size + 1) (o := exo (hp.objs.size + 1) C none) (h' := (hp.push (PySem.W.kdv_tup [])).push (PySem.HandSPX.excO C hp.objs.size)) kk hsz (exo_ok hget)
  have r2 : Vals [V.ref (hp.objs.size + 1)] [Value.ref (hp.objs.size + 1)] := .cons rfl .nil
  refine wpAny_call (PySem.HandSPX.call_own F.excBase_ValueError (fun Y => PySem.HandSPX.refsVE_contains Y bm hbm) (I.kIn _ _ hC) (PySem.W.looks_findIn I.kIn iC) (fun self => PySem.W.bind_fn I.kIn self tI) (by show 0 ≤ sizeLine; decide)
    (codeAny_mono (F1.run _ X.stack _ (upd H (hp.objs.size + 1) (exo (hp.objs.size + 1) C none)) ⟨[Value.ref (hp.objs.size + 1)], []⟩ [Value.ref (hp.objs.size + 1)] _ (fun v H2 => v = .non ∧ H2 = upd H (hp.objs.size + 1) (exo (hp.objs.size + 1) C none) ∧ Q (.ref C) none H) (fun _ _ _ => False) (hr.make C [] []) (I2.env0.make C [] []) (hb _ [Value.ref (hp.objs.size + 1)] I2.kIn rfl) r2 ⟨_, rfl, rfl, rfl, h⟩) fun r s' hq' => ?_))
  cases r with
  | error er => exact pass0 pins σ _ _ er s' I2 hq'
  | ok fl =>
    cases fl with
    | ret u =>
      obtain ⟨v, H2, os2, bare2, un2, hok2, rv, ev, eH, q2⟩ := hq'
      subst ev
      subst eH
      obtain ⟨h2, g2, d2, t2, os'⟩ := s'
      exact ⟨rv, mk_endN (raises_own T.exC T.tyC) I hsz kk un2 hok2 os2 bare2 q2⟩
    | next => exact False.elim hq'
    | brk => exact False.elim hq'
    | cont => exact False.elim hq'
end
/-- isinstance of a caught error without a dict of its own -/
def rIsX0 (K : PySem.W.Frag) (cls : Value) (d : Option Addr) (a : Addr) : List V → Hp → VK → Prop := fun xs H Q => ∃ (D : Addr) (y : V) (u : Value) (b : Bool), cls = .ref D ∧ xs = [.ref a, y] ∧ (∀ z, RelV y z → z = u) ∧ d = none ∧ XcC K D ∧ PySem.W.kitOne K (.ref D) u = some b ∧ Q (.bl b) H
theorem call_isX0 {X : Cx} {a : Addr} {oe : Obj} {pn : List (Addr × Obj)} {cls : Value} {d : Option Addr} (hz : Zc cls d oe) (hf : ∃ vs, oe.data = .fields vs) : CallR (X.suite a ((a, oe) :: pn)) (.builtin "isinstance") (rIsX0 X.K cls d a) := by
  intro pins s σ H xs us Q I r h
  obtain ⟨D, y, u, b, rfl, rfl, hy, rfl, C, e, q⟩ := h
  cases r with
  | cons r0 r1 =>
    cases r1 with
    | cons r2 r3 =>
      cases r3
      cases r0
      have := hy _ r2
      subst this
      obtain ⟨hget, _⟩ := I.pin (a, oe) (List.mem_append.mpr (.inl List.mem_cons_self))
      obtain ⟨vs, hv⟩ := hf
      have J : PySem.W.InstAt s.heap a oe D none := ⟨hget, hz.1, by unfold PySem.W.notCls; rw [hv] <;> rfl, by rw [hz.2]; trivial⟩
      exact PySem.W.kia_one (PySem.W.kitx_exc C.hc C.hg C.hk C.hs C.ha C.hn C.ht C.hm) I.kIn J e (fun z => nomatch z) fun tk => ⟨.bl b, H, I.kept (t' := tk) fun _ _ z => z, rfl, q⟩
/-! ### defs that raise, called by name -/
structure DfnX (P : Program) (w : World) (K : PySem.W.Frag) (mg : Str → Option Value) (base : Heap) (x : Str) (ps : List Str) (k : Nat) (sp : Sp) : Prop where
  ex : ∃ f fd, mg x = some (.ref f) ∧ PySem.W.keepIn K (.ref f) = true ∧ FnOk P w K mg base (CX P w) k f fd ps sp ∧ Binds K fd ps []
theorem pe_dX {X : Cx} {x : Str} {ps : List Str} {k : Nat} {sp : Sp} {E : XK} {e : Expr} {es : List Expr} {t : TA} {p pos : Pos} (G : DfnX X.prog X.w X.K X.mg X.base x ps k sp) (hr : Room k X.A) (hx : Passes (CX X.prog X.w) X E) (ha : PA X (e :: es) t) (hg : Gl X x := by rfl)
    (hdb : (x == ("__debug__" : Str)) = false := by decide) (he : starEach (e :: es) X.env = (false, eval e X.env) :: starEach es X.env := by rfl) (hpl : (backTo pos (starEach es X.env)).any (·.1) = false := by rfl) :
    PE X (.Call (.Name x p) (e :: es) [] pos) (tCall sp [] E t) := by
  obtain ⟨f, fd, hm, kp, F, b⟩ := G.ex
  exact pe_call F hr hg hm kp b .nil hx ha hdb he hpl
theorem At.okX {P : Program} {w : World} {K : PySem.W.Frag} {mg : Str → Option Value} {base : Heap} {x : Str} {st : Stmt} {N ps : List Str} {k : Nat} {sp : Sp} (a : At K mg x st ps) (S : FnScope N ps (defScope st)) (len : ∀ vs H Q E, sp vs H Q E → vs.length = ps.length)
    (hbody : ∀ (f : Addr) (cdv : Value) (A : Around) (outer : List Env) (s : Shared) (H : Hp) (vs : List V) (Q : VK) (E : XK), Room k (A.deeper (envOfC x (defScope st) s.heap.objs.size f cdv)) → sp vs H Q E →
      ∃ t, PSs (cxOf (L2.CX P w) P w K mg base N x (defScope st) f cdv A outer s H E) (defBody st) t ∧ t { nx := fun _ H' => Q .non H', rt := Q } (start N vs) H) : DfnX P w K mg base x ps (k + 1) sp := by
  obtain ⟨f, fd, hm, F, b⟩ := a.ex
  exact ⟨f, fd, hm, F.kp, F.okX S len (hbody f), b⟩
/-- what is known of an error's class, without fields -/
structure Er0 (P : Program) (w : World) (K : PySem.W.Frag) (mg : Str → Option Value) (base : Heap) (x : Str) (D : Addr) : Prop where
  oex : OexC K D
  gC : mg x = some (.ref D)
  ini : ∃ fI fd, PySem.W.findIn K (.ref D) "__init__" = some (some (.ref fI)) ∧ PySem.W.typeIn K (.ref fI) = some (.type "function") ∧ FnOk P w K mg base CX0 1 fI fd ["self"] spPass ∧ Binds K fd ["self"] []
theorem pmk_er0 {X : Cx} {x : Str} {D : Addr} {p pos : Pos} (T : Er0 X.prog X.w X.K X.mg X.base x D) (hr : Room 2 X.A) (hg : Gl X x) (hdb : (x == ("__debug__" : Str)) = false := by decide) : PMk X (.Call (.Name x p) [] [] pos) (fun _ H Q => Q (.ref D) none H) := by
  obtain ⟨fI, fd, iC, tI, F1, hb⟩ := T.ini
  exact pmk_oex0 T.oex iC tI F1 hr hb hg T.gC hdb
theorem cxMono {P : Program} {w : World} {outer : List Env} {H : Hp} {s : Shared} {E E' : XK} {e : Value} {s' : Shared} (h : CX P w outer H s E e s') (m : ∀ cls d H, E cls d H → E' cls d H) : CX P w outer H s E' e s' := by
  obtain ⟨a, B, H', cls, d, h1, h2, h3, h4, h5, h6, h7, h8⟩ := h
  exact ⟨a, B, H', cls, d, h1, h2, h3, h4, h5, h6, h7, m _ _ _ h8⟩
/-! ### list.count of flat things -/
theorem cnt_vals {y : V} : ∀ {ys : List V} {its : List Value}, Vals ys its → ys.all flatV = true → its.countP (eqU y) = ys.countP fun z => eqV z y
  | _, _, .nil, _ => rfl
  | _, _, .cons r t, h => by
    rw [List.all_cons, Bool.and_eq_true] at h
    rw [List.countP_cons, List.countP_cons, cnt_vals t h.2, eqU_of r h.1]
def rCntV (K : PySem.W.Frag) : V → List V → Hp → VK → Prop := fun x xs H Q => ∃ (p : Addr) (ys : List V) (y : V), x = .ref p ∧ xs = [y] ∧ SqL K H p ys ∧ flatV y = true ∧ ys.all flatV = true ∧ Q (.int ((ys.countP fun z => eqV z y : Nat) : Int)) H
theorem mt_countV {X : Cx} : MtR X "list.count" (rCntV X.K) := by
  intro pins s σ H x xs v us Q I rx rxs h
  obtain ⟨p, ys, y, rfl, rfl, hs, fy, fys, q⟩ := h
  cases rx
  cases rxs with
  | cons ry rt =>
    rename_i uy ut
    cases rt
    obtain ⟨its, rv, ⟨⟨cls, dd, data, sl⟩, n, ho, hc, hdn, hd⟩, hlen⟩ := I.list hs
    simp only at hc hd
    subst hc hd
    refine call_meets PySem.F.slot_list_count ⟨_, ho, rfl⟩ PySem.F.entry_list_count (PySem.F.args_list_count_2 _ _)
      (SeqAt.list_countAt p its.toArray n dd sl uy (eqU y)) ⟨ho, fun u' hu' => mem_eqAt ry fy rv fys u' (by simpa using hu'), ?_⟩
    have ec : its.toArray.toList.countP (eqU y) = ys.countP fun z => eqV z y := cnt_vals rv fys
    refine ⟨.int ((ys.countP fun z => eqV z y : Nat) : Int), H, I.tok _, ⟨s.toks, ?_⟩, q⟩
    show Value.int ((its.toArray.toList.countP (eqU y) : Nat) : Int) s.toks = _
    rw [ec]
end Fo

set_option maxRecDepth 100000
set_option maxHeartbeats 4000000
namespace Fo
open PySem PySem.Spec PyProof.Rows L2

open Classical in
noncomputable def dueT (rows : List (List Int)) (x y : V) : Option Nat :=
  if numV rows.length x = true then (if numV rows.length y = true then (if ∃ (p : Nat) (t : Int), x = .int (p : Int) ∧ y = .int t ∧ t ∈ Mt.row rows p then (if ∃ D, Mt.Ds rows D then none else some 3) else some 2) else some 1) else some 0
theorem due0 {rows : List (List Int)} {x y : V} (h : numV rows.length x = false) : dueT rows x y = some 0 := by
  unfold dueT
  rw [h, if_neg (by decide)]
theorem due1 {rows : List (List Int)} {x y : V} (h : numV rows.length x = true) (h2 : numV rows.length y = false) : dueT rows x y = some 1 := by
  unfold dueT
  rw [h, if_pos rfl, h2, if_neg (by decide)]
theorem due2 {rows : List (List Int)} {p : Nat} {t : Int} (hp : p < rows.length) (h0 : 0 ≤ t) (h1 : t < rows.length) (h : t ∉ Mt.row rows p) : dueT rows (.int (p : Int)) (.int t) = some 2 := by
  unfold dueT
  rw [num_true (by omega) (by omega), if_pos rfl, num_true h0 h1, if_pos rfl, if_neg]
  rintro ⟨q, u, e1, e2, hm⟩
  injection e1 with e1
  injection e2 with e2
  have : q = p := by omega
  subst this
  subst e2
  exact h hm
theorem due3 {rows : List (List Int)} (G : Good rows) {p : Nat} {t : Int} (h : t ∈ Mt.row rows p) (hD : ∀ D, ¬ Mt.Ds rows D) : dueT rows (.int (p : Int)) (.int t) = some 3 := by
  have hp := Mt.row_lt h
  have ht := G.row_rng h
  unfold dueT
  rw [num_true (by omega) (by omega), if_pos rfl, num_true ht.1 ht.2, if_pos rfl, if_pos ⟨p, t, rfl, rfl, h⟩, if_neg fun ⟨D, d⟩ => hD D d]
theorem due4 {rows : List (List Int)} (G : Good rows) {p : Nat} {t : Int} (h : t ∈ Mt.row rows p) (hD : ∃ D, Mt.Ds rows D) : dueT rows (.int (p : Int)) (.int t) = none := by
  have hp := Mt.row_lt h
  have ht := G.row_rng h
  unfold dueT
  rw [num_true (by omega) (by omega), if_pos rfl, num_true ht.1 ht.2, if_pos rfl, if_pos ⟨p, t, rfl, rfl, h⟩, if_pos hD]
theorem num_is {b : Int} {x : V} (h : numV b x = true) : ∃ i, x = .int i ∧ 0 ≤ i ∧ i < b := by
  cases x with
  | int i =>
    have h' : (decide (0 ≤ i) && decide (i < b)) = true := h
    rw [Bool.and_eq_true] at h'
    exact ⟨i, rfl, of_decide_eq_true h'.1, of_decide_eq_true h'.2⟩
  | _ => cases h
section
variable {P : Program} {w : World} {K : PySem.W.Frag} {mg : Str → Option Value} {base : Heap} {C NP NT NI ST : Addr}
def spCkX (K : PySem.W.Frag) (C D : Addr) : Sp := fun vs H Q E => ∃ (x y : V) (rows : List (List Int)), vs = [x, y] ∧ TableAt K C H x rows ∧ Th K C H y ∧ (numV rows.length y = true → Q .non H) ∧ (numV rows.length y = false → E (.ref D) none H)
theorem ok_ckpX (A : At K mg "check_person" s_check_person ["table", "person"]) (tc : TC K C) (er_NoPerson : Er0 P w K mg base "NoPerson" NP) (G_is_number : Dfn P w K mg base "is_number" ["bound", "thing"] 2 (spNumber K C)) : DfnX P w K mg base "check_person" ["table", "person"] 3 (spCkX K C NP) := by
  refine A.okX sc_check_person (fun vs H Q E h => ?_) (fun f cdv A outer s H vs Q E hr h => ?_)
  · obtain ⟨x, y, rows, rfl, _⟩ := h
    rfl
  · obtain ⟨x, y, rows, rfl, ⟨p, dx, v, rfl, hp, hR⟩, hy, k1, k2⟩ := h
    refine ⟨_, (pss_one (ps_if (pt_not (pt_val (pe_d G_is_number (hr.mono (by decide)) (pa_cons (pe_fld (pv 0) rfl) (pa_cons (pv 1) pa_nil))))) (pss_one (ps_raise rfl (takes_of rfl rfl rfl rfl) (pmk_er0 er_NoPerson (hr.mono (by decide)) rfl))) pss_nil)), ?_⟩
    refine ⟨_, rfl, p, C, dx, _, _, rfl, hp, tc.cl, tc.nS, tf_size _ _, _, rfl, _, _, rfl, hy, _, rfl, ?_⟩
    cases hc : numV rows.length y with
    | true => exact k1 hc
    | false => exact k2 hc
theorem ok_cktX (A : At K mg "check_thing" s_check_thing ["table", "thing"]) (tc : TC K C) (er_NoThing : Er0 P w K mg base "NoThing" NT) (G_is_number : Dfn P w K mg base "is_number" ["bound", "thing"] 2 (spNumber K C)) : DfnX P w K mg base "check_thing" ["table", "thing"] 3 (spCkX K C NT) := by
  refine A.okX sc_check_thing (fun vs H Q E h => ?_) (fun f cdv A outer s H vs Q E hr h => ?_)
  · obtain ⟨x, y, rows, rfl, _⟩ := h
    rfl
  · obtain ⟨x, y, rows, rfl, ⟨p, dx, v, rfl, hp, hR⟩, hy, k1, k2⟩ := h
    refine ⟨_, (pss_one (ps_if (pt_not (pt_val (pe_d G_is_number (hr.mono (by decide)) (pa_cons (pe_fld (pv 0) rfl) (pa_cons (pv 1) pa_nil))))) (pss_one (ps_raise rfl (takes_of rfl rfl rfl rfl) (pmk_er0 er_NoThing (hr.mono (by decide)) rfl))) pss_nil)), ?_⟩
    refine ⟨_, rfl, p, C, dx, _, _, rfl, hp, tc.cl, tc.nS, tf_size _ _, _, rfl, _, _, rfl, hy, _, rfl, ?_⟩
    cases hc : numV rows.length y with
    | true => exact k1 hc
    | false => exact k2 hc
def erOf (NP NT NI ST : Addr) : Nat → Addr
  | 0 => NP
  | 1 => NT
  | 2 => NI
  | _ => ST
def spHeldX (K : PySem.W.Frag) (C NP NT NI ST : Addr) : Sp := fun vs H Q E => ∃ (z x y : V) (rows : List (List Int)), vs = [z, x, y] ∧ TableAt K C H z rows ∧ Good rows ∧ rows.length ≤ 40 ∧ Th K C H x ∧ Th K C H y ∧
  (∀ c, dueT rows x y = some c → ∀ H', Same H H' → E (.ref (erOf NP NT NI ST c)) none H') ∧
  ∀ (p : Nat) (t : Int) m l H', x = .int (p : Int) → y = .int t → t ∈ Mt.row rows p → (∃ D, Mt.Ds rows D) → Mt.Upto rows rows.length m → Mt.Full rows m → Same H H' → H' l = some (.lst (heldV rows.length m.h)) → Q (.ref l) H'
theorem ok_heldX (A : At K mg "_held_for_tie" s_held_for_tie ["table", "person", "thing"]) (T : Tx mg) (tc : TC K C) (er_NoTie : Er0 P w K mg base "NoTie" NI) (er_Stuck : Er0 P w K mg base "Stuck" ST) (G_check_person : DfnX P w K mg base "check_person" ["table", "person"] 3 (spCkX K C NP)) (G_check_thing : DfnX P w K mg base "check_thing" ["table", "thing"] 3 (spCkX K C NT)) (G_matched : Dfn P w K mg base "matched" ["rows"] 3 (spMatched K)) : DfnX P w K mg base "_held_for_tie" ["table", "person", "thing"] 4 (spHeldX K C NP NT NI ST) := by
  refine A.okX sc_held_for_tie (fun vs H Q E h => ?_) (fun f cdv A outer s H vs Q E hr h => ?_)
  · obtain ⟨z, x, y, rows, rfl, _⟩ := h
    rfl
  · obtain ⟨z, x, y, rows, rfl, ht, G, hn, hx, hy, k1, k2⟩ := h
    obtain ⟨p, dx, v, rfl, hp, hR⟩ := id ht
    obtain ⟨ra, rvs, rfl, hra, hrt⟩ := id hR
    refine ⟨_, (pss_cons (ps_expr (pe_dX G_check_person (hr.mono (by decide)) (fun pins σ H s e s' I h => passAt (takes_of rfl rfl rfl rfl) σ pins H s e s' I h) (pa_cons (pv 0) (pa_cons (pv 1) pa_nil))))
      (pss_cons (ps_expr (pe_dX G_check_thing (hr.mono (by decide)) (fun pins σ H s e s' I h => passAt (takes_of rfl rfl rfl rfl) σ pins H s e s' I h) (pa_cons (pv 0) (pa_cons (pv 2) pa_nil))))
      (pss_cons (ps_if (pt_cmpR op_notIn_seq (pv 2) (pe_ix ix_tup (pe_fld (pv 0) rfl) (pv 1) (fun _ _ => rfl)) rfl) (pss_one (ps_raise rfl (takes_of rfl rfl rfl rfl) (pmk_er0 er_NoTie (hr.mono (by decide)) rfl))) pss_nil)
      (pss_cons (ps_set (i := 3) sc_held_for_tie.nd rfl (Or.inl rfl) (pe_d G_matched (hr.mono (by decide)) (pa_cons (pe_fld (pv 0) rfl) pa_nil)))
      (pss_cons (ps_if (pt_cmpR op_in_seq pe_non (pv 3) rfl) (pss_one (ps_raise rfl (takes_of rfl rfl rfl rfl) (pmk_er0 er_Stuck (hr.mono (by decide)) rfl))) pss_nil)
      (pss_one (ps_ret (pv 3)))))))), ?_⟩
    refine ⟨_, rfl, _, rfl, .ref p, x, rows, rfl, ht, hx, fun nx => ?_, fun nx => k1 0 (due0 nx) H (Same.refl H)⟩
    refine ⟨_, rfl, _, rfl, .ref p, y, rows, rfl, ht, hy, fun ny => ?_, fun ny => k1 1 (due1 nx ny) H (Same.refl H)⟩
    obtain ⟨i, rfl, i0, i1⟩ := num_is nx
    obtain ⟨t, rfl, t0, t1⟩ := num_is ny
    obtain ⟨pp, rfl⟩ : ∃ pp : Nat, i = (pp : Int) := ⟨i.toNat, by omega⟩
    have pr : pp < rows.length := by omega
    obtain ⟨q, hq1, hq2⟩ := hrt.get (List.getElem?_eq_getElem pr)
    have er : Mt.row rows pp = rows[pp] := Mt.row_get (List.getElem?_eq_getElem pr)
    rw [← er] at hq2
    have big : 40 * 40 ≤ 90000 := by decide
    refine ⟨_, rfl, _, rfl, p, C, dx, _, _, rfl, hp, tc.cl, tc.nR, tf_rows _ _, _, rfl, ra, rvs, (pp : Int), .ref q, rfl, rfl, hra, at_nat hq1, q, _, rfl, .inr hq2, rfl, all_flat_ints _, _, rfl, ?_⟩
    by_cases htr : t ∈ Mt.row rows pp
    · rw [show (if true = true then !inV (V.int t) ((Mt.row rows pp).map V.int) else inV (V.int t) ((Mt.row rows pp).map V.int)) = false from by rw [if_pos rfl, inV_ints, decide_eq_true htr]; rfl]
      refine ⟨_, rfl, p, C, dx, _, _, rfl, hp, tc.cl, tc.nR, tf_rows _ _, false, .ref ra, rows, rfl, hR.q, Nat.le_trans (G.few_things hn) big, by omega, fun m hd H1 u s1 f1 hh => ?_⟩
      have o := Mt.upto_ok u
      refine ⟨_, rfl, hd, _, rfl, .inl (SqL.of hh), rfl, held_flat _ _, _, rfl, ?_⟩
      rcases Mt.full_or o with full | ⟨q, h1, h2, h3⟩
      · rw [show (if false = true then !inV V.non (heldV rows.length m.h) else inV V.non (heldV rows.length m.h)) = false from by
          rw [if_neg (by decide), non_in]
          exact decide_eq_false fun ⟨p, a, b⟩ => full p a b]
        exact ⟨_, rfl, k2 pp t m hd H1 rfl rfl htr ⟨_, (Mt.dealt_ok o.valid full).1⟩ u full s1 hh⟩
      · rw [show (if false = true then !inV V.non (heldV rows.length m.h) else inV V.non (heldV rows.length m.h)) = true from by
          rw [if_neg (by decide), non_in]
          exact decide_eq_true ⟨q, h1, h2⟩]
        exact k1 3 (due3 G htr h3) H1 s1
    · rw [show (if true = true then !inV (V.int t) ((Mt.row rows pp).map V.int) else inV (V.int t) ((Mt.row rows pp).map V.int)) = true from by rw [if_pos rfl, inV_ints, decide_eq_false htr]; rfl]
      exact k1 2 (due2 pr t0 t1 htr) H (Same.refl H)
def spFilledX (K : PySem.W.Frag) (C NP NT NI ST : Addr) : Sp := fun vs H Q E => ∃ (z x y : V) (rows : List (List Int)), vs = [z, x, y] ∧ TableAt K C H z rows ∧ Good rows ∧ rows.length ≤ 40 ∧ Th K C H x ∧ Th K C H y ∧
  (∀ c, dueT rows x y = some c → ∀ H', Same H H' → E (.ref (erOf NP NT NI ST c)) none H') ∧
  (dueT rows x y = none → ∀ v H', Same H H' → (v = .non ∨ ∃ (a : Addr) (L : List Nat), v = .ref a ∧ L.length ≤ rows.length ∧ SqT K H' a (L.map nV)) → Q v H')
theorem ok_filledX (A : At K mg "filled_lot" s_filled_lot ["table", "person", "thing"]) (T : Tx mg) (tc : TC K C) (G_held_for_tie : DfnX P w K mg base "_held_for_tie" ["table", "person", "thing"] 4 (spHeldX K C NP NT NI ST)) (G_reaches : Dfn P w K mg base "reaches" ["rows", "held"] 2 (spReaches K)) (G_people_of : Dfn P w K mg base "people_of" ["mask"] 1 (spPeople K)) : DfnX P w K mg base "filled_lot" ["table", "person", "thing"] 5 (spFilledX K C NP NT NI ST) := by
  refine A.okX sc_filled_lot (fun vs H Q E h => ?_) (fun f cdv A outer s H vs Q E hr h => ?_)
  · obtain ⟨z, x, y, rows, rfl, _⟩ := h
    rfl
  · obtain ⟨z, x, y, rows, rfl, ht, G, hn, hx, hy, k1, k2⟩ := h
    obtain ⟨p, dx, v, rfl, hp, hR⟩ := id ht
    refine ⟨_, (pss_cons (ps_set (i := 3) sc_filled_lot.nd rfl (Or.inl rfl) (pe_dX G_held_for_tie (hr.mono (by decide)) (fun pins σ H s e s' I h => passAt (takes_of rfl rfl rfl rfl) σ pins H s e s' I h) (pa_cons (pv 0) (pa_cons (pv 1) (pa_cons (pv 2) pa_nil)))))
      (pss_cons (ps_set (i := 4) sc_filled_lot.nd rfl (Or.inl rfl) (pe_d G_people_of (hr.mono (by decide)) (pa_cons (pe_ix ix_list (pe_d G_reaches (hr.mono (by decide)) (pa_cons (pe_fld (pv 0) rfl) (pa_cons (pv 3) pa_nil))) (pe_bm PySem.F.plainAttrs_list PySem.F.slot_list_index PySem.F.type_list_index mt_index (pv 3) (pa_cons (pv 2) pa_nil)) (fun _ _ => rfl)) pa_nil)))
      (pss_one (ps_ret (pe_ifExp (pt_cmpR op_in_seq (pv 1) (pv 4) rfl) pe_non (pv 4)))))), ?_⟩
    refine ⟨_, rfl, _, rfl, _, rfl, .ref p, x, y, rows, rfl, ht, G, hn, hx, hy, k1, fun pp t m hd H1 ex ey htr hex u full s1 hh => ?_⟩
    subst ex
    subst ey
    have k := k2 (due4 G htr hex)
    have o := Mt.upto_ok u
    obtain ⟨q0, ho⟩ := Mt.owned o.valid full G.few htr
    have hq0 := (o.valid.inv q0 t).mpr ho
    have hqn : q0 < rows.length := Mt.row_lt (o.valid.tie q0 t hq0)
    refine ⟨_, rfl, p, C, dx, _, v, rfl, s1 _ _ hp, tc.cl, tc.nR, tf_rows _ _, _, rfl, false, v, rows, hd, m, rfl, (hR.q).same s1, hh, o.valid.inv, o.late, by omega, fun fl M H2 s2 ffl hfl bits => ?_⟩
    have hh2 := s2 _ _ hh
    refine ⟨_, rfl, .inl ⟨rfl, _, SqL.of hh2⟩, _, rfl, hd, _, .int t, q0, _, rfl, rfl, SqL.of hh2, rfl, held_flat _ _, heldV_get hqn, by rw [hq0]; exact beq_self_eq_true t, fun j z hj hz => ?_, fl, _, _, _, rfl, rfl, SqL.of hfl, at_nat (numL_get hqn), M q0, rfl, ?_, fun a H3 s3 hs3 => ?_⟩
    · rw [heldV_get (by omega)] at hz
      cases e : m.h j with
      | none => rw [e] at hz; cases hz; rfl
      | some u =>
        rw [e] at hz
        cases hz
        have ne : u ≠ t := fun z => by
          rw [z] at e
          have := o.valid.inj e hq0
          omega
        exact beq_eq_false_iff_ne.mpr ne
    · have := bits_le o.valid hqn (bits q0 hqn)
      omega
    · have F : FillOf rows t (Mt.reached (Builtin.Int.intBits ((M q0 : Nat) : Int)) (M q0)) := ⟨m, q0, M q0, u, full, ho, bits q0 hqn, rfl⟩
      have hL := F.lot G
      have Ll : (Mt.reached (Builtin.Int.intBits ((M q0 : Nat) : Int)) (M q0)).length ≤ rows.length := by
        have := Mt.len_le (l2 := List.range rows.length) hL.nd fun x hx => List.mem_range.mpr (hL.lt x hx)
        rwa [List.length_range] at this
      have s03 := (s1.trans s2).trans s3
      refine ⟨_, rfl, _, rfl, a, _, rfl, .inr hs3, rfl, flat_nats _, _, rfl, ?_⟩
      cases (if false = true then !inV (V.int (pp : Int)) ((Mt.reached (Builtin.Int.intBits ((M q0 : Nat) : Int)) (M q0)).map nV) else inV (V.int (pp : Int)) ((Mt.reached (Builtin.Int.intBits ((M q0 : Nat) : Int)) (M q0)).map nV)) with
      | true => exact k .non H3 s03 (.inl rfl)
      | false => exact ⟨_, rfl, k (.ref a) H3 s03 (.inr ⟨a, _, rfl, Ll, hs3⟩)⟩
def spIsFilledX (K : PySem.W.Frag) (C NP NT NI ST : Addr) : Sp := fun vs H Q E => ∃ (z x y lt : V) (rows : List (List Int)), vs = [z, x, y, lt] ∧ TableAt K C H z rows ∧ Good rows ∧ rows.length ≤ 40 ∧ Th K C H x ∧ Th K C H y ∧
  (∀ c, dueT rows x y = some c → ∀ H', Same H H' → E (.ref (erOf NP NT NI ST c)) none H') ∧
  (dueT rows x y = none → ∃ o, Tg K C H lt o ∧ ∀ (p : Nat) (t : Int) H', x = .int (p : Int) → y = .int t → Same H H' → Q (.bl (fillO rows p t o)) H')
theorem ok_isfilledX (A : At K mg "is_filled_lot" s_is_filled_lot ["table", "person", "thing", "lot"]) (T : Tx mg) (tc : TC K C) (G_held_for_tie : DfnX P w K mg base "_held_for_tie" ["table", "person", "thing"] 4 (spHeldX K C NP NT NI ST)) (G_is_ascending : Dfn P w K mg base "is_ascending" ["bound", "thing"] 4 (spAsc K C)) (G_things_of : Dfn P w K mg base "things_of" ["rows"] 1 (spThings K)) (G_rows_of : Dfn P w K mg base "rows_of" ["rows", "people"] 1 (spRowsOf K)) : DfnX P w K mg base "is_filled_lot" ["table", "person", "thing", "lot"] 5 (spIsFilledX K C NP NT NI ST) := by
  refine A.okX sc_is_filled_lot (fun vs H Q E h => ?_) (fun f cdv A outer s H vs Q E hr h => ?_)
  · obtain ⟨z, x, y, lt, rows, rfl, _⟩ := h
    rfl
  · obtain ⟨z, xx, yy, y, rows, rfl, ht, G, hn, hx, hyy, k1, k2⟩ := h
    obtain ⟨p, dx, v, rfl, hp, hR⟩ := id ht
    refine ⟨_, (pss_cons (ps_expr (pe_dX G_held_for_tie (hr.mono (by decide)) (fun pins σ H s e s' I h => passAt (takes_of rfl rfl rfl rfl) σ pins H s e s' I h) (pa_cons (pv 0) (pa_cons (pv 1) (pa_cons (pv 2) pa_nil)))))
      (pss_cons (ps_if (PW.pt (pw_or (pt_not (pt_val (pe_d G_is_ascending (hr.mono (by decide)) (pa_cons (pe_fld (pv 0) rfl) (pa_cons (pv 3) pa_nil))))) (pw_or1 (pt_cmpR op_in_seq (pv 1) (pv 3) rfl)))) (pss_one (ps_ret pe_bl)) pss_nil)
      (pss_cons (ps_set (i := 4) sc_is_filled_lot.nd rfl (Or.inl rfl) (pe_d G_things_of (hr.mono (by decide)) (pa_cons (pe_d G_rows_of (hr.mono (by decide)) (pa_cons (pe_fld (pv 0) rfl) (pa_cons (pv 3) pa_nil))) pa_nil)))
      (pss_one (ps_ret (pe_and (pe_cmpR op_eq (pe_callB c_len (by rfl) T.len (by decide +kernel) (pa_cons (pv 4) pa_nil)) (pe_callB c_len (by rfl) T.len (by decide +kernel) (pa_cons (pv 3) pa_nil)) (nomark _)) (pe_one (pe_cmpR op_in_seq (pv 2) (pv 4) rfl)))))))), ?_⟩
    refine ⟨_, rfl, _, rfl, _, rfl, .ref p, xx, yy, rows, rfl, ht, G, hn, hx, hyy, k1, fun pp t m hd H0 ex ey htr hex u full s0 hh => ?_⟩
    subst ex
    subst ey
    obtain ⟨o, hy, k0⟩ := k2 (due4 G htr hex)
    have k : ∀ H', Same H H' → Q (.bl (fillO rows pp t o)) H' := fun H' s => k0 pp t H' rfl rfl s
    have hp0 := s0 _ _ hp
    refine ⟨_, rfl, p, C, dx, _, _, rfl, hp0, tc.cl, tc.nS, tf_size _ _, _, rfl, _, y, o, rfl, hy.same s0, fun H1 s01 => ⟨_, rfl, ?_⟩⟩
    have s1 := s0.trans s01
    cases hasc : ascOf rows.length o with
    | false =>
      have e : fillO rows pp t o = false := by
        cases o with
        | none => rfl
        | some xs =>
          show (ascV rows.length xs && _) = false
          rw [show ascV rows.length xs = false from hasc, Bool.false_and]
      rw [e] at k
      exact k H1 s1
    | true =>
      cases hy with
      | no ty hk => cases hasc
      | @tup a xs hq hi hz =>
        have hasc' : ascV rows.length xs = true := hasc
        have hall : xs.all (numV rows.length) = true := by
          rw [ascV_eq, Bool.and_eq_true] at hasc'
          exact hasc'.1
        obtain ⟨ns, rfl, hb⟩ := all_num_ints hall
        have pw := asc_of_V hasc'
        have h0 : ∀ x ∈ ns, 0 ≤ x := fun x hx => (hb x hx).1
        obtain ⟨ps, eps⟩ : ∃ ps, ps = (ns.map V.int).map natV := ⟨_, rfl⟩
        have back := nat_back h0
        rw [← eps] at back
        have pl : ps.length = ns.length := by rw [eps, List.length_map, List.length_map]
        have nl : ns.length ≤ rows.length := asc_len pw hb
        have plt : ∀ q ∈ ps, q < rows.length := fun q hq => by
          rw [eps, List.map_map] at hq
          obtain ⟨z, hz, rfl⟩ := List.mem_map.mp hq
          have := hb z hz
          show z.toNat < _
          omega
        have hbig : (Mt.things (ps.map (Mt.row rows))).length ≤ 4000 := by
          have := flat_len (n := rows.length) (l := ps.map (Mt.row rows)) fun r hr => by
            obtain ⟨q, _, rfl⟩ := List.mem_map.mp hr
            exact G.row_all q
          rw [List.length_map] at this
          have h2 : ps.length * rows.length ≤ 40 * 40 := Nat.mul_le_mul (by omega) hn
          show (ps.map (Mt.row rows)).flatten.length ≤ 4000
          omega
        have hq1 := sqT_same s1 hq
        rw [back] at hq1
        have e : fillO rows pp t (some (ns.map V.int)) = (!inV (nV pp) (ps.map nV) && (decide ((gotL rows ps).length = ps.length) && decide (t ∈ gotL rows ps))) := by
          show (ascV rows.length (ns.map V.int) && (!inV (nV pp) (ns.map V.int) && (decide ((gotL rows ((ns.map V.int).map natV)).length = (ns.map V.int).length) && decide (t ∈ gotL rows ((ns.map V.int).map natV))))) = _
          rw [hasc', Bool.true_and, ← eps, back, List.length_map]
        rw [e] at k
        refine ⟨_, rfl, _, rfl, a, _, rfl, .inr hq1, rfl, flat_nats _, _, rfl, ?_⟩
        cases hin : inV (V.int (pp : Int)) (ps.map nV) with
        | true =>
          rw [show (!inV (nV pp) (ps.map nV)) = false from by rw [show inV (nV pp) (ps.map nV) = true from hin]; rfl, Bool.false_and] at k
          exact k H1 s1
        | false =>
          rw [show (!inV (nV pp) (ps.map nV)) = true from by rw [show inV (nV pp) (ps.map nV) = false from hin]; rfl, Bool.true_and] at k
          refine ⟨_, rfl, p, C, dx, _, v, rfl, s1 _ _ hp, tc.cl, tc.nR, tf_rows _ _, _, rfl, false, v, rows, a, ps, rfl, (hR.q).same s1, ⟨false, hq1⟩, by omega, plt, fun l H2 s2 hx2 => ?_⟩
          refine ⟨true, false, .ref l, _, rfl, hx2, hbig, fun ks L H3 s3 asc mem hL => ?_⟩
          have ek : ks = gotL rows ps := asc_ext asc gotL_asc fun z => (mem z).trans G.mem_got.symm
          rw [← ek] at k
          have k3 := k H3 ((s1.trans s2).trans s3)
          have hq3 := sqT_same (s2.trans s3) hq1
          refine ⟨_, rfl, L, _, rfl, .inl hL, _, rfl, a, _, rfl, .inr hq3, rfl, _, rfl, ?_⟩
          have e1 : decide (V.int (((ks.map V.int).length : Nat) : Int) = V.int (((ps.map nV).length : Nat) : Int)) = decide (ks.length = ps.length) := by
            rw [List.length_map, List.length_map]
            refine decide_eq_decide.mpr ⟨fun h => ?_, fun h => by rw [h]⟩
            injection h with h
            omega
          rw [e1]
          cases hc : decide (ks.length = ps.length) with
          | false =>
            rw [hc, Bool.false_and] at k3
            exact k3
          | true =>
            rw [hc, Bool.true_and] at k3
            refine ⟨_, rfl, _, rfl, L, _, rfl, .inl hL, rfl, all_flat_ints _, ?_⟩
            rw [show (if false = true then !inV (V.int t) (ks.map V.int) else inV (V.int t) (ks.map V.int)) = decide (t ∈ ks) from by rw [if_neg (by decide), inV_ints]]
            exact k3
end
end Fo

set_option maxRecDepth 100000
set_option maxHeartbeats 4000000
namespace Fo
open PySem PySem.Spec PyProof.Rows L2
abbrev s_law_told : Stmt := top 49
abbrev n_law_told : List Str := ["which", "table", "person", "thing", "lot", "found", "e", "flags"]
theorem sc_law_told : FnScope n_law_told ["which", "table", "person", "thing", "lot"] (defScope s_law_told) := ⟨rfl, rfl, rfl, by decide +kernel, rfl, by decide +kernel, by decide +kernel⟩
theorem due_lt {rows : List (List Int)} {x y : V} {c : Nat} (h : dueT rows x y = some c) : c = 0 ∨ c = 1 ∨ c = 2 ∨ c = 3 := by
  unfold dueT at h
  split at h
  · split at h
    · split at h
      · split at h
        · cases h
        · cases h; exact .inr (.inr (.inr rfl))
      · cases h; exact .inr (.inr (.inl rfl))
    · cases h; exact .inr (.inl rfl)
  · cases h; exact .inl rfl
/-- a tie of a table with a dealing -/
theorem due_none {rows : List (List Int)} {x y : V} (h : dueT rows x y = none) : ∃ (p : Nat) (t : Int), x = .int (p : Int) ∧ y = .int t ∧ t ∈ Mt.row rows p ∧ ∃ D, Mt.Ds rows D := by
  unfold dueT at h
  split at h
  · split at h
    · split at h
      · rename_i ht
        obtain ⟨p, t, h1, h2, h3⟩ := ht
        split at h
        · rename_i hd
          exact ⟨p, t, h1, h2, h3, hd⟩
        · cases h
      · cases h
    · cases h
  · cases h
def nmOf : Nat → Str
  | 0 => "NoPerson"
  | 1 => "NoThing"
  | 2 => "NoTie"
  | _ => "Stuck"
/-- what is known of the four errors' classes -/
structure Er4 (K : PySem.W.Frag) (mg : Str → Option Value) (DE : Addr) (er : Nat → Addr) : Prop where
  gDE : mg "DrawError" = some (.ref DE)
  g0 : mg "NoPerson" = some (.ref (er 0))
  g1 : mg "NoThing" = some (.ref (er 1))
  g2 : mg "NoTie" = some (.ref (er 2))
  g3 : mg "Stuck" = some (.ref (er 3))
  gVE : mg "ValueError" = none
  xm : ∀ c, c ≤ 3 → PySem.W.exmOne K (.ref (er c)) (.ref DE) = some true
  xc : ∀ c, c ≤ 3 → XcC K (er c)
  kk : ∀ c j, c ≤ 3 → j ≤ 3 → PySem.W.kitOne K (.ref (er c)) (.ref (er j)) = some (decide (c = j))
  kv : ∀ c, c ≤ 3 → PySem.W.kitOne K (.ref (er c)) (.type "ValueError") = some true
section
variable {P : Program} {w : World} {K : PySem.W.Frag} {mg : Str → Option Value} {base : Heap} {C NP NT NI ST DE : Addr}
def spTold18 (K : PySem.W.Frag) (C : Addr) : Sp := fun vs H Q _ => ∃ (k : Int) (z x y lt : V) (rows : List (List Int)), vs = [.int k, z, x, y, lt] ∧ (k = 0 ∨ k = 1) ∧ TableAt K C H z rows ∧ Good rows ∧ rows.length ≤ 40 ∧ Th K C H x ∧ Th K C H y ∧
  (∀ c, dueT rows x y = some c → ∀ H', Same H H' → Q (.str (nmOf c)) H') ∧
  (dueT rows x y = none → (k = 0 → ∀ u H', (u = "lot" ∨ u = "none") → Same H H' → Q (.str u) H') ∧
    (k = 1 → ∃ o, Tg K C H lt o ∧ ∀ (p : Nat) (t : Int) H', x = .int (p : Int) → y = .int t → Same H H' → Q (.bl (fillO rows p t o)) H'))
theorem ok_told18 (A : At K mg "_law_told" s_law_told ["which", "table", "person", "thing", "lot"]) (T : Tx mg) (E4 : Er4 K mg DE (erOf NP NT NI ST)) (G_filled_lot : DfnX P w K mg base "filled_lot" ["table", "person", "thing"] 5 (spFilledX K C NP NT NI ST)) (G_is_filled_lot : DfnX P w K mg base "is_filled_lot" ["table", "person", "thing", "lot"] 5 (spIsFilledX K C NP NT NI ST)) : Dfn P w K mg base "_law_told" ["which", "table", "person", "thing", "lot"] 7 (spTold18 K C) := by
  refine A.ok sc_law_told (fun vs H Q E h => ?_) (fun f cdv A outer s H vs Q E hr h => ?_)
  · obtain ⟨k, z, x, y, lt, rows, rfl, _⟩ := h
    rfl
  · obtain ⟨k, z, x, y, lt, rows, rfl, hk, ht, G, hn, hx, hy, k1, k2⟩ := h
    refine ⟨_, (pss_cons (ps_set (i := 5) sc_law_told.nd rfl (Or.inl rfl) pe_non)
      (pss_cons (ps_try_as (i := 6) rfl rfl sc_law_told.nd rfl rfl ⟨rfl, by decide, .inl E4.gDE⟩ takes0
        (fun W pn xe tk po => pss_one (ps_if (pt_cmpR op_eq (pv 0) pe_int (nomark _))
          (pss_one (ps_set (i := 5) sc_law_told.nd rfl (Or.inl rfl) (show PE _ _ (tOp (rIxL K) (tLst (tCons (tC (V.str "lot")) (tCons (tC (V.str "none")) tNil))) (tCB rIntOf (tCons (tOp rIsN (tCall (spFilledX K C NP NT NI ST) [] (fun cls d H => ∀ σ : L2.St, σ.length = 8 → W cls d σ H) (tCons (tVar 1) (tCons (tVar 2) (tCons (tVar 3) tNil)))) (tC V.non)) tNil))) from pe_ix ix_list (pe_lst (pa_cons pe_str (pa_cons pe_str pa_nil))) (pe_callTy c_int (by rfl) T.int (by decide +kernel) (pa_cons (pe_cmpR op_isN (pe_dX (E := fun cls d H => ∀ σ : L2.St, σ.length = 8 → W cls d σ H) G_filled_lot (hr.mono (by decide)) (fun pins σ H s e s' I h => passAt tk σ pins H s e s' I (cxMono h fun cls d H q => q σ I.len)) (pa_cons (pv 1) (pa_cons (pv 2) (pa_cons (pv 3) pa_nil)))) pe_non (nomark _)) pa_nil)) (fun _ _ => rfl))))
          (pss_one (ps_set (i := 5) sc_law_told.nd rfl (Or.inl rfl) (pe_dX (E := fun cls d H => ∀ σ : L2.St, σ.length = 8 → W cls d σ H) G_is_filled_lot (hr.mono (by decide)) (fun pins σ H s e s' I h => passAt tk σ pins H s e s' I (cxMono h fun cls d H q => q σ I.len)) (pa_cons (pv 1) (pa_cons (pv 2) (pa_cons (pv 3) (pa_cons (pv 4) pa_nil)))))))))
        (fun a oe cls d pn hz hf => pss_cons (ps_set (i := 7) sc_law_told.nd rfl (Or.inl rfl) (pe_lst (pa_cons (pe_callB (call_isX0 hz hf) (by rfl) T.isinstance (by decide +kernel) (pa_cons (pv 6) (pa_cons (pe_glob (v := V.ref (erOf NP NT NI ST 0)) (by rfl) E4.g0 rfl) pa_nil)))
            (pa_cons (pe_callB (call_isX0 hz hf) (by rfl) T.isinstance (by decide +kernel) (pa_cons (pv 6) (pa_cons (pe_glob (v := V.ref (erOf NP NT NI ST 1)) (by rfl) E4.g1 rfl) pa_nil)))
            (pa_cons (pe_callB (call_isX0 hz hf) (by rfl) T.isinstance (by decide +kernel) (pa_cons (pv 6) (pa_cons (pe_glob (v := V.ref (erOf NP NT NI ST 2)) (by rfl) E4.g2 rfl) pa_nil)))
            (pa_cons (pe_callB (call_isX0 hz hf) (by rfl) T.isinstance (by decide +kernel) (pa_cons (pv 6) (pa_cons (pe_glob (v := V.ref (erOf NP NT NI ST 3)) (by rfl) E4.g3 rfl) pa_nil))) pa_nil))))))
          (pss_cons (ps_set (i := 5) sc_law_told.nd rfl (Or.inl rfl) pe_str)
          (pss_one (ps_if (PW.pt (pw_and (pt_cmpR op_eq (show PE _ _ (tBM K "list" (rCntV K) (tVar 7) (tCons (tC (V.bl true)) tNil)) from pe_bm PySem.F.plainAttrs_list PySem.F.slot_list_count PySem.F.type_list_count mt_countV (pv 7) (pa_cons pe_bl pa_nil)) pe_int (nomark _)) (pw_and1 (pt_val (pe_callB (call_isX0 hz hf) (by rfl) T.isinstance (by decide +kernel) (pa_cons (pv 6) (pa_cons (pe_bltn (v := V.ty "ValueError") (by rfl) E4.gVE (by decide +kernel) rfl) pa_nil)))))))
            (pss_one (ps_set (i := 5) sc_law_told.nd rfl (Or.inl rfl) (show PE _ _ (tOp (rIxL K) (tLst (tCons (tC (V.str "NoPerson")) (tCons (tC (V.str "NoThing")) (tCons (tC (V.str "NoTie")) (tCons (tC (V.str "Stuck")) tNil))))) (tBM K "list" (rIndex K) (tVar 7) (tCons (tC (V.bl true)) tNil))) from pe_ix ix_list (pe_lst (pa_cons pe_str (pa_cons pe_str (pa_cons pe_str (pa_cons pe_str pa_nil))))) (pe_bm PySem.F.plainAttrs_list PySem.F.slot_list_index PySem.F.type_list_index mt_index (pv 7) (pa_cons pe_bl pa_nil)) (fun _ _ => rfl)))) pss_nil)))))
      (pss_one (ps_ret (pv 5))))), ?_⟩
    refine ⟨_, rfl, rfl, _, rfl, ?_⟩
    rcases hk with rfl | rfl
    · rw [show decide (V.int 0 = V.int 0) = true from rfl]
      refine ⟨by show 2 ≤ sizeLine; decide, fun o ho => ?_⟩
      have s0 := same_new (o := .lst [V.str "lot", V.str "none"]) ho
      refine ⟨_, rfl, _, rfl, _, rfl, z, x, y, rows, rfl, ht.same s0, G, hn, hx.same s0, hy.same s0, fun c hc H1 s01 σ hσ => ?_, fun hd v H1 s01 hv => ?_⟩
      · have s1 := s0.trans s01
        have hc4 := due_lt hc
        have c3 : c ≤ 3 := by omega
        refine ⟨true, E4.xm c c3, fun _ a ha => ?_, fun q => Bool.noConfusion q⟩
        match σ, hσ with
        | [y0, y1, y2, y3, y4, y5, y6, y7], _ =>
          refine ⟨_, rfl, _, _, _, _, rfl, rfl, fun z h => h, rfl, E4.xc c c3, E4.kk c 0 c3 (by decide), ?_⟩
          refine ⟨_, rfl, _, _, _, _, rfl, rfl, fun z h => h, rfl, E4.xc c c3, E4.kk c 1 c3 (by decide), ?_⟩
          refine ⟨_, rfl, _, _, _, _, rfl, rfl, fun z h => h, rfl, E4.xc c c3, E4.kk c 2 c3 (by decide), ?_⟩
          refine ⟨_, rfl, _, _, _, _, rfl, rfl, fun z h => h, rfl, E4.xc c c3, E4.kk c 3 c3 (by decide), ?_⟩
          refine ⟨by show 4 ≤ sizeLine; decide, fun fl hfl => ?_⟩
          refine ⟨_, rfl, .inl ⟨rfl, _, SqL.of upd_same⟩, fl, _, .bl true, rfl, rfl, SqL.of upd_same, rfl, rfl, rfl, _, rfl, ?_⟩
          have cn : decide (V.int (([V.bl (decide (c = 0)), V.bl (decide (c = 1)), V.bl (decide (c = 2)), V.bl (decide (c = 3))].countP fun z => eqV z (.bl true) : Nat) : Int) = V.int 1) = true := by
            rcases hc4 with rfl | rfl | rfl | rfl <;> decide
          rw [cn]
          refine ⟨_, rfl, _, _, _, _, rfl, rfl, fun z h => h, rfl, E4.xc c c3, E4.kv c c3, _, rfl, ?_⟩
          refine ⟨by show 4 ≤ sizeLine; decide, fun sl hsl => ?_⟩
          have hfl2 : upd (upd H1 fl (.lst [V.bl (decide (c = 0)), V.bl (decide (c = 1)), V.bl (decide (c = 2)), V.bl (decide (c = 3))])) sl (.lst [V.str "NoPerson", V.str "NoThing", V.str "NoTie", V.str "Stuck"]) fl = some (.lst [V.bl (decide (c = 0)), V.bl (decide (c = 1)), V.bl (decide (c = 2)), V.bl (decide (c = 3))]) := by
            rw [upd_ne (ne_of_none upd_same hsl)]
            exact upd_same
          refine ⟨_, rfl, .inl ⟨rfl, _, SqL.of hfl2⟩, fl, _, .bl true, c, .bl true, rfl, rfl, SqL.of hfl2, rfl, rfl, ?_, rfl, fun j z hj hz => ?_, ?_⟩
          · rcases hc4 with rfl | rfl | rfl | rfl <;> rfl
          · rcases hc4 with rfl | rfl | rfl | rfl
            · omega
            · have : j = 0 := by omega
              subst this
              cases hz
              rfl
            · have : j = 0 ∨ j = 1 := by omega
              rcases this with rfl | rfl <;> (cases hz; rfl)
            · have : j = 0 ∨ j = 1 ∨ j = 2 := by omega
              rcases this with rfl | rfl | rfl <;> (cases hz; rfl)
          · have s9 := (s1.trans (same_new (o := .lst [V.bl (decide (c = 0)), V.bl (decide (c = 1)), V.bl (decide (c = 2)), V.bl (decide (c = 3))]) hfl)).trans (same_new (o := .lst [V.str "NoPerson", V.str "NoThing", V.str "NoTie", V.str "Stuck"]) hsl)
            refine ⟨sl, _, (c : Int), .str (nmOf c), rfl, rfl, SqL.of upd_same, ?_, ?_⟩
            · rcases hc4 with rfl | rfl | rfl | rfl <;> rfl
            · exact ⟨_, rfl, k1 c hc _ s9⟩
      · have s1 := s0.trans s01
        have ho1 : H1 o = some (.lst [V.str "lot", V.str "none"]) := s01 _ _ upd_same
        have k3 := (k2 hd).1 rfl
        rcases hv with rfl | ⟨q, L, rfl, _, _⟩
        · refine ⟨rfl, .inr ⟨_, rfl, ?_⟩⟩
          rw [show decide (V.non = V.non) = true from decide_eq_true rfl]
          exact ⟨o, _, 1, .str "none", rfl, rfl, SqL.of ho1, rfl, _, rfl, k3 _ H1 (.inr rfl) s1⟩
        · refine ⟨rfl, .inr ⟨_, rfl, ?_⟩⟩
          rw [show decide (V.ref q = V.non) = false from decide_eq_false (by intro z; cases z)]
          exact ⟨o, _, 0, .str "lot", rfl, rfl, SqL.of ho1, rfl, _, rfl, k3 _ H1 (.inl rfl) s1⟩
    · rw [show decide (V.int 1 = V.int 0) = false from rfl]
      refine ⟨_, rfl, _, rfl, _, rfl, _, rfl, z, x, y, lt, rows, rfl, ht, G, hn, hx, hy, fun c hc H1 s1 σ hσ => ?_, fun hd => ?_⟩
      · skip
        have hc4 := due_lt hc
        have c3 : c ≤ 3 := by omega
        refine ⟨true, E4.xm c c3, fun _ a ha => ?_, fun q => Bool.noConfusion q⟩
        match σ, hσ with
        | [y0, y1, y2, y3, y4, y5, y6, y7], _ =>
          refine ⟨_, rfl, _, _, _, _, rfl, rfl, fun z h => h, rfl, E4.xc c c3, E4.kk c 0 c3 (by decide), ?_⟩
          refine ⟨_, rfl, _, _, _, _, rfl, rfl, fun z h => h, rfl, E4.xc c c3, E4.kk c 1 c3 (by decide), ?_⟩
          refine ⟨_, rfl, _, _, _, _, rfl, rfl, fun z h => h, rfl, E4.xc c c3, E4.kk c 2 c3 (by decide), ?_⟩
          refine ⟨_, rfl, _, _, _, _, rfl, rfl, fun z h => h, rfl, E4.xc c c3, E4.kk c 3 c3 (by decide), ?_⟩
          refine ⟨by show 4 ≤ sizeLine; decide, fun fl hfl => ?_⟩
          refine ⟨_, rfl, .inl ⟨rfl, _, SqL.of upd_same⟩, fl, _, .bl true, rfl, rfl, SqL.of upd_same, rfl, rfl, rfl, _, rfl, ?_⟩
          have cn : decide (V.int (([V.bl (decide (c = 0)), V.bl (decide (c = 1)), V.bl (decide (c = 2)), V.bl (decide (c = 3))].countP fun z => eqV z (.bl true) : Nat) : Int) = V.int 1) = true := by
            rcases hc4 with rfl | rfl | rfl | rfl <;> decide
          rw [cn]
          refine ⟨_, rfl, _, _, _, _, rfl, rfl, fun z h => h, rfl, E4.xc c c3, E4.kv c c3, _, rfl, ?_⟩
          refine ⟨by show 4 ≤ sizeLine; decide, fun sl hsl => ?_⟩
          have hfl2 : upd (upd H1 fl (.lst [V.bl (decide (c = 0)), V.bl (decide (c = 1)), V.bl (decide (c = 2)), V.bl (decide (c = 3))])) sl (.lst [V.str "NoPerson", V.str "NoThing", V.str "NoTie", V.str "Stuck"]) fl = some (.lst [V.bl (decide (c = 0)), V.bl (decide (c = 1)), V.bl (decide (c = 2)), V.bl (decide (c = 3))]) := by
            rw [upd_ne (ne_of_none upd_same hsl)]
            exact upd_same
          refine ⟨_, rfl, .inl ⟨rfl, _, SqL.of hfl2⟩, fl, _, .bl true, c, .bl true, rfl, rfl, SqL.of hfl2, rfl, rfl, ?_, rfl, fun j z hj hz => ?_, ?_⟩
          · rcases hc4 with rfl | rfl | rfl | rfl <;> rfl
          · rcases hc4 with rfl | rfl | rfl | rfl
            · omega
            · have : j = 0 := by omega
              subst this
              cases hz
              rfl
            · have : j = 0 ∨ j = 1 := by omega
              rcases this with rfl | rfl <;> (cases hz; rfl)
            · have : j = 0 ∨ j = 1 ∨ j = 2 := by omega
              rcases this with rfl | rfl | rfl <;> (cases hz; rfl)
          · have s9 := (s1.trans (same_new (o := .lst [V.bl (decide (c = 0)), V.bl (decide (c = 1)), V.bl (decide (c = 2)), V.bl (decide (c = 3))]) hfl)).trans (same_new (o := .lst [V.str "NoPerson", V.str "NoThing", V.str "NoTie", V.str "Stuck"]) hsl)
            refine ⟨sl, _, (c : Int), .str (nmOf c), rfl, rfl, SqL.of upd_same, ?_, ?_⟩
            · rcases hc4 with rfl | rfl | rfl | rfl <;> rfl
            · exact ⟨_, rfl, k1 c hc _ s9⟩
      · obtain ⟨o, hg, k4⟩ := (k2 hd).2 rfl
        exact ⟨o, hg, fun p t H1 e1 e2 s1 => ⟨_, rfl, k4 p t H1 e1 e2 s1⟩⟩
end
end Fo

set_option maxRecDepth 100000
set_option maxHeartbeats 4000000
namespace Fo
open PySem PySem.Spec PyProof.Rows L2
abbrev s_law_odd : Stmt := top 48
abbrev n_law_odd : List Str := ["tape", "thing"]
theorem sc_law_odd : FnScope n_law_odd ["tape", "thing"] (defScope s_law_odd) := ⟨rfl, rfl, rfl, by decide +kernel, rfl, by decide +kernel, by decide +kernel⟩
section
variable {P : Program} {w : World} {K : PySem.W.Frag} {mg : Str → Option Value} {base : Heap} {C : Addr}
def spOdd (K : PySem.W.Frag) (C : Addr) : Sp := fun vs H Q _ => ∃ (t l : Addr) (x : V), vs = [.ref t, x] ∧ Tape H t l ∧ (∀ n, Ng K C t 1 n H x) ∧ ∀ y H', Gr t H H' → Tape H' t l → (∀ n, Ng K C t 1 n H' y) → Q y H'
theorem ok_odd (A : At K mg "_law_odd" s_law_odd ["tape", "thing"]) (T : Tx mg) (G_law_deep : Dfn P w K mg base "_law_deep" [] 1 (spDeep K C)) (G_law_pick : Dfn P w K mg base "_law_pick" ["tape", "size"] 1 spPick) : Dfn P w K mg base "_law_odd" ["tape", "thing"] 2 (spOdd K C) := by
  refine A.ok sc_law_odd (fun vs H Q E h => ?_) (fun f cdv A outer s H vs Q E hr h => ?_)
  · obtain ⟨t, l, x, rfl, _⟩ := h
    rfl
  · obtain ⟨t, l, x, rfl, hT, hx, k⟩ := h
    refine ⟨_, (pss_one (ps_ret (pe_ix ix_list (pe_lst (pa_cons pe_non (pa_cons pe_bl (pa_cons pe_bl (pa_cons (pe_un un_neg pe_int) (pa_cons (pe_op op_pow pe_int pe_int) (pa_cons pe_str (pa_cons pe_str (pa_cons (pe_lst (pa_cons pe_int pa_nil)) (pa_cons pe_dnewK (pa_cons (pe_tup (pa_cons pe_int pa_nil)) (pa_cons (pe_tup pa_nil) (pa_cons (pe_d0 G_law_deep (hr.mono (by decide))) (pa_cons (pv 1) pa_nil)))))))))))))) (pe_d G_law_pick (hr.mono (by decide)) (pa_cons (pv 0) (pa_cons pe_int pa_nil))) (fun _ _ => rfl)))), ?_⟩
    refine ⟨_, rfl, _, _, rfl, rfl, by unfold CPow; decide, ?_⟩
    refine ⟨by show 1 ≤ sizeLine; decide, fun a1 h1 => fun a2 h2 => ⟨by show 1 ≤ sizeLine; decide, fun a3 h3 => ⟨by show 0 ≤ sizeLine; decide, fun a4 h4 => ⟨rfl, fun d H5 s5 hd => ⟨_, rfl, by show 13 ≤ sizeLine; decide, fun o ho => ?_⟩⟩⟩⟩⟩
    obtain ⟨H4, e4⟩ : ∃ H4, H4 = upd (upd (upd (upd H a1 (.lst [V.int 0])) a2 (.dK [])) a3 (.tup [V.int 0])) a4 (.tup []) := ⟨_, rfl⟩
    rw [← e4] at s5
    have sA := same_new (o := .lst [V.int 0]) h1
    have sB := same_new (o := .dK []) h2
    have sC := same_new (o := .tup [V.int 0]) h3
    have sD := same_new (o := .tup []) h4
    have s4 : Same H H4 := by rw [e4]; exact ((sA.trans sB).trans sC).trans sD
    have b1 : H4 a1 = some (.lst [V.int 0]) := by rw [e4]; exact sD _ _ (sC _ _ (sB _ _ upd_same))
    have b2 : H4 a2 = some (.dK []) := by rw [e4]; exact sD _ _ (sC _ _ upd_same)
    have b3 : H4 a3 = some (.tup [V.int 0]) := by rw [e4]; exact sD _ _ upd_same
    have b4 : H4 a4 = some (.tup []) := by rw [e4]; exact upd_same
    have T4 := hT.keep s4
    have n1 : a1 ≠ t := (hT.free h1).1
    have n2 : a2 ≠ t := ((hT.keep sA).free h2).1
    have n3 : a3 ≠ t := ((hT.keep (sA.trans sB)).free h3).1
    have n4 : a4 ≠ t := ((hT.keep ((sA.trans sB).trans sC)).free h4).1
    have T5 := T4.keep s5
    have no := T5.free ho
    have s6 := s5.trans (same_new (o := .lst [V.non, V.bl true, V.bl false, V.int (-1), V.int (10 ^ (30 : Int).toNat), V.str "0", V.str "", V.ref a1, V.ref a2, V.ref a3, V.ref a4, d, x]) ho)
    have s06 := s4.trans s6
    have d6 := fun n => (hd n).same (same_new (o := .lst [V.non, V.bl true, V.bl false, V.int (-1), V.int (10 ^ (30 : Int).toNat), V.str "0", V.str "", V.ref a1, V.ref a2, V.ref a3, V.ref a4, d, x]) ho)
    refine ⟨_, rfl, t, l, 13, rfl, T5.new ho, by decide, by decide, fun j H7 j0 j1 g7 T7 => ?_⟩
    have ho7 := g7 _ _ no.1 upd_same
    have g07 := (Gr.of (t := t) s06).trans g7
    have fin : ∀ y, (∀ n, Ng K C t 1 n H7 y) → Q y H7 := fun y hy => k y H7 g07 T7 hy
    have hj : j = 0 ∨ j = 1 ∨ j = 2 ∨ j = 3 ∨ j = 4 ∨ j = 5 ∨ j = 6 ∨ j = 7 ∨ j = 8 ∨ j = 9 ∨ j = 10 ∨ j = 11 ∨ j = 12 := by omega
    have c1 := g7 _ _ n1 (s6 _ _ b1)
    have c2 := g7 _ _ n2 (s6 _ _ b2)
    have c3 := g7 _ _ n3 (s6 _ _ b3)
    have c4 := g7 _ _ n4 (s6 _ _ b4)
    rcases hj with rfl | rfl | rfl | rfl | rfl | rfl | rfl | rfl | rfl | rfl | rfl | rfl | rfl
    · exact ⟨o, _, _, _, rfl, rfl, SqL.of ho7, rfl, fin _ fun n => .non⟩
    · exact ⟨o, _, _, _, rfl, rfl, SqL.of ho7, rfl, fin _ fun n => .bl⟩
    · exact ⟨o, _, _, _, rfl, rfl, SqL.of ho7, rfl, fin _ fun n => .bl⟩
    · exact ⟨o, _, _, _, rfl, rfl, SqL.of ho7, rfl, fin _ fun n => .int⟩
    · exact ⟨o, _, _, _, rfl, rfl, SqL.of ho7, rfl, fin _ fun n => .int⟩
    · exact ⟨o, _, _, _, rfl, rfl, SqL.of ho7, rfl, fin _ fun n => .str⟩
    · exact ⟨o, _, _, _, rfl, rfl, SqL.of ho7, rfl, fin _ fun n => .str⟩
    · exact ⟨o, _, _, _, rfl, rfl, SqL.of ho7, rfl, fin _ fun n => .lst c1 n1⟩
    · exact ⟨o, _, _, _, rfl, rfl, SqL.of ho7, rfl, fin _ fun n => .dK c2 n2⟩
    · exact ⟨o, _, _, _, rfl, rfl, SqL.of ho7, rfl, fin _ fun n => .row (ns := [0]) T7 (SqT.of c3) (Nat.le_refl _)⟩
    · exact ⟨o, _, _, _, rfl, rfl, SqL.of ho7, rfl, fin _ fun n => .row (ns := []) T7 (SqT.of c4) (Nat.zero_le _)⟩
    · exact ⟨o, _, _, _, rfl, rfl, SqL.of ho7, rfl, fin _ fun n => ((d6 n).ng (T5.new ho) (Nat.le_refl _)).gr g7 (T5.new ho)⟩
    · exact ⟨o, _, _, _, rfl, rfl, SqL.of ho7, rfl, fin _ fun n => (hx n).gr g07 hT⟩
end
end Fo

set_option maxRecDepth 100000
set_option maxHeartbeats 4000000
namespace Fo
open PySem PySem.Spec PyProof.Rows L2
abbrev s_law_error : Stmt := top 50
abbrev n_law_error : List Str := ["table", "person", "thing"]
theorem sc_law_error : FnScope n_law_error ["table", "person", "thing"] (defScope s_law_error) := ⟨rfl, rfl, rfl, by decide +kernel, rfl, by decide +kernel, by decide +kernel⟩
abbrev s_law_lot : Stmt := top 51
abbrev n_law_lot : List Str := ["tape", "table", "told", "some", "kind", "k"]
theorem sc_law_lot : FnScope n_law_lot ["tape", "table", "told"] (defScope s_law_lot) := ⟨rfl, rfl, rfl, by decide +kernel, rfl, by decide +kernel, by decide +kernel⟩
section
variable {P : Program} {w : World} {K : PySem.W.Frag} {mg : Str → Option Value} {base : Heap} {C : Addr}
def spErr18 (K : PySem.W.Frag) (C : Addr) : Sp := fun vs H Q _ => ∃ (z x y : V) (rows : List (List Int)), vs = [z, x, y] ∧ TableAt K C H z rows ∧ Good rows ∧ rows.length ≤ 40 ∧ Th K C H x ∧ Th K C H y ∧
  (∀ c, dueT rows x y = some c → ∀ H', Same H H' → Q (.str (nmOf c)) H') ∧ (dueT rows x y = none → ∀ H', Same H H' → Q .non H')
theorem ok_err18 (A : At K mg "_law_error" s_law_error ["table", "person", "thing"]) (T : Tx mg) (tc : TC K C) (G_law_is_number : Dfn P w K mg base "_law_is_number" ["thing", "many"] 1 (spLawNum K C)) (G_dealing : Dfn P w K mg base "dealing" ["table"] 5 (spDealing K C)) : Dfn P w K mg base "_law_error" ["table", "person", "thing"] 6 (spErr18 K C) := by
  refine A.ok sc_law_error (fun vs H Q E h => ?_) (fun f cdv A outer s H vs Q E hr h => ?_)
  · obtain ⟨z, x, y, rows, rfl, _⟩ := h
    rfl
  · obtain ⟨z, x, y, rows, rfl, ht, G, hn, hx, hy, k1, k2⟩ := h
    obtain ⟨p, dx, v, rfl, hp, hR⟩ := id ht
    obtain ⟨ra, rvs, rfl, hra, hrt⟩ := id hR
    refine ⟨_, (pss_cons (ps_if (pt_not (pt_val (pe_d G_law_is_number (hr.mono (by decide)) (pa_cons (pv 1) (pa_cons (pe_fld (pv 0) rfl) pa_nil))))) (pss_one (ps_ret pe_str)) pss_nil)
      (pss_cons (ps_if (pt_not (pt_val (pe_d G_law_is_number (hr.mono (by decide)) (pa_cons (pv 2) (pa_cons (pe_fld (pv 0) rfl) pa_nil))))) (pss_one (ps_ret pe_str)) pss_nil)
      (pss_cons (ps_if (pt_cmpR op_notIn_seq (pv 2) (pe_ix ix_tup (pe_fld (pv 0) rfl) (pv 1) (fun _ _ => rfl)) rfl) (pss_one (ps_ret pe_str)) pss_nil)
      (pss_cons (ps_if (pt_cmpR op_isN (pe_d G_dealing (hr.mono (by decide)) (pa_cons (pv 0) pa_nil)) pe_non (nomark _)) (pss_one (ps_ret pe_str)) pss_nil)
      (pss_one (ps_ret pe_non)))))), ?_⟩
    refine ⟨_, rfl, _, rfl, p, C, dx, _, _, rfl, hp, tc.cl, tc.nS, tf_size _ _, _, _, rfl, hx, _, rfl, ?_⟩
    cases nx : numV rows.length x with
    | false => exact k1 0 (due0 nx) H (Same.refl H)
    | true =>
      refine ⟨_, rfl, _, rfl, p, C, dx, _, _, rfl, hp, tc.cl, tc.nS, tf_size _ _, _, _, rfl, hy, _, rfl, ?_⟩
      cases ny : numV rows.length y with
      | false => exact k1 1 (due1 nx ny) H (Same.refl H)
      | true =>
        obtain ⟨i, rfl, i0, i1⟩ := num_is nx
        obtain ⟨t, rfl, t0, t1⟩ := num_is ny
        obtain ⟨pp, rfl⟩ : ∃ pp : Nat, i = (pp : Int) := ⟨i.toNat, by omega⟩
        have pr : pp < rows.length := by omega
        obtain ⟨q, hq1, hq2⟩ := hrt.get (List.getElem?_eq_getElem pr)
        have er : Mt.row rows pp = rows[pp] := Mt.row_get (List.getElem?_eq_getElem pr)
        rw [← er] at hq2
        refine ⟨_, rfl, _, rfl, p, C, dx, _, _, rfl, hp, tc.cl, tc.nR, tf_rows _ _, _, rfl, ra, rvs, (pp : Int), .ref q, rfl, rfl, hra, at_nat hq1, q, _, rfl, .inr hq2, rfl, all_flat_ints _, _, rfl, ?_⟩
        by_cases htr : t ∈ Mt.row rows pp
        · rw [show (if true = true then !inV (V.int t) ((Mt.row rows pp).map V.int) else inV (V.int t) ((Mt.row rows pp).map V.int)) = false from by rw [if_pos rfl, inV_ints, decide_eq_true htr]; rfl]
          refine ⟨_, rfl, .ref p, rows, rfl, ht, G, hn, fun hno H1 s1 => ?_, fun D hD a H1 s1 _ => ?_⟩
          · refine ⟨rfl, _, rfl, ?_⟩
            rw [show decide (V.non = V.non) = true from decide_eq_true rfl]
            exact k1 3 (due3 G htr hno) H1 s1
          · refine ⟨rfl, _, rfl, ?_⟩
            rw [show decide (V.ref a = V.non) = false from decide_eq_false (by intro z; cases z)]
            exact k2 (due4 G htr ⟨D, hD.ds⟩) H1 s1
        · rw [show (if true = true then !inV (V.int t) ((Mt.row rows pp).map V.int) else inV (V.int t) ((Mt.row rows pp).map V.int)) = true from by rw [if_pos rfl, inV_ints, decide_eq_false htr]; rfl]
          exact k1 2 (due2 pr t0 t1 htr) H (Same.refl H)
/-- good for the judges, whatever the tape does -/
def GoodT (K : PySem.W.Frag) (C t : Addr) (H : Hp) (v : V) : Prop := ∀ H', Gr t H H' → ∃ o, Tg K C H' v o ∧ ∀ xs, o = some xs → xs.length ≤ 900
theorem GoodT.gr {t : Addr} {H H' : Hp} {v : V} (h : GoodT K C t H v) (g : Gr t H H') : GoodT K C t H' v := fun H2 g2 => h H2 (g.trans g2)
theorem GoodT.tup {t l : Addr} {H : Hp} {p : Addr} {xs : List V} (T : Tape H t l) (hs : SqT K H p xs) (hl : xs.length ≤ 900) (h : ∀ y ∈ xs, ∀ H', Gr t H H' → Th K C H' y) : GoodT K C t H (.ref p) := fun H' g =>
  ⟨some xs, .tup (gr_T g T hs) (fun y hy => h y hy H' g) (by omega), fun _ e => by rw [← Option.some.inj e]; exact hl⟩
theorem goodL {t : Addr} {H : Hp} {p : Addr} {xs : List V} (h : H p = some (.lst xs)) (n : p ≠ t) : GoodT K C t H (.ref p) := fun H' g =>
  ⟨none, .no (.base (.lst (g _ _ n h))) (kit_ty (by decide +kernel)), fun _ e => (by cases e)⟩
theorem GoodT.ints {t l : Addr} {H : Hp} {p : Addr} {ns : List Int} (T : Tape H t l) (hs : SqT K H p (ns.map V.int)) (hl : ns.length ≤ 900) : GoodT K C t H (.ref p) := GoodT.tup T hs (by rw [List.length_map]; exact hl) fun y hy H' _ => by
  obtain ⟨n, _, rfl⟩ := List.mem_map.mp hy
  exact th_int
theorem ng_tg {t l : Addr} {H : Hp} {x : V} (T : Tape H t l) (h : Ng K C t 1 2 H x) : ∃ o, Tg K C H x o ∧ ∀ xs, o = some xs → xs.length ≤ 900 := by
  rcases h with h | ⟨a, xs, rfl, hs, hl, hy⟩
  · obtain ⟨ty, h1, _, h3⟩ := h H (Gr.refl H)
    exact ⟨none, .no h1 h3, fun _ e => (by cases e)⟩
  · exact ⟨some xs, .tup hs (fun y hy' => (hy y hy').th T) (by omega), fun _ e => by rw [← Option.some.inj e]; omega⟩
theorem ng_table (tc : TC K C) {t l : Addr} {H : Hp} {x : V} {rows : List (List Int)} (T : Tape H t l) (ht : TableAt K C H x rows) : ∀ n, Ng K C t 1 n H x
  | 0 => fun H' g => ⟨_, (ht.gr g T).tyx tc, fun c e => (by cases e; rfl)⟩
  | n + 1 => .inl fun H' g => ⟨_, (ht.gr g T).tyx tc, fun c e => (by cases e; rfl), tc.kT⟩
theorem GoodT.ng {t l : Addr} {H : Hp} {v : V} (T : Tape H t l) (h : ∀ n, Ng K C t 1 n H v) : ∀ H', Gr t H H' → Tape H' t l → ∃ o, Tg K C H' v o ∧ ∀ xs, o = some xs → xs.length ≤ 900 := fun H' g T' => ng_tg T' ((h 2).gr g T)
/-- one of the three, drawn -/
def rLot0 (K : PySem.W.Frag) (C : Addr) : TE := tOp (rIxL K) (tLst (tCons (tVar 3) (tCons (tVar 3) (tCons (tCall (spOdd K C) [] E0 (tCons (tVar 0) (tCons (tVar 1) tNil))) tNil)))) (tCall spPick [] E0 (tCons (tVar 0) (tCons (tC (V.int 3)) tNil)))
theorem lot0 (tc : TC K C) {t l q : Addr} {z v x4 : V} {x5 : Option V} {rows : List (List Int)} {ns : List Int} {H : Hp} {Q : VK} (hT : Tape H t l) (ht : TableAt K C H z rows) (hq : SqT K H q (ns.map V.int)) (hl : ns.length ≤ 900)
    (k : ∀ y' o H', Gr t H H' → Tape H' t l → Tg K C H' y' o → (∀ xs, o = some xs → xs.length ≤ 900) → Q y' H') : rLot0 K C [some (.ref t), some z, some v, some (.ref q), some x4, x5] H Q := by
  refine ⟨_, rfl, _, rfl, _, rfl, _, rfl, t, l, z, rfl, hT, ng_table tc hT ht, fun y H1 g1 T1 hn => ⟨by show 3 ≤ sizeLine; decide, fun o ho => ?_⟩⟩
  have no := (T1.free ho).1
  refine ⟨_, rfl, t, l, 3, rfl, T1.new ho, by decide, by decide, fun j H2 j0 j1 g2 T2 => ?_⟩
  have ho2 : H2 o = some (.lst [V.ref q, V.ref q, y]) := g2 _ _ no upd_same
  have g12 : Gr t H1 H2 := (Gr.of (same_new ho)).trans g2
  have hq2 := gr_T (g1.trans g12) hT hq
  have good : Tg K C H2 (.ref q) (some (ns.map V.int)) := Tg.ints hq2 (by omega)
  have hj : j = 0 ∨ j = 1 ∨ j = 2 := by omega
  rcases hj with rfl | rfl | rfl
  · exact ⟨o, _, 0, .ref q, rfl, rfl, SqL.of ho2, rfl, k _ _ H2 (g1.trans g12) T2 good fun xs e => by cases e; rw [List.length_map]; exact hl⟩
  · exact ⟨o, _, 1, .ref q, rfl, rfl, SqL.of ho2, rfl, k _ _ H2 (g1.trans g12) T2 good fun xs e => by cases e; rw [List.length_map]; exact hl⟩
  · obtain ⟨oo, h1, h2⟩ := ng_tg T2 ((hn 2).gr g12 T1)
    exact ⟨o, _, 2, y, rfl, rfl, SqL.of ho2, rfl, k _ oo H2 (g1.trans g12) T2 h1 h2⟩
def spLot18 (K : PySem.W.Frag) (C : Addr) : Sp := fun vs H Q _ => ∃ (t l : Addr) (z v : V) (rows : List (List Int)), vs = [.ref t, z, v] ∧ Tape H t l ∧ TableAt K C H z rows ∧ Good rows ∧ rows.length ≤ 12 ∧ (v = .non ∨ ∃ (a : Addr) (ns : List Int), v = .ref a ∧ SqT K H a (ns.map V.int) ∧ ns.length ≤ 12) ∧
  ∀ y' o H', Gr t H H' → Tape H' t l → Tg K C H' y' o → (∀ xs, o = some xs → xs.length ≤ 900) → Q y' H'
theorem ok_lot18 (A : At K mg "_law_lot" s_law_lot ["tape", "table", "told"]) (T : Tx mg) (tc : TC K C) (G_law_pick : Dfn P w K mg base "_law_pick" ["tape", "size"] 1 spPick) (G_law_odd : Dfn P w K mg base "_law_odd" ["tape", "thing"] 2 (spOdd K C)) : Dfn P w K mg base "_law_lot" ["tape", "table", "told"] 3 (spLot18 K C) := by
  refine A.ok sc_law_lot (fun vs H Q E h => ?_) (fun f cdv A outer s H vs Q E hr h => ?_)
  · obtain ⟨t, l, z, v, rows, rfl, _⟩ := h
    rfl
  · obtain ⟨t, l, z, v, rows, rfl, hT, ht, G, hn, hv, k⟩ := h
    refine ⟨_, (pss_cons (ps_set (i := 3) sc_law_lot.nd rfl (Or.inl rfl) (pe_callTy c_tuple (by rfl) T.tuple (by decide +kernel) (pa_cons (pe_lc (own := [("k", 5)]) (g := (gName 5)) (tt := (tTest (tOp rEq (tCall spPick [] E0 (tCons (tVar 0) (tCons (tC (V.int 2)) tNil))) (tC (V.int 0))))) (te := (tVar 5)) (by rfl) sc_law_lot.nd (pi_range1 rfl T.range (pa_cons (pe_fld (pv 1) rfl) pa_nil)) (blkOk_by (own := [("k", 5)]) (N := n_law_lot) (sc := (defScope s_law_lot)) (by decide +kernel)) (fun _ _ _ _ _ => (pg_name (i := 5) sc_law_lot.nd rfl (Or.inl rfl))) (fun _ _ _ _ _ => (pts_one (pt_cmpR op_eq (pe_d G_law_pick (hr.mono (by decide)) (pa_cons (pv 0) (pa_cons pe_int pa_nil))) pe_int (nomark _)))) (fun _ _ _ _ _ => (pv 5))) pa_nil)))
      (pss_cons (ps_set (i := 4) sc_law_lot.nd rfl (Or.inl rfl) (pe_d G_law_pick (hr.mono (by decide)) (pa_cons (pv 0) (pa_cons pe_int pa_nil))))
      (pss_cons (ps_if (PW.pt (pw_or (pt_cmpR op_eq (pv 4) pe_int (nomark _)) (pw_or1 (pt_cmpR op_isN (pv 2) pe_non (nomark _))))) (pss_one (ps_ret (pe_ix ix_list (pe_lst (pa_cons (pv 3) (pa_cons (pv 3) (pa_cons (pe_d G_law_odd (hr.mono (by decide)) (pa_cons (pv 0) (pa_cons (pv 1) pa_nil))) pa_nil)))) (pe_d G_law_pick (hr.mono (by decide)) (pa_cons (pv 0) (pa_cons pe_int pa_nil))) (fun _ _ => rfl)))) pss_nil)
      (pss_cons (ps_if (pt_cmpR op_eq (pv 4) pe_int (nomark _)) (pss_one (ps_ret (pe_ix ix_list (pe_lst (pa_cons (pe_callTy c_list (by rfl) T.list (by decide +kernel) (pa_cons (pv 2) pa_nil)) (pa_cons (pe_revA (pv 2)) (pa_cons (pe_slice sl_tupA (pv 2) (po_some pe_int) po_none) (pa_cons (pe_op op_catA (pv 2) (pv 2)) pa_nil))))) (pe_d G_law_pick (hr.mono (by decide)) (pa_cons (pv 0) (pa_cons pe_int pa_nil))) (fun _ _ => rfl)))) pss_nil)
      (pss_cons (ps_if (pt_cmpR op_eq (pv 4) pe_int (nomark _)) (pss_one (ps_ret (pe_callTy c_tuple (by rfl) T.tuple (by decide +kernel) (pa_cons (pe_callB (cr_sortSetA rfl) (by rfl) T.sorted (by decide +kernel) (pa_cons (pe_callTy (cr_setI rfl) (by rfl) T.set (by decide +kernel) (pa_cons (pe_op op_catA (pv 2) (pv 3)) pa_nil)) pa_nil)) pa_nil)))) pss_nil)
      (pss_one (ps_ret (pv 2)))))))), ?_⟩
    have k' : ∀ y' H', Gr t H H' → Tape H' t l → GoodT K C t H' y' → Q y' H' := fun y' H' g T' hg => by
      obtain ⟨o, h1, h2⟩ := hg H' (Gr.refl H')
      exact k y' o H' g T' h1 h2
    obtain ⟨p, dx, rv, rfl, hp, hR⟩ := id ht
    refine ⟨_, rfl, p, C, dx, _, _, rfl, hp, tc.cl, tc.nS, tf_size _ _, _, rfl, by omega, by omega, fun D hD => ?_⟩
    have nD := hT.free hD
    refine lc_range (lo := 0) (n := ((rows.length : Nat) : Int).toNat) (fun j H' => ∃ row : List Int, H' D = some (.lst (row.map V.int)) ∧ row.length ≤ j ∧ Gr t H H' ∧ Tape H' t l)
      ⟨[], upd_same, Nat.le_refl _, Gr.new hD, hT.new hD⟩ ?_ ?_
    · rintro j H6 hj ⟨row, hDr, hrl, g6, T6⟩
      refine ⟨rfl, _, rfl, t, l, 2, rfl, T6, by decide, by decide, fun x H7 x0 x1 g7 T7 => ⟨rfl, _, rfl, ?_⟩⟩
      have hD7 : H7 D = some (.lst (row.map V.int)) := g7 _ _ nD.1 hDr
      refine ite2 (fun _ => ?_) (fun _ => ?_)
      · refine ⟨_, rfl, row.map V.int, hD7, by rw [List.length_map]; exact small_lt (by omega), row ++ [0 + (j : Int)], ?_, by rw [List.length_append, List.length_singleton]; omega, gr_mut (g6.trans g7) hD, T7.mut nD⟩
        rw [upd_same, List.map_append]
        rfl
      · exact ⟨row, hD7, by omega, g6.trans g7, T7⟩
    · rintro H6 ⟨row, hDr, hrl, g6, T6⟩
      have rl : row.length ≤ 12 := by omega
      refine ⟨D, _, rfl, .inl ⟨SqL.of hDr, fun q hq => ?_⟩⟩
      have s7 : Same H6 (upd H6 q (.tup (row.map V.int))) := same_new hq
      have T7 := T6.keep s7
      refine ⟨_, rfl, t, l, 6, rfl, T7, by decide, by decide, fun kd H8 x0 x1 g8 T8 => ?_⟩
      have hq8 : SqT K H8 q (row.map V.int) := gr_T g8 T7 (SqT.of upd_same)
      have g08 : Gr t H H8 := (g6.trans (Gr.of s7)).trans g8
      have t8 := ht.gr g08 hT
      have fin : ∀ (v x4 : V) (x5 : Option V), rLot0 K C [some (.ref t), some (.ref p), some v, some (.ref q), some x4, x5] H8 Q := fun v x4 x5 => lot0 tc T8 t8 hq8 (by omega) fun y' o H' g T' h1 h2 => k y' o H' (g08.trans g) T' h1 h2
      refine ⟨_, rfl, rfl, _, rfl, ?_⟩
      by_cases c0 : kd = 0
      · rw [show decide (V.int kd = V.int 0) = true from decide_eq_true (by rw [c0])]
        exact fin _ _ _
      · rw [show decide (V.int kd = V.int 0) = false from decide_eq_false (fun z => c0 (by injection z))]
        refine ⟨_, rfl, rfl, _, rfl, ?_⟩
        rcases hv with rfl | ⟨a, ns, rfl, ha, hl⟩
        · rw [show decide (V.non = V.non) = true from decide_eq_true rfl]
          exact fin _ _ _
        · rw [show decide (V.ref a = V.non) = false from decide_eq_false (by intro z; cases z)]
          have ha8 := gr_T g08 hT ha
          refine ⟨_, rfl, rfl, _, rfl, ?_⟩
          by_cases c1 : kd = 1
          · rw [show decide (V.int kd = V.int 1) = true from decide_eq_true (by rw [c1])]
            refine ⟨_, rfl, a, _, rfl, .inr ha8, fun pl hpl => ?_⟩
            have gdL : GoodT K C t (upd H8 pl (.lst (ns.map V.int))) (.ref pl) := goodL upd_same (T8.free hpl).1
            have s6 : Same H8 (upd H8 pl (.lst (ns.map V.int))) := same_new hpl
            refine ⟨_, rfl, a, _, rfl, sqT_same s6 ha8, fun pr hpr => ?_⟩
            have s7 : Same H8 (upd (upd H8 pl (.lst (ns.map V.int))) pr (.tup (ns.map V.int).reverse)) := s6.trans (same_new hpr)
            have gdR : GoodT K C t (upd (upd H8 pl (.lst (ns.map V.int))) pr (.tup (ns.map V.int).reverse)) (.ref pr) := by
              have hr : SqT K (upd (upd H8 pl (.lst (ns.map V.int))) pr (.tup (ns.map V.int).reverse)) pr (ns.reverse.map V.int) := by rw [List.map_reverse]; exact SqT.of upd_same
              exact GoodT.ints (T8.keep s7) hr (by rw [List.length_reverse]; omega)
            refine ⟨_, rfl, _, rfl, ?_⟩
            delta tNoPart
            refine slA (sqT_same s7 ha8) fun pd HD sD hD => ?_
            have e1 : cutV (ns.map V.int) (some 1) none = (ns.drop 1).map V.int := by
              cases ns with
              | nil => rfl
              | cons u us => exact (cut_from (n := 1) (by rw [List.length_map, List.length_cons]; omega)).trans List.map_drop.symm
            rw [e1] at hD
            have s8D := s7.trans sD
            have gdD : GoodT K C t HD (.ref pd) := GoodT.ints (T8.keep s8D) hD (by rw [List.length_drop]; omega)
            refine ⟨_, rfl, _, rfl, ?_⟩
            refine catA (sqT_same s8D ha8) (sqT_same s8D ha8) (by rw [List.length_map]; omega) fun pc HC sC hC => ?_
            have s8C := s8D.trans sC
            have gdC : GoodT K C t HC (.ref pc) := by
              rw [← List.map_append] at hC
              exact GoodT.ints (T8.keep s8C) hC (by rw [List.length_append]; omega)
            refine ⟨by show 4 ≤ sizeLine; decide, fun o1 ho1 => ?_⟩
            have TC := T8.keep s8C
            have n1o := (TC.free ho1).1
            refine ⟨_, rfl, t, l, 4, rfl, TC.new ho1, by decide, by decide, fun j HE j0 j1 gE TE => ?_⟩
            have hoE := gE _ _ n1o upd_same
            have gCE : Gr t HC HE := (Gr.of (same_new ho1)).trans gE
            have g8E : Gr t H8 HE := (Gr.of s8C).trans gCE
            have gdall : ∀ v ∈ [V.ref pl, V.ref pr, V.ref pd, V.ref pc], GoodT K C t HE v := fun v hv => by
              rcases List.mem_cons.mp hv with rfl | hv
              · exact gdL.gr (((Gr.of (same_new hpr)).trans (Gr.of (sD.trans sC))).trans gCE)
              rcases List.mem_cons.mp hv with rfl | hv
              · exact gdR.gr ((Gr.of (sD.trans sC)).trans gCE)
              rcases List.mem_cons.mp hv with rfl | hv
              · exact gdD.gr ((Gr.of sC).trans gCE)
              · rw [List.mem_singleton.mp hv]
                exact gdC.gr gCE
            obtain ⟨jn, rfl⟩ : ∃ jn : Nat, j = (jn : Int) := ⟨j.toNat, by omega⟩
            have jl : jn < [V.ref pl, V.ref pr, V.ref pd, V.ref pc].length := by show jn < 4; omega
            have hat := List.getElem?_eq_getElem jl
            exact ⟨o1, _, (jn : Int), _, rfl, rfl, SqL.of hoE, at_nat hat, k' _ HE (g08.trans g8E) TE (gdall _ (List.mem_of_getElem? hat))⟩
          · rw [show decide (V.int kd = V.int 1) = false from decide_eq_false (fun z => c1 (by injection z))]
            refine ⟨_, rfl, rfl, _, rfl, ?_⟩
            by_cases c2 : kd = 2
            · rw [show decide (V.int kd = V.int 2) = true from decide_eq_true (by rw [c2])]
              refine ⟨_, rfl, _, rfl, ?_⟩
              refine catA ha8 hq8 (by rw [List.length_map, List.length_map]; omega) fun pc HC sC hC => ?_
              rw [← List.map_append] at hC
              have s8C := sC
              have TC := T8.keep s8C
              have ll : (ns ++ row).length ≤ 24 := by rw [List.length_append]; omega
              refine ⟨pc, ns ++ row, rfl, hC, by omega, fun a1 c' ha1 hc' => ?_⟩
              refine ⟨a1, _, c', rfl, upd_same, by omega, fun ks L asc mem len hL => ?_⟩
              have mem' : ∀ x : Int, x ∈ ks ↔ x ∈ ns ++ row := fun x => (mem x).trans decide_eq_true_iff
              refine ⟨L, _, rfl, .inl ⟨SqL.of upd_same, fun z hz => ?_⟩⟩
              have s9 := ((same_new (o := SetO w a1 (fun j => decide (j ∈ ns ++ row)) c') ha1).trans (same_new (o := .lst (ks.map V.int)) hL)).trans (same_new (o := .tup (ks.map V.int)) hz)
              have s8E := s8C.trans s9
              refine k' _ _ (g08.trans (Gr.of s8E)) (T8.keep s8E) (GoodT.ints (T8.keep s8E) (SqT.of upd_same) (by omega))
            · rw [show decide (V.int kd = V.int 2) = false from decide_eq_false (fun z => c2 (by injection z))]
              exact ⟨_, rfl, k' _ H8 g08 T8 (GoodT.ints T8 ha8 (by omega))⟩
end
end Fo

set_option maxRecDepth 100000
set_option maxHeartbeats 4000000
namespace Fo
open PySem PySem.Spec PyProof.Rows L2
abbrev s_law_is_filled : Stmt := top 46
abbrev n_law_is_filled : List Str := ["rows", "person", "thing", "lot", "got", "other"]
theorem sc_law_is_filled : FnScope n_law_is_filled ["rows", "person", "thing", "lot"] (defScope s_law_is_filled) := ⟨rfl, rfl, rfl, by decide +kernel, rfl, by decide +kernel, by decide +kernel⟩
section
variable {P : Program} {w : World} {K : PySem.W.Frag} {mg : Str → Option Value} {base : Heap} {C : Addr}
def spLawFill (K : PySem.W.Frag) (C : Addr) : Sp := fun vs H Q _ => ∃ (rv y : V) (rows : List (List Int)) (p : Nat) (t : Int) (o : Option (List V)), vs = [rv, .int (p : Int), .int t, y] ∧ RowsAt K H rv rows ∧ Good rows ∧ rows.length ≤ 40 ∧ Tg K C H y o ∧ (∀ xs, o = some xs → xs.length ≤ 900) ∧
  ∀ H', Same H H' → Q (.bl (fillO rows p t o)) H'
theorem ok_lawfill (A : At K mg "_law_is_filled" s_law_is_filled ["rows", "person", "thing", "lot"]) (T : Tx mg) (G_law_is_lot : Dfn P w K mg base "_law_is_lot" ["thing", "many"] 2 (spLawLot K C)) : Dfn P w K mg base "_law_is_filled" ["rows", "person", "thing", "lot"] 3 (spLawFill K C) := by
  refine A.ok sc_law_is_filled (fun vs H Q E h => ?_) (fun f cdv A outer s H vs Q E hr h => ?_)
  · obtain ⟨rv, y, rows, p, t, o, rfl, _⟩ := h
    rfl
  · obtain ⟨rv, y, rows, pp, t, o, rfl, hR, G, hn, hy, hl9, k0⟩ := h
    obtain ⟨ra, rvs, rfl, hra, hrt⟩ := id hR
    have rvl := hrt.len
    refine ⟨_, (pss_cons (ps_if (PW.pt (pw_or (pt_not (pt_val (pe_d G_law_is_lot (hr.mono (by decide)) (pa_cons (pv 3) (pa_cons (pe_callB c_len (by rfl) T.len (by decide +kernel) (pa_cons (pv 0) pa_nil)) pa_nil))))) (pw_or1 (pt_cmpR op_in_seq (pv 1) (pv 3) rfl)))) (pss_one (ps_ret pe_bl)) pss_nil)
      (pss_cons (ps_set (i := 4) sc_law_is_filled.nd rfl (Or.inl rfl) (pe_lst pa_nil))
      (pss_cons (ps_for PassesOwn.never rfl (pi_tup (pv 3)) (pg_name (i := 5) sc_law_is_filled.nd rfl (Or.inl rfl))
      (pss_one (ps_expr (pe_bm PySem.F.plainAttrs_list PySem.F.slot_list_extend PySem.F.type_list_extend mt_extT (pv 4) (pa_cons (pe_ix ix_tup (pv 0) (pv 5) (fun _ _ => rfl)) pa_nil)))))
      (pss_one (ps_ret (pe_and (pe_cmpR op_eq (pe_callB cr_lenO (by rfl) T.len (by decide +kernel) (pa_cons (pe_callTy (cr_setL rfl) (by rfl) T.set (by decide +kernel) (pa_cons (pv 4) pa_nil)) pa_nil)) (pe_callB c_len (by rfl) T.len (by decide +kernel) (pa_cons (pv 3) pa_nil)) (nomark _)) (pe_one (pe_cmpR op_in_seq (pv 2) (pv 4) rfl)))))))), ?_⟩
    refine ⟨_, rfl, _, rfl, ra, rvs, rfl, .inr hra, _, y, o, rfl, hy, hl9, fun H1 s1 => ⟨_, rfl, ?_⟩⟩
    rw [show ((rvs.length : Nat) : Int) = ((rows.length : Nat) : Int) from by rw [rvl]]
    cases hasc : ascOf ((rows.length : Nat) : Int) o with
    | false =>
      have e : fillO rows pp t o = false := by
        cases o with
        | none => rfl
        | some xs =>
          show (ascV rows.length xs && _) = false
          rw [show ascV rows.length xs = false from hasc, Bool.false_and]
      rw [e] at k0
      exact k0 H1 s1
    | true =>
      cases hy with
      | no ty hk => cases hasc
      | @tup a xs hq hi hz =>
        have hasc' : ascV rows.length xs = true := hasc
        have hall : xs.all (numV rows.length) = true := by
          rw [ascV_eq, Bool.and_eq_true] at hasc'
          exact hasc'.1
        obtain ⟨ns, rfl, hb⟩ := all_num_ints hall
        have pwI := asc_of_V hasc'
        obtain ⟨ps, eps⟩ : ∃ ps, ps = (ns.map V.int).map natV := ⟨_, rfl⟩
        have back := nat_back fun x hx => (hb x hx).1
        rw [← eps] at back
        have pl0 : ps.length = ns.length := by rw [eps, List.length_map, List.length_map]
        have nl : ns.length ≤ rows.length := asc_len pwI hb
        have pl : ps.length ≤ 40 := by omega
        have plt : ∀ q ∈ ps, q < rows.length := fun q hq => by
          rw [eps, List.map_map] at hq
          obtain ⟨z, hz, rfl⟩ := List.mem_map.mp hq
          have := hb z hz
          show z.toNat < _
          omega
        have e0 : fillO rows pp t (some (ns.map V.int)) = (!inV (nV pp) (ps.map nV) && (decide ((gotL rows ps).length = ps.length) && decide (t ∈ gotL rows ps))) := by
          show (ascV rows.length (ns.map V.int) && (!inV (nV pp) (ns.map V.int) && (decide ((gotL rows ((ns.map V.int).map natV)).length = (ns.map V.int).length) && decide (t ∈ gotL rows ((ns.map V.int).map natV))))) = _
          rw [hasc', Bool.true_and, ← eps, back, List.length_map]
        rw [e0] at k0
        rw [back] at hq
        refine ⟨_, rfl, _, rfl, a, _, rfl, .inr (sqT_same s1 hq), rfl, flat_nats _, _, rfl, ?_⟩
        cases hin : inV (V.int (pp : Int)) (ps.map nV) with
        | true =>
          rw [show (!inV (nV pp) (ps.map nV)) = false from by rw [show inV (nV pp) (ps.map nV) = true from hin]; rfl, Bool.false_and] at k0
          exact k0 H1 s1
        | false =>
          rw [show (!inV (nV pp) (ps.map nV)) = true from by rw [show inV (nV pp) (ps.map nV) = false from hin]; rfl, Bool.true_and] at k0
          have rl : ∀ p, (Mt.row rows p).length ≤ 40 := fun p => Nat.le_trans (G.row_all p) hn
          have fl : ∀ i, (((ps.take i).map (Mt.row rows)).flatten).length ≤ 1600 := fun i => by
            have := flat_len (n := 40) (l := (ps.take i).map (Mt.row rows)) fun r hr => by
              obtain ⟨p, _, rfl⟩ := List.mem_map.mp hr
              exact rl p
            rw [List.length_map, List.length_take] at this
            have h2 : min i ps.length * 40 ≤ 40 * 40 := Nat.mul_le_mul_right 40 (by omega)
            omega
          refine ⟨by show 0 ≤ sizeLine; decide, fun g hg => ?_⟩
          have s2 : Same H (upd H1 g (.lst [])) := s1.trans (same_new hg)
          refine ⟨_, rfl, a, rfl, ⟨_, sqT_same s2 hq⟩, ?_⟩
          refine for_tup (xs := ps.map nV) (fun i σ' H' => ∃ x5, σ' = [some (.ref ra), some (.int (pp : Int)), some (.int t), some (.ref a), some (.ref g), x5] ∧ H' g = some (.lst ((((ps.take i).map (Mt.row rows)).flatten).map V.int)) ∧ Same H H') ⟨_, rfl, upd_same, s2⟩ (fun i σ' H' _ hp => by obtain ⟨_, _, _, s3⟩ := hp; exact sqT_same s3 hq) ?_ ?_
          · rintro i x σ' H2 hx ⟨x5, rfl, h2, s3⟩
            obtain ⟨p, hp, rfl⟩ : ∃ p, ps[i]? = some p ∧ x = nV p := by
              rw [List.getElem?_map] at hx
              cases e : ps[i]? with
              | none => rw [e] at hx; cases hx
              | some u => rw [e] at hx; exact ⟨u, rfl, (Option.some.inj hx).symm⟩
            have pn := plt p (List.mem_of_getElem? hp)
            obtain ⟨q, hq1, hq2⟩ := hrt.get (List.getElem?_eq_getElem pn)
            have er : Mt.row rows p = rows[p] := Mt.row_get (List.getElem?_eq_getElem pn)
            rw [← er] at hq2
            refine ⟨_, rfl, .inl ⟨rfl, _, SqL.of h2⟩, _, rfl, _, rfl, ra, rvs, _, .ref q, rfl, rfl, sqT_same s3 hra, at_nat hq1, g, q, _, _, rfl, rfl, h2, sqT_same s3 hq2, ?_, ?_⟩
            · rw [List.length_map, List.length_map]
              have h1 := fl i
              have h2 := rl p
              omega
            · refine ⟨_, rfl, ?_, same_mut s3 (s1.free hg)⟩
              rw [upd_same, take_snoc hp, List.map_append, List.flatten_append, List.map_append]
              rw [show ([p].map (Mt.row rows)).flatten = Mt.row rows p from by rw [List.map_singleton, List.flatten_singleton]]
          · rintro σ' H2 ⟨x5, rfl, h2, s3⟩
            rw [List.length_map, List.take_length] at h2
            refine ⟨_, rfl, g, (ps.map (Mt.row rows)).flatten, rfl, SqL.of h2, ?_, fun z n hz hn2 hks => ?_⟩
            · have := fl ps.length
              rw [List.take_length] at this
              omega
            · have s4 := s3.trans (same_new (o := SetO w z (fun j => decide (j ∈ (ps.map (Mt.row rows)).flatten)) n) hz)
              have en : (gotL rows ps).length = n := hks (gotL rows ps) (gotL_asc.imp fun {a b} h => by omega) fun t => G.mem_got
              rw [en] at k0
              have k3 := k0 _ s4
              refine ⟨z, _, n, rfl, upd_same, _, rfl, a, _, rfl, .inr (sqT_same s4 hq), rfl, _, rfl, ?_⟩
              have e1 : decide (V.int ((n : Nat) : Int) = V.int (((ps.map nV).length : Nat) : Int)) = decide (n = ps.length) := by
                rw [List.length_map]
                refine decide_eq_decide.mpr ⟨fun h => ?_, fun h => by rw [h]⟩
                injection h with h
                omega
              rw [e1]
              cases hc : decide (n = ps.length) with
              | false =>
                rw [hc, Bool.false_and] at k3
                exact k3
              | true =>
                rw [hc, Bool.true_and] at k3
                have hg : H2 g = some (.lst (((ps.map (Mt.row rows)).flatten).map V.int)) := h2
                refine ⟨_, rfl, _, rfl, g, _, rfl, .inl (SqL.of (by rw [upd_ne (ne_of_none hg hz)]; exact hg)), rfl, all_flat_ints _, ?_⟩
                rw [show (if false = true then !inV (V.int t) (((ps.map (Mt.row rows)).flatten).map V.int) else inV (V.int t) (((ps.map (Mt.row rows)).flatten).map V.int)) = decide (t ∈ gotL rows ps) from by
                  rw [if_neg (by decide), inV_ints]
                  exact decide_eq_decide.mpr G.mem_got.symm]
                exact k3
end
end Fo

set_option maxRecDepth 100000
set_option maxHeartbeats 1000000
/-! how many dealings there can be -/
namespace Fo
open PySem PySem.Spec PyProof.Rows L2
theorem ext_len {r : List Int} {n : Nat} (h : r.length ≤ n) : ∀ found : List (List Int), (Mt.ext found r).length ≤ found.length * n
  | [] => Nat.zero_le _
  | d :: l => by
    have ih := ext_len h l
    unfold Mt.ext at ih ⊢
    rw [List.flatMap_cons, List.length_append, List.length_map, List.length_cons, Nat.succ_mul]
    have := List.length_filter_le (fun t => decide (t ∉ d)) r
    omega
theorem deals_len {n : Nat} : ∀ rows : List (List Int), (∀ r ∈ rows, r.length ≤ n) → (Mt.deals rows).length ≤ n ^ rows.length := by
  refine Mt.rev_ind (P := fun rows => (∀ r ∈ rows, r.length ≤ n) → (Mt.deals rows).length ≤ n ^ rows.length) ?_ ?_
  · intro _
    exact Nat.le_refl 1
  · intro l x ih h
    rw [Mt.deals_snoc, List.length_append]
    have h1 := ih fun r hr => h r (List.mem_append_left _ hr)
    have h2 := ext_len (h x (List.mem_append_right _ List.mem_cons_self)) (Mt.deals l)
    show _ ≤ n ^ (l.length + 1)
    rw [Nat.pow_succ]
    exact Nat.le_trans h2 (Nat.mul_le_mul_right n h1)
def prodL : List Nat → Nat
  | [] => 1
  | a :: l => a * prodL l
theorem prodL_snoc {a : Nat} : ∀ {l : List Nat}, prodL (l ++ [a]) = prodL l * a
  | [] => by show a * 1 = 1 * a; omega
  | b :: l => by
    show b * prodL (l ++ [a]) = b * prodL l * a
    rw [prodL_snoc (l := l), Nat.mul_assoc]
theorem prodL_set {d : List Int} {x : Int} : ∀ {ds : List (List Int)} {i : Nat}, ds[i]? = some d → prodL ((ds.set i (d ++ [x])).map List.length) * d.length = prodL (ds.map List.length) * (d.length + 1)
  | [], i, h => by cases h
  | e :: ds, 0, h => by
    cases h
    show (d ++ [x]).length * prodL (ds.map List.length) * d.length = d.length * prodL (ds.map List.length) * (d.length + 1)
    rw [List.length_append, List.length_singleton, Nat.mul_right_comm, Nat.mul_comm (d.length + 1), Nat.mul_right_comm d.length]
  | e :: ds, i + 1, h => by
    have ih := prodL_set (x := x) (ds := ds) (i := i) h
    show e.length * prodL ((ds.set i (d ++ [x])).map List.length) * d.length = e.length * prodL (ds.map List.length) * (d.length + 1)
    rw [Nat.mul_assoc, ih, Nat.mul_assoc]
theorem deals_prod : ∀ rows : List (List Int), (Mt.deals rows).length ≤ prodL (rows.map List.length) := by
  refine Mt.rev_ind (P := fun rows => (Mt.deals rows).length ≤ prodL (rows.map List.length)) (Nat.le_refl 1) ?_
  intro l x ih
  rw [Mt.deals_snoc, List.map_append]
  show _ ≤ prodL (_ ++ [x.length])
  rw [prodL_snoc]
  exact Nat.le_trans (ext_len (Nat.le_refl _) _) (Nat.mul_le_mul_right _ ih)
theorem ext_len2 {r : List Int} {m : Nat} : ∀ found : List (List Int), (∀ d ∈ found, (r.filter fun t => decide (t ∉ d)).length ≤ m) → (Mt.ext found r).length ≤ found.length * m
  | [], _ => Nat.zero_le _
  | d :: l, h => by
    have ih := ext_len2 l fun e he => h e (List.mem_cons_of_mem _ he)
    have h1 := h d List.mem_cons_self
    unfold Mt.ext at ih ⊢
    rw [List.flatMap_cons, List.length_append, List.length_map, List.length_cons, Nat.succ_mul]
    omega
def descL (n : Nat) : Nat → Nat
  | 0 => 1
  | k + 1 => descL n k * (n - k)
theorem left_len {n : Nat} {r d : List Int} (hr : r.Pairwise (· < ·)) (rr : ∀ x ∈ r, 0 ≤ x ∧ x < (n : Int)) (hd : d.Nodup) (dr : ∀ x ∈ d, 0 ≤ x ∧ x < (n : Int)) : (r.filter fun t => decide (t ∉ d)).length ≤ n - d.length := by
  have nr : (r.filter fun t => decide (t ∉ d)).Nodup := List.Pairwise.filter _ (hr.imp fun {a b} h => by omega)
  have nd : (d ++ r.filter fun t => decide (t ∉ d)).Nodup := List.nodup_append.mpr ⟨hd, nr, fun a ha b hb e => by
    have := of_decide_eq_true (List.mem_filter.mp hb).2
    exact this (e ▸ ha)⟩
  have := Mt.len_le (l2 := rangeI n) nd fun x hx => by
    rcases List.mem_append.mp hx with hx | hx
    · exact mem_rangeI.mpr (dr x hx)
    · exact mem_rangeI.mpr (rr x (List.mem_filter.mp hx).1)
  rw [List.length_append, rangeI_len] at this
  omega
theorem deals_desc {n : Nat} : ∀ rows : List (List Int), (∀ r ∈ rows, r.Pairwise (· < ·) ∧ ∀ x ∈ r, 0 ≤ x ∧ x < (n : Int)) → (Mt.deals rows).length ≤ descL n rows.length := by
  refine Mt.rev_ind (P := fun rows => (∀ r ∈ rows, r.Pairwise (· < ·) ∧ ∀ x ∈ r, 0 ≤ x ∧ x < (n : Int)) → (Mt.deals rows).length ≤ descL n rows.length) ?_ ?_
  · intro _
    exact Nat.le_refl 1
  · intro l x ih h
    have i1 := ih fun r hr => h r (List.mem_append_left _ hr)
    obtain ⟨x1, x2⟩ := h x (List.mem_append_right _ List.mem_cons_self)
    rw [Mt.deals_snoc, List.length_append, List.length_singleton]
    show _ ≤ descL n l.length * (n - l.length)
    refine Nat.le_trans (ext_len2 (m := n - l.length) _ fun d hd => ?_) (Nat.mul_le_mul_right _ i1)
    have dd := (Mt.mem_deals d).mp hd
    rw [← dd.len]
    refine left_len x1 x2 dd.nd fun t ht => ?_
    obtain ⟨i, hi⟩ := List.getElem?_of_mem ht
    obtain ⟨r, hr, htr⟩ := row_mem (dd.tie i t hi)
    exact (h r (List.mem_append_left _ hr)).2 t htr
/-- at most ten people, and not too many dealings on the way -/
structure Fit (rows : List (List Int)) : Prop where
  n : rows.length ≤ 10
  few : ∀ i, (Mt.deals (rows.take i)).length ≤ 1048576
  all : (Mt.deals rows).length ≤ 4000
theorem Fit.few_all {rows : List (List Int)} (h : Fit rows) : (Mt.deals rows).length ≤ 1048576 := Nat.le_trans h.all (by decide)
theorem few_of {rows : List (List Int)} {n m : Nat} (h : rows.length ≤ m) (hr : ∀ r ∈ rows, r.length ≤ n) (n0 : 1 ≤ n) (b : n ^ m ≤ 1048576) (i : Nat) : (Mt.deals (rows.take i)).length ≤ 1048576 := by
  have h1 := deals_len (n := n) (rows.take i) fun r h => hr r (List.mem_of_mem_take h)
  have h2 : n ^ (rows.take i).length ≤ n ^ m := Nat.pow_le_pow_right n0 (by rw [List.length_take]; omega)
  omega
theorem desc6 : ∀ n : Nat, n ≤ 6 → descL n n ≤ 720
  | 0, _ => by decide
  | 1, _ => by decide
  | 2, _ => by decide
  | 3, _ => by decide
  | 4, _ => by decide
  | 5, _ => by decide
  | 6, _ => by decide
  | n + 7, h => by omega
theorem fit6 {rows : List (List Int)} (G : Good rows) (h : rows.length ≤ 6) : Fit rows where
  n := by omega
  few := few_of h (fun r hr => Nat.le_trans (G.row_len r hr) h) (by decide) (by decide)
  all := by
    have h1 := deals_desc (n := rows.length) rows fun r hr => ⟨G.asc r hr, G.rng r hr⟩
    have h2 := desc6 _ h
    omega
theorem fit4 {rows : List (List Int)} (h : rows.length ≤ 10) (hr : ∀ r ∈ rows, r.length ≤ 4) (hp : prodL (rows.map List.length) ≤ 4000) : Fit rows where
  n := h
  few := few_of h hr (by decide) (by decide)
  all := Nat.le_trans (deals_prod rows) hp
end Fo

set_option maxRecDepth 100000
set_option maxHeartbeats 4000000
namespace Fo
open PySem PySem.Spec PyProof.Rows L2
abbrev s_law_dealings : Stmt := top 43
abbrev n_law_dealings : List Str := ["rows", "found", "row", "longer", "told", "thing"]
theorem sc_law_dealings : FnScope n_law_dealings ["rows"] (defScope s_law_dealings) := ⟨rfl, rfl, rfl, by decide +kernel, rfl, by decide +kernel, by decide +kernel⟩
section
variable {P : Program} {w : World} {K : PySem.W.Frag} {mg : Str → Option Value} {base : Heap} {C : Addr}
def spDeals (K : PySem.W.Frag) : Sp := fun vs H Q _ => ∃ (rv : V) (rows : List (List Int)), vs = [rv] ∧ RowsAt K H rv rows ∧ Good rows ∧ Fit rows ∧
  ∀ l ws H', Same H H' → H l = none → H' l = some (.lst ws) → RowsT K H' ws (Mt.deals rows) → Q (.ref l) H'
theorem ok_deals (A : At K mg "_law_dealings" s_law_dealings ["rows"]) (T : Tx mg) : Dfn P w K mg base "_law_dealings" ["rows"] 1 (spDeals K) := by
  refine A.ok sc_law_dealings (fun vs H Q E h => ?_) (fun f cdv A outer s H vs Q E hr h => ?_)
  · obtain ⟨rv, rows, rfl, _⟩ := h
    rfl
  · obtain ⟨rv, rows, rfl, hR, G, hn, k⟩ := h
    obtain ⟨ra, rvs, rfl, hra, hrt⟩ := id hR
    have rvl := hrt.len
    refine ⟨_, (pss_cons (ps_set (i := 1) sc_law_dealings.nd rfl (Or.inl rfl) (pe_lst (pa_cons (pe_tup pa_nil) pa_nil)))
      (pss_cons (ps_for PassesOwn.never rfl (pi_tup (pv 0)) (pg_name (i := 2) sc_law_dealings.nd rfl (Or.inl rfl))
      (pss_cons (ps_set (i := 3) sc_law_dealings.nd rfl (Or.inl rfl) (pe_lst pa_nil))
      (pss_cons (ps_for PassesOwn.never rfl (pi_list (pv 1)) (pg_name (i := 4) sc_law_dealings.nd rfl (Or.inr rfl))
      (pss_one (ps_expr (pe_bm PySem.F.plainAttrs_list PySem.F.slot_list_extend PySem.F.type_list_extend mt_extend (pv 3) (pa_cons (pe_lc (own := [("thing", 5)]) (g := (gName 5)) (tt := (tTest (tOp (rIn K true) (tVar 5) (tVar 4)))) (te := (tOp (rCatA K) (tVar 4) (tTup (tCons (tVar 5) tNil)))) (by rfl) sc_law_dealings.nd (pi_tup (pv 2)) (blkOk_by (own := [("thing", 5)]) (N := n_law_dealings) (sc := (defScope s_law_dealings)) (by decide +kernel)) (fun _ _ _ _ _ => (pg_name (i := 5) sc_law_dealings.nd rfl (Or.inl rfl))) (fun _ _ _ _ _ => (pts_one (pt_cmpR op_notIn_seq (pv 5) (pv 4) rfl))) (fun _ _ _ _ _ => (pe_op op_catA (pv 4) (pe_tup (pa_cons (pv 5) pa_nil))))) pa_nil)))))
      (pss_one (ps_set (i := 1) sc_law_dealings.nd rfl (Or.inl rfl) (pv 3))))))
      (pss_one (ps_ret (pv 1))))), ?_⟩
    have rl : ∀ r ∈ rows, r.length ≤ 10 := fun r hr => Nat.le_trans (G.row_len r hr) hn.n
    have hn10 := hn.n
    have dl : ∀ i, (Mt.deals (rows.take i)).length ≤ 1048576 := hn.few
    refine ⟨by show 0 ≤ sizeLine; decide, fun t0 ht0 => ⟨by show 1 ≤ sizeLine; decide, fun f0 hf0 => ?_⟩⟩
    have s0 : Same H (upd H t0 (.tup [])) := same_new ht0
    have s1 := s0.trans (same_new (o := .lst [V.ref t0]) hf0)
    have r1 : RowsT K (upd (upd H t0 (.tup [])) f0 (.lst [V.ref t0])) [V.ref t0] [[]] := .cons (sqT_same (same_new hf0) (SqT.of upd_same)) .nil
    refine ⟨_, rfl, ra, rfl, ⟨_, sqT_same s1 hra⟩, ?_⟩
    refine for_tup (xs := rvs) (fun i σ' H' => ∃ x2 x3 x4 x5 f ws, σ' = [some (.ref ra), some (.ref f), x2, x3, x4, x5] ∧ H' f = some (.lst ws) ∧ RowsT K H' ws (Mt.deals (rows.take i)) ∧ Same H H' ∧ H f = none) ⟨_, _, _, _, f0, _, rfl, upd_same, r1, s1, s0.free hf0⟩ (fun i σ' H' _ hp => by obtain ⟨_, _, _, _, _, _, _, _, _, s3, _⟩ := hp; exact sqT_same s3 hra) ?_ ?_
    · rintro i x σ' H1 hx ⟨x2, x3, x4, x5, f, ws, rfl, hf, hw, s2, ff⟩
      obtain ⟨q, r, ex, hri, hq2⟩ : ∃ q r, x = .ref q ∧ rows[i]? = some r ∧ SqT K H q (r.map V.int) := by
        have hir : i < rows.length := by have := (List.getElem?_eq_some_iff.mp hx).1; omega
        have hri := List.getElem?_eq_getElem hir
        obtain ⟨q, h1, h2⟩ := hrt.get hri
        rw [hx] at h1
        exact ⟨q, _, Option.some.inj h1, hri, h2⟩
      subst ex
      have rl6 := rl r (List.mem_of_getElem? hri)
      have hir : i < rows.length := (List.getElem?_eq_some_iff.mp hri).1
      refine ⟨by show 0 ≤ sizeLine; decide, fun g hg => ?_⟩
      have nfg : f ≠ g := ne_of_none hf hg
      have s3 := s2.trans (same_new (o := .lst []) hg)
      have fg : H g = none := s2.free hg
      have wl : ws.length = (Mt.deals (rows.take i)).length := hw.len
      have wb := dl i
      refine ⟨_, rfl, f, rfl, ⟨ws, SqL.of (by rw [upd_ne nfg]; exact hf)⟩, ?_⟩
      refine for_list (xs := ws) (fun j σ' H' => ∃ x4 x5 vs, σ' = [some (.ref ra), some (.ref f), some (.ref q), some (.ref g), x4, x5] ∧ H' f = some (.lst ws) ∧ RowsT K H' ws (Mt.deals (rows.take i)) ∧ H' g = some (.lst vs) ∧ RowsT K H' vs (Mt.ext ((Mt.deals (rows.take i)).take j) r) ∧ Same H H') ⟨_, _, [], rfl, by rw [upd_ne nfg]; exact hf, hw.same (same_new hg), upd_same, .nil, s3⟩ (fun j σ' H' _ hp => by obtain ⟨_, _, _, _, h, _⟩ := hp; exact SqL.of h) ?_ ?_
      · rintro j y σ' H2 hy ⟨x4', x5', vs, rfl, hf2, hw2, hg2, hv2, s4⟩
        have jl : j < (Mt.deals (rows.take i)).length := by have := (List.getElem?_eq_some_iff.mp hy).1; omega
        have hdj := List.getElem?_eq_getElem jl
        obtain ⟨d, ed⟩ : ∃ d, d = (Mt.deals (rows.take i))[j] := ⟨_, rfl⟩
        rw [← ed] at hdj
        obtain ⟨b, hb1, hb2⟩ := hw2.get hdj
        rw [hy] at hb1
        have ey : y = .ref b := Option.some.inj hb1
        subst ey
        have dlen : d.length ≤ 10 := by
          have hd := (Mt.mem_deals d).mp (List.mem_of_getElem? hdj)
          have := hd.len
          rw [List.length_take] at this
          omega
        have vb : vs.length ≤ 1048576 * 10 := by
          rw [hv2.len]
          have h1 := ext_len (n := 10) (r := r) rl6 ((Mt.deals (rows.take i)).take j)
          rw [List.length_take] at h1
          have h2 : min j (Mt.deals (rows.take i)).length * 10 ≤ 1048576 * 10 := Nat.mul_le_mul_right 10 (by omega)
          omega
        refine ⟨_, rfl, .inl ⟨rfl, _, SqL.of hg2⟩, _, rfl, q, rfl, ⟨_, sqT_same s4 hq2⟩, fun D hD => ?_⟩
        have nDg : g ≠ D := ne_of_none hg2 hD
        have nDf : f ≠ D := ne_of_none hf2 hD
        refine lc_tup (xs := r.map V.int) (fun l H' => ∃ us, H' D = some (.lst us) ∧ RowsT K H' us (((r.take l).filter fun t => decide (t ∉ d)).map fun t => d ++ [t]) ∧ Same H2 H') ⟨[], upd_same, .nil, same_new hD⟩ (fun l H' _ hp => by obtain ⟨_, _, _, s5⟩ := hp; exact sqT_same (s4.trans s5) hq2) ?_ ?_
        · rintro l z H3 hz ⟨us, hu, hur, s5⟩
          obtain ⟨t, ht, rfl⟩ : ∃ t, r[l]? = some t ∧ z = V.int t := by
            rw [List.getElem?_map] at hz
            cases e : r[l]? with
            | none => rw [e] at hz; cases hz
            | some u => rw [e] at hz; exact ⟨u, rfl, (Option.some.inj hz).symm⟩
          have ub : us.length ≤ 10 := by
            rw [hur.len, List.length_map]
            exact Nat.le_trans (List.length_filter_le _ _) (by rw [List.length_take]; omega)
          refine ⟨rfl, _, rfl, _, rfl, b, _, rfl, .inr (sqT_same s5 hb2), rfl, all_flat_ints _, _, rfl, ?_⟩
          show if (!inV (V.int t) (d.map V.int)) = true then _ else _
          rw [inV_ints]
          by_cases hc : t ∈ d
          · rw [show (!decide (t ∈ d)) = false from by rw [decide_eq_true hc]; rfl]
            refine ⟨us, hu, ?_, s5⟩
            rw [take_snoc ht, List.filter_append, show [t].filter (fun t => decide (t ∉ d)) = [] from by rw [List.filter_cons_of_neg (by simpa using hc)]; rfl, List.append_nil]
            exact hur
          · rw [show (!decide (t ∈ d)) = true from by rw [decide_eq_false hc]; rfl]
            refine ⟨_, rfl, _, rfl, by show 1 ≤ sizeLine; decide, fun o ho => ?_⟩
            have s6 : Same H3 (upd H3 o (.tup [V.int t])) := same_new ho
            refine catA (ys := [V.int t]) (sqT_same (s5.trans s6) hb2) (SqT.of upd_same) (by rw [List.length_map]; show d.length + 1 ≤ 100000; omega) fun c H4 s7 hcq => ?_
            have s67 := s6.trans s7
            refine ⟨us, s67 _ _ hu, small_lt (by omega), us ++ [.ref c], upd_same, ?_, same_mut (s5.trans s67) hD⟩
            rw [take_snoc ht, List.filter_append, show [t].filter (fun t => decide (t ∉ d)) = [t] from by rw [List.filter_cons_of_pos (by simpa using hc)]; rfl, List.map_append]
            have hc2 : SqT K H4 c ((d ++ [t]).map V.int) := by rw [List.map_append]; exact hcq
            exact RowsT.put (s67 _ _ hu) (RowsT.snoc hc2 (hur.same s67))
        · rintro H3 ⟨us, hu, hur, s5⟩
          rw [List.length_map, List.take_length] at hur
          have hg3 := s5 _ _ hg2
          have hf3 := s5 _ _ hf2
          have ub : us.length ≤ 10 := by
            rw [hur.len, List.length_map]
            exact Nat.le_trans (List.length_filter_le _ _) rl6
          have s45 := s4.trans s5
          have bigS : 1048576 * 10 + 10 ≤ sizeLine := by decide
          refine ⟨g, D, vs, us, rfl, rfl, hg3, hu, by omega, ?_⟩
          refine ⟨_, _, vs ++ us, rfl, by rw [upd_ne nfg]; exact hf3, RowsT.put hg3 (hw2.same s5), upd_same, ?_, same_mut s45 fg⟩
          rw [take_snoc hdj]
          have e : Mt.ext ((Mt.deals (rows.take i)).take j ++ [d]) r = Mt.ext ((Mt.deals (rows.take i)).take j) r ++ (r.filter fun t => decide (t ∉ d)).map fun t => d ++ [t] := by
            unfold Mt.ext
            rw [List.flatMap_append, List.flatMap_singleton]
          rw [e]
          exact RowsT.put hg3 ((hv2.same s5).app hur)
      · rintro σ' H2 ⟨x4', x5', vs, rfl, hf2, hw2, hg2, hv2, s4⟩
        rw [List.take_of_length_le (by omega)] at hv2
        refine ⟨_, rfl, _, _, _, _, g, vs, rfl, hg2, ?_, s4, fg⟩
        rw [take_snoc hri, Mt.deals_snoc]
        exact hv2
    · rintro σ' H1 ⟨x2, x3, x4, x5, f, ws, rfl, hf, hw, s2, ff⟩
      rw [List.take_of_length_le (by omega)] at hw
      exact ⟨_, rfl, k f ws H1 s2 ff hf hw⟩
end
end Fo

set_option maxRecDepth 100000
set_option maxHeartbeats 4000000
namespace Fo
open PySem PySem.Spec PyProof.Rows L2
abbrev s_law_thin : Stmt := top 52
abbrev n_law_thin : List Str := ["tape", "many", "order", "rows", "turn", "k", "row"]
theorem sc_law_thin : FnScope n_law_thin ["tape"] (defScope s_law_thin) := ⟨rfl, rfl, rfl, by decide +kernel, rfl, by decide +kernel, by decide +kernel⟩
/-- lists of small numbers behind one list -/
structure ThinI (os : List Int) (t l : Addr) (n b : Nat) (H H' : Hp) (D : Addr) (qs : List Addr) (ds : List (List Int)) : Prop where
  hD : H' D = some (.lst (qs.map .ref))
  fD : H D = none
  nd : qs.Nodup
  nm : D ∉ qs
  len : qs.length = ds.length
  cell : ∀ (i : Nat) (q : Addr) (d : List Int), qs[i]? = some q → ds[i]? = some d → H q = none ∧ H' q = some (.lst (d.map V.int))
  ok : ∀ d ∈ ds, d.length ≤ b ∧ ∀ x ∈ d, 0 ≤ x ∧ x < (n : Int)
  lo : ∀ d ∈ ds, 2 ≤ d.length
  own : ∀ (i : Nat) (d : List Int), ds[i]? = some d → ∃ u, os[i]? = some u ∧ u ∈ d
  pr : prodL (ds.map List.length) * 2 ^ (b - 2) ≤ 2 ^ ds.length * 3 ^ (b - 2)
  gr : Gr t H H'
  tp : Tape H' t l
theorem ThinI.gr' {os : List Int} {t l : Addr} {n b : Nat} {H H' H2 : Hp} {D : Addr} {qs : List Addr} {ds : List (List Int)} (T : Tape H t l) (h : ThinI os t l n b H H' D qs ds) (g : Gr t H' H2) (T2 : Tape H2 t l) : ThinI os t l n b H H2 D qs ds where
  hD := g _ _ (T.free h.fD).1 h.hD
  fD := h.fD
  nd := h.nd
  nm := h.nm
  len := h.len
  cell := fun i q d h1 h2 => by
    obtain ⟨a, b⟩ := h.cell i q d h1 h2
    exact ⟨a, g _ _ (T.free a).1 b⟩
  ok := h.ok
  lo := h.lo
  own := h.own
  pr := h.pr
  gr := h.gr.trans g
  tp := T2
theorem ThinI.get {os : List Int} {t l : Addr} {n b : Nat} {H H' : Hp} {D : Addr} {qs : List Addr} {ds : List (List Int)} (h : ThinI os t l n b H H' D qs ds) {i : Nat} (hi : i < ds.length) : ∃ q d, qs[i]? = some q ∧ ds[i]? = some d ∧ H q = none ∧ H' q = some (.lst (d.map V.int)) := by
  have hq : i < qs.length := by rw [h.len]; exact hi
  obtain ⟨a, b⟩ := h.cell i _ _ (List.getElem?_eq_getElem hq) (List.getElem?_eq_getElem hi)
  exact ⟨_, _, List.getElem?_eq_getElem hq, List.getElem?_eq_getElem hi, a, b⟩
/-- one list more -/
theorem ThinI.more {os : List Int} {t l : Addr} {n : Nat} {H H' : Hp} {D q : Addr} {qs : List Addr} {ds : List (List Int)} {d : List Int} (T : Tape H t l) (h : ThinI os t l n 2 H H' D qs ds) (hq : H' q = some (.lst (d.map V.int))) (fq : H q = none) (nq : q ∉ qs) (nD : q ≠ D) (h2 : d.length = 2) (how : ∃ u, os[ds.length]? = some u ∧ u ∈ d) (hd : d.length ≤ 2 ∧ ∀ x ∈ d, 0 ≤ x ∧ x < (n : Int)) :
    ThinI os t l n 2 H (upd H' D (.lst (qs.map .ref ++ [.ref q]))) D (qs ++ [q]) (ds ++ [d]) where
  hD := by rw [upd_same, List.map_append]; rfl
  fD := h.fD
  nd := List.nodup_append.mpr ⟨h.nd, List.nodup_cons.mpr ⟨fun z => (by cases z), List.nodup_nil⟩, fun a ha b hb e => nq (by rw [List.mem_singleton.mp hb] at e; exact e ▸ ha)⟩
  nm := fun hm => (List.mem_append.mp hm).elim h.nm fun z => nD (List.mem_singleton.mp z).symm
  len := by rw [List.length_append, List.length_append, h.len]; rfl
  cell := fun i a e h1 h2 => by
    have ne : a ≠ D := fun z => by
      have hm := List.mem_of_getElem? h1
      rw [z] at hm
      exact (List.mem_append.mp hm).elim h.nm fun z => nD (List.mem_singleton.mp z).symm
    rw [upd_ne ne]
    by_cases hi : i < qs.length
    · rw [List.getElem?_append_left hi] at h1
      rw [List.getElem?_append_left (by rw [← h.len]; exact hi)] at h2
      exact h.cell i a e h1 h2
    · have := (List.getElem?_eq_some_iff.mp h1).1
      rw [List.length_append, List.length_singleton] at this
      have ei : i = qs.length := by omega
      rw [ei, List.getElem?_concat_length] at h1
      rw [ei, h.len, List.getElem?_concat_length] at h2
      cases h1
      cases h2
      exact ⟨fq, hq⟩
  ok := fun e he => (List.mem_append.mp he).elim (h.ok e) fun z => by rw [List.mem_singleton.mp z]; exact hd
  lo := fun e he => (List.mem_append.mp he).elim (h.lo e) fun z => by rw [List.mem_singleton.mp z]; omega
  own := fun i e hi => by
    by_cases il : i < ds.length
    · rw [List.getElem?_append_left il] at hi
      exact h.own i e hi
    · have := (List.getElem?_eq_some_iff.mp hi).1
      rw [List.length_append, List.length_singleton] at this
      have ei : i = ds.length := by omega
      rw [ei, List.getElem?_concat_length] at hi
      cases hi
      rw [ei]
      exact how
  pr := by
    have := h.pr
    rw [List.map_append, show [d].map List.length = [2] from by rw [List.map_singleton, h2], prodL_snoc, List.length_append, List.length_singleton, Nat.pow_succ]
    show prodL (ds.map List.length) * 2 * 1 ≤ 2 ^ ds.length * 2 * 1
    have z : prodL (ds.map List.length) * 1 ≤ 2 ^ ds.length * 1 := this
    omega
  gr := gr_mut h.gr h.fD
  tp := h.tp.mut (T.free h.fD)
/-- one number more in one list -/
theorem ThinI.put {os : List Int} {t l : Addr} {n b : Nat} {H H' : Hp} {D q : Addr} {qs : List Addr} {ds : List (List Int)} {d : List Int} {i : Nat} {x : Int} (T : Tape H t l) (h : ThinI os t l n b H H' D qs ds) (hq : qs[i]? = some q) (hd : ds[i]? = some d) (hx : 0 ≤ x ∧ x < (n : Int)) (b2 : 2 ≤ b) :
    ThinI os t l n (b + 1) H (upd H' q (.lst (d.map V.int ++ [.int x]))) D qs (ds.set i (d ++ [x])) := by
  obtain ⟨fq, hcell⟩ := h.cell i q d hq hd
  have nD : D ≠ q := fun e => h.nm (e ▸ List.mem_of_getElem? hq)
  refine ⟨by rw [upd_ne nD]; exact h.hD, h.fD, h.nd, h.nm, by rw [List.length_set]; exact h.len, fun j a e h1 h2 => ?_, fun e he => ?_, fun e he => ?_, fun j e hj => ?_, ?_, gr_mut h.gr fq, h.tp.mut (T.free fq)⟩
  · by_cases hj : j = i
    · subst hj
      rw [hq] at h1
      cases h1
      rw [List.getElem?_set_self (by exact (List.getElem?_eq_some_iff.mp hd).1)] at h2
      cases h2
      exact ⟨fq, by rw [upd_same, List.map_append]; rfl⟩
    · rw [List.getElem?_set_ne (fun z => hj z.symm)] at h2
      have ne : a ≠ q := fun z => hj (by
        subst z
        exact Mt.nodup_get h.nd h1 hq)
      rw [upd_ne ne]
      exact h.cell j a e h1 h2
  · rcases List.mem_or_eq_of_mem_set he with z | z
    · have := h.ok e z
      exact ⟨by omega, this.2⟩
    · rw [z]
      have := h.ok d (List.mem_of_getElem? hd)
      refine ⟨by rw [List.length_append, List.length_singleton]; omega, fun y hy => ?_⟩
      rcases List.mem_append.mp hy with hy | hy
      · exact this.2 y hy
      · rw [List.mem_singleton.mp hy]; exact hx
  · rcases List.mem_or_eq_of_mem_set he with z | z
    · exact h.lo e z
    · rw [z, List.length_append, List.length_singleton]
      have := h.lo d (List.mem_of_getElem? hd)
      omega
  · by_cases ji : j = i
    · subst ji
      rw [List.getElem?_set_self (by exact (List.getElem?_eq_some_iff.mp hd).1)] at hj
      cases hj
      obtain ⟨u, h1, h2⟩ := h.own j d hd
      exact ⟨u, h1, List.mem_append_left _ h2⟩
    · rw [List.getElem?_set_ne (fun z => ji z.symm)] at hj
      exact h.own j e hj
  · have e1 := prodL_set (x := x) hd
    have dl := h.lo d (List.mem_of_getElem? hd)
    have pr := h.pr
    rw [List.length_set]
    generalize prodL ((ds.set i (d ++ [x])).map List.length) = p1 at e1 ⊢
    generalize prodL (ds.map List.length) = p0 at e1 pr
    have e2 : p1 * 2 ≤ p0 * 3 := by
      have h1 : p1 * 2 * d.length ≤ p0 * 3 * d.length := by
        have h2 : p1 * 2 * d.length = p0 * (d.length + 1) * 2 := by rw [← e1]; exact Nat.mul_right_comm _ _ _
        rw [h2, Nat.mul_assoc, Nat.mul_assoc]
        exact Nat.mul_le_mul_left p0 (by omega)
      exact Nat.le_of_mul_le_mul_right h1 (by omega)
    have eb : b + 1 - 2 = (b - 2) + 1 := by omega
    rw [eb, Nat.pow_succ, Nat.pow_succ]
    calc p1 * (2 ^ (b - 2) * 2) = (p1 * 2) * 2 ^ (b - 2) := by rw [Nat.mul_comm (2 ^ (b - 2)) 2, Nat.mul_assoc]
      _ ≤ (p0 * 3) * 2 ^ (b - 2) := Nat.mul_le_mul_right _ e2
      _ = (p0 * 2 ^ (b - 2)) * 3 := Nat.mul_right_comm _ _ _
      _ ≤ (2 ^ ds.length * 3 ^ (b - 2)) * 3 := Nat.mul_le_mul_right _ pr
      _ = 2 ^ ds.length * (3 ^ (b - 2) * 3) := Nat.mul_assoc _ _ _
section
variable {P : Program} {w : World} {K : PySem.W.Frag} {mg : Str → Option Value} {base : Heap} {C : Addr}
def spThin (K : PySem.W.Frag) : Sp := fun vs H Q _ => ∃ (t l : Addr), vs = [.ref t] ∧ Tape H t l ∧ ∀ (v : V) (rows : List (List Int)) (H' : Hp), Good rows → rows.length ≤ 10 → (∀ r ∈ rows, r.length ≤ 4) → prodL (rows.map List.length) ≤ 4000 → (∃ D, Mt.Ds rows D) → Gr t H H' → Tape H' t l → RowsAt K H' v rows → Q v H'
theorem ok_thin (A : At K mg "_law_thin" s_law_thin ["tape"]) (T : Tx mg) (G_law_pick : Dfn P w K mg base "_law_pick" ["tape", "size"] 1 spPick) (G_law_order : Dfn P w K mg base "_law_order" ["tape", "many"] 2 spOrder) : Dfn P w K mg base "_law_thin" ["tape"] 3 (spThin K) := by
  refine A.ok sc_law_thin (fun vs H Q E h => ?_) (fun f cdv A outer s H vs Q E hr h => ?_)
  · obtain ⟨t, l, rfl, _⟩ := h
    rfl
  · obtain ⟨t, l, rfl, hT, k⟩ := h
    refine ⟨_, (pss_cons (ps_set (i := 1) sc_law_thin.nd rfl (Or.inr rfl) (pe_op op_add pe_int (pe_d G_law_pick (hr.mono (by decide)) (pa_cons (pv 0) (pa_cons pe_int pa_nil)))))
      (pss_cons (ps_set (i := 2) sc_law_thin.nd rfl (Or.inr rfl) (pe_d G_law_order (hr.mono (by decide)) (pa_cons (pv 0) (pa_cons (pv 1) pa_nil))))
      (pss_cons (ps_setLc (i := 3) (own := [("k", 5)]) (g := (gName 5)) (tt := tYes) (te := (tLst (tCons (tOp (rIxL K) (tVar 2) (tVar 5)) (tCons (tOp (rIxL K) (tLst (tCons (tOp (rIxL K) (tVar 2) (tOp (rI (fun _ j => 0 < j) fun i j => V.int (i % j)) (tCB rIntOf (tCons (tOp (rI0 fun i j => V.int (i + j)) (tVar 5) (tC (V.int 1))) tNil)) (tVar 1))) (tCons (tCall spPick [] E0 (tCons (tVar 0) (tCons (tVar 1) tNil))) tNil))) (tCall spPick [] E0 (tCons (tVar 0) (tCons (tC (V.int 2)) tNil)))) tNil)))) (by rfl) sc_law_thin.nd rfl rfl (sw_true rfl rfl rfl (by decide +kernel)) (pi_range1 rfl T.range (pa_cons (pv 1) pa_nil)) (blkOk_by (own := [("k", 5)]) (N := n_law_thin) (sc := (defScope s_law_thin)) (by decide +kernel)) (fun _ _ _ _ _ => (pg_name (i := 5) sc_law_thin.nd rfl (Or.inl rfl))) (fun _ _ _ _ _ => pts_nil) (fun _ _ _ _ _ => (pe_lst (pa_cons (pe_ix ix_list (pv 2) (pv 5) (fun _ _ => rfl)) (pa_cons (pe_ix ix_list (pe_lst (pa_cons (pe_ix ix_list (pv 2) (pe_op op_mod (pe_callTy c_int (by rfl) T.int (by decide +kernel) (pa_cons (pe_op op_add (pv 5) pe_int) pa_nil)) (pv 1)) (fun _ _ => rfl)) (pa_cons (pe_d G_law_pick (hr.mono (by decide)) (pa_cons (pv 0) (pa_cons (pv 1) pa_nil))) pa_nil))) (pe_d G_law_pick (hr.mono (by decide)) (pa_cons (pv 0) (pa_cons pe_int pa_nil))) (fun _ _ => rfl)) pa_nil)))))
      (pss_cons (ps_for PassesOwn.never rfl (pi_range1 rfl T.range (pa_cons pe_int pa_nil)) (pg_name (i := 4) sc_law_thin.nd rfl (Or.inl rfl))
      (pss_one (ps_expr (pe_bm PySem.F.plainAttrs_list PySem.F.slot_list_append PySem.F.type_list_append mt_append (pe_ix ix_list (pv 3) (pe_d G_law_pick (hr.mono (by decide)) (pa_cons (pv 0) (pa_cons (pv 1) pa_nil))) (fun _ _ => rfl)) (pa_cons (pe_d G_law_pick (hr.mono (by decide)) (pa_cons (pv 0) (pa_cons (pv 1) pa_nil))) pa_nil)))))
      (pss_one (ps_ret (pe_callTy c_tuple (by rfl) T.tuple (by decide +kernel) (pa_cons (pe_lc (own := [("row", 6)]) (g := (gName 6)) (tt := tYes) (te := (tCB (rTupOf K) (tCons (tCB (rSortSetA w) (tCons (tCB (rSetL K w) (tCons (tVar 6) tNil)) tNil)) tNil))) (by rfl) sc_law_thin.nd (pi_list (pv 3)) (blkOk_by (own := [("row", 6)]) (N := n_law_thin) (sc := (defScope s_law_thin)) (by decide +kernel)) (fun _ _ _ _ _ => (pg_name (i := 6) sc_law_thin.nd rfl (Or.inl rfl))) (fun _ _ _ _ _ => pts_nil) (fun _ _ _ _ _ => (pe_callTy c_tuple (by rfl) T.tuple (by decide +kernel) (pa_cons (pe_callB (cr_sortSetA rfl) (by rfl) T.sorted (by decide +kernel) (pa_cons (pe_callTy (cr_setL rfl) (by rfl) T.set (by decide +kernel) (pa_cons (pv 6) pa_nil)) pa_nil)) pa_nil)))) pa_nil)))))))), ?_⟩
    refine ⟨_, rfl, t, l, 4, rfl, hT, by decide, by decide, fun m H1 m0 m1 g1 T1 => ⟨_, _, rfl, rfl, ?_⟩⟩
    refine ⟨_, rfl, _, rfl, t, l, 7 + m, rfl, T1, by omega, by omega, fun pa os H2 pm fpa hpa g2 T2 => ?_⟩
    have osl : os.length = (7 + m).toNat := by rw [pm.length_eq, rangeI_len]
    refine ⟨_, rfl, _, rfl, by omega, by omega, fun D hD => ?_⟩
    obtain ⟨n, en⟩ : ∃ n : Nat, 7 + m = (n : Int) := ⟨(7 + m).toNat, by omega⟩
    have T2' := T2
    have os_rng : ∀ (i : Nat) (u : Int), os[i]? = some u → 0 ≤ u ∧ u < (n : Int) := fun i u h => by
      have := mem_rangeI.mp (pm.mem_iff.mp (List.mem_of_getElem? h))
      omega
    have nDp : pa ≠ D := ne_of_none hpa hD
    have npt : pa ≠ t := T2.ne_ints' hpa
    refine lc_range (lo := 0) (n := (7 + m).toNat) (fun j H' => ∃ qs ds, ThinI os t l n 2 H2 H' D qs ds ∧ ds.length = j) ⟨[], [], ⟨upd_same, hD, List.nodup_nil, fun z => (by cases z), rfl, fun i q d h1 h2 => (by cases h1), fun d hd => (by cases hd), fun d hd => (by cases hd), fun i d h => (by cases h), Nat.le_refl _, Gr.new hD, T2.new hD⟩, rfl⟩ ?_ ?_
    · rintro j H3 hj ⟨qs, ds, I, hl⟩
      have jn : j < os.length := by omega
      have hju := List.getElem?_eq_getElem jn
      obtain ⟨u, eu⟩ : ∃ u, u = os[j] := ⟨_, rfl⟩
      rw [← eu] at hju
      have hu := os_rng j u hju
      have hp3 : H3 pa = some (.lst (os.map V.int)) := I.gr _ _ npt hpa
      have atj : atI (os.map V.int) (0 + (j : Int)) = some (.int u) := by
        rw [Int.zero_add]
        exact at_nat (by rw [List.getElem?_map, hju]; rfl)
      have hj2 : ((j + 1) % n) < os.length := by
        have := Nat.mod_lt (j + 1) (show 0 < n by omega)
        omega
      have hkv := List.getElem?_eq_getElem hj2
      obtain ⟨z, ez⟩ : ∃ z, z = os[(j + 1) % n] := ⟨_, rfl⟩
      rw [← ez] at hkv
      have hz := os_rng _ z hkv
      have at2 : atI (os.map V.int) ((0 + (j : Int) + 1) % (7 + m)) = some (.int z) := by
        have e : (0 + (j : Int) + 1) % (7 + m) = (((j + 1) % n : Nat) : Int) := by
          rw [en]
          push_cast
          rw [Int.zero_add]
        rw [e]
        exact at_nat (by rw [List.getElem?_map, hkv]; rfl)
      refine ⟨rfl, ?_⟩
      refine ⟨_, rfl, _, rfl, pa, _, _, _, rfl, rfl, SqL.of hp3, atj, ?_⟩
      refine ⟨_, rfl, _, rfl, _, _, rfl, rfl, .inl ⟨_, rfl, _, rfl, _, _, rfl, rfl, by omega, pa, _, _, _, rfl, rfl, SqL.of hp3, at2, ?_⟩⟩
      refine ⟨_, rfl, _, rfl, t, l, 7 + m, rfl, I.tp, by omega, by omega, fun y H4 y0 y1 g4 T4 => ?_⟩
      refine ⟨by show 2 ≤ sizeLine; decide, fun c hc => ?_⟩
      have T5 : Tape (upd H4 c (.lst [V.int z, V.int y])) t l := T4.new hc
      refine ⟨_, rfl, t, l, 2, rfl, T5, by decide, by decide, fun x H6 x0 x1 g6 T6 => ?_⟩
      have hc6 := g6 _ _ (T4.free hc).1 upd_same
      obtain ⟨v, hv, hvr⟩ : ∃ v : Int, atI [V.int z, V.int y] x = some (.int v) ∧ 0 ≤ v ∧ v < (n : Int) := by
        have hx : x = 0 ∨ x = 1 := by omega
        rcases hx with rfl | rfl
        · exact ⟨z, rfl, hz⟩
        · exact ⟨y, rfl, y0, by omega⟩
      refine ⟨c, _, x, _, rfl, rfl, SqL.of hc6, hv, by show 2 ≤ sizeLine; decide, fun q hq => ?_⟩
      have g36 : Gr t H3 H6 := (g4.trans (Gr.new hc)).trans g6
      have I7 := (I.gr' T2 g36 T6).gr' T2 (Gr.new (o := .lst [V.int u, V.int v]) hq) (T6.new hq)
      have q2 : H2 q = none := (I.gr.trans g36).fresh T6 hq
      have nq : q ∉ qs := fun hm => by
        obtain ⟨i, hi⟩ := List.getElem?_of_mem hm
        have il : i < ds.length := by rw [← I.len]; exact (List.getElem?_eq_some_iff.mp hi).1
        have := ((I.gr' T2 g36 T6).cell i q _ hi (List.getElem?_eq_getElem il)).2
        rw [hq] at this
        cases this
      have nqD : q ≠ D := fun e => by
        have := (I.gr' T2 g36 T6).hD
        rw [← e, hq] at this
        cases this
      have ql : qs.length ≤ 12 := by rw [I.len]; omega
      refine ⟨_, I7.hD, by rw [List.length_map]; exact small_lt (by omega), qs ++ [q], ds ++ [[u, v]], ?_, by rw [List.length_append, hl]; rfl⟩
      refine I7.more T2 (d := [u, v]) upd_same q2 nq nqD rfl ⟨u, by rw [hl]; exact hju, List.mem_cons_self⟩ ⟨Nat.le_refl 2, fun y hy => ?_⟩
      rcases List.mem_cons.mp hy with rfl | hy
      · exact hu
      · rw [List.mem_singleton.mp hy]; exact hvr

    · rintro H3 ⟨qs, ds, I, hl⟩
      have e3 : ∀ (x4 x5 x6 : Option V), True := fun _ _ _ => trivial
      refine ⟨_, rfl, by decide, by decide, for_range (lo := 0) (n := 2) (fun i σ' H' => ∃ x4 x5 x6 ds, σ' = [some (.ref t), some (.int (7 + m)), some (.ref pa), some (.ref D), x4, x5, x6] ∧ ThinI os t l n (2 + i) H2 H' D qs ds ∧ ds.length = (7 + m).toNat) ⟨_, _, _, ds, rfl, I, hl⟩ ?_ ?_⟩
      · rintro i σ' H4 hi ⟨x4, x5, x6, ds, rfl, I, hl⟩
        refine ⟨_, rfl, _, rfl, _, rfl, t, l, 7 + m, rfl, I.tp, by omega, by omega, fun x H5 x0 x1 g5 T5 => ?_⟩
        have I5 := I.gr' T2 g5 T5
        obtain ⟨xn, rfl⟩ : ∃ xn : Nat, x = (xn : Int) := ⟨x.toNat, by omega⟩
        obtain ⟨q, d, hq1, hd1, fq, hq2⟩ := I5.get (i := xn) (by omega)
        refine ⟨D, _, (xn : Int), .ref q, rfl, rfl, SqL.of I5.hD, at_nat (by rw [List.getElem?_map, hq1]; rfl), ?_⟩
        refine ⟨.inl ⟨rfl, _, SqL.of hq2⟩, _, rfl, _, rfl, t, l, 7 + m, rfl, T5, by omega, by omega, fun y H6 y0 y1 g6 T6 => ?_⟩
        have I6 := I5.gr' T2 g6 T6
        have hq6 := (I6.cell xn q d hq1 hd1).2
        have dl := (I6.ok d (List.mem_of_getElem? hd1)).1
        refine ⟨q, _, .int y, rfl, rfl, hq6, by rw [List.length_map]; exact small_lt (by omega), _, _, _, ds.set xn (d ++ [y]), rfl, I6.put T2 hq1 hd1 ⟨y0, by omega⟩ (Nat.le_add_right 2 i), by rw [List.length_set]; exact hl⟩
      · rintro σ' H4 ⟨x4, x5, x6, ds, rfl, I, hl⟩
        have I := I
        have ql : qs.length = ds.length := I.len
        refine ⟨_, rfl, D, rfl, ⟨_, SqL.of I.hD⟩, fun D2 hD2 => ?_⟩
        refine lc_list (xs := qs.map V.ref) (fun i H' => ∃ vs rs, H' D2 = some (.lst vs) ∧ RowsT K H' vs rs ∧ rs.length = i ∧ (∀ r ∈ rs, r.Pairwise (· < ·) ∧ r.length ≤ 4 ∧ ∀ x ∈ r, 0 ≤ x ∧ x < (n : Int)) ∧ Same H4 H' ∧ prodL (rs.map List.length) ≤ prodL ((ds.take i).map List.length) ∧ ∀ (j : Nat) (r : List Int), rs[j]? = some r → ∃ u, os[j]? = some u ∧ u ∈ r)
          ⟨[], [], upd_same, .nil, rfl, fun _ h => (by cases h), same_new hD2, Nat.le_refl _, fun j r h => (by cases h)⟩ (fun i H' _ hp => by obtain ⟨_, _, _, _, _, _, s5, _⟩ := hp; exact SqL.of (s5 _ _ I.hD)) ?_ ?_
        · rintro i y H5 hy ⟨vs, rs, h5, hrs, hl5, hall, s5, hpr, hown⟩
          obtain ⟨q, hq, rfl⟩ : ∃ q, qs[i]? = some q ∧ y = V.ref q := by
            rw [List.getElem?_map] at hy
            cases e : qs[i]? with
            | none => rw [e] at hy; cases hy
            | some u => rw [e] at hy; exact ⟨u, rfl, (Option.some.inj hy).symm⟩
          have il : i < ds.length := by rw [← ql]; exact (List.getElem?_eq_some_iff.mp hq).1
          have hd := List.getElem?_eq_getElem il
          obtain ⟨d, ed⟩ : ∃ d, d = ds[i] := ⟨_, rfl⟩
          rw [← ed] at hd
          have hq4 := (I.cell i q d hq hd).2
          have dok := I.ok d (List.mem_of_getElem? hd)
          refine ⟨rfl, ?_⟩
          refine ⟨_, rfl, q, d, rfl, SqL.of (s5 _ _ hq4), by omega, fun a c ha hc _ => ?_⟩
          refine ⟨a, _, c, rfl, upd_same, by omega, fun ks L asc mem len hL => ?_⟩
          have mem' : ∀ x : Int, x ∈ ks ↔ x ∈ d := fun x => (mem x).trans decide_eq_true_iff
          have kl := Mt.len_le (l2 := d) (asc.imp fun {a b} h => by omega) fun x hx => (mem' x).mp hx
          refine ⟨L, _, rfl, .inl ⟨SqL.of upd_same, fun p hp => ?_⟩⟩
          have s6 := ((same_new (o := SetO w a (fun j => decide (j ∈ d)) c) ha).trans (same_new (o := .lst (ks.map V.int)) hL)).trans (same_new (o := .tup (ks.map V.int)) hp)
          have vl := hrs.len
          refine ⟨_, s6 _ _ h5, small_lt (by omega), vs ++ [.ref p], rs ++ [ks], upd_same, RowsT.put (s6 _ _ h5) (RowsT.snoc (SqT.of upd_same) (hrs.same s6)), by rw [List.length_append, hl5]; rfl, fun r hr => ?_, same_mut (s5.trans s6) hD2, ?_, fun j r hj => ?_⟩
          · rcases List.mem_append.mp hr with hr | hr
            · exact hall r hr
            · rw [List.mem_singleton.mp hr]
              exact ⟨asc, by omega, fun x hx => dok.2 x ((mem' x).mp hx)⟩
          · rw [take_snoc hd, List.map_append, List.map_append]
            show prodL (_ ++ [ks.length]) ≤ prodL (_ ++ [d.length])
            rw [prodL_snoc, prodL_snoc]
            exact Nat.mul_le_mul hpr kl
          · by_cases jl : j < rs.length
            · rw [List.getElem?_append_left jl] at hj
              exact hown j r hj
            · have := (List.getElem?_eq_some_iff.mp hj).1
              rw [List.length_append, List.length_singleton] at this
              have ej : j = rs.length := by omega
              rw [ej, List.getElem?_concat_length] at hj
              cases hj
              obtain ⟨u, h1, h2⟩ := I.own i d hd
              rw [ej, hl5]
              exact ⟨u, h1, (mem' u).mpr h2⟩
        · rintro H5 ⟨vs, rs, h5, hrs, hl5, hall, s5, hpr, hown⟩
          rw [List.length_map] at hl5
          refine ⟨D2, _, rfl, .inl ⟨SqL.of h5, fun p hp => ?_⟩⟩
          have s6 : Same H4 (upd H5 p (.tup vs)) := s5.trans (same_new hp)
          have hp4 : prodL (rs.map List.length) ≤ 4000 := by
            rw [List.length_map, List.take_of_length_le (by omega)] at hpr
            have h1 := I.pr
            have h2 : 2 ^ ds.length ≤ 2 ^ 10 := Nat.pow_le_pow_right (by decide) (by omega)
            have h3 : prodL (ds.map List.length) * 4 ≤ 2 ^ ds.length * 9 := h1
            omega
          refine k (.ref p) rs _ ⟨by omega, fun r hr => (hall r hr).1, fun r hr x hx => ?_⟩ (by omega) (fun r hr => (hall r hr).2.1) hp4 ⟨os, by omega, fun p t hpt => ?_, pm.symm.nodup (rangeI_nodup _)⟩ (((g1.trans g2).trans I.gr).trans (Gr.of s6)) (I.tp.keep s6) ⟨p, vs, rfl, SqT.of upd_same, hrs.same (same_new hp)⟩
          · have := (hall r hr).2.2 x hx
            omega
          · have pl : p < rs.length := by have := (List.getElem?_eq_some_iff.mp hpt).1; omega
            obtain ⟨u, h1, h2⟩ := hown p _ (List.getElem?_eq_getElem pl)
            rw [hpt] at h1
            cases h1
            rw [Mt.row_get (List.getElem?_eq_getElem pl)]
            exact h2
end
end Fo

set_option maxRecDepth 100000
set_option maxHeartbeats 4000000
namespace Fo
open PySem PySem.Spec PyProof.Rows L2
abbrev s_law : Stmt := top 53
abbrev n_law : List Str := ["script", "tape", "rows", "table", "turn", "person", "thing", "error", "lot", "due", "told", "which"]
theorem sc_law : FnScope n_law ["script"] (defScope s_law) := ⟨rfl, rfl, rfl, by decide +kernel, rfl, by decide +kernel, by decide +kernel⟩
abbrev s_NoPerson___init : Stmt := inClass (top 3) 0
abbrev n_NoPerson___init : List Str := ["self"]
theorem sc_NoPerson___init : FnScope n_NoPerson___init ["self"] (defScope s_NoPerson___init) := ⟨rfl, rfl, rfl, by decide +kernel, rfl, by decide +kernel, by decide +kernel⟩
abbrev s_NoThing___init : Stmt := inClass (top 4) 0
abbrev n_NoThing___init : List Str := ["self"]
theorem sc_NoThing___init : FnScope n_NoThing___init ["self"] (defScope s_NoThing___init) := ⟨rfl, rfl, rfl, by decide +kernel, rfl, by decide +kernel, by decide +kernel⟩
abbrev s_NoTie___init : Stmt := inClass (top 6) 0
abbrev n_NoTie___init : List Str := ["self"]
theorem sc_NoTie___init : FnScope n_NoTie___init ["self"] (defScope s_NoTie___init) := ⟨rfl, rfl, rfl, by decide +kernel, rfl, by decide +kernel, by decide +kernel⟩
abbrev s_Stuck___init : Stmt := inClass (top 5) 0
abbrev n_Stuck___init : List Str := ["self"]
theorem sc_Stuck___init : FnScope n_Stuck___init ["self"] (defScope s_Stuck___init) := ⟨rfl, rfl, rfl, by decide +kernel, rfl, by decide +kernel, by decide +kernel⟩
section
variable {P : Program} {w : World} {K : PySem.W.Frag} {mg : Str → Option Value} {base : Heap} {C NP NT NI ST DE : Addr}
theorem nat_int (L : List Nat) : L.map nV = (L.map fun (p : Nat) => (p : Int)).map V.int := by rw [List.map_map]; rfl
theorem exm_two (h1 : PySem.W.subIn K (.ref DE) (.type "BaseException") = some true) (h2 : PySem.W.isClsIn K DE = true) (h3 : PySem.W.typeIn K (.ref DE) = some (.type "type")) (h4 : PySem.W.subIn K (.ref B) (.ref DE) = some true) : PySem.W.exmOne K (.ref B) (.ref DE) = some true := by
  have e1 : (PySem.W.subIn K (.ref DE) (.type "BaseException") == some true) = true := by rw [h1] <;> rfl
  have e2 : ((PySem.W.clsIn K DE).isSome && PySem.W.typeIn K (.ref DE) == some (.type "type")) = true := by
    have h2' : (PySem.W.clsIn K DE).isSome = true := h2
    rw [h2', h3] <;> rfl
  show (if (PySem.W.subIn K (.ref DE) (.type "BaseException") == some true) = true then (if ((PySem.W.clsIn K DE).isSome && PySem.W.typeIn K (.ref DE) == some (.type "type")) = true then PySem.W.subIn K (.ref B) (.ref DE) else none) else none) = some true
  rw [if_pos e1, if_pos e2]
  exact h4
theorem er4_mk (gDE : mg "DrawError" = some (.ref DE)) (gVE : mg "ValueError" = none)
    (g0 : mg "NoPerson" = some (.ref NP)) (g1 : mg "NoThing" = some (.ref NT)) (g2 : mg "NoTie" = some (.ref NI)) (g3 : mg "Stuck" = some (.ref ST))
    (m0 : PySem.W.exmOne K (.ref NP) (.ref DE) = some true) (m1 : PySem.W.exmOne K (.ref NT) (.ref DE) = some true) (m2 : PySem.W.exmOne K (.ref NI) (.ref DE) = some true) (m3 : PySem.W.exmOne K (.ref ST) (.ref DE) = some true)
    (c0 : XcC K NP) (c1 : XcC K NT) (c2 : XcC K NI) (c3 : XcC K ST)
    (v0 : PySem.W.kitOne K (.ref NP) (.type "ValueError") = some true) (v1 : PySem.W.kitOne K (.ref NT) (.type "ValueError") = some true) (v2 : PySem.W.kitOne K (.ref NI) (.type "ValueError") = some true) (v3 : PySem.W.kitOne K (.ref ST) (.type "ValueError") = some true)
    (n01 : PySem.W.kitOne K (.ref NP) (.ref NT) = some false) (n02 : PySem.W.kitOne K (.ref NP) (.ref NI) = some false) (n03 : PySem.W.kitOne K (.ref NP) (.ref ST) = some false) (n10 : PySem.W.kitOne K (.ref NT) (.ref NP) = some false) (n12 : PySem.W.kitOne K (.ref NT) (.ref NI) = some false) (n13 : PySem.W.kitOne K (.ref NT) (.ref ST) = some false) (n20 : PySem.W.kitOne K (.ref NI) (.ref NP) = some false) (n21 : PySem.W.kitOne K (.ref NI) (.ref NT) = some false) (n23 : PySem.W.kitOne K (.ref NI) (.ref ST) = some false) (n30 : PySem.W.kitOne K (.ref ST) (.ref NP) = some false) (n31 : PySem.W.kitOne K (.ref ST) (.ref NT) = some false) (n32 : PySem.W.kitOne K (.ref ST) (.ref NI) = some false) : Er4 K mg DE (erOf NP NT NI ST) where
  gDE := gDE
  g0 := g0
  g1 := g1
  g2 := g2
  g3 := g3
  gVE := gVE
  xm := fun c hc => match c, hc with
    | 0, _ => m0
    | 1, _ => m1
    | 2, _ => m2
    | 3, _ => m3
    | n + 4, h => absurd h (by omega)
  xc := fun c hc => match c, hc with
    | 0, _ => c0
    | 1, _ => c1
    | 2, _ => c2
    | 3, _ => c3
    | n + 4, h => absurd h (by omega)
  kk := fun c j hc hj => match c, j, hc, hj with
    | 0, 0, _, _ => kit_same
    | 0, 1, _, _ => n01
    | 0, 2, _, _ => n02
    | 0, 3, _, _ => n03
    | 1, 0, _, _ => n10
    | 1, 1, _, _ => kit_same
    | 1, 2, _, _ => n12
    | 1, 3, _, _ => n13
    | 2, 0, _, _ => n20
    | 2, 1, _, _ => n21
    | 2, 2, _, _ => kit_same
    | 2, 3, _, _ => n23
    | 3, 0, _, _ => n30
    | 3, 1, _, _ => n31
    | 3, 2, _, _ => n32
    | 3, 3, _, _ => kit_same
    | n + 4, _, h, _ => absurd h (by omega)
    | 0, n + 4, _, h => absurd h (by omega)
    | 1, n + 4, _, h => absurd h (by omega)
    | 2, n + 4, _, h => absurd h (by omega)
    | 3, n + 4, _, h => absurd h (by omega)
  kv := fun c hc => match c, hc with
    | 0, _ => v0
    | 1, _ => v1
    | 2, _ => v2
    | 3, _ => v3
    | n + 4, h => absurd h (by omega)
theorem pass_NoPerson {f : Addr} {fd : FuncData} (F : Fun K "__init__" "NoPerson.__init__" s_NoPerson___init f fd) : FnOk P w K mg base CX0 1 f fd ["self"] spPass := by
  refine F.ok sc_NoPerson___init (fun vs H Q E h => ?_) (fun cdv A outer s H vs Q E hr h => ?_)
  · obtain ⟨a, rfl, _⟩ := h
    rfl
  · obtain ⟨a, rfl, k⟩ := h
    exact ⟨_, pss_one ps_pass, k⟩
theorem pass_NoThing {f : Addr} {fd : FuncData} (F : Fun K "__init__" "NoThing.__init__" s_NoThing___init f fd) : FnOk P w K mg base CX0 1 f fd ["self"] spPass := by
  refine F.ok sc_NoThing___init (fun vs H Q E h => ?_) (fun cdv A outer s H vs Q E hr h => ?_)
  · obtain ⟨a, rfl, _⟩ := h
    rfl
  · obtain ⟨a, rfl, k⟩ := h
    exact ⟨_, pss_one ps_pass, k⟩
theorem pass_NoTie {f : Addr} {fd : FuncData} (F : Fun K "__init__" "NoTie.__init__" s_NoTie___init f fd) : FnOk P w K mg base CX0 1 f fd ["self"] spPass := by
  refine F.ok sc_NoTie___init (fun vs H Q E h => ?_) (fun cdv A outer s H vs Q E hr h => ?_)
  · obtain ⟨a, rfl, _⟩ := h
    rfl
  · obtain ⟨a, rfl, k⟩ := h
    exact ⟨_, pss_one ps_pass, k⟩
theorem pass_Stuck {f : Addr} {fd : FuncData} (F : Fun K "__init__" "Stuck.__init__" s_Stuck___init f fd) : FnOk P w K mg base CX0 1 f fd ["self"] spPass := by
  refine F.ok sc_Stuck___init (fun vs H Q E h => ?_) (fun cdv A outer s H vs Q E hr h => ?_)
  · obtain ⟨a, rfl, _⟩ := h
    rfl
  · obtain ⟨a, rfl, k⟩ := h
    exact ⟨_, pss_one ps_pass, k⟩
/-- a thing for the judges, whatever the tape does -/
def ThT (K : PySem.W.Frag) (C t l : Addr) (H : Hp) (v : V) : Prop := ∀ H', Gr t H H' → Tape H' t l → Th K C H' v
theorem ThT.gr {t l : Addr} {H H' : Hp} {v : V} (h : ThT K C t l H v) (g : Gr t H H') : ThT K C t l H' v := fun H2 g2 T2 => h H2 (g.trans g2) T2
theorem ThT.int {t l : Addr} {H : Hp} {i : Int} : ThT K C t l H (.int i) := fun _ _ _ => th_int
theorem ThT.ng {t l : Addr} {H : Hp} {v : V} (T : Tape H t l) (h : ∀ n, Ng K C t 1 n H v) : ThT K C t l H v := fun H' g T' => ((h 1).gr g T).th T'
def spFilledW (K : PySem.W.Frag) (C : Addr) : Sp := fun vs H Q _ => ∃ (x : V) (rows : List (List Int)) (p : Nat) (t : Int), vs = [x, .int (p : Int), .int t] ∧ TableAt K C H x rows ∧ Good rows ∧ rows.length ≤ 12 ∧ t ∈ Mt.row rows p ∧ (∃ D, Mt.Ds rows D) ∧
  ∀ v H', Same H H' → (v = .non ∨ ∃ (a : Addr) (ns : List Int), v = .ref a ∧ SqT K H' a (ns.map V.int) ∧ ns.length ≤ 12) → Q v H'
theorem filled_some {n : Nat} (D : Dfn P w K mg base "filled_lot" ["table", "person", "thing"] n (spFilled K C)) : Dfn P w K mg base "filled_lot" ["table", "person", "thing"] n (spFilledW K C) := by
  obtain ⟨f, fd, a, b, F, c⟩ := D
  refine ⟨f, fd, a, b, F.imp fun vs H Q E h => ?_, c⟩
  obtain ⟨x, rows, p, t, rfl, ht, G, hn, htr, hex, k⟩ := h
  refine ⟨x, rows, p, t, rfl, ht, G, by omega, htr, hex, fun _ H' s => k _ H' s (.inl rfl), fun L _ hL q H' s hq => k _ H' s (.inr ⟨q, L.map fun (p : Nat) => (p : Int), rfl, by rw [← nat_int]; exact hq, ?_⟩)⟩
  have lt := hL.lot G
  have := Mt.len_le (l2 := List.range rows.length) lt.nd fun x hx => List.mem_range.mpr (lt.lt x hx)
  rw [List.length_range] at this
  rw [List.length_map]
  omega
def spLaw (K : PySem.W.Frag) : Sp := fun vs H Q _ => ∃ (a : Addr) (ns : List Int), vs = [.ref a] ∧ SqL K H a (ns.map V.int) ∧ ns.length ≤ 63 ∧ ∀ H', Q (.bl true) H'
theorem ok_law {f : Addr} {fd : FuncData} (F : Fun K "law" "law" s_law f fd) (T : Tx mg) (tc : TC K C) (G_Table : MkT P w K mg base C 6 1 (spInit K C) (spEqT K C))
    (G_law_tape : Dfn P w K mg base "_law_tape" ["script"] 1 (spTape K)) (G_law_pick : Dfn P w K mg base "_law_pick" ["tape", "size"] 1 spPick) (G_law_rows : Dfn P w K mg base "_law_rows" ["tape", "most"] 4 (spRows K)) (G_law_thin : Dfn P w K mg base "_law_thin" ["tape"] 3 (spThin K))
    (G_law_odd : Dfn P w K mg base "_law_odd" ["tape", "thing"] 2 (spOdd K C)) (G_law_error : Dfn P w K mg base "_law_error" ["table", "person", "thing"] 6 (spErr18 K C)) (G_law_told : Dfn P w K mg base "_law_told" ["which", "table", "person", "thing", "lot"] 7 (spTold18 K C)) (G_law_lot : Dfn P w K mg base "_law_lot" ["tape", "table", "told"] 3 (spLot18 K C))
    (G_filled_lot : Dfn P w K mg base "filled_lot" ["table", "person", "thing"] 5 (spFilledW K C)) (G_law_is_filled : Dfn P w K mg base "_law_is_filled" ["rows", "person", "thing", "lot"] 3 (spLawFill K C)) : FnOk P w K mg base CX0 10 f fd ["script"] (spLaw K) := by
  refine F.ok sc_law (fun vs H Q E h => ?_) (fun cdv A outer s H vs Q E hr h => ?_)
  · obtain ⟨a, ns, rfl, _⟩ := h
    rfl
  · obtain ⟨sa, ns, rfl, hS, hlen, k⟩ := h
    refine ⟨_, (pss_cons (ps_set (i := 1) sc_law.nd rfl (Or.inl rfl) (pe_d G_law_tape (hr.mono (by decide)) (pa_cons (pv 0) pa_nil)))
      (Evl.pss_cut (ps_set (i := 2) sc_law.nd rfl (Or.inl rfl) (pe_ifExp (pt_cmpR op_eq (pe_d G_law_pick (hr.mono (by decide)) (pa_cons (pv 1) (pa_cons pe_int pa_nil))) pe_int (nomark _)) (pe_d G_law_thin (hr.mono (by decide)) (pa_cons (pv 1) pa_nil)) (pe_d G_law_rows (hr.mono (by decide)) (pa_cons (pv 1) (pa_cons pe_int pa_nil)))))
      (pss_cons (ps_set (i := 3) sc_law.nd rfl (Or.inr rfl) (pe_makeTable G_Table (hr.mono (by decide)) (pv 2)))
      (pss_cons (ps_for PassesOwn.never rfl (pi_range1 rfl T.range (pa_cons pe_int pa_nil)) (pg_name (i := 4) sc_law.nd rfl (Or.inl rfl))
      (pss_cons (ps_set (i := 5) sc_law.nd rfl (Or.inr rfl) (pe_d G_law_pick (hr.mono (by decide)) (pa_cons (pv 1) (pa_cons (pe_callB c_len (by rfl) T.len (by decide +kernel) (pa_cons (pv 2) pa_nil)) pa_nil))))
      (pss_cons (ps_set (i := 6) sc_law.nd rfl (Or.inr rfl) (pe_d G_law_pick (hr.mono (by decide)) (pa_cons (pv 1) (pa_cons (pe_callB c_len (by rfl) T.len (by decide +kernel) (pa_cons (pv 2) pa_nil)) pa_nil))))
      (Evl.pss_cut (ps_if (PW.pt (pw_and (pt_cmpR op_gt (pe_callB c_len (by rfl) T.len (by decide +kernel) (pa_cons (pe_ix ix_tup (pv 2) (pv 5) (fun _ _ => rfl)) pa_nil)) pe_int (nomark _)) (pw_and1 (pt_cmpR op_gt (pe_d G_law_pick (hr.mono (by decide)) (pa_cons (pv 1) (pa_cons pe_int pa_nil))) pe_int (nomark _))))) (pss_one (ps_set (i := 6) sc_law.nd rfl (Or.inr rfl) (pe_ix ix_tup (pe_ix ix_tup (pv 2) (pv 5) (fun _ _ => rfl)) (pe_d G_law_pick (hr.mono (by decide)) (pa_cons (pv 1) (pa_cons (pe_callB c_len (by rfl) T.len (by decide +kernel) (pa_cons (pe_ix ix_tup (pv 2) (pv 5) (fun _ _ => rfl)) pa_nil)) pa_nil))) (fun _ _ => rfl)))) pss_nil)
      (Evl.pss_cut (ps_if (pt_cmpR op_eq (pe_d G_law_pick (hr.mono (by decide)) (pa_cons (pv 1) (pa_cons pe_int pa_nil))) pe_int (nomark _)) (pss_one (ps_set (i := 5) sc_law.nd rfl (Or.inr rfl) (pe_ix ix_list (pe_lst (pa_cons (pe_callB c_len (by rfl) T.len (by decide +kernel) (pa_cons (pv 2) pa_nil)) (pa_cons (pe_d G_law_odd (hr.mono (by decide)) (pa_cons (pv 1) (pa_cons (pv 3) pa_nil))) pa_nil))) (pe_d G_law_pick (hr.mono (by decide)) (pa_cons (pv 1) (pa_cons pe_int pa_nil))) (fun _ _ => rfl)))) pss_nil)
      (Evl.pss_cut (ps_if (pt_cmpR op_eq (pe_d G_law_pick (hr.mono (by decide)) (pa_cons (pv 1) (pa_cons pe_int pa_nil))) pe_int (nomark _)) (pss_one (ps_set (i := 6) sc_law.nd rfl (Or.inr rfl) (pe_ix ix_list (pe_lst (pa_cons (pe_callB c_len (by rfl) T.len (by decide +kernel) (pa_cons (pv 2) pa_nil)) (pa_cons (pe_d G_law_odd (hr.mono (by decide)) (pa_cons (pv 1) (pa_cons (pv 3) pa_nil))) pa_nil))) (pe_d G_law_pick (hr.mono (by decide)) (pa_cons (pv 1) (pa_cons pe_int pa_nil))) (fun _ _ => rfl)))) pss_nil)
      (pss_cons (ps_set (i := 7) sc_law.nd rfl (Or.inl rfl) (pe_d G_law_error (hr.mono (by decide)) (pa_cons (pv 3) (pa_cons (pv 5) (pa_cons (pv 6) pa_nil)))))
      (pss_one (ps_if (pt_cmpR op_notN (pv 7) pe_non (nomark _)) (pss_one (ps_if (pt_cmpR (op_neD hr.units) (pe_lc (own := [("which", 11)]) (g := (gName 11)) (tt := tYes) (te := (tCall (spTold18 K C) [] E0 (tCons (tVar 11) (tCons (tVar 3) (tCons (tVar 5) (tCons (tVar 6) (tCons (tTup tNil) tNil))))))) (by rfl) sc_law.nd (pi_tup (pe_tup (pa_cons pe_int (pa_cons pe_int pa_nil)))) (blkOk_by (own := [("which", 11)]) (N := n_law) (sc := (defScope s_law)) (by decide +kernel)) (fun _ _ _ _ _ => (pg_name (i := 11) sc_law.nd rfl (Or.inl rfl))) (fun _ _ _ _ _ => pts_nil) (fun _ _ _ _ _ => (pe_d G_law_told (hr.mono (by decide)) (pa_cons (pv 11) (pa_cons (pv 3) (pa_cons (pv 5) (pa_cons (pv 6) (pa_cons (pe_tup pa_nil) pa_nil)))))))) (pe_lst (pa_cons (pv 7) (pa_cons (pv 7) pa_nil))) (nomark _)) (pss_one (ps_ret pe_bl)) pss_nil)) (pss_cons (ps_set (i := 8) sc_law.nd rfl (Or.inl rfl) (pe_d G_law_lot (hr.mono (by decide)) (pa_cons (pv 1) (pa_cons (pv 3) (pa_cons (pe_d G_filled_lot (hr.mono (by decide)) (pa_cons (pv 3) (pa_cons (pv 5) (pa_cons (pv 6) pa_nil)))) pa_nil)))))
      (pss_cons (ps_set (i := 9) sc_law.nd rfl (Or.inl rfl) (pe_d G_law_is_filled (hr.mono (by decide)) (pa_cons (pv 2) (pa_cons (pv 5) (pa_cons (pv 6) (pa_cons (pv 8) pa_nil))))))
      (pss_cons (ps_set (i := 10) sc_law.nd rfl (Or.inl rfl) (pe_d G_law_told (hr.mono (by decide)) (pa_cons pe_int (pa_cons (pv 3) (pa_cons (pv 5) (pa_cons (pv 6) (pa_cons (pv 8) pa_nil)))))))
      (pss_cons (ps_if (PW.pt (pw_or (pt_cmpR (op_neD hr.units) (pv 10) (pv 9) (nomark _)) (pw_or1 (pt_not (pt_val (pe_callB call_isi (by rfl) T.isinstance (by decide +kernel) (pa_cons (pv 10) (pa_cons (pe_bltn (v := V.ty "bool") (by rfl) T.bool (by decide +kernel) rfl) pa_nil)))))))) (pss_one (ps_ret pe_bl)) pss_nil)
      (pss_one (ps_if (pt_cmpR op_notIn_seq (pe_d G_law_told (hr.mono (by decide)) (pa_cons pe_int (pa_cons (pv 3) (pa_cons (pv 5) (pa_cons (pv 6) (pa_cons pe_non pa_nil)))))) (pe_tup (pa_cons pe_str (pa_cons pe_str pa_nil))) rfl) (pss_one (ps_ret pe_bl)) pss_nil)))))))))))))))
      (pss_one (ps_ret (pe_cmpR (op_eqD hr.units) (pe_fld (pv 3) rfl) (pv 2) (nomark _)))))))), ?_⟩
    refine ⟨_, rfl, sa, ns, rfl, hS, fun t l H1 s1 _ _ T1 => ?_⟩
    refine ⟨fun σ' H' => ∃ rv rows, σ' = [some (.ref sa), some (.ref t), some rv, none, none, none, none, none, none, none, none, none] ∧ Good rows ∧ rows.length ≤ 10 ∧ Gr t H1 H' ∧ Tape H' t l ∧ RowsAt K H' rv rows, ?_, ?_⟩
    · refine ⟨_, rfl, t, l, 10, rfl, T1, by decide, by decide, fun c H2 c0 c1 g2 T2 => ⟨rfl, _, rfl, ?_⟩⟩
      refine ite2 (fun _ => ?_) (fun _ => ?_)
      · exact ⟨_, rfl, t, l, rfl, T2, fun v rows H3 G hn h4 hp hD g3 T3 R3 => ⟨v, rows, rfl, G, hn, g2.trans g3, T3, R3⟩⟩
      · exact ⟨_, rfl, t, l, 6, rfl, T2, by decide, by decide, fun v rows H3 G hl g3 T3 R3 => ⟨v, rows, rfl, G, by omega, g2.trans g3, T3, R3⟩⟩
    · rintro σ' H3 ⟨rv, rows, rfl, G, n10, g3, T3, R3⟩
      have gp := G.pos
      refine ⟨_, rfl, rows, G, by omega, R3, fun tp d1 H4 s4 _ h1 => ?_⟩
      have T4 := T3.keep s4
      have R4 := R3.same s4
      have t4 : TableAt K C H4 (.ref tp) rows := ⟨tp, d1, rv, rfl, h1, R4⟩
      obtain ⟨ra, rvs, rfl, hra, hrt⟩ := id R4
      have rvl := hrt.len
      refine ⟨_, rfl, by decide, by decide, for_range (lo := 0) (n := 8) (fun i σ' H' => ∃ x4 x5 x6 x7 x8 x9 x10 x11, σ' = [some (.ref sa), some (.ref t), some (.ref ra), some (.ref tp), x4, x5, x6, x7, x8, x9, x10, x11] ∧ Gr t H4 H' ∧ Tape H' t l) ⟨_, _, _, _, _, _, _, _, rfl, Gr.refl H4, T4⟩ ?_ ?_⟩
      · rintro i σ' H5 hi ⟨x4, x5, x6, x7, x8, x9, x10, x11, rfl, g5, T5⟩
        have hra5 := gr_T g5 T4 hra
        refine ⟨_, rfl, _, rfl, ra, _, rfl, .inr hra5, t, l, _, rfl, T5, by omega, by omega, fun p H6 p0 p1 g6 T6 => ?_⟩
        have hra6 := gr_T g6 T5 hra5
        refine ⟨_, rfl, _, rfl, ra, _, rfl, .inr hra6, t, l, _, rfl, T6, by omega, by omega, fun th H7 th0 th1 g7 T7 => ?_⟩
        rw [rvl] at p1 th1
        obtain ⟨pp, rfl⟩ : ∃ pp : Nat, p = (pp : Int) := ⟨p.toNat, by omega⟩
        have g47 := (g5.trans g6).trans g7
        refine ⟨fun σ' H' => ∃ (u : Int), σ' = [some (.ref sa), some (.ref t), some (.ref ra), some (.ref tp), some (.int (0 + (i : Int))), some (.int (pp : Int)), some (.int u), x7, x8, x9, x10, x11] ∧ Gr t H4 H' ∧ Tape H' t l, ?_, ?_⟩
        · have hra7 := gr_T g7 T6 hra6
          have pr : pp < rows.length := by omega
          obtain ⟨q, hq1, hq2⟩ := (hrt.gr g47 T4).get (List.getElem?_eq_getElem pr)
          obtain ⟨r, er⟩ : ∃ r, r = rows[pp] := ⟨_, rfl⟩
          rw [← er] at hq2
          refine ⟨_, rfl, _, rfl, ra, rvs, (pp : Int), .ref q, rfl, rfl, hra7, at_nat hq1, q, _, rfl, .inr hq2, _, _, rfl, rfl, _, rfl, ?_⟩
          refine ite2 (fun hc => ?_) (fun _ => ?_)
          · refine ⟨_, rfl, t, l, 4, rfl, T7, by decide, by decide, fun c H8 c0 c1 g8 T8 => ⟨_, _, rfl, rfl, _, rfl, ?_⟩⟩
            have hra8 := gr_T g8 T7 hra7
            have hq8 := gr_T g8 T7 hq2
            have rl : 0 < r.length := by
              have := of_decide_eq_true hc
              rw [List.length_map] at this
              omega
            have rlb : r.length ≤ 10 := by
              have := G.row_len r (er ▸ List.getElem_mem pr)
              omega
            have rml : (r.map V.int).length = r.length := List.length_map _
            refine ite2 (fun _ => ?_) (fun _ => ?_)
            · refine ⟨_, rfl, _, rfl, ra, rvs, (pp : Int), .ref q, rfl, rfl, hra8, at_nat hq1, _, rfl, _, rfl, _, rfl, ra, rvs, (pp : Int), .ref q, rfl, rfl, hra8, at_nat hq1, q, _, rfl, .inr hq8, t, l, _, rfl, T8, by omega, by omega, fun j H9 j0 j1 g9 T9 => ?_⟩
              obtain ⟨jn, rfl⟩ : ∃ jn : Nat, j = (jn : Int) := ⟨j.toNat, by omega⟩
              have jl : jn < r.length := by omega
              exact ⟨q, _, (jn : Int), .int r[jn], rfl, rfl, gr_T g9 T8 hq8, at_nat (by rw [List.getElem?_map, List.getElem?_eq_getElem jl]; rfl), _, rfl, (g47.trans g8).trans g9, T9⟩
            · exact ⟨_, rfl, g47.trans g8, T8⟩
          · exact ⟨_, rfl, g47, T7⟩
        · rintro σ' H8 ⟨u, rfl, g8, T8⟩
          refine ⟨fun σ' H' => ∃ (x : V), σ' = [some (.ref sa), some (.ref t), some (.ref ra), some (.ref tp), some (.int (0 + (i : Int))), some x, some (.int u), x7, x8, x9, x10, x11] ∧ Gr t H4 H' ∧ Tape H' t l ∧ ThT K C t l H' x, ?_, ?_⟩
          · refine ⟨_, rfl, t, l, 6, rfl, T8, by decide, by decide, fun c HA c0 c1 gA TA => ⟨rfl, _, rfl, ?_⟩⟩
            have g4A := g8.trans gA
            refine ite2 (fun _ => ?_) (fun _ => ?_)
            · have tabA := t4.gr g4A T4
              refine ⟨_, rfl, ra, _, rfl, .inr (gr_T g4A T4 hra), _, rfl, _, rfl, t, l, .ref tp, rfl, TA, ng_table tc TA tabA, fun z HB gB TB hn => ⟨by show 2 ≤ sizeLine; decide, fun o ho => ?_⟩⟩
              have no := (TB.free ho).1
              refine ⟨_, rfl, t, l, 2, rfl, TB.new ho, by decide, by decide, fun j HC j0 j1 gC TC => ?_⟩
              have hoC := gC _ _ no upd_same
              have gBC := (Gr.of (same_new ho)).trans gC
              have g4C := (g4A.trans gB).trans gBC
              have hj : j = 0 ∨ j = 1 := by omega
              rcases hj with rfl | rfl
              · exact ⟨o, _, 0, _, rfl, rfl, SqL.of hoC, rfl, _, rfl, g4C, TC, ThT.int⟩
              · exact ⟨o, _, 1, z, rfl, rfl, SqL.of hoC, rfl, _, rfl, g4C, TC, (ThT.ng TB hn).gr gBC⟩
            · exact ⟨_, rfl, g4A, TA, ThT.int⟩
          · rintro σ' H9 ⟨x, rfl, g9, T9, hx9⟩
            refine ⟨fun σ' H' => ∃ (y : V), σ' = [some (.ref sa), some (.ref t), some (.ref ra), some (.ref tp), some (.int (0 + (i : Int))), some x, some y, x7, x8, x9, x10, x11] ∧ Gr t H4 H' ∧ Tape H' t l ∧ ThT K C t l H' x ∧ ThT K C t l H' y, ?_, ?_⟩
            · refine ⟨_, rfl, t, l, 6, rfl, T9, by decide, by decide, fun c HA c0 c1 gA TA => ⟨rfl, _, rfl, ?_⟩⟩
              have g4A := g9.trans gA
              refine ite2 (fun _ => ?_) (fun _ => ?_)
              · have tabA := t4.gr g4A T4
                refine ⟨_, rfl, ra, _, rfl, .inr (gr_T g4A T4 hra), _, rfl, _, rfl, t, l, .ref tp, rfl, TA, ng_table tc TA tabA, fun z HB gB TB hn => ⟨by show 2 ≤ sizeLine; decide, fun o ho => ?_⟩⟩
                have no := (TB.free ho).1
                refine ⟨_, rfl, t, l, 2, rfl, TB.new ho, by decide, by decide, fun j HC j0 j1 gC TC => ?_⟩
                have hoC := gC _ _ no upd_same
                have gBC := (Gr.of (same_new ho)).trans gC
                have g4C := (g4A.trans gB).trans gBC
                have hj : j = 0 ∨ j = 1 := by omega
                rcases hj with rfl | rfl
                · exact ⟨o, _, 0, _, rfl, rfl, SqL.of hoC, rfl, _, rfl, g4C, TC, (hx9.gr gA).gr (gB.trans gBC), ThT.int⟩
                · exact ⟨o, _, 1, z, rfl, rfl, SqL.of hoC, rfl, _, rfl, g4C, TC, (hx9.gr gA).gr (gB.trans gBC), (ThT.ng TB hn).gr gBC⟩
              · exact ⟨_, rfl, g4A, TA, hx9.gr gA, ThT.int⟩
            · rintro σ' H10 ⟨y, rfl, g10, T10, hx, hy⟩
              have t10 := t4.gr g10 T4
              have R10 := R4.gr g10 T4
              have thx : ∀ H', Same H10 H' → Th K C H' x := fun H' s => hx H' (Gr.of s) (T10.keep s)
              have thy : ∀ H', Same H10 H' → Th K C H' y := fun H' s => hy H' (Gr.of s) (T10.keep s)
              refine ⟨_, rfl, _, rfl, _, rfl, .ref tp, x, y, rows, rfl, t10, G, by omega, thx _ (Same.refl H10), thy _ (Same.refl H10), fun c hc H11 s11 => ?_, fun hd H11 s11 => ?_⟩
              · refine ⟨_, rfl, rfl, _, rfl, ?_⟩
                rw [show (!decide (V.str (nmOf c) = V.non)) = true from by rw [decide_eq_false (by intro z; cases z)]; rfl]
                refine ⟨by show 2 ≤ sizeLine; decide, fun pt hpt => ?_⟩
                have spt := same_new (o := .tup [V.int 0, V.int 1]) hpt
                refine ⟨pt, rfl, ⟨_, SqT.of upd_same⟩, fun D hD => ?_⟩
                refine lc_tup (xs := [V.int 0, V.int 1]) (fun j H' => H' D = some (.lst (List.replicate j (V.str (nmOf c)))) ∧ Same (upd H11 pt (.tup [V.int 0, V.int 1])) H') ⟨upd_same, same_new hD⟩ (fun j H' _ hp => sqT_same hp.2 (SqT.of upd_same)) ?_ ?_
                · rintro j z H12 hz ⟨h12, s12⟩
                  have s1012 := (s11.trans spt).trans s12
                  obtain ⟨kk, rfl, hkk⟩ : ∃ kk : Int, z = .int kk ∧ (kk = 0 ∨ kk = 1) := by
                    have jl : j < 2 := (List.getElem?_eq_some_iff.mp hz).1
                    have : j = 0 ∨ j = 1 := by omega
                    rcases this with rfl | rfl
                    · exact ⟨0, (Option.some.inj hz).symm, .inl rfl⟩
                    · exact ⟨1, (Option.some.inj hz).symm, .inr rfl⟩
                  have jl : j < 2 := (List.getElem?_eq_some_iff.mp hz).1
                  refine ⟨rfl, _, rfl, _, rfl, _, rfl, _, rfl, by show 0 ≤ sizeLine; decide, fun u hu => ?_⟩
                  have su := same_new (o := .tup []) hu
                  have s13 := s1012.trans su
                  refine ⟨kk, .ref tp, x, y, .ref u, rows, rfl, hkk, t10.same s13, G, by omega, thx _ s13, thy _ s13, fun c2 hc2 H14 s14 => ?_, fun hd => ?_⟩
                  · have ec : c2 = c := by
                      rw [hc] at hc2
                      exact (Option.some.inj hc2).symm
                    subst ec
                    have s2 := su.trans s14
                    refine ⟨_, s2 _ _ h12, small_lt (by rw [List.length_replicate]; omega), ?_, same_mut (s12.trans s2) hD⟩
                    rw [upd_same, List.replicate_succ']
                  · rw [hd] at hc
                    cases hc
                · rintro H12 ⟨h12, s12⟩
                  have s1012 := (s11.trans spt).trans s12
                  refine ⟨_, rfl, _, rfl, by show 2 ≤ sizeLine; decide, fun o ho => ?_⟩
                  have so := same_new (o := .lst [V.str (nmOf c), V.str (nmOf c)]) ho
                  have hDo := so _ _ h12
                  have dps : ∀ H', DpAll K H' [V.str (nmOf c), V.str (nmOf c)] [.str (nmOf c), .str (nmOf c)] := fun H' => .cons (.str _) (.cons (.str _) .nil)
                  have shp : SeqAt.shaped (.list [.str (nmOf c), .str (nmOf c)]) = true := by
                    rcases due_lt hc with rfl | rfl | rfl | rfl <;> decide +kernel
                  refine ⟨.list [.str (nmOf c), .str (nmOf c)], .list [.str (nmOf c), .str (nmOf c)], .lst (SqL.of hDo) (dps _), .lst (SqL.of upd_same) (dps _), shp, shp, _, rfl, ?_⟩
                  rw [show (!PyData.eqv (.list [.str (nmOf c), .str (nmOf c)]) (.list [.str (nmOf c), .str (nmOf c)])) = false from by
                    rw [SeqAt.eqv_refl _ (SeqAt.canLay_of_shaped shp)]
                    rfl]
                  have s1013 := s1012.trans so
                  exact ⟨_, _, _, _, _, _, _, _, rfl, g10.trans (Gr.of s1013), T10.keep s1013⟩
              · obtain ⟨p, th, rfl, rfl, htr, hex⟩ := due_none hd
                refine ⟨_, rfl, rfl, _, rfl, ?_⟩
                rw [show (!decide (V.non = V.non)) = false from by rw [decide_eq_true rfl]; rfl]
                refine ⟨_, rfl, _, rfl, _, rfl, _, rfl, _, rfl, .ref tp, rows, p, th, rfl, t10.same s11, G, by omega, htr, hex, fun v H12 s12 hv => ?_⟩
                have s112 := s11.trans s12
                have T12 := T10.keep s112
                refine ⟨t, l, .ref tp, v, rows, rfl, T12, t10.same s112, G, by omega, hv, fun lt oo H13 g13 T13 hg hgl => ?_⟩
                have g4D := (g10.trans (Gr.of s112)).trans g13
                have tD := t4.gr g4D T4
                have RD := R4.gr g4D T4
                refine ⟨_, rfl, _, rfl, _, rfl, _, rfl, .ref ra, lt, rows, p, th, oo, rfl, RD, G, by omega, hg, hgl, fun H14 s14 => ?_⟩
                refine ⟨_, rfl, _, rfl, _, rfl, _, rfl, 1, .ref tp, .int (p : Int), .int th, lt, rows, rfl, .inr rfl, tD.same s14, G, by omega, th_int, th_int, fun c hc => ?_, fun _ => ⟨fun z => absurd z (by decide), fun _ => ⟨oo, hg.same s14, fun p2 t2 H15 e1 e2 s15 => ?_⟩⟩⟩
                · rw [hd] at hc
                  cases hc
                · have ep : p2 = p := by
                    injection e1 with e1
                    omega
                  have et : t2 = th := by
                    injection e2 with e2
                    exact e2.symm
                  subst ep
                  subst et
                  have s1415 := s14.trans s15
                  refine ⟨_, rfl, _, rfl, .bool (fillO rows p2 t2 oo), .bool (fillO rows p2 t2 oo), .bl _, .bl _, by cases fillO rows p2 t2 oo <;> rfl, by cases fillO rows p2 t2 oo <;> rfl, _, rfl, ?_⟩
                  rw [show (!PyData.eqv (.bool (fillO rows p2 t2 oo)) (.bool (fillO rows p2 t2 oo))) = false from by cases fillO rows p2 t2 oo <;> rfl]
                  refine ⟨_, rfl, _, .ty "bool", .type "bool", .type "bool", true, rfl, .ty "bool", .base (.bl _), kit_ty (by decide +kernel), _, rfl, ?_⟩
                  have tE := tD.same s1415
                  refine ⟨_, rfl, _, rfl, _, rfl, 0, .ref tp, .int (p2 : Int), .int t2, .non, rows, rfl, .inl rfl, tE, G, by omega, th_int, th_int, fun c hc => ?_, fun _ => ⟨fun _ u H16 hu s16 => ?_, fun z => absurd z (by decide)⟩⟩
                  · rw [hd] at hc
                    cases hc
                  · refine ⟨by show 2 ≤ sizeLine; decide, fun pt hpt => ?_⟩
                    have s17 := (s1415.trans s16).trans (same_new (o := .tup [V.str "lot", V.str "none"]) hpt)
                    refine ⟨pt, _, rfl, .inr (SqT.of upd_same), rfl, rfl, _, rfl, ?_⟩
                    rw [show (if true = true then !inV (V.str u) [V.str "lot", V.str "none"] else inV (V.str u) [V.str "lot", V.str "none"]) = false from by
                      rcases hu with rfl | rfl <;> decide +kernel]
                    exact ⟨_, _, _, _, _, _, _, _, rfl, g4D.trans (Gr.of s17), T13.keep s17⟩
      · rintro σ' H5 ⟨x4, x5, x6, x7, x8, x9, x10, x11, rfl, g5, T5⟩
        obtain ⟨tp2, dx2, rv2, e2, htp2, hR2⟩ := id (t4.gr g5 T4)
        cases e2
        refine ⟨_, rfl, tp, C, dx2, _, rv2, rfl, htp2, tc.cl, tc.nR, tf_rows _ _, _, rfl, dR rows, dR rows, hR2.dp, (R4.gr g5 T4).dp, sh_R _, sh_R _, ?_⟩
        rw [eqv_R, decide_eq_true rfl]
        exact k H5
theorem compose {fa fI fE : Addr} {fd fdI fdE : FuncData} {tk : Tok} {f0 f1 f2 f3 : Addr} {fd0 fd1 fd2 fd3 : FuncData} (T : Tx mg) (tc : TC K C) (E4 : Er4 K mg DE (erOf NP NT NI ST)) (o0 : OexC K NP) (j0 : PySem.W.findIn K (.ref NP) "__init__" = some (some (.ref f0))) (y0 : PySem.W.typeIn K (.ref f0) = some (.type "function")) (F0 : Fun K "__init__" "NoPerson.__init__" s_NoPerson___init f0 fd0) (o1 : OexC K NT) (j1 : PySem.W.findIn K (.ref NT) "__init__" = some (some (.ref f1))) (y1 : PySem.W.typeIn K (.ref f1) = some (.type "function")) (F1 : Fun K "__init__" "NoThing.__init__" s_NoThing___init f1 fd1) (o2 : OexC K NI) (j2 : PySem.W.findIn K (.ref NI) "__init__" = some (some (.ref f2))) (y2 : PySem.W.typeIn K (.ref f2) = some (.type "function")) (F2 : Fun K "__init__" "NoTie.__init__" s_NoTie___init f2 fd2) (o3 : OexC K ST) (j3 : PySem.W.findIn K (.ref ST) "__init__" = some (some (.ref f3))) (y3 : PySem.W.typeIn K (.ref f3) = some (.type "function")) (F3 : Fun K "__init__" "Stuck.__init__" s_Stuck___init f3 fd3) (hC : mg "Table" = some (.ref C)) (hMR : mg "MOST_ROWS" = some (.int 12 tk)) (mI : Mk K C fI) (FI : Fun K "__init__" "Table.__init__" s_Table___init fI fdI)
    (qe : PySem.W.findIn K (.ref C) "__eq__" = some (some (.ref fE))) (ie : PySem.W.isFn K (.ref fE) = true) (FE : Fun K "__eq__" "Table.__eq__" s_Table___eq fE fdE)
    (A1 : At K mg "is_integer" s_is_integer ["thing"]) (A2 : At K mg "is_number" s_is_number ["bound", "thing"]) (A3 : At K mg "is_numbers" s_is_numbers ["bound", "thing"]) (A4 : At K mg "is_ascending" s_is_ascending ["bound", "thing"]) (A5 : At K mg "_check_rows" s_check_rows ["rows"]) (A6 : At K mg "check_person" s_check_person ["table", "person"]) (A7 : At K mg "check_thing" s_check_thing ["table", "thing"]) (A8 : At K mg "matched" s_matched ["rows"]) (A9 : At K mg "_give" s_give ["rows", "held", "owner", "person"]) (A10 : At K mg "_hand_on" s_hand_on ["held", "owner", "came", "thing"]) (A11 : At K mg "owners" s_owners ["held"]) (A12 : At K mg "reaches" s_reaches ["rows", "held"]) (A13 : At K mg "people_of" s_people_of ["mask"]) (A14 : At K mg "live_rows" s_live_rows ["rows"]) (A15 : At K mg "narrowed" s_narrowed ["rows", "person", "thing"]) (A16 : At K mg "things_of" s_things_of ["rows"]) (A17 : At K mg "rows_of" s_rows_of ["rows", "people"]) (A18 : At K mg "_held_for_tie" s_held_for_tie ["table", "person", "thing"]) (A19 : At K mg "filled_lot" s_filled_lot ["table", "person", "thing"]) (A20 : At K mg "is_filled_lot" s_is_filled_lot ["table", "person", "thing", "lot"]) (A21 : At K mg "dealing" s_dealing ["table"]) (A22 : At K mg "_law_tape" s_law_tape ["script"]) (A23 : At K mg "_law_pick" s_law_pick ["tape", "size"]) (A24 : At K mg "_law_order" s_law_order ["tape", "many"]) (A25 : At K mg "_law_loose" s_law_loose ["tape", "many"]) (A26 : At K mg "_law_moved" s_law_moved ["tape", "rows"]) (A27 : At K mg "_law_blocks" s_law_blocks ["tape", "most"]) (A28 : At K mg "_law_rows" s_law_rows ["tape", "most"]) (A29 : At K mg "_law_is_number" s_law_is_number ["thing", "many"]) (A30 : At K mg "_law_is_lot" s_law_is_lot ["thing", "many"]) (A31 : At K mg "_law_is_filled" s_law_is_filled ["rows", "person", "thing", "lot"]) (A32 : At K mg "_law_deep" s_law_deep []) (A33 : At K mg "_law_odd" s_law_odd ["tape", "thing"]) (A34 : At K mg "_law_told" s_law_told ["which", "table", "person", "thing", "lot"]) (A35 : At K mg "_law_error" s_law_error ["table", "person", "thing"]) (A36 : At K mg "_law_lot" s_law_lot ["tape", "table", "told"]) (A37 : At K mg "_law_thin" s_law_thin ["tape"])
    (F : Fun K "law" "law" s_law fa fd) : FnOk P w K mg base CX0 10 fa fd ["script"] (spLaw K) := by
  have G1 : Dfn P w K mg base _ _ 1 _ := ok_is_integer A1 T tc
  have G2 := ok_is_number A2 T G1
  have G3 := ok_is_numbers A3 T G2
  have G4 := ok_is_ascending A4 T G3
  have G5 := ok_check A5 T hMR G4
  have GT : MkT P w K mg base C 6 1 (spInit K C) (spEqT K C) := ⟨hC, tc, ⟨fI, fdI, mI, ok_init FI T tc G5, FI.binds fun _ _ _ _ _ _ us hl => match us, hl with | [_, _], _ => rfl⟩, ⟨fE, fdE, ok_eq FE T tc hC, FE.binds fun _ _ _ _ _ _ us hl => match us, hl with | [_, _], _ => rfl, qe, ie⟩⟩
  --body
  have e0 : Er0 P w K mg base "NoPerson" NP := ⟨o0, E4.g0, f0, fd0, j0, y0, pass_NoPerson F0, F0.binds fun _ _ _ _ _ _ us hl => match us, hl with | [_], _ => rfl⟩
  have e1 : Er0 P w K mg base "NoThing" NT := ⟨o1, E4.g1, f1, fd1, j1, y1, pass_NoThing F1, F1.binds fun _ _ _ _ _ _ us hl => match us, hl with | [_], _ => rfl⟩
  have e2 : Er0 P w K mg base "NoTie" NI := ⟨o2, E4.g2, f2, fd2, j2, y2, pass_NoTie F2, F2.binds fun _ _ _ _ _ _ us hl => match us, hl with | [_], _ => rfl⟩
  have e3 : Er0 P w K mg base "Stuck" ST := ⟨o3, E4.g3, f3, fd3, j3, y3, pass_Stuck F3, F3.binds fun _ _ _ _ _ _ us hl => match us, hl with | [_], _ => rfl⟩
  have H1 : Dfn P w K mg base _ _ 1 _ := ok_hand A10 T
  have H2 := ok_give A9 T H1
  have H3 := ok_matched A8 T H2
  have H4 : Dfn P w K mg base _ _ 1 _ := ok_owners A11 T
  have H5 := ok_reaches A12 T H4
  have H6 : Dfn P w K mg base _ _ 1 _ := ok_people A13 T
  have H7 := ok_live A14 T H3 H5 H4
  have H8 : Dfn P w K mg base _ _ 1 _ := ok_things A16 T
  have H9 : Dfn P w K mg base _ _ 1 _ := ok_rows_of A17 T
  have HN : Dfn P w K mg base _ _ 1 _ := ok_narrowed A15 T
  have HD := ok_dealing A21 T tc H7 HN
  have C1 := ok_check_person A6 tc G2
  have C2 := ok_check_thing A7 tc G2
  have C3 := ok_held_tie A18 T tc C1 C2 H3
  have X1 := ok_ckpX A6 tc e0 G2
  have X2 := ok_cktX A7 tc e1 G2
  have X3 := ok_heldX A18 T tc e2 e3 X1 X2 H3
  have X4 := ok_filledX A19 T tc X3 H5 H6
  have X5 := ok_isfilledX A20 T tc X3 G4 H8 H9
  have L1 : Dfn P w K mg base _ _ 1 _ := ok_tape A22 T
  have L2' : Dfn P w K mg base _ _ 1 _ := ok_pick A23 T
  have L3 := ok_order A24 T L2'
  have N1 : Dfn P w K mg base _ _ 1 _ := ok_lawnum A29 T tc
  have N2 : Dfn P w K mg base _ _ 1 _ := ok_lawdeep (C := C) A32 T
  have N3 := ok_odd A33 T N2 L2'
  have L4 := ok_rows A28 T L2' (ok_moved A26 T L3) (ok_blocks A27 T L2') (ok_loose A25 T L2' L3)
  exact ok_law F T tc GT L1 L2' L4 (ok_thin A37 T L2' L3) N3 (ok_err18 A35 T tc N1 HD) (ok_told18 A34 T E4 X4 X5) (ok_lot18 A36 T tc L2' N3) (filled_some (ok_filled A19 T tc C3 H5 H6)) (ok_lawfill A31 T (ok_lawlot A30 T N1))
end
end Fo

set_option maxRecDepth 100000
set_option maxHeartbeats 4000000
namespace Fo
open PySem PySem.Spec PyProof.Rows L2
theorem kit_own {K : PySem.W.Frag} {C : Addr} {T : String} {b : Bool} (hm : PySem.W.kitMeta T = true) (h : PySem.W.mroIn K C (.type T) = some b) : PySem.W.kitOne K (.ref C) (.type T) = some b := by
  have e : (Value.ref C == Value.type T) = false := by
    rw [beq_eq_false_iff_ne]
    intro q
    cases q
  show (if (Value.ref C == Value.type T) = true then some true else if PySem.W.kitMeta T = true then PySem.W.mroIn K C (.type T) else none) = some b
  rw [e, if_neg (by decide), if_pos hm, h]
theorem at_mk {K : PySem.W.Frag} {h : Heap} {mg : Str → Option Value} (X : K.In h) (G : h.Ns mainGlobals mg) {x : Str} {st : Stmt} {ps : List Str} {f : Addr} {oc : Value} {od an : Option Addr} {sl : Array (Option Value)} {kV dc pm cd ct : Value}
    (a : PySem.W.nsIn K mainGlobals x = some (some (.ref f))) (l : K.lookup f = some ⟨oc, od, .func (PySem.W.fnOf x x (defArgs st) (defBody st) (defScope st) .none kV dc pm an cd ct), sl⟩) (c : PySem.W.codeIn K cd x = true) (k : PySem.W.keepIn K (.ref f) = true)
    (b : ∀ (kV doc pm : Value) (an : Option Addr) (cdv ct : Value) (us : List Value), us.length = ps.length → bindArgs (PySem.W.fnOf x x (defArgs st) (defBody st) (defScope st) Value.none kV doc pm an cdv ct) { pos := us } = pure (ps.zip us)) : At K mg x st ps :=
  ⟨f, _, PySem.W.mg_of X G a, fun_mk (st := st) l c k, (fun_mk (st := st) l c k).binds b⟩
theorem all_mk {l : PySem.W.OpenLaw} {w : World} {K : PySem.W.Frag} {h : Heap} {mg : Str → Option Value} {fa C : Addr} {tk : Tok} {DE : Addr} {B0 N0 : Addr} {nm0 q0 : Str} {bs0 : List Value} {sn0 : List Str} {sub0 : List Value} {ab0 : Bool} {col0 : Option Bool} {dd0 : Option Addr} {m00 m10 m20 m30 m50 : Option Value} {B1 N1 : Addr} {nm1 q1 : Str} {bs1 : List Value} {sn1 : List Str} {sub1 : List Value} {ab1 : Bool} {col1 : Option Bool} {dd1 : Option Addr} {m01 m11 m21 m31 m51 : Option Value} {B2 N2 : Addr} {nm2 q2 : Str} {bs2 : List Value} {sn2 : List Str} {sub2 : List Value} {ab2 : Bool} {col2 : Option Bool} {dd2 : Option Addr} {m02 m12 m22 m32 m52 : Option Value} {B3 N3 : Addr} {nm3 q3 : Str} {bs3 : List Value} {sn3 : List Str} {sub3 : List Value} {ab3 : Bool} {col3 : Option Bool} {dd3 : Option Addr} {m03 m13 m23 m33 m53 : Option Value} (X : K.In h) (G : h.Ns mainGlobals mg) (hfa : mg "law" = some (.ref fa))
    {f1 : Addr} {od1 an1 : Option Addr} {sl1 : Array (Option Value)} {oc1 kV1 dc1 pm1 cd1 ct1 : Value}
    {f2 : Addr} {od2 an2 : Option Addr} {sl2 : Array (Option Value)} {oc2 kV2 dc2 pm2 cd2 ct2 : Value}
    {f3 : Addr} {od3 an3 : Option Addr} {sl3 : Array (Option Value)} {oc3 kV3 dc3 pm3 cd3 ct3 : Value}
    {f4 : Addr} {od4 an4 : Option Addr} {sl4 : Array (Option Value)} {oc4 kV4 dc4 pm4 cd4 ct4 : Value}
    {f5 : Addr} {od5 an5 : Option Addr} {sl5 : Array (Option Value)} {oc5 kV5 dc5 pm5 cd5 ct5 : Value}
    {f6 : Addr} {od6 an6 : Option Addr} {sl6 : Array (Option Value)} {oc6 kV6 dc6 pm6 cd6 ct6 : Value}
    {f7 : Addr} {od7 an7 : Option Addr} {sl7 : Array (Option Value)} {oc7 kV7 dc7 pm7 cd7 ct7 : Value}
    {f8 : Addr} {od8 an8 : Option Addr} {sl8 : Array (Option Value)} {oc8 kV8 dc8 pm8 cd8 ct8 : Value}
    {f9 : Addr} {od9 an9 : Option Addr} {sl9 : Array (Option Value)} {oc9 kV9 dc9 pm9 cd9 ct9 : Value}
    {f10 : Addr} {od10 an10 : Option Addr} {sl10 : Array (Option Value)} {oc10 kV10 dc10 pm10 cd10 ct10 : Value}
    {f11 : Addr} {od11 an11 : Option Addr} {sl11 : Array (Option Value)} {oc11 kV11 dc11 pm11 cd11 ct11 : Value}
    {f12 : Addr} {od12 an12 : Option Addr} {sl12 : Array (Option Value)} {oc12 kV12 dc12 pm12 cd12 ct12 : Value}
    {f13 : Addr} {od13 an13 : Option Addr} {sl13 : Array (Option Value)} {oc13 kV13 dc13 pm13 cd13 ct13 : Value}
    {f14 : Addr} {od14 an14 : Option Addr} {sl14 : Array (Option Value)} {oc14 kV14 dc14 pm14 cd14 ct14 : Value}
    {f15 : Addr} {od15 an15 : Option Addr} {sl15 : Array (Option Value)} {oc15 kV15 dc15 pm15 cd15 ct15 : Value}
    {f16 : Addr} {od16 an16 : Option Addr} {sl16 : Array (Option Value)} {oc16 kV16 dc16 pm16 cd16 ct16 : Value}
    {f17 : Addr} {od17 an17 : Option Addr} {sl17 : Array (Option Value)} {oc17 kV17 dc17 pm17 cd17 ct17 : Value}
    {f18 : Addr} {od18 an18 : Option Addr} {sl18 : Array (Option Value)} {oc18 kV18 dc18 pm18 cd18 ct18 : Value}
    {f19 : Addr} {od19 an19 : Option Addr} {sl19 : Array (Option Value)} {oc19 kV19 dc19 pm19 cd19 ct19 : Value}
    {f20 : Addr} {od20 an20 : Option Addr} {sl20 : Array (Option Value)} {oc20 kV20 dc20 pm20 cd20 ct20 : Value}
    {f21 : Addr} {od21 an21 : Option Addr} {sl21 : Array (Option Value)} {oc21 kV21 dc21 pm21 cd21 ct21 : Value}
    {f22 : Addr} {od22 an22 : Option Addr} {sl22 : Array (Option Value)} {oc22 kV22 dc22 pm22 cd22 ct22 : Value}
    {f23 : Addr} {od23 an23 : Option Addr} {sl23 : Array (Option Value)} {oc23 kV23 dc23 pm23 cd23 ct23 : Value}
    {f24 : Addr} {od24 an24 : Option Addr} {sl24 : Array (Option Value)} {oc24 kV24 dc24 pm24 cd24 ct24 : Value}
    {f25 : Addr} {od25 an25 : Option Addr} {sl25 : Array (Option Value)} {oc25 kV25 dc25 pm25 cd25 ct25 : Value}
    {f26 : Addr} {od26 an26 : Option Addr} {sl26 : Array (Option Value)} {oc26 kV26 dc26 pm26 cd26 ct26 : Value}
    {f27 : Addr} {od27 an27 : Option Addr} {sl27 : Array (Option Value)} {oc27 kV27 dc27 pm27 cd27 ct27 : Value}
    {f28 : Addr} {od28 an28 : Option Addr} {sl28 : Array (Option Value)} {oc28 kV28 dc28 pm28 cd28 ct28 : Value}
    {f29 : Addr} {od29 an29 : Option Addr} {sl29 : Array (Option Value)} {oc29 kV29 dc29 pm29 cd29 ct29 : Value}
    {f30 : Addr} {od30 an30 : Option Addr} {sl30 : Array (Option Value)} {oc30 kV30 dc30 pm30 cd30 ct30 : Value}
    {f31 : Addr} {od31 an31 : Option Addr} {sl31 : Array (Option Value)} {oc31 kV31 dc31 pm31 cd31 ct31 : Value}
    {f32 : Addr} {od32 an32 : Option Addr} {sl32 : Array (Option Value)} {oc32 kV32 dc32 pm32 cd32 ct32 : Value}
    {f33 : Addr} {od33 an33 : Option Addr} {sl33 : Array (Option Value)} {oc33 kV33 dc33 pm33 cd33 ct33 : Value}
    {f34 : Addr} {od34 an34 : Option Addr} {sl34 : Array (Option Value)} {oc34 kV34 dc34 pm34 cd34 ct34 : Value}
    {f35 : Addr} {od35 an35 : Option Addr} {sl35 : Array (Option Value)} {oc35 kV35 dc35 pm35 cd35 ct35 : Value}
    {f36 : Addr} {od36 an36 : Option Addr} {sl36 : Array (Option Value)} {oc36 kV36 dc36 pm36 cd36 ct36 : Value}
    {f37 : Addr} {od37 an37 : Option Addr} {sl37 : Array (Option Value)} {oc37 kV37 dc37 pm37 cd37 ct37 : Value}
    {f38 : Addr} {od38 an38 : Option Addr} {sl38 : Array (Option Value)} {oc38 kV38 dc38 pm38 cd38 ct38 : Value}
    {f39 : Addr} {od39 an39 : Option Addr} {sl39 : Array (Option Value)} {oc39 kV39 dc39 pm39 cd39 ct39 : Value}
    {f40 : Addr} {od40 an40 : Option Addr} {sl40 : Array (Option Value)} {oc40 kV40 dc40 pm40 cd40 ct40 : Value}
    {fX0 : Addr} {odX0 anX0 : Option Addr} {slX0 : Array (Option Value)} {ocX0 kVX0 dcX0 pmX0 cdX0 ctX0 : Value}
    {fX1 : Addr} {odX1 anX1 : Option Addr} {slX1 : Array (Option Value)} {ocX1 kVX1 dcX1 pmX1 cdX1 ctX1 : Value}
    {fX2 : Addr} {odX2 anX2 : Option Addr} {slX2 : Array (Option Value)} {ocX2 kVX2 dcX2 pmX2 cdX2 ctX2 : Value}
    {fX3 : Addr} {odX3 anX3 : Option Addr} {slX3 : Array (Option Value)} {ocX3 kVX3 dcX3 pmX3 cdX3 ctX3 : Value}
    (aC : PySem.W.nsIn K mainGlobals "Table" = some (some (.ref C)))
    (aI : PySem.W.findIn K (.ref C) "__init__" = some (some (.ref f1)))
    (iI : PySem.W.isFn K (.ref f1) = true)
    (l1 : K.lookup f1 = some ⟨oc1, od1, .func (PySem.W.fnOf "__init__" "Table.__init__" (defArgs s_Table___init) (defBody s_Table___init) (defScope s_Table___init) .none kV1 dc1 pm1 an1 cd1 ct1), sl1⟩)
    (c1 : PySem.W.codeIn K cd1 "Table.__init__" = true)
    (k1 : PySem.W.keepIn K (.ref f1) = true)
    (aE : PySem.W.findIn K (.ref C) "__eq__" = some (some (.ref f2)))
    (iE : PySem.W.isFn K (.ref f2) = true)
    (l2 : K.lookup f2 = some ⟨oc2, od2, .func (PySem.W.fnOf "__eq__" "Table.__eq__" (defArgs s_Table___eq) (defBody s_Table___eq) (defScope s_Table___eq) .none kV2 dc2 pm2 an2 cd2 ct2), sl2⟩)
    (c2 : PySem.W.codeIn K cd2 "Table.__eq__" = true)
    (k2 : PySem.W.keepIn K (.ref f2) = true)
    (aL : PySem.W.nsIn K mainGlobals "law" = some (some (.ref f3)))
    (l3 : K.lookup f3 = some ⟨oc3, od3, .func (PySem.W.fnOf "law" "law" (defArgs s_law) (defBody s_law) (defScope s_law) .none kV3 dc3 pm3 an3 cd3 ct3), sl3⟩)
    (c3 : PySem.W.codeIn K cd3 "law" = true)
    (k3 : PySem.W.keepIn K (.ref f3) = true)
    (a4 : PySem.W.nsIn K mainGlobals "is_integer" = some (some (.ref f4)))
    (l4 : K.lookup f4 = some ⟨oc4, od4, .func (PySem.W.fnOf "is_integer" "is_integer" (defArgs s_is_integer) (defBody s_is_integer) (defScope s_is_integer) .none kV4 dc4 pm4 an4 cd4 ct4), sl4⟩)
    (c4 : PySem.W.codeIn K cd4 "is_integer" = true)
    (k4 : PySem.W.keepIn K (.ref f4) = true)
    (a5 : PySem.W.nsIn K mainGlobals "is_number" = some (some (.ref f5)))
    (l5 : K.lookup f5 = some ⟨oc5, od5, .func (PySem.W.fnOf "is_number" "is_number" (defArgs s_is_number) (defBody s_is_number) (defScope s_is_number) .none kV5 dc5 pm5 an5 cd5 ct5), sl5⟩)
    (c5 : PySem.W.codeIn K cd5 "is_number" = true)
    (k5 : PySem.W.keepIn K (.ref f5) = true)
    (a6 : PySem.W.nsIn K mainGlobals "is_numbers" = some (some (.ref f6)))
    (l6 : K.lookup f6 = some ⟨oc6, od6, .func (PySem.W.fnOf "is_numbers" "is_numbers" (defArgs s_is_numbers) (defBody s_is_numbers) (defScope s_is_numbers) .none kV6 dc6 pm6 an6 cd6 ct6), sl6⟩)
    (c6 : PySem.W.codeIn K cd6 "is_numbers" = true)
    (k6 : PySem.W.keepIn K (.ref f6) = true)
    (a7 : PySem.W.nsIn K mainGlobals "is_ascending" = some (some (.ref f7)))
    (l7 : K.lookup f7 = some ⟨oc7, od7, .func (PySem.W.fnOf "is_ascending" "is_ascending" (defArgs s_is_ascending) (defBody s_is_ascending) (defScope s_is_ascending) .none kV7 dc7 pm7 an7 cd7 ct7), sl7⟩)
    (c7 : PySem.W.codeIn K cd7 "is_ascending" = true)
    (k7 : PySem.W.keepIn K (.ref f7) = true)
    (a8 : PySem.W.nsIn K mainGlobals "_check_rows" = some (some (.ref f8)))
    (l8 : K.lookup f8 = some ⟨oc8, od8, .func (PySem.W.fnOf "_check_rows" "_check_rows" (defArgs s_check_rows) (defBody s_check_rows) (defScope s_check_rows) .none kV8 dc8 pm8 an8 cd8 ct8), sl8⟩)
    (c8 : PySem.W.codeIn K cd8 "_check_rows" = true)
    (k8 : PySem.W.keepIn K (.ref f8) = true)
    (a9 : PySem.W.nsIn K mainGlobals "check_person" = some (some (.ref f9)))
    (l9 : K.lookup f9 = some ⟨oc9, od9, .func (PySem.W.fnOf "check_person" "check_person" (defArgs s_check_person) (defBody s_check_person) (defScope s_check_person) .none kV9 dc9 pm9 an9 cd9 ct9), sl9⟩)
    (c9 : PySem.W.codeIn K cd9 "check_person" = true)
    (k9 : PySem.W.keepIn K (.ref f9) = true)
    (a10 : PySem.W.nsIn K mainGlobals "check_thing" = some (some (.ref f10)))
    (l10 : K.lookup f10 = some ⟨oc10, od10, .func (PySem.W.fnOf "check_thing" "check_thing" (defArgs s_check_thing) (defBody s_check_thing) (defScope s_check_thing) .none kV10 dc10 pm10 an10 cd10 ct10), sl10⟩)
    (c10 : PySem.W.codeIn K cd10 "check_thing" = true)
    (k10 : PySem.W.keepIn K (.ref f10) = true)
    (a11 : PySem.W.nsIn K mainGlobals "matched" = some (some (.ref f11)))
    (l11 : K.lookup f11 = some ⟨oc11, od11, .func (PySem.W.fnOf "matched" "matched" (defArgs s_matched) (defBody s_matched) (defScope s_matched) .none kV11 dc11 pm11 an11 cd11 ct11), sl11⟩)
    (c11 : PySem.W.codeIn K cd11 "matched" = true)
    (k11 : PySem.W.keepIn K (.ref f11) = true)
    (a12 : PySem.W.nsIn K mainGlobals "_give" = some (some (.ref f12)))
    (l12 : K.lookup f12 = some ⟨oc12, od12, .func (PySem.W.fnOf "_give" "_give" (defArgs s_give) (defBody s_give) (defScope s_give) .none kV12 dc12 pm12 an12 cd12 ct12), sl12⟩)
    (c12 : PySem.W.codeIn K cd12 "_give" = true)
    (k12 : PySem.W.keepIn K (.ref f12) = true)
    (a13 : PySem.W.nsIn K mainGlobals "_hand_on" = some (some (.ref f13)))
    (l13 : K.lookup f13 = some ⟨oc13, od13, .func (PySem.W.fnOf "_hand_on" "_hand_on" (defArgs s_hand_on) (defBody s_hand_on) (defScope s_hand_on) .none kV13 dc13 pm13 an13 cd13 ct13), sl13⟩)
    (c13 : PySem.W.codeIn K cd13 "_hand_on" = true)
    (k13 : PySem.W.keepIn K (.ref f13) = true)
    (a14 : PySem.W.nsIn K mainGlobals "owners" = some (some (.ref f14)))
    (l14 : K.lookup f14 = some ⟨oc14, od14, .func (PySem.W.fnOf "owners" "owners" (defArgs s_owners) (defBody s_owners) (defScope s_owners) .none kV14 dc14 pm14 an14 cd14 ct14), sl14⟩)
    (c14 : PySem.W.codeIn K cd14 "owners" = true)
    (k14 : PySem.W.keepIn K (.ref f14) = true)
    (a15 : PySem.W.nsIn K mainGlobals "reaches" = some (some (.ref f15)))
    (l15 : K.lookup f15 = some ⟨oc15, od15, .func (PySem.W.fnOf "reaches" "reaches" (defArgs s_reaches) (defBody s_reaches) (defScope s_reaches) .none kV15 dc15 pm15 an15 cd15 ct15), sl15⟩)
    (c15 : PySem.W.codeIn K cd15 "reaches" = true)
    (k15 : PySem.W.keepIn K (.ref f15) = true)
    (a16 : PySem.W.nsIn K mainGlobals "people_of" = some (some (.ref f16)))
    (l16 : K.lookup f16 = some ⟨oc16, od16, .func (PySem.W.fnOf "people_of" "people_of" (defArgs s_people_of) (defBody s_people_of) (defScope s_people_of) .none kV16 dc16 pm16 an16 cd16 ct16), sl16⟩)
    (c16 : PySem.W.codeIn K cd16 "people_of" = true)
    (k16 : PySem.W.keepIn K (.ref f16) = true)
    (a17 : PySem.W.nsIn K mainGlobals "live_rows" = some (some (.ref f17)))
    (l17 : K.lookup f17 = some ⟨oc17, od17, .func (PySem.W.fnOf "live_rows" "live_rows" (defArgs s_live_rows) (defBody s_live_rows) (defScope s_live_rows) .none kV17 dc17 pm17 an17 cd17 ct17), sl17⟩)
    (c17 : PySem.W.codeIn K cd17 "live_rows" = true)
    (k17 : PySem.W.keepIn K (.ref f17) = true)
    (a18 : PySem.W.nsIn K mainGlobals "narrowed" = some (some (.ref f18)))
    (l18 : K.lookup f18 = some ⟨oc18, od18, .func (PySem.W.fnOf "narrowed" "narrowed" (defArgs s_narrowed) (defBody s_narrowed) (defScope s_narrowed) .none kV18 dc18 pm18 an18 cd18 ct18), sl18⟩)
    (c18 : PySem.W.codeIn K cd18 "narrowed" = true)
    (k18 : PySem.W.keepIn K (.ref f18) = true)
    (a19 : PySem.W.nsIn K mainGlobals "things_of" = some (some (.ref f19)))
    (l19 : K.lookup f19 = some ⟨oc19, od19, .func (PySem.W.fnOf "things_of" "things_of" (defArgs s_things_of) (defBody s_things_of) (defScope s_things_of) .none kV19 dc19 pm19 an19 cd19 ct19), sl19⟩)
    (c19 : PySem.W.codeIn K cd19 "things_of" = true)
    (k19 : PySem.W.keepIn K (.ref f19) = true)
    (a20 : PySem.W.nsIn K mainGlobals "rows_of" = some (some (.ref f20)))
    (l20 : K.lookup f20 = some ⟨oc20, od20, .func (PySem.W.fnOf "rows_of" "rows_of" (defArgs s_rows_of) (defBody s_rows_of) (defScope s_rows_of) .none kV20 dc20 pm20 an20 cd20 ct20), sl20⟩)
    (c20 : PySem.W.codeIn K cd20 "rows_of" = true)
    (k20 : PySem.W.keepIn K (.ref f20) = true)
    (a21 : PySem.W.nsIn K mainGlobals "_held_for_tie" = some (some (.ref f21)))
    (l21 : K.lookup f21 = some ⟨oc21, od21, .func (PySem.W.fnOf "_held_for_tie" "_held_for_tie" (defArgs s_held_for_tie) (defBody s_held_for_tie) (defScope s_held_for_tie) .none kV21 dc21 pm21 an21 cd21 ct21), sl21⟩)
    (c21 : PySem.W.codeIn K cd21 "_held_for_tie" = true)
    (k21 : PySem.W.keepIn K (.ref f21) = true)
    (a22 : PySem.W.nsIn K mainGlobals "filled_lot" = some (some (.ref f22)))
    (l22 : K.lookup f22 = some ⟨oc22, od22, .func (PySem.W.fnOf "filled_lot" "filled_lot" (defArgs s_filled_lot) (defBody s_filled_lot) (defScope s_filled_lot) .none kV22 dc22 pm22 an22 cd22 ct22), sl22⟩)
    (c22 : PySem.W.codeIn K cd22 "filled_lot" = true)
    (k22 : PySem.W.keepIn K (.ref f22) = true)
    (a23 : PySem.W.nsIn K mainGlobals "is_filled_lot" = some (some (.ref f23)))
    (l23 : K.lookup f23 = some ⟨oc23, od23, .func (PySem.W.fnOf "is_filled_lot" "is_filled_lot" (defArgs s_is_filled_lot) (defBody s_is_filled_lot) (defScope s_is_filled_lot) .none kV23 dc23 pm23 an23 cd23 ct23), sl23⟩)
    (c23 : PySem.W.codeIn K cd23 "is_filled_lot" = true)
    (k23 : PySem.W.keepIn K (.ref f23) = true)
    (a24 : PySem.W.nsIn K mainGlobals "dealing" = some (some (.ref f24)))
    (l24 : K.lookup f24 = some ⟨oc24, od24, .func (PySem.W.fnOf "dealing" "dealing" (defArgs s_dealing) (defBody s_dealing) (defScope s_dealing) .none kV24 dc24 pm24 an24 cd24 ct24), sl24⟩)
    (c24 : PySem.W.codeIn K cd24 "dealing" = true)
    (k24 : PySem.W.keepIn K (.ref f24) = true)
    (a25 : PySem.W.nsIn K mainGlobals "_law_tape" = some (some (.ref f25)))
    (l25 : K.lookup f25 = some ⟨oc25, od25, .func (PySem.W.fnOf "_law_tape" "_law_tape" (defArgs s_law_tape) (defBody s_law_tape) (defScope s_law_tape) .none kV25 dc25 pm25 an25 cd25 ct25), sl25⟩)
    (c25 : PySem.W.codeIn K cd25 "_law_tape" = true)
    (k25 : PySem.W.keepIn K (.ref f25) = true)
    (a26 : PySem.W.nsIn K mainGlobals "_law_pick" = some (some (.ref f26)))
    (l26 : K.lookup f26 = some ⟨oc26, od26, .func (PySem.W.fnOf "_law_pick" "_law_pick" (defArgs s_law_pick) (defBody s_law_pick) (defScope s_law_pick) .none kV26 dc26 pm26 an26 cd26 ct26), sl26⟩)
    (c26 : PySem.W.codeIn K cd26 "_law_pick" = true)
    (k26 : PySem.W.keepIn K (.ref f26) = true)
    (a27 : PySem.W.nsIn K mainGlobals "_law_order" = some (some (.ref f27)))
    (l27 : K.lookup f27 = some ⟨oc27, od27, .func (PySem.W.fnOf "_law_order" "_law_order" (defArgs s_law_order) (defBody s_law_order) (defScope s_law_order) .none kV27 dc27 pm27 an27 cd27 ct27), sl27⟩)
    (c27 : PySem.W.codeIn K cd27 "_law_order" = true)
    (k27 : PySem.W.keepIn K (.ref f27) = true)
    (a28 : PySem.W.nsIn K mainGlobals "_law_loose" = some (some (.ref f28)))
    (l28 : K.lookup f28 = some ⟨oc28, od28, .func (PySem.W.fnOf "_law_loose" "_law_loose" (defArgs s_law_loose) (defBody s_law_loose) (defScope s_law_loose) .none kV28 dc28 pm28 an28 cd28 ct28), sl28⟩)
    (c28 : PySem.W.codeIn K cd28 "_law_loose" = true)
    (k28 : PySem.W.keepIn K (.ref f28) = true)
    (a29 : PySem.W.nsIn K mainGlobals "_law_moved" = some (some (.ref f29)))
    (l29 : K.lookup f29 = some ⟨oc29, od29, .func (PySem.W.fnOf "_law_moved" "_law_moved" (defArgs s_law_moved) (defBody s_law_moved) (defScope s_law_moved) .none kV29 dc29 pm29 an29 cd29 ct29), sl29⟩)
    (c29 : PySem.W.codeIn K cd29 "_law_moved" = true)
    (k29 : PySem.W.keepIn K (.ref f29) = true)
    (a30 : PySem.W.nsIn K mainGlobals "_law_blocks" = some (some (.ref f30)))
    (l30 : K.lookup f30 = some ⟨oc30, od30, .func (PySem.W.fnOf "_law_blocks" "_law_blocks" (defArgs s_law_blocks) (defBody s_law_blocks) (defScope s_law_blocks) .none kV30 dc30 pm30 an30 cd30 ct30), sl30⟩)
    (c30 : PySem.W.codeIn K cd30 "_law_blocks" = true)
    (k30 : PySem.W.keepIn K (.ref f30) = true)
    (a31 : PySem.W.nsIn K mainGlobals "_law_rows" = some (some (.ref f31)))
    (l31 : K.lookup f31 = some ⟨oc31, od31, .func (PySem.W.fnOf "_law_rows" "_law_rows" (defArgs s_law_rows) (defBody s_law_rows) (defScope s_law_rows) .none kV31 dc31 pm31 an31 cd31 ct31), sl31⟩)
    (c31 : PySem.W.codeIn K cd31 "_law_rows" = true)
    (k31 : PySem.W.keepIn K (.ref f31) = true)
    (a32 : PySem.W.nsIn K mainGlobals "_law_is_number" = some (some (.ref f32)))
    (l32 : K.lookup f32 = some ⟨oc32, od32, .func (PySem.W.fnOf "_law_is_number" "_law_is_number" (defArgs s_law_is_number) (defBody s_law_is_number) (defScope s_law_is_number) .none kV32 dc32 pm32 an32 cd32 ct32), sl32⟩)
    (c32 : PySem.W.codeIn K cd32 "_law_is_number" = true)
    (k32 : PySem.W.keepIn K (.ref f32) = true)
    (a33 : PySem.W.nsIn K mainGlobals "_law_is_lot" = some (some (.ref f33)))
    (l33 : K.lookup f33 = some ⟨oc33, od33, .func (PySem.W.fnOf "_law_is_lot" "_law_is_lot" (defArgs s_law_is_lot) (defBody s_law_is_lot) (defScope s_law_is_lot) .none kV33 dc33 pm33 an33 cd33 ct33), sl33⟩)
    (c33 : PySem.W.codeIn K cd33 "_law_is_lot" = true)
    (k33 : PySem.W.keepIn K (.ref f33) = true)
    (a34 : PySem.W.nsIn K mainGlobals "_law_is_filled" = some (some (.ref f34)))
    (l34 : K.lookup f34 = some ⟨oc34, od34, .func (PySem.W.fnOf "_law_is_filled" "_law_is_filled" (defArgs s_law_is_filled) (defBody s_law_is_filled) (defScope s_law_is_filled) .none kV34 dc34 pm34 an34 cd34 ct34), sl34⟩)
    (c34 : PySem.W.codeIn K cd34 "_law_is_filled" = true)
    (k34 : PySem.W.keepIn K (.ref f34) = true)
    (a35 : PySem.W.nsIn K mainGlobals "_law_deep" = some (some (.ref f35)))
    (l35 : K.lookup f35 = some ⟨oc35, od35, .func (PySem.W.fnOf "_law_deep" "_law_deep" (defArgs s_law_deep) (defBody s_law_deep) (defScope s_law_deep) .none kV35 dc35 pm35 an35 cd35 ct35), sl35⟩)
    (c35 : PySem.W.codeIn K cd35 "_law_deep" = true)
    (k35 : PySem.W.keepIn K (.ref f35) = true)
    (a36 : PySem.W.nsIn K mainGlobals "_law_odd" = some (some (.ref f36)))
    (l36 : K.lookup f36 = some ⟨oc36, od36, .func (PySem.W.fnOf "_law_odd" "_law_odd" (defArgs s_law_odd) (defBody s_law_odd) (defScope s_law_odd) .none kV36 dc36 pm36 an36 cd36 ct36), sl36⟩)
    (c36 : PySem.W.codeIn K cd36 "_law_odd" = true)
    (k36 : PySem.W.keepIn K (.ref f36) = true)
    (a37 : PySem.W.nsIn K mainGlobals "_law_told" = some (some (.ref f37)))
    (l37 : K.lookup f37 = some ⟨oc37, od37, .func (PySem.W.fnOf "_law_told" "_law_told" (defArgs s_law_told) (defBody s_law_told) (defScope s_law_told) .none kV37 dc37 pm37 an37 cd37 ct37), sl37⟩)
    (c37 : PySem.W.codeIn K cd37 "_law_told" = true)
    (k37 : PySem.W.keepIn K (.ref f37) = true)
    (a38 : PySem.W.nsIn K mainGlobals "_law_error" = some (some (.ref f38)))
    (l38 : K.lookup f38 = some ⟨oc38, od38, .func (PySem.W.fnOf "_law_error" "_law_error" (defArgs s_law_error) (defBody s_law_error) (defScope s_law_error) .none kV38 dc38 pm38 an38 cd38 ct38), sl38⟩)
    (c38 : PySem.W.codeIn K cd38 "_law_error" = true)
    (k38 : PySem.W.keepIn K (.ref f38) = true)
    (a39 : PySem.W.nsIn K mainGlobals "_law_lot" = some (some (.ref f39)))
    (l39 : K.lookup f39 = some ⟨oc39, od39, .func (PySem.W.fnOf "_law_lot" "_law_lot" (defArgs s_law_lot) (defBody s_law_lot) (defScope s_law_lot) .none kV39 dc39 pm39 an39 cd39 ct39), sl39⟩)
    (c39 : PySem.W.codeIn K cd39 "_law_lot" = true)
    (k39 : PySem.W.keepIn K (.ref f39) = true)
    (a40 : PySem.W.nsIn K mainGlobals "_law_thin" = some (some (.ref f40)))
    (l40 : K.lookup f40 = some ⟨oc40, od40, .func (PySem.W.fnOf "_law_thin" "_law_thin" (defArgs s_law_thin) (defBody s_law_thin) (defScope s_law_thin) .none kV40 dc40 pm40 an40 cd40 ct40), sl40⟩)
    (c40 : PySem.W.codeIn K cd40 "_law_thin" = true)
    (k40 : PySem.W.keepIn K (.ref f40) = true)
    (aDE : PySem.W.nsIn K mainGlobals "DrawError" = some (some (.ref DE)))
    (aVE : PySem.W.nsIn K mainGlobals "ValueError" = some none)
    (deC : PySem.W.subIn K (.ref DE) (.type "BaseException") = some true)
    (dsC : PySem.W.isClsIn K DE = true)
    (dtC : PySem.W.typeIn K (.ref DE) = some (.type "type"))
    (aB0 : PySem.W.nsIn K mainGlobals "NoPerson" = some (some (.ref B0)))
    (xL0 : K.lookup B0 = some (excClassObj nm0 q0 B0 N0 bs0 [.ref DE, .type "ValueError", .type "Exception", .type "BaseException", .type "object"] true sn0 sub0 ab0 col0 dd0 m00 m10 m20 m30 m50 "ValueError.__new__"))
    (xsa0 : PySem.W.findIn K (.ref B0) "__setattr__" = some (some (.builtin "object.__setattr__")))
    (xga0 : PySem.W.findIn K (.ref B0) "__getattribute__" = some (some (.builtin "BaseException.__getattribute__")))
    (xgg0 : PySem.W.findIn K (.ref B0) "__getattr__" = some none)
    (xca0 : PySem.W.findIn K (.ref B0) "__class__" = some (some (.builtin "object.__class__")))
    (xmo0 : PySem.W.mroIn K B0 (.type "object") = some true)
    (xmv0 : PySem.W.mroIn K B0 (.type "ValueError") = some true)
    (xis0 : PySem.W.isClsIn K B0 = true)
    (xiB0 : PySem.W.findIn K (.ref B0) "__init__" = some (some (.ref fX0)))
    (xtf0 : PySem.W.typeIn K (.ref fX0) = some (.type "function"))
    (lX0 : K.lookup fX0 = some ⟨ocX0, odX0, .func (PySem.W.fnOf "__init__" "NoPerson.__init__" (defArgs s_NoPerson___init) (defBody s_NoPerson___init) (defScope s_NoPerson___init) .none kVX0 dcX0 pmX0 anX0 cdX0 ctX0), slX0⟩)
    (cX0 : PySem.W.codeIn K cdX0 "NoPerson.__init__" = true)
    (kX0 : PySem.W.keepIn K (.ref fX0) = true)
    (xkC0 : PySem.W.keepIn K (.ref B0) = true)
    (xeC0 : PySem.W.subIn K (.ref B0) (.type "BaseException") = some true)
    (xtC0 : PySem.W.typeIn K (.ref B0) = some (.type "type"))
    (xhC0 : PySem.W.hasDictIn K B0 = true)
    (dbC0 : PySem.W.subIn K (.ref B0) (.ref DE) = some true)
    (dss0 : PySem.W.subIn K (.ref B0) (.ref B0) = some true)
    (aB1 : PySem.W.nsIn K mainGlobals "NoThing" = some (some (.ref B1)))
    (xL1 : K.lookup B1 = some (excClassObj nm1 q1 B1 N1 bs1 [.ref DE, .type "ValueError", .type "Exception", .type "BaseException", .type "object"] true sn1 sub1 ab1 col1 dd1 m01 m11 m21 m31 m51 "ValueError.__new__"))
    (xsa1 : PySem.W.findIn K (.ref B1) "__setattr__" = some (some (.builtin "object.__setattr__")))
    (xga1 : PySem.W.findIn K (.ref B1) "__getattribute__" = some (some (.builtin "BaseException.__getattribute__")))
    (xgg1 : PySem.W.findIn K (.ref B1) "__getattr__" = some none)
    (xca1 : PySem.W.findIn K (.ref B1) "__class__" = some (some (.builtin "object.__class__")))
    (xmo1 : PySem.W.mroIn K B1 (.type "object") = some true)
    (xmv1 : PySem.W.mroIn K B1 (.type "ValueError") = some true)
    (xis1 : PySem.W.isClsIn K B1 = true)
    (xiB1 : PySem.W.findIn K (.ref B1) "__init__" = some (some (.ref fX1)))
    (xtf1 : PySem.W.typeIn K (.ref fX1) = some (.type "function"))
    (lX1 : K.lookup fX1 = some ⟨ocX1, odX1, .func (PySem.W.fnOf "__init__" "NoThing.__init__" (defArgs s_NoThing___init) (defBody s_NoThing___init) (defScope s_NoThing___init) .none kVX1 dcX1 pmX1 anX1 cdX1 ctX1), slX1⟩)
    (cX1 : PySem.W.codeIn K cdX1 "NoThing.__init__" = true)
    (kX1 : PySem.W.keepIn K (.ref fX1) = true)
    (xkC1 : PySem.W.keepIn K (.ref B1) = true)
    (xeC1 : PySem.W.subIn K (.ref B1) (.type "BaseException") = some true)
    (xtC1 : PySem.W.typeIn K (.ref B1) = some (.type "type"))
    (xhC1 : PySem.W.hasDictIn K B1 = true)
    (dbC1 : PySem.W.subIn K (.ref B1) (.ref DE) = some true)
    (dss1 : PySem.W.subIn K (.ref B1) (.ref B1) = some true)
    (aB2 : PySem.W.nsIn K mainGlobals "NoTie" = some (some (.ref B2)))
    (xL2 : K.lookup B2 = some (excClassObj nm2 q2 B2 N2 bs2 [.ref DE, .type "ValueError", .type "Exception", .type "BaseException", .type "object"] true sn2 sub2 ab2 col2 dd2 m02 m12 m22 m32 m52 "ValueError.__new__"))
    (xsa2 : PySem.W.findIn K (.ref B2) "__setattr__" = some (some (.builtin "object.__setattr__")))
    (xga2 : PySem.W.findIn K (.ref B2) "__getattribute__" = some (some (.builtin "BaseException.__getattribute__")))
    (xgg2 : PySem.W.findIn K (.ref B2) "__getattr__" = some none)
    (xca2 : PySem.W.findIn K (.ref B2) "__class__" = some (some (.builtin "object.__class__")))
    (xmo2 : PySem.W.mroIn K B2 (.type "object") = some true)
    (xmv2 : PySem.W.mroIn K B2 (.type "ValueError") = some true)
    (xis2 : PySem.W.isClsIn K B2 = true)
    (xiB2 : PySem.W.findIn K (.ref B2) "__init__" = some (some (.ref fX2)))
    (xtf2 : PySem.W.typeIn K (.ref fX2) = some (.type "function"))
    (lX2 : K.lookup fX2 = some ⟨ocX2, odX2, .func (PySem.W.fnOf "__init__" "NoTie.__init__" (defArgs s_NoTie___init) (defBody s_NoTie___init) (defScope s_NoTie___init) .none kVX2 dcX2 pmX2 anX2 cdX2 ctX2), slX2⟩)
    (cX2 : PySem.W.codeIn K cdX2 "NoTie.__init__" = true)
    (kX2 : PySem.W.keepIn K (.ref fX2) = true)
    (xkC2 : PySem.W.keepIn K (.ref B2) = true)
    (xeC2 : PySem.W.subIn K (.ref B2) (.type "BaseException") = some true)
    (xtC2 : PySem.W.typeIn K (.ref B2) = some (.type "type"))
    (xhC2 : PySem.W.hasDictIn K B2 = true)
    (dbC2 : PySem.W.subIn K (.ref B2) (.ref DE) = some true)
    (dss2 : PySem.W.subIn K (.ref B2) (.ref B2) = some true)
    (aB3 : PySem.W.nsIn K mainGlobals "Stuck" = some (some (.ref B3)))
    (xL3 : K.lookup B3 = some (excClassObj nm3 q3 B3 N3 bs3 [.ref DE, .type "ValueError", .type "Exception", .type "BaseException", .type "object"] true sn3 sub3 ab3 col3 dd3 m03 m13 m23 m33 m53 "ValueError.__new__"))
    (xsa3 : PySem.W.findIn K (.ref B3) "__setattr__" = some (some (.builtin "object.__setattr__")))
    (xga3 : PySem.W.findIn K (.ref B3) "__getattribute__" = some (some (.builtin "BaseException.__getattribute__")))
    (xgg3 : PySem.W.findIn K (.ref B3) "__getattr__" = some none)
    (xca3 : PySem.W.findIn K (.ref B3) "__class__" = some (some (.builtin "object.__class__")))
    (xmo3 : PySem.W.mroIn K B3 (.type "object") = some true)
    (xmv3 : PySem.W.mroIn K B3 (.type "ValueError") = some true)
    (xis3 : PySem.W.isClsIn K B3 = true)
    (xiB3 : PySem.W.findIn K (.ref B3) "__init__" = some (some (.ref fX3)))
    (xtf3 : PySem.W.typeIn K (.ref fX3) = some (.type "function"))
    (lX3 : K.lookup fX3 = some ⟨ocX3, odX3, .func (PySem.W.fnOf "__init__" "Stuck.__init__" (defArgs s_Stuck___init) (defBody s_Stuck___init) (defScope s_Stuck___init) .none kVX3 dcX3 pmX3 anX3 cdX3 ctX3), slX3⟩)
    (cX3 : PySem.W.codeIn K cdX3 "Stuck.__init__" = true)
    (kX3 : PySem.W.keepIn K (.ref fX3) = true)
    (xkC3 : PySem.W.keepIn K (.ref B3) = true)
    (xeC3 : PySem.W.subIn K (.ref B3) (.type "BaseException") = some true)
    (xtC3 : PySem.W.typeIn K (.ref B3) = some (.type "type"))
    (xhC3 : PySem.W.hasDictIn K B3 = true)
    (dbC3 : PySem.W.subIn K (.ref B3) (.ref DE) = some true)
    (dss3 : PySem.W.subIn K (.ref B3) (.ref B3) = some true)
    (dno0_1 : PySem.W.subIn K (.ref B0) (.ref B1) = some false)
    (dno0_2 : PySem.W.subIn K (.ref B0) (.ref B2) = some false)
    (dno0_3 : PySem.W.subIn K (.ref B0) (.ref B3) = some false)
    (dno1_0 : PySem.W.subIn K (.ref B1) (.ref B0) = some false)
    (dno1_2 : PySem.W.subIn K (.ref B1) (.ref B2) = some false)
    (dno1_3 : PySem.W.subIn K (.ref B1) (.ref B3) = some false)
    (dno2_0 : PySem.W.subIn K (.ref B2) (.ref B0) = some false)
    (dno2_1 : PySem.W.subIn K (.ref B2) (.ref B1) = some false)
    (dno2_3 : PySem.W.subIn K (.ref B2) (.ref B3) = some false)
    (dno3_0 : PySem.W.subIn K (.ref B3) (.ref B0) = some false)
    (dno3_1 : PySem.W.subIn K (.ref B3) (.ref B1) = some false)
    (dno3_2 : PySem.W.subIn K (.ref B3) (.ref B2) = some false)
    (pg : PySem.W.plainGet K C Str.empty = true)
    (hd : PySem.W.hasDictIn K C = true)
    (po : PySem.W.plainOver K C = true)
    (sa : PySem.W.findIn K (.ref C) "__setattr__" = some (some (.builtin "object.__setattr__")))
    (mk : PySem.W.makesIn K C = true)
    (kc : PySem.W.keepIn K (.ref C) = true)
    (tha : PySem.W.findIn K (.ref C) "__class__" = some (some (.builtin "object.__class__")))
    (thn : PySem.W.specialIn K (.builtin "object.__class__") "__get__" = some (some (.builtin "getset_descriptor.__get__")))
    (thk : PySem.W.takesIn K (.builtin "object.__class__") = some true)
    (thm : PySem.W.mroIn K C (.type "object") = some true)
    (tne : PySem.W.findIn K (.ref C) "__ne__" = some (some (.builtin "object.__ne__")))
    (n_rows : PySem.W.findIn K (.ref C) "rows" = some none)
    (n_size : PySem.W.findIn K (.ref C) "size" = some none)
    (kI : PySem.W.mroIn K C (.type "int") = some false)
    (kB : PySem.W.mroIn K C (.type "bool") = some false)
    (kT : PySem.W.mroIn K C (.type "tuple") = some false)
    (kS : PySem.W.mroIn K C (.type "str") = some false)
    (kL : PySem.W.mroIn K C (.type "list") = some false)
    (mr : PySem.W.nsIn K mainGlobals "MOST_ROWS" = some (some (.int 12 tk)))
    (z_len : PySem.W.nsIn K mainGlobals "len" = some none)
    (z_list : PySem.W.nsIn K mainGlobals "list" = some none)
    (z_range : PySem.W.nsIn K mainGlobals "range" = some none)
    (z_tuple : PySem.W.nsIn K mainGlobals "tuple" = some none)
    (z_sorted : PySem.W.nsIn K mainGlobals "sorted" = some none)
    (z_int : PySem.W.nsIn K mainGlobals "int" = some none)
    (z_min : PySem.W.nsIn K mainGlobals "min" = some none)
    (z_isinstance : PySem.W.nsIn K mainGlobals "isinstance" = some none)
    (z_all : PySem.W.nsIn K mainGlobals "all" = some none)
    (z_enumerate : PySem.W.nsIn K mainGlobals "enumerate" = some none)
    (z_zip : PySem.W.nsIn K mainGlobals "zip" = some none)
    (z_set : PySem.W.nsIn K mainGlobals "set" = some none)
    (z_repr : PySem.W.nsIn K mainGlobals "repr" = some none)
    (z_str : PySem.W.nsIn K mainGlobals "str" = some none)
    (z_bool : PySem.W.nsIn K mainGlobals "bool" = some none) :
    ∃ fd : FuncData, (∀ (s : Shared) (v : Value), BindsTo s fd ⟨[v], []⟩ [("script", v)]) ∧ ∀ base : Heap, K.In base → base.Ns mainGlobals mg → FnOk l.prog w K mg base CX0 10 fa fd ["script"] (spLaw K) := by
  have e := hfa.symm.trans (PySem.W.mg_of X G aL)
  cases e
  have T : Tx mg := ⟨PySem.W.mg_none_of X G z_len, PySem.W.mg_none_of X G z_list, PySem.W.mg_none_of X G z_range, PySem.W.mg_none_of X G z_tuple, PySem.W.mg_none_of X G z_sorted, PySem.W.mg_none_of X G z_int, PySem.W.mg_none_of X G z_min, PySem.W.mg_none_of X G z_isinstance, PySem.W.mg_none_of X G z_all, PySem.W.mg_none_of X G z_enumerate, PySem.W.mg_none_of X G z_zip, PySem.W.mg_none_of X G z_set, PySem.W.mg_none_of X G z_repr, PySem.W.mg_none_of X G z_str, PySem.W.mg_none_of X G z_bool⟩
  have tc : TC K C := ⟨⟨pg, hd, po, sa⟩, tha, thn, thk, thm, tne, n_rows, n_size, kit_own (by decide +kernel) kI, kit_own (by decide +kernel) kB, kit_own (by decide +kernel) kT, kit_own (by decide +kernel) kS, kit_own (by decide +kernel) kL⟩
  exact ⟨PySem.W.fnOf "law" "law" (defArgs s_law) (defBody s_law) (defScope s_law) .none kV3 dc3 pm3 an3 cd3 ct3, fun s v => .of_eq rfl, fun base _ _ =>
    compose T tc (er4_mk (PySem.W.mg_of X G aDE) (PySem.W.mg_none_of X G aVE) (PySem.W.mg_of X G aB0) (PySem.W.mg_of X G aB1) (PySem.W.mg_of X G aB2) (PySem.W.mg_of X G aB3) (exm_two deC dsC dtC dbC0) (exm_two deC dsC dtC dbC1) (exm_two deC dsC dtC dbC2) (exm_two deC dsC dtC dbC3) ⟨xis0, xga0, xgg0, xeC0, xca0, thn, thk, xmo0⟩ ⟨xis1, xga1, xgg1, xeC1, xca1, thn, thk, xmo1⟩ ⟨xis2, xga2, xgg2, xeC2, xca2, thn, thk, xmo2⟩ ⟨xis3, xga3, xgg3, xeC3, xca3, thn, thk, xmo3⟩ (kit_own (by decide +kernel) xmv0) (kit_own (by decide +kernel) xmv1) (kit_own (by decide +kernel) xmv2) (kit_own (by decide +kernel) xmv3) (kit_other xis1 xtC1 dno0_1 dss1) (kit_other xis2 xtC2 dno0_2 dss2) (kit_other xis3 xtC3 dno0_3 dss3) (kit_other xis0 xtC0 dno1_0 dss0) (kit_other xis2 xtC2 dno1_2 dss2) (kit_other xis3 xtC3 dno1_3 dss3) (kit_other xis0 xtC0 dno2_0 dss0) (kit_other xis1 xtC1 dno2_1 dss1) (kit_other xis3 xtC3 dno2_3 dss3) (kit_other xis0 xtC0 dno3_0 dss0) (kit_other xis1 xtC1 dno3_1 dss1) (kit_other xis2 xtC2 dno3_2 dss2)) ⟨⟨nm0, q0, N0, bs0, _, sn0, sub0, ab0, col0, dd0, m00, m10, m20, m30, m50, xL0, (show PySem.HandSPX.refsVE [.type "ValueError", .type "Exception", .type "BaseException", .type "object"] = true by decide +kernel)⟩, xsa0, xeC0, xtC0, xkC0⟩ xiB0 xtf0 (fun_mk (st := s_NoPerson___init) lX0 cX0 kX0) ⟨⟨nm1, q1, N1, bs1, _, sn1, sub1, ab1, col1, dd1, m01, m11, m21, m31, m51, xL1, (show PySem.HandSPX.refsVE [.type "ValueError", .type "Exception", .type "BaseException", .type "object"] = true by decide +kernel)⟩, xsa1, xeC1, xtC1, xkC1⟩ xiB1 xtf1 (fun_mk (st := s_NoThing___init) lX1 cX1 kX1) ⟨⟨nm2, q2, N2, bs2, _, sn2, sub2, ab2, col2, dd2, m02, m12, m22, m32, m52, xL2, (show PySem.HandSPX.refsVE [.type "ValueError", .type "Exception", .type "BaseException", .type "object"] = true by decide +kernel)⟩, xsa2, xeC2, xtC2, xkC2⟩ xiB2 xtf2 (fun_mk (st := s_NoTie___init) lX2 cX2 kX2) ⟨⟨nm3, q3, N3, bs3, _, sn3, sub3, ab3, col3, dd3, m03, m13, m23, m33, m53, xL3, (show PySem.HandSPX.refsVE [.type "ValueError", .type "Exception", .type "BaseException", .type "object"] = true by decide +kernel)⟩, xsa3, xeC3, xtC3, xkC3⟩ xiB3 xtf3 (fun_mk (st := s_Stuck___init) lX3 cX3 kX3) (PySem.W.mg_of X G aC) (PySem.W.mg_of X G mr) ⟨mk, aI, iI, kc⟩ (fun_mk (st := s_Table___init) l1 c1 k1) aE iE (fun_mk (st := s_Table___eq) l2 c2 k2)
      (at_mk (ps := ["thing"]) X G a4 l4 c4 k4 fun _ _ _ _ _ _ us hl => match us, hl with | [_], _ => rfl)
      (at_mk (ps := ["bound", "thing"]) X G a5 l5 c5 k5 fun _ _ _ _ _ _ us hl => match us, hl with | [_, _], _ => rfl)
      (at_mk (ps := ["bound", "thing"]) X G a6 l6 c6 k6 fun _ _ _ _ _ _ us hl => match us, hl with | [_, _], _ => rfl)
      (at_mk (ps := ["bound", "thing"]) X G a7 l7 c7 k7 fun _ _ _ _ _ _ us hl => match us, hl with | [_, _], _ => rfl)
      (at_mk (ps := ["rows"]) X G a8 l8 c8 k8 fun _ _ _ _ _ _ us hl => match us, hl with | [_], _ => rfl)
      (at_mk (ps := ["table", "person"]) X G a9 l9 c9 k9 fun _ _ _ _ _ _ us hl => match us, hl with | [_, _], _ => rfl)
      (at_mk (ps := ["table", "thing"]) X G a10 l10 c10 k10 fun _ _ _ _ _ _ us hl => match us, hl with | [_, _], _ => rfl)
      (at_mk (ps := ["rows"]) X G a11 l11 c11 k11 fun _ _ _ _ _ _ us hl => match us, hl with | [_], _ => rfl)
      (at_mk (ps := ["rows", "held", "owner", "person"]) X G a12 l12 c12 k12 fun _ _ _ _ _ _ us hl => match us, hl with | [_, _, _, _], _ => rfl)
      (at_mk (ps := ["held", "owner", "came", "thing"]) X G a13 l13 c13 k13 fun _ _ _ _ _ _ us hl => match us, hl with | [_, _, _, _], _ => rfl)
      (at_mk (ps := ["held"]) X G a14 l14 c14 k14 fun _ _ _ _ _ _ us hl => match us, hl with | [_], _ => rfl)
      (at_mk (ps := ["rows", "held"]) X G a15 l15 c15 k15 fun _ _ _ _ _ _ us hl => match us, hl with | [_, _], _ => rfl)
      (at_mk (ps := ["mask"]) X G a16 l16 c16 k16 fun _ _ _ _ _ _ us hl => match us, hl with | [_], _ => rfl)
      (at_mk (ps := ["rows"]) X G a17 l17 c17 k17 fun _ _ _ _ _ _ us hl => match us, hl with | [_], _ => rfl)
      (at_mk (ps := ["rows", "person", "thing"]) X G a18 l18 c18 k18 fun _ _ _ _ _ _ us hl => match us, hl with | [_, _, _], _ => rfl)
      (at_mk (ps := ["rows"]) X G a19 l19 c19 k19 fun _ _ _ _ _ _ us hl => match us, hl with | [_], _ => rfl)
      (at_mk (ps := ["rows", "people"]) X G a20 l20 c20 k20 fun _ _ _ _ _ _ us hl => match us, hl with | [_, _], _ => rfl)
      (at_mk (ps := ["table", "person", "thing"]) X G a21 l21 c21 k21 fun _ _ _ _ _ _ us hl => match us, hl with | [_, _, _], _ => rfl)
      (at_mk (ps := ["table", "person", "thing"]) X G a22 l22 c22 k22 fun _ _ _ _ _ _ us hl => match us, hl with | [_, _, _], _ => rfl)
      (at_mk (ps := ["table", "person", "thing", "lot"]) X G a23 l23 c23 k23 fun _ _ _ _ _ _ us hl => match us, hl with | [_, _, _, _], _ => rfl)
      (at_mk (ps := ["table"]) X G a24 l24 c24 k24 fun _ _ _ _ _ _ us hl => match us, hl with | [_], _ => rfl)
      (at_mk (ps := ["script"]) X G a25 l25 c25 k25 fun _ _ _ _ _ _ us hl => match us, hl with | [_], _ => rfl)
      (at_mk (ps := ["tape", "size"]) X G a26 l26 c26 k26 fun _ _ _ _ _ _ us hl => match us, hl with | [_, _], _ => rfl)
      (at_mk (ps := ["tape", "many"]) X G a27 l27 c27 k27 fun _ _ _ _ _ _ us hl => match us, hl with | [_, _], _ => rfl)
      (at_mk (ps := ["tape", "many"]) X G a28 l28 c28 k28 fun _ _ _ _ _ _ us hl => match us, hl with | [_, _], _ => rfl)
      (at_mk (ps := ["tape", "rows"]) X G a29 l29 c29 k29 fun _ _ _ _ _ _ us hl => match us, hl with | [_, _], _ => rfl)
      (at_mk (ps := ["tape", "most"]) X G a30 l30 c30 k30 fun _ _ _ _ _ _ us hl => match us, hl with | [_, _], _ => rfl)
      (at_mk (ps := ["tape", "most"]) X G a31 l31 c31 k31 fun _ _ _ _ _ _ us hl => match us, hl with | [_, _], _ => rfl)
      (at_mk (ps := ["thing", "many"]) X G a32 l32 c32 k32 fun _ _ _ _ _ _ us hl => match us, hl with | [_, _], _ => rfl)
      (at_mk (ps := ["thing", "many"]) X G a33 l33 c33 k33 fun _ _ _ _ _ _ us hl => match us, hl with | [_, _], _ => rfl)
      (at_mk (ps := ["rows", "person", "thing", "lot"]) X G a34 l34 c34 k34 fun _ _ _ _ _ _ us hl => match us, hl with | [_, _, _, _], _ => rfl)
      (at_mk (ps := []) X G a35 l35 c35 k35 fun _ _ _ _ _ _ us hl => match us, hl with | [], _ => rfl)
      (at_mk (ps := ["tape", "thing"]) X G a36 l36 c36 k36 fun _ _ _ _ _ _ us hl => match us, hl with | [_, _], _ => rfl)
      (at_mk (ps := ["which", "table", "person", "thing", "lot"]) X G a37 l37 c37 k37 fun _ _ _ _ _ _ us hl => match us, hl with | [_, _, _, _, _], _ => rfl)
      (at_mk (ps := ["table", "person", "thing"]) X G a38 l38 c38 k38 fun _ _ _ _ _ _ us hl => match us, hl with | [_, _, _], _ => rfl)
      (at_mk (ps := ["tape", "table", "told"]) X G a39 l39 c39 k39 fun _ _ _ _ _ _ us hl => match us, hl with | [_, _, _], _ => rfl)
      (at_mk (ps := ["tape"]) X G a40 l40 c40 k40 fun _ _ _ _ _ _ us hl => match us, hl with | [_], _ => rfl)
      (fun_mk (st := s_law) l3 c3 k3)⟩
theorem walk {l : PySem.W.OpenLaw} {q : Program} {loose : List Str} {XP : (Str → Option Value) → Heap → Prop} {YP : World → Heap → Prop} {d : DefRec} {K : Params → PySem.W.Frag} (hn : l.most = some 63) (hdf : d.params.defaults = [])
    (hY : ∀ (w : World) (h : Heap), YP w h → (K w.params).In h)
    (F : ∀ (w : World) (mg : Str → Option Value) (fa : Addr) (h : Heap), (K w.params).In h → h.Ns mainGlobals mg → mg d.name = some (.ref fa) →
      ∃ fd : FuncData, (∀ (s : Shared) (u : Value), BindsTo s fd ⟨[u], []⟩ [("script", u)]) ∧ ∀ base : Heap, (K w.params).In base → base.Ns mainGlobals mg → FnOk l.prog w (K w.params) mg base CX0 10 fa fd ["script"] (spLaw (K w.params))) :
    PySem.W.WalkO q loose XP YP l.row.toRowW d [] (fun f vs => PySem.call f vs) :=
  L2.walk_of (n := 63) (k := 10) (x := "script") (CX := fun _ => CX0) (sp := fun w => spLaw (K w.params)) hn (by decide) hdf ⟨rfl, by decide, by decide⟩ hY F (fun _ _ a ns hl _ hS => ⟨a, ns, rfl, hS, hl, fun _ => rfl⟩) fun _ _ _ _ _ z => z
end Fo

open PySem PySem.W PyProof.Rows in
set_option maxRecDepth 100000 in
set_option maxHeartbeats 0 in
theorem PySem.Challenge.cw_fullorring_k18_filled_lots_judged_and_re_holds : PySem.Challenge.rw_fullorring_k18_filled_lots_judged_and_re.Holds := by
  w_on; o_law; k_head; (case hw => w_witness2)
  k_fill
  refine Fo.walk (l := PySem.Challenge.rw_fullorring_k18_filled_lots_judged_and_re) rfl rfl (fun w h Y => PySem.W.kIn_of Y) ?F
  case F =>
    intro w mg fa h KX G hmg
    refine' Fo.all_mk KX G hmg ?aC ?aI ?iI ?l1 ?c1 ?k1 ?aE ?iE ?l2 ?c2 ?k2 ?aL ?l3 ?c3 ?k3 ?a4 ?l4 ?c4 ?k4 ?a5 ?l5 ?c5 ?k5 ?a6 ?l6 ?c6 ?k6 ?a7 ?l7 ?c7 ?k7 ?a8 ?l8 ?c8 ?k8 ?a9 ?l9 ?c9 ?k9 ?a10 ?l10 ?c10 ?k10 ?a11 ?l11 ?c11 ?k11 ?a12 ?l12 ?c12 ?k12 ?a13 ?l13 ?c13 ?k13 ?a14 ?l14 ?c14 ?k14 ?a15 ?l15 ?c15 ?k15 ?a16 ?l16 ?c16 ?k16 ?a17 ?l17 ?c17 ?k17 ?a18 ?l18 ?c18 ?k18 ?a19 ?l19 ?c19 ?k19 ?a20 ?l20 ?c20 ?k20 ?a21 ?l21 ?c21 ?k21 ?a22 ?l22 ?c22 ?k22 ?a23 ?l23 ?c23 ?k23 ?a24 ?l24 ?c24 ?k24 ?a25 ?l25 ?c25 ?k25 ?a26 ?l26 ?c26 ?k26 ?a27 ?l27 ?c27 ?k27 ?a28 ?l28 ?c28 ?k28 ?a29 ?l29 ?c29 ?k29 ?a30 ?l30 ?c30 ?k30 ?a31 ?l31 ?c31 ?k31 ?a32 ?l32 ?c32 ?k32 ?a33 ?l33 ?c33 ?k33 ?a34 ?l34 ?c34 ?k34 ?a35 ?l35 ?c35 ?k35 ?a36 ?l36 ?c36 ?k36 ?a37 ?l37 ?c37 ?k37 ?a38 ?l38 ?c38 ?k38 ?a39 ?l39 ?c39 ?k39 ?a40 ?l40 ?c40 ?k40 ?aDE ?aVE ?deC ?dsC ?dtC ?aB0 ?xL0 ?xsa0 ?xga0 ?xgg0 ?xca0 ?xmo0 ?xmv0 ?xis0 ?xiB0 ?xtf0 ?lX0 ?cX0 ?kX0 ?xkC0 ?xeC0 ?xtC0 ?xhC0 ?dbC0 ?dss0 ?aB1 ?xL1 ?xsa1 ?xga1 ?xgg1 ?xca1 ?xmo1 ?xmv1 ?xis1 ?xiB1 ?xtf1 ?lX1 ?cX1 ?kX1 ?xkC1 ?xeC1 ?xtC1 ?xhC1 ?dbC1 ?dss1 ?aB2 ?xL2 ?xsa2 ?xga2 ?xgg2 ?xca2 ?xmo2 ?xmv2 ?xis2 ?xiB2 ?xtf2 ?lX2 ?cX2 ?kX2 ?xkC2 ?xeC2 ?xtC2 ?xhC2 ?dbC2 ?dss2 ?aB3 ?xL3 ?xsa3 ?xga3 ?xgg3 ?xca3 ?xmo3 ?xmv3 ?xis3 ?xiB3 ?xtf3 ?lX3 ?cX3 ?kX3 ?xkC3 ?xeC3 ?xtC3 ?xhC3 ?dbC3 ?dss3 ?dno0_1 ?dno0_2 ?dno0_3 ?dno1_0 ?dno1_2 ?dno1_3 ?dno2_0 ?dno2_1 ?dno2_3 ?dno3_0 ?dno3_1 ?dno3_2 ?pg ?hd ?po ?sa ?mk ?kc ?tha ?thn ?thk ?thm ?tne ?n_rows ?n_size ?kI ?kB ?kT ?kS ?kL ?mr ?z_len ?z_list ?z_range ?z_tuple ?z_sorted ?z_int ?z_min ?z_isinstance ?z_all ?z_enumerate ?z_zip ?z_set ?z_repr ?z_str ?z_bool
    (case aC => k_is)
    (case aI => k_is)
    (case iI => k_is)
    (case l1 => k_is)
    (case c1 => k_is)
    (case k1 => k_is)
    (case aE => k_is)
    (case iE => k_is)
    (case l2 => k_is)
    (case c2 => k_is)
    (case k2 => k_is)
    (case aL => k_is)
    (case l3 => k_is)
    (case c3 => k_is)
    (case k3 => k_is)
    (case a4 => k_is)
    (case l4 => k_is)
    (case c4 => k_is)
    (case k4 => k_is)
    (case a5 => k_is)
    (case l5 => k_is)
    (case c5 => k_is)
    (case k5 => k_is)
    (case a6 => k_is)
    (case l6 => k_is)
    (case c6 => k_is)
    (case k6 => k_is)
    (case a7 => k_is)
    (case l7 => k_is)
    (case c7 => k_is)
    (case k7 => k_is)
    (case a8 => k_is)
    (case l8 => k_is)
    (case c8 => k_is)
    (case k8 => k_is)
    (case a9 => k_is)
    (case l9 => k_is)
    (case c9 => k_is)
    (case k9 => k_is)
    (case a10 => k_is)
    (case l10 => k_is)
    (case c10 => k_is)
    (case k10 => k_is)
    (case a11 => k_is)
    (case l11 => k_is)
    (case c11 => k_is)
    (case k11 => k_is)
    (case a12 => k_is)
    (case l12 => k_is)
    (case c12 => k_is)
    (case k12 => k_is)
    (case a13 => k_is)
    (case l13 => k_is)
    (case c13 => k_is)
    (case k13 => k_is)
    (case a14 => k_is)
    (case l14 => k_is)
    (case c14 => k_is)
    (case k14 => k_is)
    (case a15 => k_is)
    (case l15 => k_is)
    (case c15 => k_is)
    (case k15 => k_is)
    (case a16 => k_is)
    (case l16 => k_is)
    (case c16 => k_is)
    (case k16 => k_is)
    (case a17 => k_is)
    (case l17 => k_is)
    (case c17 => k_is)
    (case k17 => k_is)
    (case a18 => k_is)
    (case l18 => k_is)
    (case c18 => k_is)
    (case k18 => k_is)
    (case a19 => k_is)
    (case l19 => k_is)
    (case c19 => k_is)
    (case k19 => k_is)
    (case a20 => k_is)
    (case l20 => k_is)
    (case c20 => k_is)
    (case k20 => k_is)
    (case a21 => k_is)
    (case l21 => k_is)
    (case c21 => k_is)
    (case k21 => k_is)
    (case a22 => k_is)
    (case l22 => k_is)
    (case c22 => k_is)
    (case k22 => k_is)
    (case a23 => k_is)
    (case l23 => k_is)
    (case c23 => k_is)
    (case k23 => k_is)
    (case a24 => k_is)
    (case l24 => k_is)
    (case c24 => k_is)
    (case k24 => k_is)
    (case a25 => k_is)
    (case l25 => k_is)
    (case c25 => k_is)
    (case k25 => k_is)
    (case a26 => k_is)
    (case l26 => k_is)
    (case c26 => k_is)
    (case k26 => k_is)
    (case a27 => k_is)
    (case l27 => k_is)
    (case c27 => k_is)
    (case k27 => k_is)
    (case a28 => k_is)
    (case l28 => k_is)
    (case c28 => k_is)
    (case k28 => k_is)
    (case a29 => k_is)
    (case l29 => k_is)
    (case c29 => k_is)
    (case k29 => k_is)
    (case a30 => k_is)
    (case l30 => k_is)
    (case c30 => k_is)
    (case k30 => k_is)
    (case a31 => k_is)
    (case l31 => k_is)
    (case c31 => k_is)
    (case k31 => k_is)
    (case a32 => k_is)
    (case l32 => k_is)
    (case c32 => k_is)
    (case k32 => k_is)
    (case a33 => k_is)
    (case l33 => k_is)
    (case c33 => k_is)
    (case k33 => k_is)
    (case a34 => k_is)
    (case l34 => k_is)
    (case c34 => k_is)
    (case k34 => k_is)
    (case a35 => k_is)
    (case l35 => k_is)
    (case c35 => k_is)
    (case k35 => k_is)
    (case a36 => k_is)
    (case l36 => k_is)
    (case c36 => k_is)
    (case k36 => k_is)
    (case a37 => k_is)
    (case l37 => k_is)
    (case c37 => k_is)
    (case k37 => k_is)
    (case a38 => k_is)
    (case l38 => k_is)
    (case c38 => k_is)
    (case k38 => k_is)
    (case a39 => k_is)
    (case l39 => k_is)
    (case c39 => k_is)
    (case k39 => k_is)
    (case a40 => k_is)
    (case l40 => k_is)
    (case c40 => k_is)
    (case k40 => k_is)
    (case aDE => k_is)
    (case aVE => k_is)
    (case deC => k_is)
    (case dsC => k_is)
    (case dtC => k_is)
    (case aB0 => k_is)
    (case xL0 => k_is)
    (case xsa0 => k_is)
    (case xga0 => k_is)
    (case xgg0 => k_is)
    (case xca0 => k_is)
    (case xmo0 => k_is)
    (case xmv0 => k_is)
    (case xis0 => k_is)
    (case xiB0 => k_is)
    (case xtf0 => k_is)
    (case lX0 => k_is)
    (case cX0 => k_is)
    (case kX0 => k_is)
    (case xkC0 => k_is)
    (case xeC0 => k_is)
    (case xtC0 => k_is)
    (case xhC0 => k_is)
    (case dbC0 => k_is)
    (case dss0 => k_is)
    (case aB1 => k_is)
    (case xL1 => k_is)
    (case xsa1 => k_is)
    (case xga1 => k_is)
    (case xgg1 => k_is)
    (case xca1 => k_is)
    (case xmo1 => k_is)
    (case xmv1 => k_is)
    (case xis1 => k_is)
    (case xiB1 => k_is)
    (case xtf1 => k_is)
    (case lX1 => k_is)
    (case cX1 => k_is)
    (case kX1 => k_is)
    (case xkC1 => k_is)
    (case xeC1 => k_is)
    (case xtC1 => k_is)
    (case xhC1 => k_is)
    (case dbC1 => k_is)
    (case dss1 => k_is)
    (case aB2 => k_is)
    (case xL2 => k_is)
    (case xsa2 => k_is)
    (case xga2 => k_is)
    (case xgg2 => k_is)
    (case xca2 => k_is)
    (case xmo2 => k_is)
    (case xmv2 => k_is)
    (case xis2 => k_is)
    (case xiB2 => k_is)
    (case xtf2 => k_is)
    (case lX2 => k_is)
    (case cX2 => k_is)
    (case kX2 => k_is)
    (case xkC2 => k_is)
    (case xeC2 => k_is)
    (case xtC2 => k_is)
    (case xhC2 => k_is)
    (case dbC2 => k_is)
    (case dss2 => k_is)
    (case aB3 => k_is)
    (case xL3 => k_is)
    (case xsa3 => k_is)
    (case xga3 => k_is)
    (case xgg3 => k_is)
    (case xca3 => k_is)
    (case xmo3 => k_is)
    (case xmv3 => k_is)
    (case xis3 => k_is)
    (case xiB3 => k_is)
    (case xtf3 => k_is)
    (case lX3 => k_is)
    (case cX3 => k_is)
    (case kX3 => k_is)
    (case xkC3 => k_is)
    (case xeC3 => k_is)
    (case xtC3 => k_is)
    (case xhC3 => k_is)
    (case dbC3 => k_is)
    (case dss3 => k_is)
    (case dno0_1 => k_is)
    (case dno0_2 => k_is)
    (case dno0_3 => k_is)
    (case dno1_0 => k_is)
    (case dno1_2 => k_is)
    (case dno1_3 => k_is)
    (case dno2_0 => k_is)
    (case dno2_1 => k_is)
    (case dno2_3 => k_is)
    (case dno3_0 => k_is)
    (case dno3_1 => k_is)
    (case dno3_2 => k_is)
    (case pg => k_is)
    (case hd => k_is)
    (case po => k_is)
    (case sa => k_is)
    (case mk => k_is)
    (case kc => k_is)
    (case tha => k_is)
    (case thn => k_is)
    (case thk => k_is)
    (case thm => k_is)
    (case tne => k_is)
    (case n_rows => k_is)
    (case n_size => k_is)
    (case kI => k_is)
    (case kB => k_is)
    (case kT => k_is)
    (case kS => k_is)
    (case kL => k_is)
    (case mr => k_is)
    (case z_len => k_is)
    (case z_list => k_is)
    (case z_range => k_is)
    (case z_tuple => k_is)
    (case z_sorted => k_is)
    (case z_int => k_is)
    (case z_min => k_is)
    (case z_isinstance => k_is)
    (case z_all => k_is)
    (case z_enumerate => k_is)
    (case z_zip => k_is)
    (case z_set => k_is)
    (case z_repr => k_is)
    (case z_str => k_is)
    (case z_bool => k_is)
