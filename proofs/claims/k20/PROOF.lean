import PyProof.Rows.All
import Wide.All
import OpenK.AllK
import Wide.FinOn
import HandS.ForMost
import HandS.OwnEq
import HandS.SortInts
import HandS.TupAny
import HandS.IsInst
import HandS.Flow
import HandS.Zip
import HandS.TupSets
import KE.GoesEnum
import PyProof.InstNe
import HandS.Conv
import HandS.Star
import HandS.Evl
import HandS.WideBits
import HandS.NoneIn
import HandS.DictComp
import HandS.Steps
import HandS.Sort
import PyProof.DictUpdate
import KE.SortData
import HandS.SetFor
import HandS.Strs
import PyProof.Rows.SortShellAny
import PyProof.AutoSeq1
import HandS.Deep
import HandS.RaiseMore
import HandS.ExcInit
import HandS.ExcIs
import HandS.ExcField
import HandS.ForExc
import KE.KExcIs
import HandS.Words
import HandS.DictSub
import KE.KRevSl
import KE.KDictCopyH
import HandS.Walk
import HandS.DictTup
import KE.DataFind
import KE.KDictKeyed
import KE.KeyNested
import HandS.Text
import HandS.Call
import KE.GoesEnumKw
import HandS.Nested
import KE.DataMinKey
import PyProof.DictDisplay
import KE.KNest
import KE.KNestM
import HandS.EndTab
import PySem.Challenge.RW_fullorring_k20_whole_kinds_of_pieces_and
set_option Elab.async false
set_option maxRecDepth 100000
set_option maxHeartbeats 2000000

namespace PySem
open Sem (wp)
theorem meets_enum_newT (v : Value) (o : Obj) (HH : Heap → Prop) (B : Begins v o HH) :
    Meets (Builtin.«enumerate.__new__» ⟨[.type "enumerate", v], []⟩) (fun _ R s => HH s.heap ∧
      R (.ok (.ret (.ref (s.heap.push o).objs.size))) { s with heap := (s.heap.push o).push { cls := .type "enumerate", data := .fields #[.none, .bool false, .ref s.heap.objs.size, rawInt 0, .none, .none] } }) :=
  .of_wp fun prog w A R s h => by
    obtain ⟨hp, g, d, tk, os⟩ := s; obtain ⟨h1, h⟩ := h
    have hsub := sub_enumerate
    have q1 : ∀ {A' : Around} {E : Value → Shared → Prop} {Q : Value → Shared → Prop}, Q (.ref hp.objs.size) ⟨hp.push o, g, d, tk, os⟩ → wpAny (model prog w) A' (pyIter v) Q E ⟨hp, g, d, tk, os⟩ :=
      fun q => B.iter prog w _ _ ⟨hp, g, d, tk, os⟩ _ h1 q
    wp_walk using q1
    refine wpAny_stack_any fun st => wpAny_pure ?_
    split
    · rename_i c _ _ _ _ _
      cases (c == Value.type "enumerate")
      · wp_walk using q1
        exact ⟨_, rfl, h⟩
      · wp_walk using q1
        exact ⟨_, rfl, h⟩
    · wp_walk using q1
      exact ⟨_, rfl, h⟩
section
variable {prog : Program} {w : World} {A : Around} {E : Value → Shared → Prop} {s : Shared}
theorem call_enum_begins {v : Value} {o : Obj} {HH : Heap → Prop} {Q : Value → Shared → Prop} (B : Begins v o HH) (h1 : HH s.heap)
    (h : ∀ h', IsEnum h' (s.heap.objs.size + 1) s.heap.objs.size 0 .none → h'.get? s.heap.objs.size = some o → h'.objs.size = s.heap.objs.size + 2 →
      (∀ b o, s.heap.get? b = some o → h'.get? b = some o) → Q (.ref (s.heap.objs.size + 1)) { s with heap := h' }) :
    wpAny (model prog w) A (call (.type "enumerate") [v]) Q E s := by
  refine callType_new F.called_enumerate (by decide) (F.typeCall_enumerate_1 _) (F.newCall_enumerate_1 _) (fun obj => F.args_object_init_2 obj _) F.entry_enumerate_new
    (meets_enum_newT v o HH B) ⟨h1, ?_⟩
  have hz : (s.heap.push o).objs.size = s.heap.objs.size + 1 := Heap.size_push ..
  show _ ∧ _
  rw [hz]
  have he : IsEnum ((s.heap.push o).push { cls := .type "enumerate", data := .fields #[.none, .bool false, .ref s.heap.objs.size, rawInt 0, .none, .none] }) (s.heap.objs.size + 1) s.heap.objs.size 0 .none := by
    have := Heap.get?_push_size (s.heap.push o) (o := { cls := .type "enumerate", data := .fields #[.none, .bool false, .ref s.heap.objs.size, rawInt 0, .none, .none] }) rfl
    rw [hz] at this; exact this
  refine ⟨⟨_, he, rfl⟩, h _ he (Heap.get?_push_of_some _ (Heap.get?_push_size _ B.free)) (by rw [Heap.size_push, hz]) fun b o x => Heap.get?_push_of_some _ (Heap.get?_push_of_some _ x)⟩
end
end PySem

namespace L2
open PySem PySem.Spec PyProof.Rows
/-! enumerate of a tuple -/
def IteT (K : PySem.W.Frag) (a : Addr) : It :=
  ⟨fun i H => ∃ (xs : List V) (x : V), SqT K H a xs ∧ xs[i]? = some x, fun i H v H' => ∃ T x, v = .ref T ∧ H T = none ∧ H' = upd H T (.tup [.int (i : Nat), x]) ∧ ∀ xs, SqT K H a xs → xs[i]? = some x, fun i H => ∃ xs : List V, SqT K H a xs ∧ xs.length ≤ i⟩
theorem turn_enumT {P : Program} {w : World} {K : PySem.W.Frag} {elts : List Expr} {kk : Nat} {tpos : Pos} (a e it : Addr) :
    Turn P w K (.Tuple elts kk tpos) (IteT K a) [e, it] e (fun i h => (∃ old, IsEnum h e it ((i : Nat) : Int) old) ∧ h.IsTupleIter it a i ∧ e ≠ it ∧ a ≠ it ∧ a ≠ e) where
  mem := by simp
  obj := fun i h st b hb => by
    obtain ⟨⟨old, he⟩, ⟨o, ho, hc, hd⟩, _⟩ := st
    have e' : b = e ∨ b = it := by simpa using hb
    rcases e' with z | z
    · rw [z]; exact ⟨_, he, fun v q => nomatch q⟩
    · rw [z]; exact ⟨o, ho, fun v q => by rw [hd] at q; cases q⟩
  keep := fun i h h' st k => let ⟨⟨old, he⟩, hi, hne⟩ := st; ⟨⟨old, k e (by simp) _ he⟩, hi.at fun o q => k it (by simp) o q, hne⟩
  item := by
    intro X hP hw hK hc i pins s σ H E I hf st hg
    subst hP hw hK
    obtain ⟨⟨old, he⟩, hit, hne, hai, hae⟩ := st
    obtain ⟨xs, x, hq, hx⟩ := hg
    obtain ⟨its, rv, p, hz⟩ := I.tuple hq
    obtain ⟨u, hu, ru⟩ := rv.get hx
    have hel : e < s.heap.objs.size := Heap.lt_size he
    have hil : it < s.heap.objs.size := by obtain ⟨_, q, _⟩ := hit; exact Heap.lt_size q
    have hilt : i < its.toArray.size := by
      have := (List.getElem?_eq_some_iff.mp hu).1
      simpa using this
    refine wpAny_pyNext_enum_itemD (Draws.tuple (A := X.A.in1) (I.ok.hd hc) it a hai its.toArray) he ⟨hit, p⟩ hilt hne (by simp; exact ⟨hne, fun q => hae q.symm⟩) fun x2 h' tk hP ho hst hT hsz hk => ?_
    have ex : x2 = u := by
      have hP' : its[i]? = some x2 := by simpa using hP
      rw [hu] at hP'
      exact (Option.some.inj hP').symm
    subst ex
    refine ⟨_, rfl, wpAny_letOwnedTupleGo_enum (s := { s with heap := h', toks := tk + 1 }) ho fun h'' he' sb => ?_⟩
    have hT2 : h''.get? s.heap.objs.size = some { cls := .type "tuple", data := .seq #[.int i tk, x2] } := (sb.2 _ (Nat.ne_of_gt hel)).trans hT
    have new : ObjOk X.prog X.w (upd H s.heap.objs.size (.tup [.int (i : Nat), x])) h'' s.heap.objs.size (.tup [.int (i : Nat), x]) :=
      ⟨by show 2 ≤ sizeLine; decide, [.int i tk, x2], .cons ⟨_, rfl⟩ (.cons ru .nil), ⟨_, hT2, rfl, _, rfl⟩⟩
    have I1 : Inv X pins σ (upd H s.heap.objs.size (.tup [.int (i : Nat), x])) { s with heap := h'', toks := tk + 1 } :=
      I.turnedNew (ch := [e, it]) (fun b ob hb q => (sb.2 b (fun z => hb (by simp [z]))).trans (hk b ob (fun z => hb (by simp [z])) (fun z => hb (by simp [z])) q)) hf (Nat.le_refl _) new
    refine ⟨.ref s.heap.objs.size, _, I1, rfl, ⟨_, x, rfl, I.hok.fresh (Nat.le_refl _), rfl, fun ys hy => by rw [I.tuple_inj hy hq]; exact hx⟩, ⟨⟨x2, ?_⟩, hst.1.at fun o q => (sb.2 it (Ne.symm hne)).trans q, hne, hai, hae⟩, fun b hb => ?_⟩
    · have e1 : ((i + 1 : Nat) : Int) = (i : Int) + 1 := by omega
      rw [e1]; exact he'
    · have hb' : b < s.heap.objs.size := by
        have e' : b = e ∨ b = it := by simpa using hb
        rcases e' with z | z
        · rw [z]; exact hel
        · rw [z]; exact hil
      rw [upd_ne (Nat.ne_of_lt hb')]
      exact (hf b hb).1
  done := by
    intro X hP hw hK hc i pins s σ H E I hf st hg
    subst hP hw hK
    obtain ⟨⟨old, he⟩, hit, hne, hai, hae⟩ := st
    obtain ⟨xs, hq, hx⟩ := hg
    obtain ⟨its, rv, p, hz⟩ := I.tuple hq
    obtain ⟨f0, f1, f2, f3, f4, f5⟩ := hf it (by simp)
    have hl := rv.length
    have D : Draws X.prog X.w X.A.in1 it [it, a] i (fun _ _ => True) (fun j h => j = i ∧ h.IsTupleIter it a i ∧ h.IsTuple a its.toArray) :=
      ⟨fun _ _ st => (let ⟨o, ho, _⟩ := st.2.1; ⟨o, ho⟩), fun _ _ _ st hk => ⟨st.1, st.2.1.at fun o e => hk it (by simp) o e, st.2.2.at fun o e => hk a (by simp) o e⟩,
        fun j s Q E hj st hQ => absurd st.1 (Nat.ne_of_lt hj), fun s Q E st hE => wpAny_nextOf_tuple_end (I.ok.hd hc) st.2.1 st.2.2 (by simp; omega) hE⟩
    exact wpAny_pyNext_enum_endD D he ⟨rfl, hit, p⟩ fun h' eb => ⟨rfl, I.turned (t' := s.toks) (fun b o hb q => eb b o hb q) f0 f1 f3 f4 f5⟩
  self := fun A i s Q E st h => let ⟨⟨_, he⟩, _⟩ := st; wpAny_pyIter_enum he h
def iEnumT (K : PySem.W.Frag) (ta : TA) : TI := fun σ H R => ta σ H fun vs H1 => ∃ a xs, vs = [.ref a] ∧ SqT K H1 a xs ∧ R (IteT K a) H1
theorem pi_enumT {X : Cx} {e : Expr} {ta : TA} {p pos tpos : Pos} {elts : List Expr} {kk : Nat} (hg : Gl X "enumerate") (hm : X.mg "enumerate" = none) (ha : PA X [e] ta) (hs : starEach [e] X.env = [(false, eval e X.env)] := by rfl) :
    PI X (.Tuple elts kk tpos) (.Call (.Name "enumerate" p) [e] [] pos) (iEnumT X.K ta) := by
  refine ⟨fun pins s σ H R I h => ?_⟩
  refine Call_ (ld_blt I hg hm boot_enumerate (PyProof.Rows.callWith_type1 (thn (ha.run pos pins s σ H _ I h) fun us s1 ⟨vs, H1, I1, r1, q1⟩ => ?_) hs rfl))
  obtain ⟨a, xs, ex, hq, q⟩ := q1
  subst ex
  cases r1 with
  | cons r rr =>
    cases rr
    cases r
    obtain ⟨its, rv, p', hz⟩ := I1.tuple hq
    have halt : a < s1.heap.objs.size := by obtain ⟨_, q, _⟩ := id p'; exact Heap.lt_size q
    refine call_enum_begins (begins_tuple a its.toArray) p' fun h' he hit hsz hk => wpAny_pyIter_enum he ?_
    have I2 : Inv X pins σ H1 { s1 with heap := h' } := I1.kept (t' := s1.toks) hk
    refine ⟨s1.heap.objs.size + 1, [s1.heap.objs.size + 1, s1.heap.objs.size], _, _, H1, rfl, I2, turn_enumT a (s1.heap.objs.size + 1) s1.heap.objs.size, ⟨⟨.none, he⟩, ⟨_, hit, rfl, rfl⟩, Nat.succ_ne_self _, Nat.ne_of_lt halt, Nat.ne_of_lt (Nat.lt_succ_of_lt halt)⟩, fun b hb => ?_, q⟩
    have e' : b = s1.heap.objs.size + 1 ∨ b = s1.heap.objs.size := by simpa using hb
    have hle : s1.heap.objs.size ≤ b := by
      rcases e' with z | z
      · rw [z]; exact Nat.le_add_right _ _
      · rw [z]; exact Nat.le_refl _
    exact I1.fpOk hle (I1.hok.fresh hle)
end L2

set_option maxRecDepth 100000
set_option maxHeartbeats 2000000
namespace Fo
open PySem PySem.Spec PyProof.Rows L2
/-! ### defs by their names -/
structure At (K : PySem.W.Frag) (mg : Str → Option Value) (x : Str) (st : Stmt) (ps : List Str) : Prop where
  ex : ∃ f fd, mg x = some (.ref f) ∧ Fun K x x st f fd ∧ Binds K fd ps []
structure Dfn (P : Program) (w : World) (K : PySem.W.Frag) (mg : Str → Option Value) (base : Heap) (x : Str) (ps : List Str) (k : Nat) (sp : Sp) : Prop where
  ex : ∃ f fd, mg x = some (.ref f) ∧ PySem.W.keepIn K (.ref f) = true ∧ FnOk P w K mg base CX0 k f fd ps sp ∧ Binds K fd ps []
structure Tx (mg : Str → Option Value) : Prop where
  len : mg "len" = none
  list : mg "list" = none
  range : mg "range" = none
  tuple : mg "tuple" = none
  sorted : mg "sorted" = none
  int : mg "int" = none
  min : mg "min" = none
  isinstance : mg "isinstance" = none
  all : mg "all" = none
  enumerate : mg "enumerate" = none
  zip : mg "zip" = none
  set : mg "set" = none
  repr : mg "repr" = none
  str : mg "str" = none
  bool : mg "bool" = none
section
variable {P : Program} {w : World} {K : PySem.W.Frag} {mg : Str → Option Value} {base : Heap}
theorem At.ok {x : Str} {st : Stmt} {N ps : List Str} {k : Nat} {sp : Sp} (a : At K mg x st ps) (S : FnScope N ps (defScope st)) (len : ∀ vs H Q E, sp vs H Q E → vs.length = ps.length)
    (hbody : ∀ (f : Addr) (cdv : Value) (A : Around) (outer : List Env) (s : Shared) (H : Hp) (vs : List V) (Q : VK) (E : XK), Room k (A.deeper (envOfC x (defScope st) s.heap.objs.size f cdv)) → sp vs H Q E →
      ∃ t, PSs (cxOf CX0 P w K mg base N x (defScope st) f cdv A outer s H E).nox (defBody st) t ∧ t { nx := fun _ H' => Q .non H', rt := Q } (start N vs) H) : Dfn P w K mg base x ps (k + 1) sp := by
  obtain ⟨f, fd, hm, F, b⟩ := a.ex
  exact ⟨f, fd, hm, F.kp, F.ok S len (hbody f), b⟩
theorem pe_d {X : Cx} {x : Str} {ps : List Str} {k : Nat} {sp : Sp} {e : Expr} {es : List Expr} {t : TA} {p pos : Pos} (G : Dfn X.prog X.w X.K X.mg X.base x ps k sp) (hr : Room k X.A) (ha : PA X (e :: es) t) (hg : Gl X x := by rfl)
    (hdb : (x == ("__debug__" : Str)) = false := by decide) (he : starEach (e :: es) X.env = (false, eval e X.env) :: starEach es X.env := by rfl) (hpl : (backTo pos (starEach es X.env)).any (·.1) = false := by rfl) :
    PE X (.Call (.Name x p) (e :: es) [] pos) (tCall sp [] E0 t) := by
  obtain ⟨f, fd, hm, kp, F, b⟩ := G.ex
  exact pe_call F hr hg hm kp b .nil pass0 ha hdb he hpl
theorem pe_d0 {X : Cx} {x : Str} {ps : List Str} {k : Nat} {sp : Sp} {p pos : Pos} (G : Dfn X.prog X.w X.K X.mg X.base x ps k sp) (hr : Room k X.A) (hg : Gl X x := by rfl)
    (hdb : (x == ("__debug__" : Str)) = false := by decide) :
    PE X (.Call (.Name x p) [] [] pos) (fun _ H Q => sp [] H Q E0) := by
  obtain ⟨f, fd, hm, kp, F, b⟩ := G.ex
  exact pe_call0 F hr hg hm kp b .nil pass0 hdb
end
/-! ### heaps that grow -/
/-- all but what stands at t is kept -/
def Gr (t : Addr) (H H' : Hp) : Prop := ∀ a o, a ≠ t → H a = some o → H' a = some o
theorem Gr.refl {t : Addr} (H : Hp) : Gr t H H := fun _ _ _ h => h
theorem Gr.trans {t : Addr} {H H1 H2 : Hp} (a : Gr t H H1) (b : Gr t H1 H2) : Gr t H H2 := fun c o n h => b c o n (a c o n h)
theorem Gr.new {t : Addr} {H : Hp} {p : Addr} {o : HO} (h : H p = none) : Gr t H (upd H p o) := fun a u _ e => by
  rw [upd_ne (ne_of_none e h)]
  exact e
theorem Gr.put {t : Addr} {H : Hp} {o : HO} : Gr t H (upd H t o) := fun a u n e => by
  rw [upd_ne n]
  exact e
theorem Gr.of {t : Addr} {H H' : Hp} (e : Same H H') : Gr t H H' := fun a o _ h => e a o h
theorem Gr.free {t : Addr} {H H' : Hp} (g : Gr t H H') (ht : H' t ≠ none) {p : Addr} (h : H' p = none) : H p = none := by
  cases q : H p with
  | none => rfl
  | some o =>
    have hne : p ≠ t := fun z => ht (z ▸ h)
    rw [g p o hne q] at h
    cases h
theorem same_new {H : Hp} {p : Addr} {o : HO} (h : H p = none) : Same H (upd H p o) := fun a u e => by
  rw [upd_ne (ne_of_none e h)]
  exact e
/-- an object that H does not know may change -/
theorem same_mut {H H' : Hp} {p : Addr} {o : HO} (e : Same H H') (h : H p = none) : Same H (upd H' p o) := fun a u ha => by
  rw [upd_ne (ne_of_none ha h)]
  exact e a u ha
theorem gr_mut {t : Addr} {H H' : Hp} {p : Addr} {o : HO} (e : Gr t H H') (h : H p = none) : Gr t H (upd H' p o) := fun a u n ha => by
  rw [upd_ne (ne_of_none ha h)]
  exact e a u n ha
theorem sqT_same {K : PySem.W.Frag} {H H' : Hp} {a : Addr} {xs : List V} (e : Same H H') (h : SqT K H a xs) : SqT K H' a xs := by
  rcases h with (h | ⟨o, h⟩) | h
  · exact .inl (.inl (e _ _ h))
  · exact .inl (.inr ⟨o, e _ _ h⟩)
  · exact .inr h
/-! ### the tape -/
def Tape (H : Hp) (t l : Addr) : Prop := ∃ (ns : List Int) (b c d e : Int), H t = some (.lst [.ref l, .int b, .int c, .int d, .int e]) ∧ H l = some (.lst (ns.map V.int)) ∧ 0 ≤ b
theorem ints_ne (ns : List Int) (l : Addr) (r : List V) : (HO.lst (ns.map V.int)) ≠ .lst (.ref l :: r) := by
  intro q
  cases ns with
  | nil => injection q with q; cases q
  | cons x r => injection q with q; injection q with q; cases q
theorem Tape.ne {H : Hp} {t l : Addr} (T : Tape H t l) : l ≠ t := by
  obtain ⟨ns, b, c, d, e, ht, hl, hb⟩ := T
  exact ne_of hl ht (ints_ne _ _ _)
theorem Tape.there {H : Hp} {t l : Addr} (T : Tape H t l) : H t ≠ none := by
  obtain ⟨ns, b, c, d, e, h, _⟩ := T
  rw [h]
  exact fun z => nomatch z
theorem Tape.keep {H H' : Hp} {t l : Addr} (T : Tape H t l) (g : Same H H') : Tape H' t l := by
  obtain ⟨ns, b, c, d, e, h, hl, hb⟩ := T
  exact ⟨ns, b, c, d, e, g _ _ h, g _ _ hl, hb⟩
/-- what is new is neither of the tape's two -/
theorem Tape.free {H : Hp} {t l a : Addr} (T : Tape H t l) (h : H a = none) : a ≠ t ∧ a ≠ l := by
  obtain ⟨ns, b, c, d, e, ht, hl, hb⟩ := T
  exact ⟨(ne_of_none ht h).symm, (ne_of_none hl h).symm⟩
theorem Tape.new {H : Hp} {t l a : Addr} {o : HO} (T : Tape H t l) (h : H a = none) : Tape (upd H a o) t l := T.keep (same_new h)
/-- other objects than the tape's own may change -/
theorem Tape.mut {H : Hp} {t l a : Addr} {u : HO} (T : Tape H t l) (n : a ≠ t ∧ a ≠ l) : Tape (upd H a u) t l := by
  obtain ⟨ns, b, c, d, e, ht, hl, hb⟩ := T
  exact ⟨ns, b, c, d, e, by rw [upd_ne n.1.symm]; exact ht, by rw [upd_ne n.2.symm]; exact hl, hb⟩
theorem Tape.ne_ints' {H : Hp} {t l a : Addr} {ns : List Int} (T : Tape H t l) (h : H a = some (.lst (ns.map V.int))) : a ≠ t := by
  obtain ⟨ms, b, c, d, e, ht, hl, hb⟩ := T
  exact ne_of h ht (ints_ne _ _ _)
theorem Gr.fresh {t l : Addr} {H H' : Hp} (g : Gr t H H') (T : Tape H' t l) {p : Addr} (h : H' p = none) : H p = none := g.free T.there h
/-! ### data -/
abbrev dI (ns : List Int) : PyData := .tuple (ns.map .int)
abbrev dR (rows : List (List Int)) : PyData := .tuple (rows.map dI)
mutual
theorem dp_same {K : PySem.W.Frag} {H H' : Hp} (e : Same H H') : ∀ {v : V} {d : PyData}, Dp K H v d → Dp K H' v d
  | _, _, .non => .non
  | _, _, .bl b => .bl b
  | _, _, .int i => .int i
  | _, _, .str x => .str x
  | _, _, .lst h r => .lst (e.seq h) (dpAll_same e r)
  | _, _, .tup h r => .tup (sqT_same e h) (dpAll_same e r)
theorem dpAll_same {K : PySem.W.Frag} {H H' : Hp} (e : Same H H') : ∀ {vs : List V} {ds : List PyData}, DpAll K H vs ds → DpAll K H' vs ds
  | _, _, .nil => .nil
  | _, _, .cons h r => .cons (dp_same e h) (dpAll_same e r)
end
theorem dpAll_ints {K : PySem.W.Frag} {H : Hp} : ∀ (ns : List Int), DpAll K H (ns.map V.int) (ns.map .int)
  | [] => .nil
  | n :: r => .cons (.int n) (dpAll_ints r)
theorem ints_dpAll {K : PySem.W.Frag} {H : Hp} : ∀ {ns : List Int} {vs : List V}, DpAll K H vs (ns.map .int) → vs = ns.map V.int
  | [], _, .nil => rfl
  | n :: r, _, .cons (.int _) h => by rw [ints_dpAll h]; rfl
theorem dpAll_len {K : PySem.W.Frag} {H : Hp} : ∀ {vs : List V} {ds : List PyData}, DpAll K H vs ds → vs.length = ds.length
  | _, _, .nil => rfl
  | _, _, .cons _ r => by rw [List.length_cons, List.length_cons, dpAll_len r]
theorem dpAll_get {K : PySem.W.Frag} {H : Hp} : ∀ {vs : List V} {ds : List PyData} {i : Nat} {v : V}, DpAll K H vs ds → vs[i]? = some v → ∃ d, ds[i]? = some d ∧ Dp K H v d
  | _, _, _, _, .nil, e => by simp at e
  | _, _, 0, _, .cons h _, e => by simp at e; subst e; exact ⟨_, rfl, h⟩
  | _, _, i + 1, v, .cons _ r, e => by
    obtain ⟨d, h1, h2⟩ := dpAll_get (i := i) (v := v) r (by simpa using e)
    exact ⟨d, by simpa using h1, h2⟩
theorem dpAll_get' {K : PySem.W.Frag} {H : Hp} {vs : List V} {ds : List PyData} {i : Nat} {d : PyData} (h : DpAll K H vs ds) (e : ds[i]? = some d) : ∃ v, vs[i]? = some v ∧ Dp K H v d := by
  have h1 : i < vs.length := by rw [dpAll_len h]; exact (List.getElem?_eq_some_iff.mp e).1
  obtain ⟨d', e', q⟩ := dpAll_get h (List.getElem?_eq_getElem h1)
  rw [e] at e'
  cases e'
  exact ⟨_, List.getElem?_eq_getElem h1, q⟩
theorem dpAll_append {K : PySem.W.Frag} {H : Hp} : ∀ {vs ws : List V} {ds es : List PyData}, DpAll K H vs ds → DpAll K H ws es → DpAll K H (vs ++ ws) (ds ++ es)
  | _, _, _, _, .nil, s => s
  | _, _, _, _, .cons h r, s => .cons h (dpAll_append r s)
theorem dp_tup {K : PySem.W.Frag} {H : Hp} {v : V} {ds : List PyData} (h : Dp K H v (.tuple ds)) : ∃ a xs, v = .ref a ∧ SqT K H a xs ∧ DpAll K H xs ds := by
  cases h with
  | tup h r => exact ⟨_, _, rfl, h, r⟩
theorem dp_row {K : PySem.W.Frag} {H : Hp} {v : V} {ns : List Int} (h : Dp K H v (dI ns)) : ∃ a, v = .ref a ∧ SqT K H a (ns.map V.int) := by
  obtain ⟨a, xs, e, h, r⟩ := dp_tup h
  rw [ints_dpAll r] at h
  exact ⟨a, e, h⟩
theorem dp_rowI {K : PySem.W.Frag} {H : Hp} {a : Addr} {ns : List Int} (h : SqT K H a (ns.map V.int)) : Dp K H (.ref a) (dI ns) := .tup h (dpAll_ints ns)
/-- tuples are not changed by what changes at t -/
theorem gr_T {t l : Addr} {K : PySem.W.Frag} {H H' : Hp} (g : Gr t H H') (T : Tape H t l) {a : Addr} {xs : List V} (h : SqT K H a xs) : SqT K H' a xs := by
  obtain ⟨ns, b, c, d, e, ht, hl, hb⟩ := T
  rcases h with (h | ⟨o, h⟩) | h
  · exact .inl (.inl (g _ _ (ne_of h ht (by intro z; cases z)) h))
  · exact .inl (.inr ⟨o, g _ _ (ne_of h ht (by intro z; cases z)) h⟩)
  · exact .inr h
/-! rows of a table -/
structure Good (rows : List (List Int)) : Prop where
  pos : 1 ≤ rows.length
  asc : ∀ r ∈ rows, r.Pairwise (· < ·)
  rng : ∀ r ∈ rows, ∀ x ∈ r, 0 ≤ x ∧ x < (rows.length : Int)
inductive RowsT (K : PySem.W.Frag) (H : Hp) : List V → List (List Int) → Prop where
  | nil : RowsT K H [] []
  | cons {a : Addr} {vs : List V} {r : List Int} {rs : List (List Int)} : SqT K H a (r.map V.int) → RowsT K H vs rs → RowsT K H (.ref a :: vs) (r :: rs)
theorem rowsT_dp {K : PySem.W.Frag} {H : Hp} : ∀ {vs : List V} {rs : List (List Int)}, RowsT K H vs rs → DpAll K H vs (rs.map dI)
  | _, _, .nil => .nil
  | _, _, .cons h r => .cons (dp_rowI h) (rowsT_dp r)
theorem dp_rowsT {K : PySem.W.Frag} {H : Hp} : ∀ {rs : List (List Int)} {vs : List V}, DpAll K H vs (rs.map dI) → RowsT K H vs rs
  | [], _, .nil => .nil
  | r :: rs, _, .cons h t => by
    obtain ⟨a, rfl, q⟩ := dp_row h
    exact .cons q (dp_rowsT t)
theorem RowsT.gr {t l : Addr} {K : PySem.W.Frag} {H H' : Hp} (g : Gr t H H') (T : Tape H t l) : ∀ {vs : List V} {rs : List (List Int)}, RowsT K H vs rs → RowsT K H' vs rs
  | _, _, .nil => .nil
  | _, _, .cons h r => .cons (gr_T g T h) (r.gr g T)
theorem RowsT.same {K : PySem.W.Frag} {H H' : Hp} (g : Same H H') : ∀ {vs : List V} {rs : List (List Int)}, RowsT K H vs rs → RowsT K H' vs rs
  | _, _, .nil => .nil
  | _, _, .cons h r => .cons (sqT_same g h) (r.same g)
theorem RowsT.len {K : PySem.W.Frag} {H : Hp} : ∀ {vs : List V} {rs : List (List Int)}, RowsT K H vs rs → vs.length = rs.length
  | _, _, .nil => rfl
  | _, _, .cons _ r => by rw [List.length_cons, List.length_cons, r.len]
theorem RowsT.snoc {K : PySem.W.Frag} {H : Hp} {a : Addr} {r : List Int} (h : SqT K H a (r.map V.int)) : ∀ {vs : List V} {rs : List (List Int)}, RowsT K H vs rs → RowsT K H (vs ++ [.ref a]) (rs ++ [r])
  | _, _, .nil => .cons h .nil
  | _, _, .cons q t => .cons q (t.snoc h)
theorem RowsT.get {K : PySem.W.Frag} {H : Hp} : ∀ {vs : List V} {rs : List (List Int)} {i : Nat} {r : List Int}, RowsT K H vs rs → rs[i]? = some r → ∃ a, vs[i]? = some (.ref a) ∧ SqT K H a (r.map V.int)
  | _, _, _, _, .nil, e => by simp at e
  | _, _, 0, _, .cons h _, e => by simp at e; subst e; exact ⟨_, rfl, h⟩
  | _, _, i + 1, r, .cons _ t, e => by
    obtain ⟨a, h1, h2⟩ := t.get (i := i) (r := r) (by simpa using e)
    exact ⟨a, by simpa using h1, h2⟩
/-- rows that stand as a tuple at a -/
def RowsAt (K : PySem.W.Frag) (H : Hp) (v : V) (rows : List (List Int)) : Prop := ∃ a vs, v = .ref a ∧ SqT K H a vs ∧ RowsT K H vs rows
theorem RowsAt.gr {t l : Addr} {K : PySem.W.Frag} {H H' : Hp} {v : V} {rows : List (List Int)} (h : RowsAt K H v rows) (g : Gr t H H') (T : Tape H t l) : RowsAt K H' v rows := by
  obtain ⟨a, vs, e, h1, h2⟩ := h
  exact ⟨a, vs, e, gr_T g T h1, h2.gr g T⟩
theorem RowsAt.same {K : PySem.W.Frag} {H H' : Hp} {v : V} {rows : List (List Int)} (h : RowsAt K H v rows) (g : Same H H') : RowsAt K H' v rows := by
  obtain ⟨a, vs, e, h1, h2⟩ := h
  exact ⟨a, vs, e, sqT_same g h1, h2.same g⟩
theorem RowsAt.dp {K : PySem.W.Frag} {H : Hp} {v : V} {rows : List (List Int)} (h : RowsAt K H v rows) : Dp K H v (dR rows) := by
  obtain ⟨a, vs, rfl, h1, h2⟩ := h
  exact .tup h1 (rowsT_dp h2)
theorem RowsAt.of {K : PySem.W.Frag} {H : Hp} {v : V} {rows : List (List Int)} (h : Dp K H v (dR rows)) : RowsAt K H v rows := by
  obtain ⟨a, vs, rfl, h1, h2⟩ := dp_tup h
  exact ⟨a, vs, rfl, h1, dp_rowsT h2⟩
/-! ### sorted lists -/
theorem sorted_strict {l : List Int} (h : l.Pairwise (· ≤ ·)) (hn : l.Nodup) : l.Pairwise (· < ·) := by
  have := List.Pairwise.and h hn
  exact this.imp fun {a b} q => by
    have := q.1
    have := q.2
    omega
def rangeI (n : Int) : List Int := (List.range n.toNat).map fun (i : Nat) => (i : Int)
theorem rangeI_len (n : Int) : (rangeI n).length = n.toNat := by unfold rangeI; rw [List.length_map, List.length_range]
theorem rangeI_nodup (n : Int) : (rangeI n).Nodup := by
  unfold rangeI
  exact List.Pairwise.map _ (fun (a b : Nat) (h : a ≠ b) (q : (a : Int) = (b : Int)) => h (by omega)) List.nodup_range
theorem mem_rangeI {n x : Int} : x ∈ rangeI n ↔ 0 ≤ x ∧ x < n := by
  unfold rangeI
  rw [List.mem_map]
  constructor
  · rintro ⟨i, hi, rfl⟩
    have := List.mem_range.mp hi
    omega
  · intro h
    exact ⟨x.toNat, List.mem_range.mpr (by omega), by omega⟩
theorem rgV_rangeI (n : Int) : rgV 0 n = (rangeI n).map V.int := by
  unfold rgV rangeI
  rw [List.map_map, Int.sub_zero]
  apply List.map_congr_left
  intro i _
  show V.int (0 + (i : Int)) = V.int (i : Int)
  rw [Int.zero_add]
theorem atI_lt {α : Type} {xs : List α} {i : Int} (h0 : 0 ≤ i) (h1 : i < xs.length) : ∃ x, atI xs i = some x ∧ xs[i.toNat]? = some x := by
  have h : i.toNat < xs.length := by omega
  refine ⟨xs[i.toNat], ?_, List.getElem?_eq_getElem h⟩
  have q : atI xs ((i.toNat : Nat) : Int) = some xs[i.toNat] := atI_nat (List.getElem?_eq_getElem h)
  rw [← q]
  exact congrArg _ (by omega)
theorem map_atI {i : Int} {ns : List Int} (h0 : 0 ≤ i) (h1 : i < ns.length) : ∃ x, x ∈ ns ∧ atI (ns.map V.int) i = some (.int x) := by
  obtain ⟨x, h, g⟩ := atI_lt (xs := ns.map V.int) h0 (by rw [List.length_map]; exact h1)
  rw [List.getElem?_map] at g
  cases e : ns[i.toNat]? with
  | none => rw [e] at g; cases g
  | some y =>
    rw [e] at g
    have : V.int y = x := Option.some.inj g
    subst this
    exact ⟨y, List.mem_of_getElem? e, h⟩
theorem map_eraseIdx' {α β : Type} (f : α → β) : ∀ (l : List α) (i : Nat), (l.map f).eraseIdx i = (l.eraseIdx i).map f
  | [], _ => rfl
  | _ :: _, 0 => rfl
  | x :: r, i + 1 => by
    show f x :: (r.map f).eraseIdx i = f x :: (r.eraseIdx i).map f
    rw [map_eraseIdx' f r i]
theorem inV_ints (x : Int) (ns : List Int) : inV (.int x) (ns.map V.int) = decide (x ∈ ns) := by
  induction ns with
  | nil => rfl
  | cons y r ih =>
    show (y == x || (r.map V.int).any fun z => eqV z (.int x)) = decide (x ∈ y :: r)
    have ih' : ((r.map V.int).any fun z => eqV z (.int x)) = decide (x ∈ r) := ih
    rw [ih']
    by_cases h : y = x
    · subst h
      simp
    · have h' : ¬ x = y := fun q => h q.symm
      simp [h, h']
theorem all_flat_ints (ns : List Int) : (ns.map V.int).all flatV = true := by
  rw [List.all_eq_true]
  intro x hx
  obtain ⟨n, _, rfl⟩ := List.mem_map.mp hx
  rfl
theorem seq_at {n : Nat} {k : Int} (h0 : 0 ≤ k) (h1 : k < n) : seqIndex? k n = some k.toNat := by
  have h : ixN n k = some k.toNat := by
    unfold ixN
    rw [if_pos h0, if_pos h1]
  exact (ixN_seq h).1
theorem nodup_of_lt {l : List Int} (h : l.Pairwise (· < ·)) : l.Nodup := h.imp fun {a b} q z => by omega
/-! built-ins' readings by name -/
def rLenS (K : PySem.W.Frag) : List V → Hp → VK → Prop := fun xs H Q => ∃ p ys, xs = [.ref p] ∧ (SqL K H p ys ∨ SqT K H p ys) ∧ Q (.int ys.length) H
theorem c_len {X : Cx} : CallR X (.builtin "len") (rLenS X.K) := call_len_seq
def rListOf (K : PySem.W.Frag) : List V → Hp → VK → Prop := fun xs H Q => ∃ p ys, xs = [.ref p] ∧ (SqL K H p ys ∨ SqT K H p ys) ∧ ∀ l, H l = none → Q (.ref l) (upd H l (.lst ys))
theorem c_list {X : Cx} : CallR X (.type "list") (rListOf X.K) := call_list_of
def rTupOf (K : PySem.W.Frag) : List V → Hp → VK → Prop := fun xs H Q => ∃ p ys, xs = [.ref p] ∧ ((SqL K H p ys ∧ ∀ l, H l = none → Q (.ref l) (upd H l (.tup ys))) ∨ (SqT K H p ys ∧ Q (.ref p) H))
theorem c_tuple {X : Cx} : CallR X (.type "tuple") (rTupOf X.K) := call_tuple_of
def rIntOf : List V → Hp → VK → Prop := fun xs H Q => (∃ i, xs = [.int i] ∧ Q (.int i) H) ∨ ∃ k, xs = [.bl k] ∧ Q (.int (if k then 1 else 0)) H
theorem c_int {X : Cx} : CallR X (.type "int") rIntOf := call_int1
def rMin2 : List V → Hp → VK → Prop := fun xs H Q => ∃ i j, xs = [.int i, .int j] ∧ Q (.int (if j < i then j else i)) H
theorem c_min {X : Cx} (hc : X.calm = true) : CallR X (.builtin "min") rMin2 := call_min2 hc
theorem perm_erase {α : Type} : ∀ (l : List α) (i : Nat) (h : i < l.length), (l[i] :: l.eraseIdx i).Perm l
  | _ :: _, 0, _ => List.Perm.refl _
  | x :: r, i + 1, h => by
    have h' : i < r.length := by simpa using h
    show (r[i] :: x :: r.eraseIdx i).Perm (x :: r)
    exact (List.Perm.swap x r[i] _).trans ((perm_erase r i h').cons x)
theorem small_lt {n : Nat} (h : n ≤ 100000) : n < sizeLine := Nat.lt_of_le_of_lt h (by decide)
theorem small_le {n : Nat} (h : n ≤ 100000) : n ≤ sizeLine := Nat.le_trans h (by decide)
theorem Gr.upd2 {t : Addr} {H H' : Hp} {a : Addr} {o : HO} (g : Gr t H H') (h : H a = none) : Gr t H (upd H' a o) := gr_mut g h
/-- ascending rows -/
theorem asc_of {row l : List Int} (hp : row.Perm l) (hs : row.Pairwise (· ≤ ·)) (hn : l.Nodup) : row.Pairwise (· < ·) := sorted_strict hs (hp.symm.nodup hn)
theorem asc_snoc {row : List Int} {j : Int} (hp : row.Pairwise (· < ·)) (h : ∀ x ∈ row, x < j) : (row ++ [j]).Pairwise (· < ·) := by
  rw [List.pairwise_append]
  exact ⟨hp, List.pairwise_singleton _ _, fun a ha b hb => by rw [List.mem_singleton.mp hb]; exact h a ha⟩
theorem nodup_snoc {row : List Int} {j : Int} (hp : row.Nodup) (h : j ∉ row) : (row ++ [j]).Nodup := by
  show (row ++ [j]).Pairwise (· ≠ ·)
  rw [List.pairwise_append]
  exact ⟨hp, List.pairwise_singleton _ _, fun a ha b hb q => by rw [List.mem_singleton.mp hb] at q; exact h (q ▸ ha)⟩
theorem map_snoc (row : List Int) (j : Int) : row.map V.int ++ [V.int j] = (row ++ [j]).map V.int := by rw [List.map_append]; rfl
/-- a list that changes is no row -/
theorem sqT_put {K : PySem.W.Frag} {H : Hp} {a f : Addr} {xs vs ws : List V} (h : SqT K H a xs) (e : H f = some (.lst vs)) : SqT K (upd H f (.lst ws)) a xs := by
  rcases h with (h | ⟨o, h⟩) | h
  · exact .inl (.inl (by rw [upd_ne (ne_of h e (by intro z; cases z))]; exact h))
  · exact .inl (.inr ⟨o, by rw [upd_ne (ne_of h e (by intro z; cases z))]; exact h⟩)
  · exact .inr h
theorem RowsT.put {K : PySem.W.Frag} {H : Hp} {f : Addr} {us ws : List V} (e : H f = some (.lst us)) : ∀ {vs : List V} {rs : List (List Int)}, RowsT K H vs rs → RowsT K (upd H f (.lst ws)) vs rs
  | _, _, .nil => .nil
  | _, _, .cons h r => .cons (sqT_put h e) (r.put e)
theorem row_len : ∀ {r : List Int} {lo hi : Int}, r.Pairwise (· < ·) → (∀ x ∈ r, lo ≤ x ∧ x < hi) → (r.length : Int) ≤ (hi - lo).toNat
  | [], lo, hi, _, _ => Int.natCast_nonneg _
  | x :: r, lo, hi, h, hb => by
    have h1 := hb x List.mem_cons_self
    have h2 := row_len (r := r) (lo := x + 1) (hi := hi) (List.pairwise_cons.mp h).2 fun y hy => by
      have := (List.pairwise_cons.mp h).1 y hy
      have := (hb y (List.mem_cons_of_mem _ hy)).2
      omega
    rw [List.length_cons]
    omega
end Fo

set_option maxRecDepth 100000
set_option maxHeartbeats 2000000
namespace PySem.W
open PySem PySem.Spec PyProof.Rows Builtin
section
variable {prog : Program} {w : World} {A : Around} {E : Value → Shared → Prop} {s : Shared} {K : Frag} {x C f : Addr} {ox : Obj} {od : Option Obj} {b tb : Value}
/-- != of an instance whose class has its own == alone -/
theorem fo_callNe {Q : Option Value → Shared → Prop} (X : K.In s.heap) (I : InstAt s.heap x ox C od) (hn : findIn K (.ref C) (Str.ofString "__ne__") = some (some (.builtin "object.__ne__")))
    (h : wpAny (model prog w) A (call (.builtin "object.__ne__") [.ref x, b]) (fun v => Q (some v)) E s) : wpAny (model prog w) A (callSpecialIfBound? (.ref x) (Str.ofString "__ne__") [b]) Q E s := by
  simp only [callSpecialIfBound?, bindSpecialIfBound?]
  refine wpAny_holding (wpAny_bind (wpAny_bind (wpAny_bind (I.type.here ((looks_findIn X hn).here ?_)))))
  simp only [PySem.F.cmp_object.ne.bind]
  refine wpAny_bind (wpAny_askSetting (wpAny_ite ?_))
  have fin : wpAny (model prog w) A (call (.builtin "object.__ne__") ([.ref x] ++ [b]) >>= fun v => pure (some v)) Q E s := wpAny_bind (wpAny_mono h (fun v s' h' => wpAny_pure h') fun _ _ h' => h')
  split
  · exact wpAny_bind (wpAny_pure (wpAny_pure fin))
  · exact wpAny_tryCatch (wpAny_bind (wpAny_pure (wpAny_pure fin)))
theorem fo_checkNe {Q : Unit → Shared → Prop} {A : Around} (X : K.In s.heap) (I : InstAt s.heap x ox C od) (hm : mroIn K C (.type "object") = some true) (hq : Q () s) :
    wpAny (model prog w) A (checkBuiltinCall "object.__ne__" ⟨[.ref x, b], []⟩) Q E s := by
  simp only [checkBuiltinCall, PySem.F.cmpKind_ne, PySem.F.cmpSplit_ne]
  refine wpAny_bind ?_
  unfold isInstance
  refine wpAny_bind (I.type.here ((looks_mroIn X hm).here ?_))
  simp only [Bool.not_true, Bool.false_eq_true, if_false]
  exact wpAny_pure hq
theorem fo_bodyNe {Q : Fin → Shared → Prop} {A : Around} (hu : A.units < cLine) (X : K.In s.heap) (I : InstAt s.heap x ox C od) (hs : findIn K (.ref C) (Str.ofString "__eq__") = some (some (.ref f))) (hf : isFn K (.ref f) = true)
    (h : wpAny (model prog w) A (call (.ref f) [.ref x, b]) (fun v s' => ∃ c, v = .bool c ∧ Q (.done (.ret (.bool (!c)))) s') E s) :
    wpAny (model prog w) A (Builtin.«object.__ne__» ⟨[.ref x, b], []⟩) Q E s := by
  unfold Builtin.«object.__ne__»
  repeat' (first
    | with_reducible refine wpAny_cRoomFor hu ?_
    | refine wpAny_bind (m := callSpecialIfBound? (.ref x) (Str.ofString "__eq__") [b]) (ifBound_K X I hs hf (wpAny_mono h ?_ fun _ _ e => e))
    | wp_step)
  intro r s' hr
  obtain ⟨c, rfl, hq⟩ := hr
  refine wpAny_bind (wpAny_truthy_bool ?_)
  exact wpAny_pure hq
theorem fo_ne {h₀ : Heap} {L : Addr} {m : Str → Option Value} {Q : Value → Shared → Prop} (hu : A.units + 1 < cLine) (F : Fr h₀ L s.heap m) (X₀ : K.In h₀) (I : InstAt s.heap x ox C od) (hb : Looks (model prog w) s.heap (typeOf b) tb) (hnf : notFirst K C tb = true)
    (hm : mroIn K C (.type "object") = some true) (hn : findIn K (.ref C) (Str.ofString "__ne__") = some (some (.builtin "object.__ne__"))) (hs : findIn K (.ref C) (Str.ofString "__eq__") = some (some (.ref f))) (hf : isFn K (.ref f) = true)
    (h : wpAny (model prog w) A.in1 (call (.ref f) [.ref x, b]) (fun v s' => ∃ c, v = .bool c ∧ Q (.bool (!c)) s') E s) : wpAny (model prog w) A (richCompare .NotEq (.ref x) b) Q E s := by
  have X := X₀.keeps F.keep
  have one : wpAny (model prog w) A (tryCompare (.ref x) (cmpInfo .NotEq).2.1 b) (fun r s' => ∃ v, r = some v ∧ Q v s') E s := by
    unfold tryCompare
    refine wpAny_bind (fo_callNe X I hn (wpAny_call (codeAny_call_builtin PySem.F.cmp_object.ne.plain PySem.F.cmpEntry_ne (fo_checkNe (A := A.in1) X I hm (fo_bodyNe (A := A.in1) (by simpa using hu) X I hs hf (wpAny_mono h (fun v s' hv => ?_) fun _ _ e => e))))))
    obtain ⟨c, rfl, hq⟩ := hv
    first | exact ⟨c, rfl, wpAny_pure ⟨_, rfl, hq⟩⟩ | exact ⟨c, rfl, _, rfl, hq⟩
  unfold richCompare
  simp only [oneThing_ref]
  refine wpAny_holding (wpAny_bind (wpAny_cRoomFor (Nat.lt_of_succ_lt hu) ?_))
  refine wpAny_bind (I.type.here (wpAny_bind (hb.here ?_)))
  split
  · rename_i q
    have e : subIn K tb (.ref C) = some false := by
      rcases Bool.or_eq_true_iff.mp hnf with e | e
      · rw [beq_iff_eq.mp e] at q; simp at q
      · exact beq_iff_eq.mp e
    refine wpAny_bind ((looks_subIn X e).here ?_)
    simp only [Bool.false_eq_true, if_false]
    refine wpAny_bind (wpAny_mono one (fun r s' z => ?_) fun _ _ e => e)
    obtain ⟨v, rfl, hq⟩ := z
    exact wpAny_pure hq
  · refine wpAny_bind (wpAny_pure ?_)
    simp only [Bool.false_eq_true, if_false]
    refine wpAny_bind (wpAny_mono one (fun r s' z => ?_) fun _ _ e => e)
    obtain ⟨v, rfl, hq⟩ := z
    exact wpAny_pure hq
end
end PySem.W

namespace Fo
open PySem PySem.Spec PyProof.Rows L2
/-- the class of the tables, by what the text's top leaves of it -/
structure TC (K : PySem.W.Frag) (C : Addr) : Prop where
  cl : Cls K C
  ha : PySem.W.findIn K (.ref C) "__class__" = some (some (.builtin "object.__class__"))
  hn : PySem.W.specialIn K (.builtin "object.__class__") "__get__" = some (some (.builtin "getset_descriptor.__get__"))
  htk : PySem.W.takesIn K (.builtin "object.__class__") = some true
  hm : PySem.W.mroIn K C (.type "object") = some true
  ne : PySem.W.findIn K (.ref C) "__ne__" = some (some (.builtin "object.__ne__"))
  nR : NoAttr K C "rows"
  nS : NoAttr K C "size"
  kI : PySem.W.kitOne K (.ref C) (.type "int") = some false
  kB : PySem.W.kitOne K (.ref C) (.type "bool") = some false
  kT : PySem.W.kitOne K (.ref C) (.type "tuple") = some false
  kS : PySem.W.kitOne K (.ref C) (.type "str") = some false
  kL : PySem.W.kitOne K (.ref C) (.type "list") = some false
theorem TC.ty {K : PySem.W.Frag} {C : Addr} (c : TC K C) {H : Hp} {a dx : Addr} {fs : List (Str × V)} (h : H a = some (.ins C dx fs)) : TyX K H (.ref a) (.ref C) := .base (.ins h c.cl c.ha c.hn c.htk c.hm)
def rEqI (K : PySem.W.Frag) (C : Addr) (sp : Sp) : R2 := fun x y H Q => ∃ (a dx : Addr) (fs : List (Str × V)) (t : Value), x = .ref a ∧ H a = some (.ins C dx fs) ∧ TyX K H y t ∧ PySem.W.notFirst K C t = true ∧ sp [x, y] H (fun v H' => ∃ b, v = .bl b ∧ Q (.bl b) H') E0
def rNeI (K : PySem.W.Frag) (C : Addr) (sp : Sp) : R2 := fun x y H Q => ∃ (a dx : Addr) (fs : List (Str × V)) (t : Value), x = .ref a ∧ H a = some (.ins C dx fs) ∧ TyX K H y t ∧ PySem.W.notFirst K C t = true ∧ sp [x, y] H (fun v H' => ∃ b, v = .bl b ∧ Q (.bl (!b)) H') E0
section
variable {X : Cx} {C f : Addr} {fd : FuncData} {ps : List Str} {n : Nat} {sp : Sp}
theorem run_eqI {A : Around} {pins : List (Addr × Obj)} {s : Shared} {σ : L2.St} {H : Hp} {x y : V} {a : Addr} {v : Value} {Q : VK} (F : FnOk X.prog X.w X.K X.mg X.base CX0 n f fd ps sp) (hb : Binds X.K fd ps []) (sb : Sub X n A) (I : Inv X pins σ H s) (rx : RelV x (.ref a)) (ry : RelV y v)
    (h : sp [x, y] H Q E0) : wpAny (model X.prog X.w) A (call (.ref f) [.ref a, v]) (EP X pins σ Q) X.xe s := by
  have e0 : Env0 X.prog X.w X.K X.mg X.base A X.stack s H := by
    have e := I.env0
    exact ⟨by rw [sb.fr]; exact e.frames, e.mod, e.bs, e.bsz, e.funs, e.frf, e.hok, e.bare⟩
  have hl := F.len _ _ _ _ h
  have r2 : Vals [x, y] [Value.ref a, v] := .cons rx (.cons ry .nil)
  refine wpAny_call (codeAny_mono (F.run A X.stack s H ⟨[.ref a, v], []⟩ [.ref a, v] [x, y] _ E0 sb.room e0 (by
    have := hb s [.ref a, v] I.kIn (by simpa using hl)
    simpa using this) r2 h) fun r s' hq => ?_)
  cases r with
  | error e => exact pass0 pins σ H s e s' I hq
  | ok fl =>
    cases fl with
    | ret w => exact I.after hq
    | next => exact False.elim hq
    | brk => exact False.elim hq
    | cont => exact False.elim hq
theorem op_eqI (F : FnOk X.prog X.w X.K X.mg X.base CX0 n f fd ps sp) (hb : Binds X.K fd ps []) (hs : PySem.W.findIn X.K (.ref C) "__eq__" = some (some (.ref f))) (hf : PySem.W.isFn X.K (.ref f) = true) (hr : Room n X.A) :
    OpR X (compareOp .Eq) (rEqI X.K C sp) := by
  intro pins s σ H x y v u Q I rx ry h
  obtain ⟨a, dx, fs, t, rfl, ha, ty, nf, q⟩ := h
  cases rx
  obtain ⟨mA, J, _⟩ := ins_get I.hok ha
  obtain ⟨od, J, _⟩ := J.look
  obtain ⟨P, Z, p, hx⟩ := kit_of I ry ty
  obtain ⟨m, hF⟩ := I.fr
  refine PySem.W.cmp_K (op := .Eq) (tb := t) hr.units0 hF I.ok.mod.kin J (Z.ty _ _ I.kIn p) nf hs hf ?_
  refine wpAny_mono (run_eqI F hb ⟨hr, rfl⟩ I (show L2.RelV (.ref a) (.ref a) from rfl) ry q) (fun w s' e => ?_) fun _ _ z => z
  obtain ⟨z, H', I', rz, b, ez, qz⟩ := e
  subst ez
  cases rz
  exact ⟨.bl b, H', I', rfl, qz⟩
theorem op_neI (F : FnOk X.prog X.w X.K X.mg X.base CX0 n f fd ps sp) (hb : Binds X.K fd ps []) (c : TC X.K C) (hs : PySem.W.findIn X.K (.ref C) "__eq__" = some (some (.ref f))) (hf : PySem.W.isFn X.K (.ref f) = true) (hr : Room (n + 1) X.A) :
    OpR X (compareOp .NotEq) (rNeI X.K C sp) := by
  intro pins s σ H x y v u Q I rx ry h
  obtain ⟨a, dx, fs, t, rfl, ha, ty, nf, q⟩ := h
  cases rx
  obtain ⟨mA, J, _⟩ := ins_get I.hok ha
  obtain ⟨od, J, _⟩ := J.look
  obtain ⟨P, Z, p, hx⟩ := kit_of I ry ty
  obtain ⟨m, hF⟩ := I.fr
  refine PySem.W.fo_ne (tb := t) (Nat.lt_of_le_of_lt (Nat.add_le_add_left (by decide : 1 ≤ 64) _) hr.units) hF I.ok.mod.kin J (Z.ty _ _ I.kIn p) nf c.hm c.ne hs hf ?_
  refine wpAny_mono (run_eqI (A := X.A.in1) F hb ⟨hr.in1, rfl⟩ I (show L2.RelV (.ref a) (.ref a) from rfl) ry q) (fun w s' e => ?_) fun _ _ z => z
  obtain ⟨z, H', I', rz, b, ez, qz⟩ := e
  subst ez
  cases rz
  exact ⟨b, rfl, .bl (!b), H', I', rfl, qz⟩
end
/-! loops and comprehensions over enumerate and zip of tuples -/
theorem for_enumT {K : PySem.W.Frag} {a : Addr} {xs : List V} {g : TG} {tb : TS} {D : Ends} {σ : L2.St} {H : Hp} (Pv : Nat → L2.St → Hp → Prop) (h0 : Pv 0 σ H) (hl : ∀ i σ H, i ≤ xs.length → Pv i σ H → SqT K H a xs)
    (hs : ∀ i x σ H T, xs[i]? = some x → Pv i σ H → H T = none → g (.ref T) σ (upd H T (.tup [.int (i : Nat), x])) fun σ2 H2 => tb { D with nx := Pv (i + 1), ct := Pv (i + 1), bk := D.nx } σ2 H2) (hd : ∀ σ H, Pv xs.length σ H → D.nx σ H) :
    ∃ W : Nat → Nat → L2.St → Hp → Prop, (∃ m, W 0 m σ H) ∧ ∀ i m σ H, W i m σ H →
      ((IteT K a).stop i H ∧ D.nx σ H) ∨ ((IteT K a).go i H ∧ ∃ N : L2.St → Hp → Prop, (∀ σ' H', N σ' H' → ∃ m', m' < m ∧ W (i + 1) m' σ' H') ∧ ∀ x H', (IteT K a).yld i H x H' → g x σ H' fun σ2 H2 => tb { D with nx := N, ct := N, bk := D.nx } σ2 H2) := by
  refine ⟨fun i m σ H => m = xs.length - i ∧ i ≤ xs.length ∧ Pv i σ H, ⟨xs.length, by simp, Nat.zero_le _, h0⟩, ?_⟩
  rintro i m σ H ⟨rfl, hi, p⟩
  have q := hl i σ H hi p
  by_cases hlt : i < xs.length
  · refine .inr ⟨⟨xs, xs[i], q, by simp [hlt]⟩, Pv (i + 1), fun σ' H' p' => ⟨xs.length - (i + 1), by omega, rfl, hlt, p'⟩, fun x H' y => ?_⟩
    obtain ⟨T, x', rfl, nT, rfl, y⟩ := y
    exact hs i x' σ H T (y xs q) p nT
  · have e : i = xs.length := by omega
    subst e
    exact .inl ⟨⟨xs, q, Nat.le_refl _⟩, hd σ H p⟩
theorem lc_enumT {K : PySem.W.Frag} {a : Addr} {xs : List V} {g : TG} {tt : TT} {te : TE} {vs : List Nat} {σ : L2.St} {H1 : Hp} {D : Addr} {Qd : Hp → Prop} (Pv : Nat → Hp → Prop) (h0 : Pv 0 (upd H1 D (.lst []))) (hl : ∀ i H, i ≤ xs.length → Pv i H → SqT K H a xs)
    (hs : ∀ i x H T, xs[i]? = some x → Pv i H → H T = none → g (.ref T) (wipe σ vs) (upd H T (.tup [.int (i : Nat), x])) fun σ2 H2 => wipe σ2 vs = wipe σ vs ∧ tt σ2 H2 fun b H3 =>
      if b = true then te σ2 H3 fun y H4 => ∃ acc, H4 D = some (.lst acc) ∧ acc.length < sizeLine ∧ Pv (i + 1) (upd H4 D (.lst (acc ++ [y]))) else Pv (i + 1) H3) (hd : ∀ H, Pv xs.length H → Qd H) :
    ∃ W : Nat → Nat → Hp → Prop, (∃ m, W 0 m (upd H1 D (.lst []))) ∧ ∀ i m H, W i m H →
      ((IteT K a).stop i H ∧ Qd H) ∨ ((IteT K a).go i H ∧ ∃ Nx : Hp → Prop, (∀ H', Nx H' → ∃ m', m' < m ∧ W (i + 1) m' H') ∧ ∀ x H', (IteT K a).yld i H x H' → g x (wipe σ vs) H' fun σ2 H2 => wipe σ2 vs = wipe σ vs ∧ tt σ2 H2 fun b H3 =>
        if b = true then te σ2 H3 fun y H4 => ∃ acc, H4 D = some (.lst acc) ∧ acc.length < sizeLine ∧ Nx (upd H4 D (.lst (acc ++ [y]))) else Nx H3) := by
  refine ⟨fun i m H => m = xs.length - i ∧ i ≤ xs.length ∧ Pv i H, ⟨xs.length, by simp, Nat.zero_le _, h0⟩, ?_⟩
  rintro i m H ⟨rfl, hi, p⟩
  have q := hl i H hi p
  by_cases hlt : i < xs.length
  · refine .inr ⟨⟨xs, xs[i], q, by simp [hlt]⟩, Pv (i + 1), fun H' p' => ⟨xs.length - (i + 1), by omega, rfl, hlt, p'⟩, fun x H' y => ?_⟩
    obtain ⟨T, x', rfl, nT, rfl, y⟩ := y
    exact hs i x' H T (y xs q) p nT
  · have e : i = xs.length := by omega
    subst e
    exact .inl ⟨⟨xs, q, Nat.le_refl _⟩, hd H p⟩
theorem lc_zipT {K : PySem.W.Frag} {a b : Addr} {xs ys : List V} {g : TG} {tt : TT} {te : TE} {vs : List Nat} {σ : L2.St} {H1 : Hp} {D : Addr} {Qd : Hp → Prop} (hle : ys.length ≤ xs.length) (Pv : Nat → Hp → Prop) (h0 : Pv 0 (upd H1 D (.lst []))) (hl : ∀ i H, i ≤ ys.length → Pv i H → SqT K H a xs ∧ SqT K H b ys)
    (hs : ∀ i x y H T, xs[i]? = some x → ys[i]? = some y → Pv i H → H T = none → g (.ref T) (wipe σ vs) (upd H T (.tup [x, y])) fun σ2 H2 => wipe σ2 vs = wipe σ vs ∧ tt σ2 H2 fun c H3 =>
      if c = true then te σ2 H3 fun y H4 => ∃ acc, H4 D = some (.lst acc) ∧ acc.length < sizeLine ∧ Pv (i + 1) (upd H4 D (.lst (acc ++ [y]))) else Pv (i + 1) H3) (hd : ∀ H, Pv ys.length H → Qd H) :
    ∃ W : Nat → Nat → Hp → Prop, (∃ m, W 0 m (upd H1 D (.lst []))) ∧ ∀ i m H, W i m H →
      ((RZ.ItzT K a b).stop i H ∧ Qd H) ∨ ((RZ.ItzT K a b).go i H ∧ ∃ Nx : Hp → Prop, (∀ H', Nx H' → ∃ m', m' < m ∧ W (i + 1) m' H') ∧ ∀ x H', (RZ.ItzT K a b).yld i H x H' → g x (wipe σ vs) H' fun σ2 H2 => wipe σ2 vs = wipe σ vs ∧ tt σ2 H2 fun c H3 =>
        if c = true then te σ2 H3 fun y H4 => ∃ acc, H4 D = some (.lst acc) ∧ acc.length < sizeLine ∧ Nx (upd H4 D (.lst (acc ++ [y]))) else Nx H3) := by
  refine ⟨fun i m H => m = ys.length - i ∧ i ≤ ys.length ∧ Pv i H, ⟨ys.length, by simp, Nat.zero_le _, h0⟩, ?_⟩
  rintro i m H ⟨rfl, hi, p⟩
  obtain ⟨q1, q2⟩ := hl i H hi p
  by_cases hlt : i < ys.length
  · have hlt2 : i < xs.length := Nat.lt_of_lt_of_le hlt hle
    refine .inr ⟨⟨xs, ys, xs[i], ys[i], q1, q2, by simp [hlt2], by simp [hlt]⟩, Pv (i + 1), fun H' p' => ⟨ys.length - (i + 1), by omega, rfl, hlt, p'⟩, fun x H' y => ?_⟩
    obtain ⟨T, x', y', rfl, nT, rfl, z1, z2⟩ := y
    exact hs i x' y' H T (z1 xs q1) (z2 ys q2) p nT
  · have e : i = ys.length := by omega
    subst e
    exact .inl ⟨⟨xs, ys, q1, q2, .inr (Nat.le_refl _)⟩, hd H p⟩
/-! things of any kind -/
def isIntV : V → Bool
  | .int _ => true
  | _ => false
def numV (b : Int) : V → Bool
  | .int i => decide (0 ≤ i) && decide (i < b)
  | _ => false
/-- a thing whose kind is known: of a built-in type, or of the tables' class -/
def Th (K : PySem.W.Frag) (C : Addr) (H : Hp) (x : V) : Prop := ∃ t, TyX K H x t ∧ (∀ c, t = .ref c → c = C)
theorem tyX_same {K : PySem.W.Frag} {H H' : Hp} (e : Same H H') {x : V} {t : Value} (h : TyX K H x t) : TyX K H' x t := by
  cases h with
  | base b =>
    cases b with
    | non => exact .base .non
    | bl b => exact .base (.bl b)
    | int i => exact .base (.int i)
    | str x => exact .base (.str x)
    | flt x => exact .base (.flt x)
    | lst h => exact .base (.lst (e _ _ h))
    | frz h => exact .base (.frz (e _ _ h))
    | tup h => exact .base (.tup (e _ _ h))
    | dK h => exact .base (.dK (e _ _ h))
    | dT h => exact .base (.dT (e _ _ h))
    | ins h a b c d f => exact .base (.ins (e _ _ h) a b c d f)
  | byt b => exact .byt b
  | set h => exact .set (e _ _ h)
  | kList a b => exact .kList a b
  | kTuple a b => exact .kTuple a b
  | kDict a b => exact .kDict a b
  | fTuple h => exact .fTuple (e _ _ h)
  | fDict h => exact .fDict (e _ _ h)
theorem Th.same {K : PySem.W.Frag} {C : Addr} {H H' : Hp} (e : Same H H') {x : V} (h : Th K C H x) : Th K C H' x := by
  obtain ⟨t, a, b⟩ := h
  exact ⟨t, tyX_same e a, b⟩
theorem th_int {K : PySem.W.Frag} {C : Addr} {H : Hp} {i : Int} : Th K C H (.int i) := ⟨_, .base (.int i), fun _ q => nomatch q⟩
theorem th_kit {K : PySem.W.Frag} {C : Addr} (c : TC K C) {H : Hp} {x : V} (h : Th K C H x) : ∃ t b1 b2, TyX K H x t ∧ PySem.W.kitOne K t (.type "int") = some b1 ∧ PySem.W.kitOne K t (.type "bool") = some b2 ∧ (b1 && !b2) = isIntV x := by
  obtain ⟨t, ty, ht⟩ := h
  have go : ∀ (n : String) (b1 b2 : Bool), t = .type n → kitB n "int" = some b1 → kitB n "bool" = some b2 → (b1 && !b2) = isIntV x → ∃ t b1 b2, TyX K H x t ∧ PySem.W.kitOne K t (.type "int") = some b1 ∧ PySem.W.kitOne K t (.type "bool") = some b2 ∧ (b1 && !b2) = isIntV x :=
    fun n b1 b2 e h1 h2 h3 => ⟨t, b1, b2, ty, by rw [e]; exact kit_ty h1, by rw [e]; exact kit_ty h2, h3⟩
  cases ty with
  | base b =>
    cases b with
    | non => exact go "NoneType" false false rfl (by decide +kernel) (by decide +kernel) rfl
    | bl b => exact go "bool" true true rfl (by decide +kernel) (by decide +kernel) rfl
    | int i => exact go "int" true false rfl (by decide +kernel) (by decide +kernel) rfl
    | str x => exact go "str" false false rfl (by decide +kernel) (by decide +kernel) rfl
    | flt x => exact go "float" false false rfl (by decide +kernel) (by decide +kernel) rfl
    | lst h => exact go "list" false false rfl (by decide +kernel) (by decide +kernel) rfl
    | frz h => exact go "list" false false rfl (by decide +kernel) (by decide +kernel) rfl
    | tup h => exact go "tuple" false false rfl (by decide +kernel) (by decide +kernel) rfl
    | dK h => exact go "dict" false false rfl (by decide +kernel) (by decide +kernel) rfl
    | dT h => exact go "dict" false false rfl (by decide +kernel) (by decide +kernel) rfl
    | @ins a C' dx fs h a1 b1 c1 d1 f1 =>
      have e := ht C' rfl
      subst e
      exact ⟨_, false, false, .base (.ins h a1 b1 c1 d1 f1), c.kI, c.kB, rfl⟩
  | byt b => exact go "bytes" false false rfl (by decide +kernel) (by decide +kernel) rfl
  | set h => exact go "set" false false rfl (by decide +kernel) (by decide +kernel) rfl
  | kList a b => exact go "list" false false rfl (by decide +kernel) (by decide +kernel) rfl
  | kTuple a b => exact go "tuple" false false rfl (by decide +kernel) (by decide +kernel) rfl
  | kDict a b => exact go "dict" false false rfl (by decide +kernel) (by decide +kernel) rfl
  | fTuple h => exact go "tuple" false false rfl (by decide +kernel) (by decide +kernel) rfl
  | fDict h => exact go "dict" false false rfl (by decide +kernel) (by decide +kernel) rfl
theorem tyX_sqT {K : PySem.W.Frag} {H : Hp} {a : Addr} {xs : List V} (h : SqT K H a xs) : TyX K H (.ref a) (.type "tuple") := by
  rcases h with (h | ⟨o, h⟩) | ⟨o, its, n, h, hc, _⟩
  · exact .base (.tup h)
  · exact .fTuple h
  · exact .kTuple h hc
/-- a thing as the judges look at it: a tuple of things, or no tuple -/
inductive Tg (K : PySem.W.Frag) (C : Addr) (H : Hp) : V → Option (List V) → Prop
  | tup {a : Addr} {xs : List V} (h : SqT K H a xs) (hi : ∀ y ∈ xs, Th K C H y) (hz : xs.length ≤ 100000) : Tg K C H (.ref a) (some xs)
  | no {x : V} {t : Value} (ty : TyX K H x t) (hk : PySem.W.kitOne K t (.type "tuple") = some false) : Tg K C H x none
theorem Tg.same {K : PySem.W.Frag} {C : Addr} {H H' : Hp} (e : Same H H') {x : V} {o : Option (List V)} (h : Tg K C H x o) : Tg K C H' x o := by
  cases h with
  | tup h hi hz => exact .tup (sqT_same e h) (fun y hy => (hi y hy).same e) hz
  | no ty hk => exact .no (tyX_same e ty) hk
theorem Tg.ints {K : PySem.W.Frag} {C : Addr} {H : Hp} {a : Addr} {ns : List Int} (h : SqT K H a (ns.map V.int)) (hz : ns.length ≤ 100000) : Tg K C H (.ref a) (some (ns.map V.int)) := .tup h (fun y hy => by
  obtain ⟨n, _, rfl⟩ := List.mem_map.mp hy
  exact th_int) (by rw [List.length_map]; exact hz)
/-- whether it is an ascending tuple of numbers below b -/
def ascV (b : Int) : List V → Bool
  | [] => true
  | [x] => numV b x
  | x :: y :: r => numV b x && (match x, y with | .int i, .int j => decide (i < j) | _, _ => false) && ascV b (y :: r)
def ltV : V → V → Bool
  | .int i, .int j => decide (i < j)
  | _, _ => false
theorem ascV_eq (b : Int) : ∀ xs : List V, ascV b xs = (xs.all (numV b) && ((xs.zip (xs.drop 1)).all fun p => ltV p.1 p.2))
  | [] => rfl
  | [x] => by
    show numV b x = _
    simp [List.all]
  | x :: y :: r => by
    have ih := ascV_eq b (y :: r)
    have e : ascV b (x :: y :: r) = (numV b x && ltV x y && ascV b (y :: r)) := by
      cases x <;> cases y <;> rfl
    rw [e, ih]
    simp only [List.drop_succ_cons, List.drop_zero, List.zip_cons_cons, List.all_cons]
    cases numV b x <;> cases ltV x y <;> cases numV b y <;> cases (List.all r (numV b)) <;> simp
theorem ascV_ints {b : Int} : ∀ {ns : List Int}, ns.Pairwise (· < ·) → (∀ x ∈ ns, 0 ≤ x ∧ x < b) → ascV b (ns.map V.int) = true
  | [], _, _ => rfl
  | [x], _, h => by
    have := h x List.mem_cons_self
    show (decide (0 ≤ x) && decide (x < b)) = true
    simp [this.1, this.2]
  | x :: y :: r, hp, h => by
    have ih := ascV_ints (ns := y :: r) (List.pairwise_cons.mp hp).2 fun z hz => h z (List.mem_cons_of_mem _ hz)
    have h1 := h x List.mem_cons_self
    have h2 := (List.pairwise_cons.mp hp).1 y List.mem_cons_self
    show ((decide (0 ≤ x) && decide (x < b)) && decide (x < y) && ascV b ((y :: r).map V.int)) = true
    rw [ih]
    simp [h1.1, h1.2, h2]
theorem all_num_ints {b : Int} {xs : List V} (h : xs.all (numV b) = true) : ∃ ns : List Int, xs = ns.map V.int ∧ ∀ x ∈ ns, 0 ≤ x ∧ x < b := by
  induction xs with
  | nil => exact ⟨[], rfl, fun _ h => (by cases h)⟩
  | cons x r ih =>
    rw [List.all_cons, Bool.and_eq_true] at h
    obtain ⟨ns, e, hb⟩ := ih h.2
    cases x with
    | int i =>
      have h1 : (decide (0 ≤ i) && decide (i < b)) = true := h.1
      rw [Bool.and_eq_true, decide_eq_true_eq, decide_eq_true_eq] at h1
      refine ⟨i :: ns, by rw [e]; rfl, fun x hx => ?_⟩
      rcases List.mem_cons.mp hx with q | q
      · rw [q]; exact h1
      · exact hb x q
    | _ => exact absurd h.1 (by simp [numV])
/-! tables as objects -/
def tf (v : V) (n : Nat) : List (Str × V) := putF "size" (.int (n : Int)) (putF "rows" v [])
theorem rs_ne : ¬ (("rows" : Str) = "size") := by decide +kernel
theorem sr_ne : ¬ (("size" : Str) = "rows") := by decide +kernel
theorem tf_rows (v : V) (n : Nat) : (tf v n).lookup ("rows" : Str) = some v := by
  unfold tf
  rw [lookup_putF, if_neg rs_ne, lookup_putF, if_pos rfl]
theorem tf_size (v : V) (n : Nat) : (tf v n).lookup ("size" : Str) = some (.int (n : Int)) := by
  unfold tf
  rw [lookup_putF, if_pos rfl]
theorem tf_eq (v : V) (n : Nat) : tf v n = ([("rows", v), ("size", V.int (n : Int))] : List (Str × V)) := by
  show (if ("rows" : Str) = "size" then [(("rows" : Str), V.int (n : Int))] else (("rows" : Str), v) :: putF "size" (V.int (n : Int)) []) = _
  rw [if_neg rs_ne]
  all_goals rfl
theorem tf_put (v u : V) (n m : Nat) : putF "size" (.int (m : Int)) (putF "rows" u (tf v n)) = tf u m := by
  rw [tf_eq, tf_eq]
  have e1 : putF "rows" u [("rows", v), ("size", V.int (n : Int))] = ([("rows", u), ("size", V.int (n : Int))] : List (Str × V)) := by
    show (if ("rows" : Str) = "rows" then (("rows" : Str), u) :: [(("size" : Str), V.int (n : Int))] else _) = _
    rw [if_pos rfl]
  rw [e1]
  show (if ("rows" : Str) = "size" then _ else (("rows" : Str), u) :: (if ("size" : Str) = "size" then [(("size" : Str), V.int (m : Int))] else _)) = _
  rw [if_neg rs_ne, if_pos rfl]
def TableAt (K : PySem.W.Frag) (C : Addr) (H : Hp) (x : V) (rows : List (List Int)) : Prop := ∃ p dx v, x = .ref p ∧ H p = some (.ins C dx (tf v rows.length)) ∧ RowsAt K H v rows
theorem TableAt.same {K : PySem.W.Frag} {C : Addr} {H H' : Hp} {x : V} {rows : List (List Int)} (h : TableAt K C H x rows) (e : Same H H') : TableAt K C H' x rows := by
  obtain ⟨p, dx, v, ex, hp, hr⟩ := h
  exact ⟨p, dx, v, ex, e _ _ hp, hr.same e⟩
theorem TableAt.gr {t l : Addr} {K : PySem.W.Frag} {C : Addr} {H H' : Hp} {x : V} {rows : List (List Int)} (h : TableAt K C H x rows) (g : Gr t H H') (T : Tape H t l) : TableAt K C H' x rows := by
  obtain ⟨p, dx, v, ex, hp, hr⟩ := h
  have hpt : p ≠ t := by
    obtain ⟨ns, b, c, d, e, ht, _⟩ := T
    exact ne_of hp ht (by intro z; cases z)
  exact ⟨p, dx, v, ex, g _ _ hpt hp, hr.gr g T⟩
/-- what changes at an instance is no tuple -/
theorem sqT_ins {K : PySem.W.Frag} {H H' : Hp} {a p C dx : Addr} {fs : List (Str × V)} {xs : List V} (h : SqT K H a xs) (e : H p = some (.ins C dx fs)) (k : ∀ b o, b ≠ p → H b = some o → H' b = some o) : SqT K H' a xs := by
  rcases h with (h | ⟨o, h⟩) | h
  · exact .inl (.inl (k _ _ (ne_of h e (by intro z; cases z)) h))
  · exact .inl (.inr ⟨o, k _ _ (ne_of h e (by intro z; cases z)) h⟩)
  · exact .inr h
theorem RowsT.ins {K : PySem.W.Frag} {H H' : Hp} {p C dx : Addr} {fs : List (Str × V)} (e : H p = some (.ins C dx fs)) (k : ∀ b o, b ≠ p → H b = some o → H' b = some o) : ∀ {vs : List V} {rs : List (List Int)}, RowsT K H vs rs → RowsT K H' vs rs
  | _, _, .nil => .nil
  | _, _, .cons h r => .cons (sqT_ins h e k) (r.ins e k)
theorem RowsAt.ins {K : PySem.W.Frag} {H H' : Hp} {p C dx : Addr} {fs : List (Str × V)} {v : V} {rows : List (List Int)} (h : RowsAt K H v rows) (e : H p = some (.ins C dx fs)) (k : ∀ b o, b ≠ p → H b = some o → H' b = some o) : RowsAt K H' v rows := by
  obtain ⟨a, vs, ev, h1, h2⟩ := h
  exact ⟨a, vs, ev, sqT_ins h1 e k, h2.ins e k⟩
theorem PE.imp {X : Cx} {e : Expr} {t t' : TE} (h : PE X e t) (i : ∀ σ H Q, t' σ H Q → t σ H Q) : PE X e t' := ⟨fun pins s σ H Q I q => h.run pins s σ H Q I (i σ H Q q)⟩
/-- the class, ready to be called and compared -/
structure MkT (P : Program) (w : World) (K : PySem.W.Frag) (mg : Str → Option Value) (base : Heap) (C : Addr) (n m : Nat) (spI spE : Sp) : Prop where
  mgC : mg "Table" = some (.ref C)
  tc : TC K C
  ini : ∃ f fd, Mk K C f ∧ FnOk P w K mg base CX0 n f fd ["self", "rows"] spI ∧ Binds K fd ["self", "rows"] []
  eqm : ∃ f fd, FnOk P w K mg base CX0 m f fd ["self", "other"] spE ∧ Binds K fd ["self", "other"] [] ∧ PySem.W.findIn K (.ref C) "__eq__" = some (some (.ref f)) ∧ PySem.W.isFn K (.ref f) = true
def spInit (K : PySem.W.Frag) (C : Addr) : Sp := fun vs H Q _ => ∃ (p dx : Addr) (v : V) (rows : List (List Int)), vs = [.ref p, v] ∧ H p = some (.ins C dx []) ∧ Good rows ∧ rows.length ≤ 12 ∧ RowsAt K H v rows ∧ ∀ H' : Hp, (∀ b o, b ≠ p → H b = some o → H' b = some o) → H' p = some (.ins C dx (tf v rows.length)) → Q .non H'
def tTable (K : PySem.W.Frag) (C : Addr) (te : TE) : TE := fun σ H Q => te σ H fun v H1 => ∃ rows, Good rows ∧ rows.length ≤ 12 ∧ RowsAt K H1 v rows ∧ ∀ p dx H2, Same H1 H2 → H1 p = none → H2 p = some (.ins C dx (tf v rows.length)) → Q (.ref p) H2
def tUp (te : TE) : TE := fun σ H Q => ∃ Q' : VK, te σ H Q' ∧ ∀ v H1, Q' v H1 → Q v H1
theorem pe_up {X : Cx} {e : Expr} {te : TE} (h : PE X e te) : PE X e (tUp te) := ⟨fun pins s σ H Q I ⟨Q', h1, h2⟩ => thn (h.run pins s σ H Q' I h1) fun u s1 ⟨v, H1, I1, r, q⟩ => ⟨v, H1, I1, r, h2 v H1 q⟩⟩
theorem pe_makeTable {X : Cx} {C : Addr} {n m : Nat} {spE : Sp} {e : Expr} {te : TE} {p pos : Pos} (G : MkT X.prog X.w X.K X.mg X.base C n m (spInit X.K C) spE) (hr : Room (n + 1) X.A) (ha : PE X e te) (hg : Gl X "Table" := by rfl)
    (hst : starEach [e] X.env = (false, eval e X.env) :: starEach [] X.env := by rfl) : PE X (.Call (.Name "Table" p) [e] [] pos) (tTable X.K C te) := by
  obtain ⟨f, fd, M, F, b⟩ := G.ini
  have base := pe_make (X := X) (x := "Table") (p := p) (pos := pos) M F hr hg G.mgC b .nil (pass0 (X := X)) (pa_cons (pe_up ha) pa_nil hst) (by decide) hst rfl
  refine PE.imp base fun σ H Q h => ⟨_, h, fun v H1 ⟨rows, hG, hl, hR, k⟩ x dx nx ndx ne => ?_⟩
  have hdx : (upd (upd H1 dx (.own x)) x (.ins C dx [])) x = some (.ins C dx []) := upd_same
  have s1 : Same H1 (upd (upd H1 dx (.own x)) x (.ins C dx [])) := (same_new ndx).trans (same_new (by rw [upd_ne ne.symm]; exact nx))
  refine ⟨x, dx, v, rows, rfl, hdx, hG, hl, hR.same s1, fun H' k1 k2 => ⟨rfl, k x dx H' (fun b o e => ?_) nx k2⟩⟩
  have nb : b ≠ x := ne_of_none e nx
  exact k1 _ _ nb (s1 _ _ e)
/-- what == promises -/
def spEqT (K : PySem.W.Frag) (C : Addr) : Sp := fun vs H Q _ => ∃ (x y : V) (r1 r2 : List (List Int)), vs = [x, y] ∧ TableAt K C H x r1 ∧ TableAt K C H y r2 ∧ ∀ H', Same H H' → Q (.bl (decide (r1 = r2))) H'
def rEqT (K : PySem.W.Frag) (C : Addr) : R2 := fun x y H Q => ∃ r1 r2, TableAt K C H x r1 ∧ TableAt K C H y r2 ∧ ∀ H', Same H H' → Q (.bl (decide (r1 = r2))) H'
def rNeT (K : PySem.W.Frag) (C : Addr) : R2 := fun x y H Q => ∃ r1 r2, TableAt K C H x r1 ∧ TableAt K C H y r2 ∧ ∀ H', Same H H' → Q (.bl (!decide (r1 = r2))) H'
theorem TableAt.tyx {K : PySem.W.Frag} {C : Addr} (c : TC K C) {H : Hp} {x : V} {rows : List (List Int)} (h : TableAt K C H x rows) : TyX K H x (.ref C) := by
  obtain ⟨p, dx, v, rfl, hp, _⟩ := h
  exact c.ty hp
theorem op_eq_table {X : Cx} {C : Addr} {n m : Nat} {spI : Sp} (G : MkT X.prog X.w X.K X.mg X.base C n m spI (spEqT X.K C)) (hr : Room m X.A) : OpR X (compareOp .Eq) (rEqT X.K C) := by
  obtain ⟨f, fd, F, b, hs, hf⟩ := G.eqm
  intro pins s σ H x y v u Q I rx ry h
  obtain ⟨r1, r2, t1, t2, q⟩ := h
  obtain ⟨p, dx, w', ex, hp, hR⟩ := id t1
  exact op_eqI F b hs hf hr pins s σ H x y v u Q I rx ry ⟨p, dx, _, _, ex, hp, t2.tyx G.tc, by simp [PySem.W.notFirst], x, y, r1, r2, rfl, t1, t2, fun H' e => ⟨_, rfl, q H' e⟩⟩
theorem op_ne_table {X : Cx} {C : Addr} {n m : Nat} {spI : Sp} (G : MkT X.prog X.w X.K X.mg X.base C n m spI (spEqT X.K C)) (hr : Room (m + 1) X.A) : OpR X (compareOp .NotEq) (rNeT X.K C) := by
  obtain ⟨f, fd, F, b, hs, hf⟩ := G.eqm
  intro pins s σ H x y v u Q I rx ry h
  obtain ⟨r1, r2, t1, t2, q⟩ := h
  obtain ⟨p, dx, w', ex, hp, hR⟩ := id t1
  exact op_neI F b G.tc hs hf hr pins s σ H x y v u Q I rx ry ⟨p, dx, _, _, ex, hp, t2.tyx G.tc, by simp [PySem.W.notFirst], x, y, r1, r2, rfl, t1, t2, fun H' e => ⟨_, rfl, q H' e⟩⟩
/-! equality of data -/
theorem eqv_I (a b : List Int) : PyData.eqv (dI a) (dI b) = decide (a = b) := by
  show PyData.eqv (.tuple _) (.tuple _) = _
  rw [PyData.eqv]
  exact PySem.W.ked_eqvAll a b
theorem eqvAll_R : ∀ (r1 r2 : List (List Int)), PyData.eqvAll (r1.map dI) (r2.map dI) = decide (r1 = r2)
  | [], [] => by simp [PyData.eqvAll]
  | [], _ :: _ => by simp [PyData.eqvAll]
  | _ :: _, [] => by simp [PyData.eqvAll]
  | x :: xs, y :: ys => by
    rw [List.map_cons, List.map_cons, PyData.eqvAll, eqv_I, eqvAll_R xs ys, ← Bool.decide_and]
    exact decide_eq_decide.mpr (by rw [List.cons.injEq])
theorem eqv_R (r1 r2 : List (List Int)) : PyData.eqv (dR r1) (dR r2) = decide (r1 = r2) := by
  show PyData.eqv (.tuple _) (.tuple _) = _
  rw [PyData.eqv]
  exact eqvAll_R r1 r2
theorem eqv_L (r1 r2 : List (List Int)) : PyData.eqv (.list (r1.map dI)) (.list (r2.map dI)) = decide (r1 = r2) := by
  rw [PyData.eqv]
  exact eqvAll_R r1 r2
theorem lay_ints : ∀ ns : List Int, PyData.canLayAll0 (ns.map PyData.int) = true
  | [] => by rw [List.map_nil, PyData.canLayAll0]
  | n :: r => by rw [List.map_cons, PyData.canLayAll0, lay_ints r, PyData.canLay0]; rfl
theorem dep_ints : ∀ ns : List Int, PyData.depthAll (ns.map PyData.int) = 0
  | [] => by rw [List.map_nil, PyData.depthAll]
  | n :: r => by rw [List.map_cons, PyData.depthAll, dep_ints r, PyData.depth]; rfl
theorem lay_rows : ∀ rs : List (List Int), PyData.canLayAll0 (rs.map dI) = true
  | [] => by rw [List.map_nil, PyData.canLayAll0]
  | n :: r => by
    rw [List.map_cons, PyData.canLayAll0, lay_rows r]
    show (PyData.canLay0 (.tuple _) && true) = true
    rw [PyData.canLay0, lay_ints]
    rfl
theorem dep_rows : ∀ rs : List (List Int), PyData.depthAll (rs.map dI) ≤ 1
  | [] => by rw [List.map_nil, PyData.depthAll]; decide
  | n :: r => by
    rw [List.map_cons, PyData.depthAll]
    refine Nat.max_le.mpr ⟨?_, dep_rows r⟩
    show PyData.depth (.tuple _) ≤ 1
    rw [PyData.depth, dep_ints]
    decide
theorem sh_I (ns : List Int) : SeqAt.shaped (dI ns) = true := by
  show SeqAt.shaped (.tuple _) = true
  unfold SeqAt.shaped
  rw [PyData.canLay0, PyData.depth, lay_ints, dep_ints]
  rfl
theorem sh_R (rs : List (List Int)) : SeqAt.shaped (dR rs) = true := by
  show SeqAt.shaped (.tuple _) = true
  unfold SeqAt.shaped
  rw [PyData.canLay0, PyData.depth, lay_rows, Bool.true_and]
  exact decide_eq_true (by have := dep_rows rs; omega)
theorem sh_L (rs : List (List Int)) : SeqAt.shaped (.list (rs.map dI)) = true := by
  unfold SeqAt.shaped
  rw [PyData.canLay0, PyData.depth, lay_rows, Bool.true_and]
  exact decide_eq_true (by have := dep_rows rs; omega)
theorem dp_L {K : PySem.W.Frag} {H : Hp} {p : Addr} {vs : List V} {rs : List (List Int)} (h : H p = some (.lst vs)) (r : RowsT K H vs rs) : Dp K H (.ref p) (.list (rs.map dI)) := .lst (SqL.of h) (rowsT_dp r)
end Fo

set_option maxRecDepth 100000
set_option maxHeartbeats 4000000
namespace Fo
open PySem PySem.Spec PyProof.Rows L2
def top (i : Nat) : Stmt := PySem.Challenge.pw_fullorring_k20_whole_kinds_of_pieces_and.main.body.getD i (.Pass ⟨0, 0, 0, 0⟩)
abbrev s_law_tape : Stmt := top 34
abbrev n_law_tape : List Str := ["script"]
theorem sc_law_tape : FnScope n_law_tape ["script"] (defScope s_law_tape) := ⟨rfl, rfl, rfl, by decide +kernel, rfl, by decide +kernel, by decide +kernel⟩
abbrev s_law_pick : Stmt := top 35
abbrev n_law_pick : List Str := ["tape", "size", "digit", "cell", "mixed"]
theorem sc_law_pick : FnScope n_law_pick ["tape", "size"] (defScope s_law_pick) := ⟨rfl, rfl, rfl, by decide +kernel, rfl, by decide +kernel, by decide +kernel⟩
abbrev s_law_order : Stmt := top 36
abbrev n_law_order : List Str := ["tape", "many", "left", "k"]
theorem sc_law_order : FnScope n_law_order ["tape", "many"] (defScope s_law_order) := ⟨rfl, rfl, rfl, by decide +kernel, rfl, by decide +kernel, by decide +kernel⟩
abbrev s_law_loose : Stmt := top 37
abbrev n_law_loose : List Str := ["tape", "many", "order", "thick", "planted", "found", "person", "row", "thing"]
theorem sc_law_loose : FnScope n_law_loose ["tape", "many"] (defScope s_law_loose) := ⟨rfl, rfl, rfl, by decide +kernel, rfl, by decide +kernel, by decide +kernel⟩
abbrev s_law_blocks : Stmt := top 38
abbrev n_law_blocks : List Str := ["tape", "most", "found", "base", "size", "kind", "k", "row", "ahead", "j", "thing"]
theorem sc_law_blocks : FnScope n_law_blocks ["tape", "most"] (defScope s_law_blocks) := ⟨rfl, rfl, rfl, by decide +kernel, rfl, by decide +kernel, by decide +kernel⟩
abbrev s_law_moved : Stmt := top 39
abbrev n_law_moved : List Str := ["tape", "rows", "people", "things", "person", "thing"]
theorem sc_law_moved : FnScope n_law_moved ["tape", "rows"] (defScope s_law_moved) := ⟨rfl, rfl, rfl, by decide +kernel, rfl, by decide +kernel, by decide +kernel⟩
abbrev s_law_rows : Stmt := top 40
abbrev n_law_rows : List Str := ["tape", "most", "kind"]
theorem sc_law_rows : FnScope n_law_rows ["tape", "most"] (defScope s_law_rows) := ⟨rfl, rfl, rfl, by decide +kernel, rfl, by decide +kernel, by decide +kernel⟩
section
variable {P : Program} {w : World} {K : PySem.W.Frag} {mg : Str → Option Value} {base : Heap}
/-! ### the tape -/
def spTape (K : PySem.W.Frag) : Sp := fun vs H Q _ => ∃ (a : Addr) (ns : List Int), vs = [.ref a] ∧ SqL K H a (ns.map V.int) ∧ ∀ t l H', Same H H' → H t = none → H l = none → Tape H' t l → Q (.ref t) H'
theorem ok_tape (A : At K mg "_law_tape" s_law_tape ["script"]) (T : Tx mg) : Dfn P w K mg base "_law_tape" ["script"] 1 (spTape K) := by
  refine A.ok sc_law_tape (fun vs H Q E h => ?_) (fun f cdv A outer s H vs Q E hr h => ?_)
  · obtain ⟨a, ns, rfl, _⟩ := h
    rfl
  · obtain ⟨a, ns, rfl, hS, k⟩ := h
    refine ⟨_, (pss_one (ps_ret (pe_lst (pa_cons (pe_callTy c_list (by rfl) T.list (by decide +kernel) (pa_cons (pv 0) pa_nil)) (pa_cons pe_int (pa_cons pe_int (pa_cons pe_int (pa_cons pe_int pa_nil)))))))), ?_⟩
    refine ⟨_, rfl, a, _, rfl, .inl hS, fun l hl => ⟨by show 5 ≤ sizeLine; decide, fun t ht => ?_⟩⟩
    have nlt : l ≠ t := fun q => by
      rw [← q, upd_same] at ht
      cases ht
    have ht0 : H t = none := by
      rw [upd_ne nlt.symm] at ht
      exact ht
    exact k t l _ (same_mut (same_new hl) ht0) ht0 hl ⟨ns, 0, 0, 1, 0, upd_same, by rw [upd_ne nlt, upd_same], by decide⟩
def spPick : Sp := fun vs H Q _ => ∃ (t l : Addr) (n : Int), vs = [.ref t, .int n] ∧ Tape H t l ∧ 0 < n ∧ n < 1073741824 ∧ ∀ (k : Int) (H' : Hp), 0 ≤ k → k < n → Gr t H H' → Tape H' t l → Q (.int k) H'
theorem ok_pick (A : At K mg "_law_pick" s_law_pick ["tape", "size"]) (T : Tx mg) : Dfn P w K mg base "_law_pick" ["tape", "size"] 1 spPick := by
  refine A.ok sc_law_pick (fun vs H Q E h => ?_) (fun f cdv A outer s H vs Q E hr h => ?_)
  · obtain ⟨t, l, n, rfl, _⟩ := h
    rfl
  · obtain ⟨t, l, n, rfl, ⟨ns, b, c, d, e, hT, hL, hb⟩, hn, hn2, k⟩ := h
    have hlt : l ≠ t := ne_of hL hT (ints_ne _ _ _)
    have fin : ∀ (x b c d e : Int), 0 ≤ b → Q (.int (x % n)) (upd H t (.lst [.ref l, .int b, .int c, .int d, .int e])) := fun x b c d e hb => by
      exact k _ _ (Int.emod_nonneg _ (by omega)) (Int.emod_lt_of_pos _ hn) Gr.put ⟨ns, b, c, d, e, upd_same, by rw [upd_ne hlt]; exact hL, hb⟩
    refine ⟨_, (pss_cons (ps_if (pt_cmpR op_gt (pe_ix ix_list (pv 0) pe_int (fun _ _ => rfl)) pe_int (nomark _)) (pss_cons (ps_set (i := 2) sc_law_pick.nd rfl (Or.inl rfl) (pe_op op_mod (pe_callTy c_int (by rfl) T.int (by decide +kernel) (pa_cons (pe_ix ix_list (pv 0) pe_int (fun _ _ => rfl)) pa_nil)) (pv 1)))
      (pss_cons (ps_asg (pe_op op_fdiv (pe_ix ix_list (pv 0) pe_int (fun _ _ => rfl)) (pv 1)) (pg_sub (pv 0) pe_int set_list))
      (pss_one (ps_ret (pv 2))))) pss_nil)
      (pss_cons (ps_asg (pe_op op_add (pe_ix ix_list (pv 0) pe_int (fun _ _ => rfl)) pe_int) (pg_sub (pv 0) pe_int set_list))
      (pss_cons (ps_set (i := 3) sc_law_pick.nd rfl (Or.inl rfl) pe_int)
      (Evl.pss_cut (ps_if (pt_cmpR op_lt (pe_ix ix_list (pv 0) pe_int (fun _ _ => rfl)) (pe_callB c_len (by rfl) T.len (by decide +kernel) (pa_cons (pe_ix ix_list (pv 0) pe_int (fun _ _ => rfl)) pa_nil)) (nomark _)) (pss_cons (ps_set (i := 3) sc_law_pick.nd rfl (Or.inl rfl) (pe_ix ix_list (pe_ix ix_list (pv 0) pe_int (fun _ _ => rfl)) (pe_ix ix_list (pv 0) pe_int (fun _ _ => rfl)) (fun _ _ => rfl)))
      (pss_one (ps_asg (pe_op op_add (pe_ix ix_list (pv 0) pe_int (fun _ _ => rfl)) pe_int) (pg_sub (pv 0) pe_int set_list)))) pss_nil)
      (pss_cons (ps_if (pt_cmpR op_ge (pv 3) (pe_op op_pow pe_int pe_int) (nomark _)) (pss_cons (ps_asg (pe_op op_fdiv (pv 3) (pv 1)) (pg_sub (pv 0) pe_int set_list))
      (pss_one (ps_ret (pe_op op_mod (pe_callTy c_int (by rfl) T.int (by decide +kernel) (pa_cons (pv 3) pa_nil)) (pv 1))))) pss_nil)
      (pss_cons (ps_set (i := 4) sc_law_pick.nd rfl (Or.inl rfl) (pe_op op_mod (pe_callTy c_int (by rfl) T.int (by decide +kernel) (pa_cons (pe_op op_add (pe_op op_add (pe_op op_mul (pe_ix ix_list (pv 0) pe_int (fun _ _ => rfl)) pe_int) (pe_op op_mod (pe_callTy c_int (by rfl) T.int (by decide +kernel) (pa_cons (pv 3) pa_nil)) pe_int)) (pe_op op_mul (pe_ix ix_list (pv 0) pe_int (fun _ _ => rfl)) pe_int)) pa_nil)) pe_int))
      (pss_cons (ps_set (i := 4) sc_law_pick.nd rfl (Or.inl rfl) (pe_op op_mod (pe_callTy c_int (by rfl) T.int (by decide +kernel) (pa_cons (pe_op op_mul (pv 4) (pe_op op_add (pe_op op_fdiv (pv 4) pe_int) pe_int)) pa_nil)) pe_int))
      (pss_cons (ps_asg (pv 4) (pg_sub (pv 0) pe_int set_list))
      (pss_one (ps_ret (pe_op op_mod (pe_callTy c_int (by rfl) T.int (by decide +kernel) (pa_cons (pe_op op_fdiv (pv 4) pe_int) pa_nil)) (pv 1)))))))))))), ?_⟩
    refine ⟨_, rfl, t, _, _, _, rfl, rfl, SqL.of hT, rfl, _, _, rfl, rfl, _, rfl, ?_⟩
    refine ite2 (fun _ => ?_) (fun _ => ?_)
    · -- digit = int(tape[2]) % size
      refine ⟨_, rfl, t, _, _, _, rfl, rfl, SqL.of hT, rfl, .inl ⟨_, rfl, _, rfl, _, _, rfl, rfl, hn, ?_⟩⟩
      -- tape[2] = tape[2] // size
      refine ⟨_, rfl, t, _, _, _, rfl, rfl, SqL.of hT, rfl, _, rfl, _, _, rfl, rfl, ⟨hn, hn2⟩, _, rfl, t, _, _, 2, rfl, rfl, hT, rfl, ?_⟩
      exact ⟨_, rfl, fin _ _ _ _ _ hb⟩
    · -- tape[4] = tape[4] + 1
      refine ⟨_, rfl, t, _, _, _, rfl, rfl, SqL.of hT, rfl, _, _, rfl, rfl, _, rfl, t, _, _, 4, rfl, rfl, hT, rfl, ?_⟩
      have hT1 : (upd H t (.lst [.ref l, .int b, .int c, .int d, .int (e + 1)])) t = some (.lst [.ref l, .int b, .int c, .int d, .int (e + 1)]) := upd_same
      have hL1 : (upd H t (.lst [.ref l, .int b, .int c, .int d, .int (e + 1)])) l = some (.lst (ns.map V.int)) := by rw [upd_ne hlt]; exact hL
      -- the cell
      refine ⟨fun σ' H' => ∃ z b' : Int, 0 ≤ b' ∧ σ' = [some (.ref t), some (.int n), none, some (.int z), none] ∧ H' = upd H t (.lst [.ref l, .int b', .int c, .int d, .int (e + 1)]), ?_, ?_⟩
      · refine ⟨_, rfl, t, _, _, _, rfl, rfl, SqL.of hT1, rfl, _, rfl, t, _, _, _, rfl, rfl, SqL.of hT1, rfl, l, _, rfl, .inl (SqL.of hL1), _, _, rfl, rfl, _, rfl, ?_⟩
        refine ite2 (fun hc => ?_) (fun _ => ?_)
        · have hbl : b < (ns.length : Int) := by
            have := of_decide_eq_true hc
            rw [List.length_map] at this
            exact this
          obtain ⟨z, hz, hz2⟩ := map_atI hb hbl
          refine ⟨_, rfl, t, _, _, _, rfl, rfl, SqL.of hT1, rfl, _, rfl, t, _, _, _, rfl, rfl, SqL.of hT1, rfl, l, _, _, _, rfl, rfl, SqL.of hL1, hz2, ?_⟩
          refine ⟨_, rfl, t, _, _, _, rfl, rfl, SqL.of hT1, rfl, _, _, rfl, rfl, _, rfl, t, _, _, 1, rfl, rfl, hT1, rfl, ?_⟩
          exact ⟨z, b + 1, by omega, rfl, by rw [upd_upd]; rfl⟩
        · exact ⟨0, b, hb, rfl, rfl⟩
      · rintro σ' H' ⟨z, b', hb', rfl, rfl⟩
        have hT2 : (upd H t (.lst [.ref l, .int b', .int c, .int d, .int (e + 1)])) t = some (.lst [.ref l, .int b', .int c, .int d, .int (e + 1)]) := upd_same
        have fin2 : ∀ (x b c d e : Int) (u : HO), 0 ≤ b → Q (.int (x % n)) (upd (upd H t u) t (.lst [.ref l, .int b, .int c, .int d, .int e])) := fun x b c d e u hb => by
          rw [upd_upd]
          exact fin _ _ _ _ _ hb
        refine ⟨_, rfl, _, _, rfl, rfl, ⟨by decide, by decide, by decide⟩, _, _, rfl, rfl, _, rfl, ?_⟩
        refine ite2 (fun _ => ?_) (fun _ => ?_)
        · refine ⟨_, rfl, _, rfl, _, _, rfl, rfl, ⟨hn, hn2⟩, _, rfl, t, _, _, 2, rfl, rfl, hT2, rfl, ?_⟩
          exact ⟨_, rfl, .inl ⟨_, rfl, _, rfl, _, _, rfl, rfl, hn, fin2 _ _ _ _ _ _ hb'⟩⟩
        · refine ⟨_, rfl, t, _, _, _, rfl, rfl, SqL.of hT2, rfl, _, _, rfl, rfl, .inr (by decide), _, rfl, .inl ⟨_, rfl, _, _, rfl, rfl, (by show (0 : Int) < 2147483629; decide), _, _, rfl, rfl, _, rfl, t, _, _, _, rfl, rfl, SqL.of hT2, rfl, _, _, rfl, rfl, .inr (by decide), _, _, rfl, rfl, .inl ⟨_, rfl, _, _, rfl, rfl, (by show (0 : Int) < 2147483647; decide), ?_⟩⟩⟩
          have m0 := Int.emod_nonneg (d * 48271 + z % 2147483629 + (e + 1) * 69621) (show (2147483647 : Int) ≠ 0 by decide)
          have m1 := Int.emod_lt_of_pos (d * 48271 + z % 2147483629 + (e + 1) * 69621) (show (0 : Int) < 2147483647 by decide)
          generalize (d * 48271 + z % 2147483629 + (e + 1) * 69621) % 2147483647 = m at m0 m1 ⊢
          refine ⟨_, rfl, _, rfl, _, _, rfl, rfl, ⟨by decide, by decide⟩, _, _, rfl, rfl, _, _, rfl, rfl, .inl ⟨by omega, by omega⟩, .inl ⟨_, rfl, _, _, rfl, rfl, (by show (0 : Int) < 2147483399; decide), ?_⟩⟩
          refine ⟨_, rfl, _, rfl, t, _, _, 3, rfl, rfl, hT2, rfl, ?_⟩
          exact ⟨_, rfl, _, _, rfl, rfl, ⟨by decide, by decide⟩, .inl ⟨_, rfl, _, rfl, _, _, rfl, rfl, hn, fin2 _ _ _ _ _ _ hb'⟩⟩
/-! ### an order -/
def spOrder : Sp := fun vs H Q _ => ∃ (t l : Addr) (n : Int), vs = [.ref t, .int n] ∧ Tape H t l ∧ 0 ≤ n ∧ n ≤ 1000 ∧ ∀ (p : Addr) (xs : List Int) (H' : Hp), xs.Perm (rangeI n) → H p = none → H' p = some (.lst (xs.map V.int)) → Gr t H H' → Tape H' t l → Q (.ref p) H'
theorem ok_order (A : At K mg "_law_order" s_law_order ["tape", "many"]) (T : Tx mg) (G_law_pick : Dfn P w K mg base "_law_pick" ["tape", "size"] 1 spPick) : Dfn P w K mg base "_law_order" ["tape", "many"] 2 spOrder := by
  refine A.ok sc_law_order (fun vs H Q E h => ?_) (fun f cdv A outer s H vs Q E hr h => ?_)
  · obtain ⟨t, l, n, rfl, _⟩ := h
    rfl
  · obtain ⟨t, l, n, rfl, hT, hn, hn2, k⟩ := h
    refine ⟨_, (pss_cons (ps_set (i := 2) sc_law_order.nd rfl (Or.inr rfl) (pe_listRg rfl (by rfl) T.list (prg_1 (by rfl) T.range (pv 1))))
      (pss_one (ps_ret (pe_lc (own := [("k", 3)]) (g := (gName 3)) (tt := tYes) (te := (tBM K "list" rPopAt (tVar 2) (tCons (tCall spPick [] E0 (tCons (tVar 0) (tCons (tCB (rLenS K) (tCons (tVar 2) tNil)) tNil))) tNil))) (by rfl) sc_law_order.nd (pi_range1 rfl T.range (pa_cons (pv 1) pa_nil)) (blkOk_by (own := [("k", 3)]) (N := n_law_order) (sc := (defScope s_law_order)) (by decide +kernel)) (fun _ _ _ _ _ => (pg_name (i := 3) sc_law_order.nd rfl (Or.inl rfl))) (fun _ _ _ _ _ => pts_nil) (fun _ _ _ _ _ => (pe_bm PySem.F.plainAttrs_list PySem.F.slot_list_pop PySem.F.type_list_pop mt_popAt (pv 2) (pa_cons (pe_d G_law_pick (hr.mono (by decide)) (pa_cons (pv 0) (pa_cons (pe_callB c_len (by rfl) T.len (by decide +kernel) (pa_cons (pv 2) pa_nil)) pa_nil))) pa_nil))))))), ?_⟩
    refine ⟨_, rfl, n, rfl, RgOk.of_le (by decide) (by omega) (by decide) hn, fun q hq => ?_⟩
    have nq := hT.free hq
    refine ⟨_, rfl, n, rfl, by omega, by omega, fun D hD => ?_⟩
    have nqD : q ≠ D := ne_of_none upd_same hD
    have hD0 : H D = none := by
      rw [upd_ne nqD.symm] at hD
      exact hD
    have nD := hT.free hD0
    refine lc_range (lo := 0) (n := n.toNat) (fun i H' => ∃ acc left : List Int, (acc ++ left).Perm (rangeI n) ∧ acc.length = i ∧ left.length = n.toNat - i ∧ H' D = some (.lst (acc.map V.int)) ∧ H' q = some (.lst (left.map V.int)) ∧ Gr t H H' ∧ Tape H' t l)
      ⟨[], rangeI n, List.Perm.refl _, rfl, rangeI_len n, upd_same, by rw [upd_ne nqD, upd_same, rgV_rangeI], gr_mut (gr_mut (Gr.refl H) hq) hD0, (hT.new hq).new hD⟩ ?_ ?_
    · rintro i H1 hi ⟨acc, left, pm, la, ll, hDa, hqa, g1, T1⟩
      have lp : 0 < left.length := by omega
      refine ⟨rfl, _, rfl, .inl ⟨rfl, _, SqL.of hqa⟩, _, rfl, _, rfl, q, _, rfl, .inl (SqL.of hqa), t, l, _, rfl, T1, by rw [List.length_map]; omega, by rw [List.length_map]; omega, fun x H2 x0 x1 g2 T2 => ?_⟩
      rw [List.length_map] at x1
      have hqb : H2 q = some (.lst (left.map V.int)) := g2 _ _ nq.1 hqa
      have hDb : H2 D = some (.lst (acc.map V.int)) := g2 _ _ nD.1 hDa
      have xl : x.toNat < left.length := by omega
      have hy : (left.map V.int)[x.toNat]? = some (.int left[x.toNat]) := by
        rw [List.getElem?_map, List.getElem?_eq_getElem xl]
        rfl
      refine ⟨q, _, x, x.toNat, _, rfl, rfl, hqb, by omega, by omega, seq_at x0 (by rw [List.length_map]; exact x1), hy, acc.map V.int, by rw [upd_ne nqD.symm]; exact hDb, by rw [List.length_map]; exact Nat.lt_of_le_of_lt (show acc.length ≤ 1000 by omega) (by decide), ?_⟩
      refine ⟨acc ++ [left[x.toNat]], left.eraseIdx x.toNat, ?_, by rw [List.length_append, la]; rfl, by rw [List.length_eraseIdx, if_pos xl]; omega, by rw [upd_same, List.map_append]; rfl, by rw [upd_ne nqD, upd_same, map_eraseIdx'], gr_mut (gr_mut (g1.trans g2) hq) hD0, (T2.mut nq).mut nD⟩
      refine List.Perm.trans ?_ pm
      rw [List.append_assoc]
      exact List.Perm.append_left acc (perm_erase left _ xl)
    · rintro H1 ⟨acc, left, pm, la, ll, hDa, hqa, g1, T1⟩
      have e : left = [] := List.eq_nil_of_length_eq_zero (by omega)
      subst e
      rw [List.append_nil] at pm
      exact k D acc H1 pm hD0 hDa g1 T1
/-! ### rows drawn at will -/
def spLoose (K : PySem.W.Frag) : Sp := fun vs H Q _ => ∃ (t l : Addr) (n : Int), vs = [.ref t, .int n] ∧ Tape H t l ∧ 1 ≤ n ∧ n ≤ 12 ∧ ∀ (v : V) (rows : List (List Int)) (H' : Hp), Good rows → (rows.length : Int) = n → Gr t H H' → Tape H' t l → RowsAt K H' v rows → Q v H'
theorem ok_loose (A : At K mg "_law_loose" s_law_loose ["tape", "many"]) (T : Tx mg) (G_law_pick : Dfn P w K mg base "_law_pick" ["tape", "size"] 1 spPick) (G_law_order : Dfn P w K mg base "_law_order" ["tape", "many"] 2 spOrder) : Dfn P w K mg base "_law_loose" ["tape", "many"] 3 (spLoose K) := by
  refine A.ok sc_law_loose (fun vs H Q E h => ?_) (fun f cdv A outer s H vs Q E hr h => ?_)
  · obtain ⟨t, l, n, rfl, _⟩ := h
    rfl
  · obtain ⟨t, l, n, rfl, hT, hn, hn2, k⟩ := h
    refine ⟨_, (pss_cons (ps_set (i := 2) sc_law_loose.nd rfl (Or.inl rfl) (pe_d G_law_order (hr.mono (by decide)) (pa_cons (pv 0) (pa_cons (pv 1) pa_nil))))
      (pss_cons (ps_set (i := 3) sc_law_loose.nd rfl (Or.inr rfl) (pe_op op_add pe_int (pe_d G_law_pick (hr.mono (by decide)) (pa_cons (pv 0) (pa_cons pe_int pa_nil)))))
      (pss_cons (ps_set (i := 4) sc_law_loose.nd rfl (Or.inl rfl) (pe_cmpR op_gt (pe_d G_law_pick (hr.mono (by decide)) (pa_cons (pv 0) (pa_cons pe_int pa_nil))) pe_int (nomark _)))
      (pss_cons (ps_set (i := 5) sc_law_loose.nd rfl (Or.inl rfl) (pe_lst pa_nil))
      (pss_cons (ps_for PassesOwn.never rfl (pi_range1 rfl T.range (pa_cons (pv 1) pa_nil)) (pg_name (i := 6) sc_law_loose.nd rfl (Or.inl rfl))
      (pss_cons (ps_setLc (i := 7) (own := [("thing", 8)]) (g := (gName 8)) (tt := (tTest (tOp (rI0 fun i j => V.bl (decide (i < j))) (tCall spPick [] E0 (tCons (tVar 0) (tCons (tC (V.int 5)) tNil))) (tVar 3)))) (te := (tVar 8)) (by rfl) sc_law_loose.nd rfl rfl (sw_true rfl rfl rfl (by decide +kernel)) (pi_range1 rfl T.range (pa_cons (pv 1) pa_nil)) (blkOk_by (own := [("thing", 8)]) (N := n_law_loose) (sc := (defScope s_law_loose)) (by decide +kernel)) (fun _ _ _ _ _ => (pg_name (i := 8) sc_law_loose.nd rfl (Or.inl rfl))) (fun _ _ _ _ _ => (pts_one (pt_cmpR op_lt (pe_d G_law_pick (hr.mono (by decide)) (pa_cons (pv 0) (pa_cons pe_int pa_nil))) (pv 3) (nomark _)))) (fun _ _ _ _ _ => (pv 8)))
      (Evl.pss_cut (ps_if (PW.pt (pw_and (pt_val (pv 4)) (pw_and1 (pt_cmpR op_notIn_seq (pe_ix ix_list (pv 2) (pv 6) (fun _ _ => rfl)) (pv 7) rfl)))) (pss_one (ps_expr (pe_bm PySem.F.plainAttrs_list PySem.F.slot_list_append PySem.F.type_list_append mt_append (pv 7) (pa_cons (pe_ix ix_list (pv 2) (pv 6) (fun _ _ => rfl)) pa_nil)))) pss_nil)
      (pss_one (ps_expr (pe_bm PySem.F.plainAttrs_list PySem.F.slot_list_append PySem.F.type_list_append mt_append (pv 5) (pa_cons (pe_callTy c_tuple (by rfl) T.tuple (by decide +kernel) (pa_cons (pe_callB cr_sortedI (by rfl) T.sorted (by decide +kernel) (pa_cons (pv 7) pa_nil)) pa_nil)) pa_nil)))))))
      (pss_one (ps_ret (pe_callTy c_tuple (by rfl) T.tuple (by decide +kernel) (pa_cons (pv 5) pa_nil))))))))), ?_⟩
    refine ⟨_, rfl, _, rfl, t, l, n, rfl, hT, by omega, by omega, fun oa os H1 pm _ ho g1 T1 => ?_⟩
    have hol : os.length = n.toNat := by rw [pm.length_eq, rangeI_len]
    refine ⟨_, rfl, t, l, 4, rfl, T1, by decide, by decide, fun th H2 _ _ g2 T2 => ⟨_, _, rfl, rfl, ?_⟩⟩
    refine ⟨_, rfl, t, l, 4, rfl, T2, by decide, by decide, fun pl H3 _ _ g3 T3 => ⟨_, _, rfl, rfl, ?_⟩⟩
    obtain ⟨planted, hpl⟩ : ∃ b, b = decide (0 < pl) := ⟨_, rfl⟩
    refine ⟨Nat.zero_le _, fun fa hf => ?_⟩
    have hoa : oa ≠ t := T1.ne_ints' ho
    have ho3 : H3 oa = some (.lst (os.map V.int)) := g3 _ _ hoa (g2 _ _ hoa ho)
    have nof : oa ≠ fa := ne_of_none ho3 hf
    have nf := T3.free hf
    have hf0 : H fa = none := ((g1.trans g2).trans g3).fresh T3 hf
    have g13 := (g1.trans g2).trans g3
    refine ⟨_, rfl, n, rfl, by omega, by omega, for_range (lo := 0) (n := n.toNat) (fun i σ' H' => ∃ (vs : List V) (rs : List (List Int)) (x6 x7 x8 : Option V), σ' = [some (.ref t), some (.int n), some (.ref oa), some (.int (1 + th)), some (.bl planted), some (.ref fa), x6, x7, x8] ∧ rs.length = i ∧ H' fa = some (.lst vs) ∧ RowsT K H' vs rs ∧ (∀ r ∈ rs, r.Pairwise (· < ·) ∧ ∀ x ∈ r, 0 ≤ x ∧ x < n) ∧ H' oa = some (.lst (os.map V.int)) ∧ Gr t H H' ∧ Tape H' t l)
      ⟨[], [], none, none, none, by rw [hpl]; rfl, rfl, upd_same, .nil, fun _ h => (by cases h), by rw [upd_ne nof]; exact ho3, gr_mut g13 hf0, T3.new hf⟩ ?_ ?_⟩
    · rintro i σ' H4 hi ⟨vs, rs, x6, x7, x8, rfl, hl, hfa, hrs, hall, hoa4, g4, T4⟩
      -- row = [thing for thing in range(many) if pick(5) < thick]
      refine ⟨_, rfl, n, rfl, by omega, by omega, fun D hD => ?_⟩
      have nD := T4.free hD
      have nDf : fa ≠ D := ne_of_none hfa hD
      have nDo : oa ≠ D := ne_of_none hoa4 hD
      have hD0 : H D = none := g4.fresh T4 hD
      refine lc_range (lo := 0) (n := n.toNat) (fun j H' => ∃ row : List Int, H' D = some (.lst (row.map V.int)) ∧ row.length ≤ j ∧ row.Pairwise (· < ·) ∧ (∀ x ∈ row, 0 ≤ x ∧ x < (j : Int)) ∧ Tape H' t l ∧ Gr t H4 H')
        ⟨[], upd_same, Nat.le_refl _, .nil, fun _ h => (by cases h), T4.new hD, Gr.new hD⟩ ?_ ?_
      · rintro j H5 hj ⟨row, hDr, hrl, hrp, hrr, T5, g45⟩
        refine ⟨rfl, _, rfl, t, l, 5, rfl, T5, by decide, by decide, fun x H6 x0 x1 g6 T6 => ⟨_, rfl, _, _, rfl, rfl, _, rfl, ?_⟩⟩
        have hD6 : H6 D = some (.lst (row.map V.int)) := g6 _ _ nD.1 hDr
        refine ite2 (fun _ => ?_) (fun _ => ?_)
        · refine ⟨_, rfl, row.map V.int, hD6, by rw [List.length_map]; exact small_lt (by omega), row ++ [(j : Int)], ?_, by rw [List.length_append, List.length_singleton]; omega, asc_snoc hrp fun x hx => (hrr x hx).2, fun x hx => ?_, T6.mut nD, gr_mut (g45.trans g6) hD⟩
          · rw [upd_same, ← map_snoc]
            show some (HO.lst (row.map V.int ++ [V.int (0 + (j : Int))])) = _
            rw [Int.zero_add]
          · rcases List.mem_append.mp hx with h | h
            · have := hrr x h
              omega
            · rw [List.mem_singleton.mp h]
              omega
        · exact ⟨row, hD6, by omega, hrp, fun x hx => by have := hrr x hx; omega, T6, g45.trans g6⟩
      · rintro H5 ⟨row, hDr, hrl, hrp, hrr, T5, g45⟩
        have hrr' : ∀ x ∈ row, 0 ≤ x ∧ x < n := fun x hx => by have := hrr x hx; omega
        have hoa5 : H5 oa = some (.lst (os.map V.int)) := g45 _ _ hoa hoa4
        obtain ⟨z, hz, hz2⟩ := map_atI (ns := os) (i := 0 + (i : Int)) (by omega) (by omega)
        have hzr := mem_rangeI.mp (pm.mem_iff.mp hz)
        refine ⟨fun σ' H' => ∃ row' : List Int, σ' = [some (.ref t), some (.int n), some (.ref oa), some (.int (1 + th)), some (.bl planted), some (.ref fa), some (.int (0 + (i : Int))), some (.ref D), x8] ∧ H' D = some (.lst (row'.map V.int)) ∧ row'.Nodup ∧ (∀ x ∈ row', 0 ≤ x ∧ x < n) ∧ row'.length ≤ 13 ∧ Gr t H4 H' ∧ Tape H' t l, ?_, ?_⟩
        · refine ⟨_, rfl, _, rfl, ?_⟩
          cases planted with
          | false => exact ⟨row, rfl, hDr, nodup_of_lt hrp, hrr', by omega, g45, T5⟩
          | true =>
            refine ⟨_, rfl, _, rfl, oa, _, _, _, rfl, rfl, SqL.of hoa5, hz2, _, rfl, D, _, rfl, .inl (SqL.of hDr), rfl, all_flat_ints _, _, rfl, ?_⟩
            show if (!inV (V.int z) (row.map V.int)) = true then _ else _
            rw [inV_ints]
            by_cases hm : z ∈ row
            · rw [decide_eq_true hm]
              exact ⟨row, rfl, hDr, nodup_of_lt hrp, hrr', by omega, g45, T5⟩
            · rw [decide_eq_false hm]
              refine ⟨_, rfl, .inl ⟨rfl, _, SqL.of hDr⟩, _, rfl, _, rfl, oa, _, _, _, rfl, rfl, SqL.of hoa5, hz2, D, _, _, rfl, rfl, hDr, by rw [List.length_map]; exact small_lt (by omega), ?_⟩
              exact ⟨row ++ [z], rfl, by rw [upd_same, map_snoc], nodup_snoc (nodup_of_lt hrp) hm, fun x hx => by
                rcases List.mem_append.mp hx with h | h
                · exact hrr' x h
                · rw [List.mem_singleton.mp h]
                  exact hzr, by rw [List.length_append, List.length_singleton]; omega, gr_mut g45 hD, T5.mut nD⟩
        · rintro σ' H6 ⟨row', rfl, hD6, hnd, hr6, hl6, g46, T6⟩
          have hfa6 : H6 fa = some (.lst vs) := g46 _ _ nf.1 hfa
          refine ⟨_, rfl, .inl ⟨rfl, _, SqL.of hfa6⟩, _, rfl, D, row', rfl, SqL.of hD6, fun ns' p pm2 so hp => ⟨p, _, rfl, .inl ⟨SqL.of upd_same, fun q hq => ?_⟩⟩⟩
          have npf : fa ≠ p := ne_of_none hfa6 hp
          have hq6 : H6 q = none := by
            by_cases e : q = p
            · rw [e, upd_same] at hq
              cases hq
            · rw [upd_ne e] at hq
              exact hq
          have nqf : fa ≠ q := ne_of_none hfa6 hq6
          have e7 : (upd (upd H6 p (.lst (ns'.map V.int))) q (.tup (ns'.map V.int))) fa = some (.lst vs) := by rw [upd_ne nqf, upd_ne npf]; exact hfa6
          refine ⟨fa, vs, .ref q, rfl, rfl, e7, small_lt (by rw [hrs.len]; omega), ?_⟩
          have g67 : Gr t H6 (upd (upd H6 p (.lst (ns'.map V.int))) q (.tup (ns'.map V.int))) := (Gr.new hp).trans (Gr.new hq)
          have T7 := (T6.new (o := .lst (ns'.map V.int)) hp).new (o := .tup (ns'.map V.int)) hq
          have hnf : H4 fa = some (.lst vs) := hfa
          refine ⟨vs ++ [.ref q], rs ++ [ns'], _, _, _, rfl, by rw [List.length_append, hl]; rfl, upd_same, ?_, fun r hr => ?_, ?_, gr_mut (g4.trans (g46.trans g67)) hf0, T7.mut nf⟩
          · have r7 := hrs.gr (g46.trans g67) T4
            have r8 : RowsT K (upd (upd (upd H6 p (.lst (ns'.map V.int))) q (.tup (ns'.map V.int))) fa (.lst (vs ++ [.ref q]))) vs rs := r7.put e7
            exact r8.snoc (SqT.of (by rw [upd_ne nqf.symm, upd_same]))
          · rcases List.mem_append.mp hr with h | h
            · exact hall r h
            · rw [List.mem_singleton.mp h]
              exact ⟨asc_of pm2 so hnd, fun x hx => hr6 x (pm2.mem_iff.mp hx)⟩
          · rw [upd_ne nof, (g46.trans g67) _ _ hoa hoa4]
    · rintro σ' H4 ⟨vs, rs, x6, x7, x8, rfl, hl, hfa, hrs, hall, hoa4, g4, T4⟩
      refine ⟨_, rfl, fa, vs, rfl, .inl ⟨SqL.of hfa, fun z hz => ?_⟩⟩
      have hz0 : H z = none := g4.fresh T4 hz
      have en : (rs.length : Int) = n := by omega
      refine k _ rs _ ⟨by omega, fun r hr => (hall r hr).1, fun r hr x hx => by rw [en]; exact (hall r hr).2 x hx⟩ en (gr_mut g4 hz0) (T4.new hz) ⟨z, vs, rfl, SqT.of upd_same, hrs.same (same_new hz)⟩
/-! ### people and things moved -/
def lcScope (s : Stmt) : Scope := match (defBody s).getLast? with
  | some (.Return (some (.Call _ [.ListComp _ _ sc _] _ _)) _) => sc
  | _ => defScope s
def envS (sc : Scope) : Env := { scope := sc, locals := 0, globals := 0, cells := [], qual := "", func := none, code := .none, frame := none, builtins := 0 }
def spMoved (K : PySem.W.Frag) : Sp := fun vs H Q _ => ∃ (t l : Addr) (v : V) (rows : List (List Int)), vs = [.ref t, v] ∧ Tape H t l ∧ Good rows ∧ rows.length ≤ 12 ∧ RowsAt K H v rows ∧ ∀ (v' : V) (rows' : List (List Int)) (H' : Hp), Good rows' → rows'.length = rows.length → Gr t H H' → Tape H' t l → RowsAt K H' v' rows' → Q v' H'
theorem ok_moved (A : At K mg "_law_moved" s_law_moved ["tape", "rows"]) (T : Tx mg) (G_law_order : Dfn P w K mg base "_law_order" ["tape", "many"] 2 spOrder) : Dfn P w K mg base "_law_moved" ["tape", "rows"] 3 (spMoved K) := by
  refine A.ok sc_law_moved (fun vs H Q E h => ?_) (fun f cdv A outer s H vs Q E hr h => ?_)
  · obtain ⟨t, l, v, rows, rfl, _⟩ := h
    rfl
  · obtain ⟨t, l, v, rows, rfl, hT, hG, hm, ⟨ra, rvs, rfl, hra, hrt⟩, k⟩ := h
    have rl := hrt.len
    refine ⟨_, (pss_cons (ps_set (i := 2) sc_law_moved.nd rfl (Or.inl rfl) (pe_d G_law_order (hr.mono (by decide)) (pa_cons (pv 0) (pa_cons (pe_callB c_len (by rfl) T.len (by decide +kernel) (pa_cons (pv 1) pa_nil)) pa_nil))))
      (pss_cons (ps_set (i := 3) sc_law_moved.nd rfl (Or.inr rfl) (pe_d G_law_order (hr.mono (by decide)) (pa_cons (pv 0) (pa_cons (pe_callB c_len (by rfl) T.len (by decide +kernel) (pa_cons (pv 1) pa_nil)) pa_nil))))
      (pss_one (ps_ret (pe_callTy c_tuple (by rfl) T.tuple (by decide +kernel) (pa_cons (pe_lc (own := [("person", 4)]) (g := (gName 4)) (tt := tYes) (te := (tCB (rTupOf K) (tCons (tCB (rSortedI K) (tCons (tLc (iTup K (tOp (rIxT K) (tVar 1) (tVar 4))) (gName 5) tYes (tOp (rIxL K) (tVar 3) (tVar 5)) [5]) tNil)) tNil))) (by rfl) sc_law_moved.nd (pi_list (pv 2)) (blkOk_by (own := [("person", 4)]) (N := n_law_moved) (sc := (defScope s_law_moved)) (by decide +kernel)) (fun _ _ _ _ _ => (pg_name (i := 4) sc_law_moved.nd rfl (Or.inl rfl))) (fun _ _ _ _ _ => pts_nil) (fun _ _ _ _ _ => (pe_callTy c_tuple (by rfl) T.tuple (by decide +kernel) (pa_cons (pe_callB cr_sortedI (by rfl) T.sorted (by decide +kernel) (pa_cons (pe_lc (own := [("thing", 5)]) (g := (gName 5)) (tt := tYes) (te := (tOp (rIxL K) (tVar 3) (tVar 5))) (by rfl) sc_law_moved.nd (pi_tup (pe_ix ix_tup (pv 1) (pv 4) (fun _ _ => rfl))) (blkOk_by (own := [("thing", 5)]) (N := n_law_moved) (sc := (relabel (lcScope s_law_moved) (envS (defScope s_law_moved)))) (by decide +kernel)) (fun _ _ _ _ _ => (pg_name (i := 5) sc_law_moved.nd rfl (Or.inl rfl))) (fun _ _ _ _ _ => pts_nil) (fun _ _ _ _ _ => (pe_ix ix_list (pv 3) (pv 5) (fun _ _ => rfl)))) pa_nil)) pa_nil)))) pa_nil)))))), ?_⟩
    refine ⟨_, rfl, _, rfl, ra, _, rfl, .inr hra, t, l, _, rfl, hT, by omega, by omega, fun pa ps H1 pm1 _ hp1 g1 T1 => ?_⟩
    have hra1 := gr_T g1 hT hra
    have hrt1 := hrt.gr g1 hT
    refine ⟨_, rfl, _, rfl, ra, _, rfl, .inr hra1, t, l, _, rfl, T1, by omega, by omega, fun ta ts H2 pm2 _ hp2 g2 T2 => ?_⟩
    have hpa : H2 pa = some (.lst (ps.map V.int)) := g2 _ _ (T1.ne_ints' hp1) hp1
    have hra2 := gr_T g2 T1 hra1
    have hrt2 := hrt1.gr g2 T1
    rw [rl] at pm1 pm2
    have psl : ps.length = rows.length := by rw [pm1.length_eq, rangeI_len]; omega
    have tsl : ts.length = rows.length := by rw [pm2.length_eq, rangeI_len]; omega
    have tnd : ts.Nodup := pm2.symm.nodup (rangeI_nodup _)
    -- the outer comprehension
    refine ⟨_, rfl, pa, rfl, ⟨_, SqL.of hpa⟩, fun D hD => ?_⟩
    have g12 := g1.trans g2
    have hD0 : H D = none := g12.fresh T2 hD
    have nD := T2.free hD
    have npD : pa ≠ D := ne_of_none hpa hD
    have ntD : ta ≠ D := ne_of_none hp2 hD
    refine lc_list (xs := ps.map V.int) (fun i H' => ∃ vs rs, H' D = some (.lst vs) ∧ RowsT K H' vs rs ∧ rs.length = i ∧ (∀ r ∈ rs, r.Pairwise (· < ·) ∧ ∀ x ∈ r, 0 ≤ x ∧ x < (rows.length : Int)) ∧ Gr t H2 H' ∧ Tape H' t l)
      ⟨[], [], upd_same, .nil, rfl, fun _ h => (by cases h), Gr.new hD, T2.new hD⟩ (fun i H' _ ⟨_, _, _, _, _, _, g, _⟩ => SqL.of (g _ _ (T2.ne_ints' hpa) hpa)) ?_ ?_
    · rintro i y H3 hy ⟨vs, rs, hDv, hrs, hl, hall, g3, T3⟩
      have hil : i < ps.length := by
        have := (List.getElem?_eq_some_iff.mp hy).1
        rw [List.length_map] at this
        exact this
      obtain ⟨z, hz, hzr⟩ : ∃ z, y = V.int z ∧ 0 ≤ z ∧ z < (rows.length : Int) := by
        rw [List.getElem?_map, List.getElem?_eq_getElem hil] at hy
        refine ⟨ps[i], (Option.some.inj hy).symm, ?_⟩
        exact mem_rangeI.mp (pm1.mem_iff.mp (List.getElem_mem hil))
      subst hz
      have hzl : z.toNat < rows.length := by omega
      obtain ⟨rw_, hrw⟩ : ∃ r, rows[z.toNat]? = some r := ⟨_, List.getElem?_eq_getElem hzl⟩
      obtain ⟨qa, hqa, hqs⟩ := (hrt2.gr g3 T2).get hrw
      have hrmem : rw_ ∈ rows := List.mem_of_getElem? hrw
      have hra3 := gr_T g3 T2 hra2
      have hix : atI rvs z = some (.ref qa) := at_of (j := z.toNat) (by omega) hqa
      have hta3 : H3 ta = some (.lst (ts.map V.int)) := g3 _ _ (T2.ne_ints' hp2) hp2
      refine ⟨rfl, _, rfl, _, rfl, ra, _, z, _, rfl, rfl, hra3, hix, qa, rfl, ⟨_, hqs⟩, fun D2 hD2 => ?_⟩
      have nD2 := T3.free hD2
      have ntD2 : ta ≠ D2 := ne_of_none hta3 hD2
      have nDD2 : D ≠ D2 := ne_of_none hDv hD2
      refine lc_tup (xs := rw_.map V.int) (fun j H' => ∃ out : List Int, H' D2 = some (.lst (out.map V.int)) ∧ out.length = j ∧ (∀ x ∈ out, 0 ≤ x ∧ x < (rows.length : Int)) ∧ (∀ (m : Nat) (x : Int), out[m]? = some x → ∃ u : Int, rw_[m]? = some u ∧ ts[u.toNat]? = some x) ∧ Gr t H3 H' ∧ Tape H' t l)
        ⟨[], upd_same, rfl, fun _ h => (by cases h), fun m x h => (by simp at h), Gr.new hD2, T3.new hD2⟩ (fun j H' _ ⟨_, _, _, _, _, g, _⟩ => gr_T g T3 hqs) ?_ ?_
      · rintro j u H4 hu ⟨out, hDo, hol, hor, hof, g4, T4⟩
        have hjl : j < rw_.length := by
          have := (List.getElem?_eq_some_iff.mp hu).1
          rw [List.length_map] at this
          exact this
        have hu' : rw_[j]? = some rw_[j] := List.getElem?_eq_getElem hjl
        rw [List.getElem?_map, hu'] at hu
        have hu2 : V.int rw_[j] = u := Option.some.inj hu
        subst hu2
        have hrg := hG.rng _ hrmem _ (List.getElem_mem hjl)
        generalize hug : rw_[j] = ug at hu' hrg
        have htl : ug.toNat < ts.length := by omega
        have htx : ts[ug.toNat]? = some ts[ug.toNat] := List.getElem?_eq_getElem htl
        have hti : atI (ts.map V.int) ug = some (.int ts[ug.toNat]) := at_of (j := ug.toNat) (by omega) (by rw [List.getElem?_map, htx]; rfl)
        have hta4 : H4 ta = some (.lst (ts.map V.int)) := g4 _ _ (T2.ne_ints' hp2) hta3
        refine ⟨rfl, _, rfl, _, rfl, ta, _, _, _, rfl, rfl, SqL.of hta4, hti, _, hDo, by rw [List.length_map]; exact small_lt (by have := nodup_of_lt (hG.asc _ hrmem); have := row_len (hG.asc _ hrmem) (hG.rng _ hrmem); omega), ?_⟩
        refine ⟨out ++ [ts[ug.toNat]], by rw [upd_same, map_snoc], by rw [List.length_append, hol]; rfl, fun x hx => ?_, fun m x hx => ?_, gr_mut g4 hD2, T4.mut nD2⟩
        · rcases List.mem_append.mp hx with h | h
          · exact hor x h
          · rw [List.mem_singleton.mp h]
            exact mem_rangeI.mp (pm2.mem_iff.mp (List.getElem_mem htl))
        · by_cases hm : m < out.length
          · rw [List.getElem?_append_left hm] at hx
            exact hof m x hx
          · have hm2 : m = out.length := by
              have h1 := (List.getElem?_eq_some_iff.mp hx).1
              rw [List.length_append, List.length_singleton] at h1
              omega
            subst hm2
            rw [List.getElem?_append_right (Nat.le_refl _), Nat.sub_self] at hx
            have hx' : ts[ug.toNat] = x := Option.some.inj hx
            subst hx'
            exact ⟨ug, by rw [hol]; exact hu', htx⟩
      · rintro H4 ⟨out, hDo, hol, hor, hof, g4, T4⟩
        rw [List.length_map] at hol
        have ond : out.Nodup := by
          refine List.pairwise_iff_getElem.mpr fun a b ha hb hab heq' => ?_
          obtain ⟨u1, h1, k1⟩ := hof a _ (List.getElem?_eq_getElem ha)
          obtain ⟨u2, h2, k2⟩ := hof b _ (List.getElem?_eq_getElem hb)
          rw [heq'] at k1
          have e12 : u1.toNat = u2.toNat := nd_ix tnd k1 k2
          have r1 := hG.rng _ hrmem _ (List.mem_of_getElem? h1)
          have r2 := hG.rng _ hrmem _ (List.mem_of_getElem? h2)
          have e3 : u1 = u2 := by omega
          rw [← e3] at h2
          have := nd_ix (nodup_of_lt (hG.asc _ hrmem)) h1 h2
          omega
        have hDv4 : H4 D = some (.lst vs) := g4 _ _ nD.1 hDv
        refine ⟨D2, out, rfl, SqL.of hDo, fun ns' p pms so hp => ⟨p, _, rfl, .inl ⟨SqL.of upd_same, fun q hq => ?_⟩⟩⟩
        have npD' : D ≠ p := ne_of_none hDv4 hp
        have hq4 : H4 q = none := by
          by_cases e : q = p
          · rw [e, upd_same] at hq
            cases hq
          · rw [upd_ne e] at hq
            exact hq
        have nqD : D ≠ q := ne_of_none hDv4 hq4
        have e7 : (upd (upd H4 p (.lst (ns'.map V.int))) q (.tup (ns'.map V.int))) D = some (.lst vs) := by rw [upd_ne nqD, upd_ne npD']; exact hDv4
        refine ⟨vs, e7, small_lt (by rw [hrs.len]; omega), ?_⟩
        have g47 : Gr t H3 (upd (upd H4 p (.lst (ns'.map V.int))) q (.tup (ns'.map V.int))) := g4.trans ((Gr.new hp).trans (Gr.new hq))
        have T7 := (T4.new (o := .lst (ns'.map V.int)) hp).new (o := .tup (ns'.map V.int)) hq
        refine ⟨vs ++ [.ref q], rs ++ [ns'], upd_same, ?_, by rw [List.length_append, hl]; rfl, fun r hr => ?_, gr_mut (g3.trans g47) hD, T7.mut nD⟩
        · exact RowsT.snoc (SqT.of (by rw [upd_ne nqD.symm, upd_same])) ((hrs.gr g47 T3).put e7)
        · rcases List.mem_append.mp hr with h | h
          · exact hall r h
          · rw [List.mem_singleton.mp h]
            exact ⟨asc_of pms so ond, fun x hx => hor x (pms.mem_iff.mp hx)⟩
    · rintro H3 ⟨vs, rs, hDv, hrs, hl, hall, g3, T3⟩
      rw [List.length_map, psl] at hl
      refine ⟨D, vs, rfl, .inl ⟨SqL.of hDv, fun z hz => ?_⟩⟩
      have hz0 : H z = none := (g12.trans g3).fresh T3 hz
      exact k _ rs _ ⟨by rw [hl]; exact hG.pos, fun r hr => (hall r hr).1, fun r hr x hx => by rw [hl]; exact (hall r hr).2 x hx⟩ hl (gr_mut (g12.trans g3) hz0) (T3.new hz) ⟨z, vs, rfl, SqT.of upd_same, hrs.same (same_new hz)⟩
/-! ### rows drawn in blocks -/
def spBlocks (K : PySem.W.Frag) : Sp := fun vs H Q _ => ∃ (t l : Addr) (n : Int), vs = [.ref t, .int n] ∧ Tape H t l ∧ 1 ≤ n ∧ n ≤ 12 ∧ ∀ (v : V) (rows : List (List Int)) (H' : Hp), Good rows → (rows.length : Int) ≤ n → Gr t H H' → Tape H' t l → RowsAt K H' v rows → Q v H'
structure Blk (m : Int) (rs : List (List Int)) : Prop where
  asc : ∀ r ∈ rs, r.Pairwise (· < ·)
  rng : ∀ r ∈ rs, ∀ x ∈ r, 0 ≤ x ∧ x < m
def WBlk (K : PySem.W.Frag) (t l fa : Addr) (n : Int) (H : Hp) (m : Nat) (σ' : L2.St) (H' : Hp) : Prop :=
  ∃ (vs : List V) (rs : List (List Int)) (x3 x4 x5 x6 x7 x8 x9 x10 : Option V), σ' = [some (.ref t), some (.int n), some (.ref fa), x3, x4, x5, x6, x7, x8, x9, x10] ∧ m + rs.length = n.toNat ∧ H' fa = some (.lst vs) ∧ RowsT K H' vs rs ∧ Blk rs.length rs ∧ Gr t H H' ∧ Tape H' t l
theorem mod_ne {i z : Int} (h0 : 0 ≤ i) (h1 : i < z) (h2 : 2 < z) : i ≠ (i + 1) % z := by
  intro h
  by_cases h3 : i + 1 < z
  · rw [Int.emod_eq_of_lt (by omega) h3] at h
    omega
  · have e : i + 1 = z := by omega
    rw [e, Int.emod_self] at h
    omega
theorem ok_blocks (A : At K mg "_law_blocks" s_law_blocks ["tape", "most"]) (T : Tx mg) (G_law_pick : Dfn P w K mg base "_law_pick" ["tape", "size"] 1 spPick) : Dfn P w K mg base "_law_blocks" ["tape", "most"] 2 (spBlocks K) := by
  refine A.ok sc_law_blocks (fun vs H Q E h => ?_) (fun f cdv A outer s H vs Q E hr h => ?_)
  · obtain ⟨t, l, n, rfl, _⟩ := h
    rfl
  · obtain ⟨t, l, n, rfl, hT, hn, hn2, k⟩ := h
    refine ⟨_, (pss_cons (ps_set (i := 2) sc_law_blocks.nd rfl (Or.inl rfl) (pe_lst pa_nil))
      (pss_cons (ps_while PassesOwn.never (PW.pt (pw_or (pt_cmpR op_eq (pe_callB c_len (by rfl) T.len (by decide +kernel) (pa_cons (pv 2) pa_nil)) pe_int (nomark _)) (pw_or1 (PW.pt (pw_and (pt_cmpR op_lt (pe_callB c_len (by rfl) T.len (by decide +kernel) (pa_cons (pv 2) pa_nil)) (pv 1) (nomark _)) (pw_and1 (pt_cmpR op_gt (pe_d G_law_pick (hr.mono (by decide)) (pa_cons (pv 0) (pa_cons pe_int pa_nil))) pe_int (nomark _)))))))) (pss_cons (ps_set (i := 3) sc_law_blocks.nd rfl (Or.inr rfl) (pe_callB c_len (by rfl) T.len (by decide +kernel) (pa_cons (pv 2) pa_nil)))
      (pss_cons (ps_set (i := 4) sc_law_blocks.nd rfl (Or.inl rfl) (pe_op op_add pe_int (pe_d G_law_pick (hr.mono (by decide)) (pa_cons (pv 0) (pa_cons (pe_callB (c_min rfl) (by rfl) T.min (by decide +kernel) (pa_cons pe_int (pa_cons (pe_op op_sub (pv 1) (pv 3)) pa_nil))) pa_nil)))))
      (pss_cons (ps_set (i := 5) sc_law_blocks.nd rfl (Or.inl rfl) (pe_d G_law_pick (hr.mono (by decide)) (pa_cons (pv 0) (pa_cons pe_int pa_nil))))
      (pss_one (ps_for PassesOwn.never rfl (pi_range1 rfl T.range (pa_cons (pv 4) pa_nil)) (pg_name (i := 6) sc_law_blocks.nd rfl (Or.inr rfl))
      (pss_cons (ps_set (i := 7) sc_law_blocks.nd rfl (Or.inl rfl) (pe_listRg rfl (by rfl) T.list (prg_2 (by rfl) T.range (pv 3) (pe_op op_add (pv 3) (pv 4)))))
      (Evl.pss_cut (ps_if (PW.pt (pw_and (pt_cmpR op_eq (pv 5) pe_int (nomark _)) (pw_and1 (pt_cmpR op_gt (pv 4) pe_int (nomark _))))) (pss_one (ps_set (i := 7) sc_law_blocks.nd rfl (Or.inl rfl) (pe_lst (pa_cons (pe_op op_add (pv 3) (pv 6)) (pa_cons (pe_op op_add (pv 3) (pe_op op_mod (pe_callTy c_int (by rfl) T.int (by decide +kernel) (pa_cons (pe_op op_add (pv 6) pe_int) pa_nil)) (pv 4))) pa_nil))))) pss_nil)
      (Evl.pss_cut (ps_if (PW.pt (pw_and (pt_cmpR op_eq (pv 5) pe_int (nomark _)) (pw_and1 (pt_cmpR op_gt (pv 4) pe_int (nomark _))))) (pss_one (ps_setLc (i := 7) (own := [("j", 9)]) (g := (gName 9)) (tt := (tTest (tOp rNe (tVar 9) (tVar 6)))) (te := (tOp (rI0 fun i j => V.int (i + j)) (tVar 3) (tVar 9))) (by rfl) sc_law_blocks.nd rfl rfl (sw_true rfl rfl rfl (by decide +kernel)) (pi_range1 rfl T.range (pa_cons (pv 4) pa_nil)) (blkOk_by (own := [("j", 9)]) (N := n_law_blocks) (sc := (defScope s_law_blocks)) (by decide +kernel)) (fun _ _ _ _ _ => (pg_name (i := 9) sc_law_blocks.nd rfl (Or.inl rfl))) (fun _ _ _ _ _ => (pts_one (pt_cmpR op_ne (pv 9) (pv 6) (nomark _)))) (fun _ _ _ _ _ => (pe_op op_add (pv 3) (pv 9))))) pss_nil)
      (pss_cons (ps_setLc (i := 8) (own := [("thing", 10)]) (g := (gName 10)) (tt := (tTest (tOp rEq (tCall spPick [] E0 (tCons (tVar 0) (tCons (tC (V.int 4)) tNil))) (tC (V.int 0))))) (te := (tVar 10)) (by rfl) sc_law_blocks.nd rfl rfl (sw_true rfl rfl rfl (by decide +kernel)) (pi_range1 rfl T.range (pa_cons (pv 3) pa_nil)) (blkOk_by (own := [("thing", 10)]) (N := n_law_blocks) (sc := (defScope s_law_blocks)) (by decide +kernel)) (fun _ _ _ _ _ => (pg_name (i := 10) sc_law_blocks.nd rfl (Or.inl rfl))) (fun _ _ _ _ _ => (pts_one (pt_cmpR op_eq (pe_d G_law_pick (hr.mono (by decide)) (pa_cons (pv 0) (pa_cons pe_int pa_nil))) pe_int (nomark _)))) (fun _ _ _ _ _ => (pv 10)))
      (pss_one (ps_expr (pe_bm PySem.F.plainAttrs_list PySem.F.slot_list_append PySem.F.type_list_append mt_append (pv 2) (pa_cons (pe_callTy c_tuple (by rfl) T.tuple (by decide +kernel) (pa_cons (pe_callB cr_sortedI (by rfl) T.sorted (by decide +kernel) (pa_cons (pe_op op_cat (pv 7) (pv 8)) pa_nil)) pa_nil)) pa_nil))))))))))))))
      (pss_one (ps_ret (pe_callTy c_tuple (by rfl) T.tuple (by decide +kernel) (pa_cons (pv 2) pa_nil)))))), ?_⟩
    refine ⟨Nat.zero_le _, fun fa hf => ?_⟩
    have nf := hT.free hf
    refine ⟨WBlk K t l fa n H, ⟨n.toNat, [], [], none, none, none, none, none, none, none, none, rfl, by simp, upd_same, .nil, ⟨fun _ h => (by cases h), fun _ h => (by cases h)⟩, gr_mut (Gr.refl H) hf, hT.new hf⟩, ?_⟩
    rintro m σ' H1 ⟨vs, rs, x3, x4, x5, x6, x7, x8, x9, x10, rfl, hm, hfa, hrs, hB, g1, T1⟩
    have vl := hrs.len
    refine (show ∀ R : Bool → Hp → Prop, (∀ b H2, Gr t H1 H2 → Tape H2 t l → (b = true → 0 < m) → (b = false → 1 ≤ rs.length) → R b H2) → ((tOr (tTest (tOp rEq (tCB (rLenS K) (tCons (tVar 2) tNil)) (tC (V.int 0)))) (tAnd (tTest (tOp (rI0 fun i j => V.bl (decide (i < j))) (tCB (rLenS K) (tCons (tVar 2) tNil)) (tVar 1))) (tTest (tOp (rI0 fun i j => V.bl (decide (j < i))) (tCall spPick [] E0 (tCons (tVar 0) (tCons (tC (V.int 3)) tNil))) (tC (V.int 0)))))) : TT) [some (.ref t), some (.int n), some (.ref fa), x3, x4, x5, x6, x7, x8, x9, x10] H1 R from fun R hR => ?_) _ (fun b H2 g2 T2 hb1 hb2 => ?_)
    · refine ⟨_, rfl, fa, vs, rfl, .inl (SqL.of hfa), rfl, _, rfl, ?_⟩
      refine ite2 (fun hc => ?_) (fun hc => ?_)
      · have h0 := of_decide_eq_true hc
        injection h0 with h0
        exact hR _ _ (Gr.refl _) T1 (fun _ => by omega) (fun h => (by cases h))
      · have h0 : ¬ ((vs.length : Nat) : Int) = 0 := fun q => hc (by rw [q]; exact decide_eq_true rfl)
        refine ⟨_, rfl, fa, vs, rfl, .inl (SqL.of hfa), _, rfl, _, _, rfl, rfl, _, rfl, ?_⟩
        refine ite2 (fun hc => ?_) (fun hc => ?_)
        · have h1 := of_decide_eq_true hc
          refine ⟨_, rfl, t, l, 3, rfl, T1, by decide, by decide, fun x H2 _ _ g2 T2 => ⟨_, _, rfl, rfl, _, rfl, ?_⟩⟩
          exact hR _ _ g2 T2 (fun _ => by omega) (fun _ => by omega)
        · exact hR _ _ (Gr.refl _) T1 (fun h => (by cases h)) (fun _ => by omega)
    · have hfa2 : H2 fa = some (.lst vs) := g2 _ _ nf.1 hfa
      have hrs2 := hrs.gr g2 T1
      cases b with
      | false =>
        refine ⟨_, rfl, fa, vs, rfl, .inl ⟨SqL.of hfa2, fun z hz => ?_⟩⟩
        have g12 := g1.trans g2
        have hz0 : H z = none := g12.fresh T2 hz
        exact k _ rs _ ⟨hb2 rfl, hB.asc, hB.rng⟩ (by omega) (gr_mut g12 hz0) (T2.new hz) ⟨z, vs, rfl, SqT.of upd_same, hrs2.same (same_new hz)⟩
      | true =>
        have hm0 := hb1 rfl
        refine ⟨fun σ' H' => ∃ m', m' < m ∧ WBlk K t l fa n H m' σ' H', fun _ _ h => h, ?_⟩
        refine ⟨_, rfl, fa, vs, rfl, .inl (SqL.of hfa2), ?_⟩
        refine ⟨_, rfl, _, rfl, _, rfl, _, _, rfl, rfl, 4, _, rfl, t, l, _, rfl, T2, by split <;> omega, by split <;> omega, fun sz H3 s0 s1 g3 T3 => ⟨_, _, rfl, rfl, ?_⟩⟩
        have sb : (vs.length : Int) + (1 + sz) ≤ n ∧ sz < 4 := by
          split at s1 <;> omega
        refine ⟨_, rfl, t, l, 3, rfl, T3, by decide, by decide, fun kd H4 _ _ g4 T4 => ?_⟩
        have g24 := (g2.trans g3).trans g4
        have hfa4 : H4 fa = some (.lst vs) := (g3.trans g4) _ _ nf.1 hfa2
        have hrs4 := hrs.gr g24 T1
        refine ⟨_, rfl, _, rfl, by omega, by omega, for_range (lo := 0) (n := (1 + sz).toNat) (fun i σ' H' => ∃ (vs' : List V) (rs' : List (List Int)) (x6 x7 x8 x9 x10 : Option V), σ' = [some (.ref t), some (.int n), some (.ref fa), some (.int (vs.length : Nat)), some (.int (1 + sz)), some (.int kd), x6, x7, x8, x9, x10] ∧ rs'.length = rs.length + i ∧ H' fa = some (.lst vs') ∧ RowsT K H' vs' rs' ∧ Blk (vs.length + (1 + sz)) rs' ∧ Gr t H H' ∧ Tape H' t l)
          ⟨vs, rs, _, _, _, _, _, rfl, rfl, hfa4, hrs4, ⟨hB.asc, fun r hr x hx => by have := hB.rng r hr x hx; omega⟩, g1.trans g24, T4⟩ ?_ ?_⟩
        · rintro i σ' H5 hi ⟨vs', rs', y6, y7, y8, y9, y10, rfl, hl', hfa5, hrs5, hB5, g5, T5⟩
          have hik : ((0 : Int) + (i : Int)) < 1 + sz := by omega
          -- row = list(range(base, base + size))
          refine ⟨_, rfl, _, rfl, _, rfl, _, _, rfl, rfl, _, _, rfl, rfl, RgOk.of_le (by omega) (by omega) (by omega) (by omega), fun ra hra => ?_⟩
          -- if kind == 1
          refine ⟨fun σ' H' => ∃ (ra : Addr) (row : List Int), σ' = [some (.ref t), some (.int n), some (.ref fa), some (.int (vs.length : Nat)), some (.int (1 + sz)), some (.int kd), some (.int (0 + (i : Int))), some (.ref ra), y8, y9, y10] ∧ H' ra = some (.lst (row.map V.int)) ∧ row.Nodup ∧ (∀ x ∈ row, (vs.length : Int) ≤ x ∧ x < vs.length + (1 + sz)) ∧ row.length ≤ 12 ∧ Gr t H5 H' ∧ Tape H' t l, ?_, ?_⟩
          · have rgm : rgV (vs.length : Int) ((vs.length : Int) + (1 + sz)) = ((List.range (1 + sz).toNat).map fun (j : Nat) => (vs.length : Int) + (j : Int)).map V.int := by
              unfold rgV
              rw [List.map_map]
              have e : ((vs.length : Int) + (1 + sz) - vs.length).toNat = (1 + sz).toNat := by omega
              rw [e]
              rfl
            have first : ∃ (ra' : Addr) (row : List Int), ra' = ra ∧ (upd H5 ra (.lst (rgV (vs.length : Int) ((vs.length : Int) + (1 + sz))))) ra' = some (.lst (row.map V.int)) ∧ row.Nodup ∧ (∀ x ∈ row, (vs.length : Int) ≤ x ∧ x < vs.length + (1 + sz)) ∧ row.length ≤ 12 := by
              refine ⟨ra, (List.range (1 + sz).toNat).map fun (j : Nat) => (vs.length : Int) + (j : Int), rfl, by rw [upd_same, rgm], ?_, fun x hx => ?_, by rw [List.length_map, List.length_range]; omega⟩
              · exact List.Pairwise.map _ (fun (a b : Nat) (h : a ≠ b) (q : (vs.length : Int) + (a : Int) = (vs.length : Int) + (b : Int)) => h (by omega)) List.nodup_range
              · obtain ⟨j, hj, rfl⟩ := List.mem_map.mp hx
                have := List.mem_range.mp hj
                omega
            have keep : ∃ (ra' : Addr) (row : List Int), [some (V.ref t), some (V.int n), some (V.ref fa), some (V.int (vs.length : Nat)), some (V.int (1 + sz)), some (V.int kd), some (V.int (0 + (i : Int))), some (V.ref ra), y8, y9, y10] = [some (V.ref t), some (V.int n), some (V.ref fa), some (V.int (vs.length : Nat)), some (V.int (1 + sz)), some (V.int kd), some (V.int (0 + (i : Int))), some (V.ref ra'), y8, y9, y10] ∧ (upd H5 ra (.lst (rgV (vs.length : Int) ((vs.length : Int) + (1 + sz))))) ra' = some (.lst (row.map V.int)) ∧ row.Nodup ∧ (∀ x ∈ row, (vs.length : Int) ≤ x ∧ x < vs.length + (1 + sz)) ∧ row.length ≤ 12 ∧ Gr t H5 (upd H5 ra (.lst (rgV (vs.length : Int) ((vs.length : Int) + (1 + sz))))) ∧ Tape (upd H5 ra (.lst (rgV (vs.length : Int) ((vs.length : Int) + (1 + sz))))) t l := by
              obtain ⟨ra', row, e, h1, h2, h3, h4⟩ := first
              subst e
              exact ⟨ra', row, rfl, h1, h2, h3, h4, Gr.new hra, T5.new hra⟩
            refine ⟨_, rfl, rfl, _, rfl, ?_⟩
            refine ite2 (fun _ => ?_) (fun _ => keep)
            refine ⟨_, rfl, _, _, rfl, rfl, _, rfl, ?_⟩
            refine ite2 (fun hc => ?_) (fun _ => keep)
            have hc2 := of_decide_eq_true hc
            refine ⟨_, rfl, _, rfl, _, _, rfl, rfl, _, rfl, _, rfl, _, _, rfl, rfl, .inl ⟨_, rfl, _, rfl, _, _, rfl, rfl, (by show (0 : Int) < 1 + sz; omega), _, _, rfl, rfl, by show 2 ≤ sizeLine; decide, fun q hq => ?_⟩⟩
            have hq5 : H5 q = none := Gr.fresh (Gr.new hra) (T5.new hra) hq
            have m0 := Int.emod_nonneg (0 + (i : Int) + 1) (show (1 + sz) ≠ 0 by omega)
            have m1 := Int.emod_lt_of_pos (0 + (i : Int) + 1) (show 0 < 1 + sz by omega)
            have mn := mod_ne (show (0 : Int) ≤ 0 + (i : Int) by omega) hik hc2
            refine ⟨q, [(vs.length : Int) + (0 + (i : Int)), (vs.length : Int) + (0 + (i : Int) + 1) % (1 + sz)], rfl, upd_same, ?_, fun x hx => ?_, by show 2 ≤ 12; decide, gr_mut (Gr.new hra) hq5, (T5.new hra).new hq⟩
            · refine List.pairwise_cons.mpr ⟨fun b hb => ?_, List.pairwise_singleton _ _⟩
              rw [List.mem_singleton.mp hb]
              omega
            · rcases List.mem_cons.mp hx with h | h
              · omega
              · rw [List.mem_singleton.mp h]
                omega
          · rintro σ' H6 ⟨rb, row, rfl, hrb, hnd, hrr, hrl, g6, T6⟩
            -- if kind == 2
            refine ⟨fun σ' H' => ∃ (ra : Addr) (row : List Int), σ' = [some (.ref t), some (.int n), some (.ref fa), some (.int (vs.length : Nat)), some (.int (1 + sz)), some (.int kd), some (.int (0 + (i : Int))), some (.ref ra), y8, y9, y10] ∧ H' ra = some (.lst (row.map V.int)) ∧ row.Nodup ∧ (∀ x ∈ row, (vs.length : Int) ≤ x ∧ x < vs.length + (1 + sz)) ∧ row.length ≤ 12 ∧ Gr t H5 H' ∧ Tape H' t l, ?_, ?_⟩
            · refine ⟨_, rfl, rfl, _, rfl, ?_⟩
              refine ite2 (fun _ => ?_) (fun _ => ⟨rb, row, rfl, hrb, hnd, hrr, hrl, g6, T6⟩)
              refine ⟨_, rfl, _, _, rfl, rfl, _, rfl, ?_⟩
              refine ite2 (fun _ => ?_) (fun _ => ⟨rb, row, rfl, hrb, hnd, hrr, hrl, g6, T6⟩)
              refine ⟨_, rfl, _, rfl, by omega, by omega, fun D hD => ?_⟩
              have hD5 : H5 D = none := g6.fresh T6 hD
              refine lc_range (lo := 0) (n := (1 + sz).toNat) (fun j H' => ∃ out : List Int, H' D = some (.lst (out.map V.int)) ∧ out.length ≤ j ∧ out.Pairwise (· < ·) ∧ (∀ x ∈ out, (vs.length : Int) ≤ x ∧ x < vs.length + (j : Int)) ∧ Gr t H6 H' ∧ Tape H' t l)
                ⟨[], upd_same, Nat.le_refl _, .nil, fun _ h => (by cases h), Gr.new hD, T6.new hD⟩ ?_ ?_
              · rintro j H7 hj ⟨out, hDo, hol, hop, hor, g7, T7⟩
                refine ⟨rfl, _, rfl, _, rfl, rfl, _, rfl, ?_⟩
                refine ite2 (fun _ => ?_) (fun _ => ⟨out, hDo, by omega, hop, fun x hx => by have := hor x hx; omega, g7, T7⟩)
                refine ⟨_, rfl, _, rfl, _, _, rfl, rfl, _, hDo, by rw [List.length_map]; exact small_lt (by omega), ?_⟩
                refine ⟨out ++ [(vs.length : Int) + (0 + (j : Int))], by rw [upd_same, map_snoc], by rw [List.length_append, List.length_singleton]; omega, asc_snoc hop fun x hx => by have := hor x hx; omega, fun x hx => ?_, gr_mut g7 hD, T7.mut (T6.free hD)⟩
                rcases List.mem_append.mp hx with h | h
                · have := hor x h
                  omega
                · rw [List.mem_singleton.mp h]
                  omega
              · rintro H7 ⟨out, hDo, hol, hop, hor, g7, T7⟩
                exact ⟨D, out, rfl, hDo, nodup_of_lt hop, fun x hx => by have := hor x hx; omega, by omega, g6.trans g7, T7⟩
            · rintro σ' H7 ⟨rc, row2, rfl, hrc, hnd2, hrr2, hrl2, g7, T7⟩
              -- ahead
              refine ⟨_, rfl, _, rfl, by omega, by omega, fun D hD => ?_⟩
              have nD := T7.free hD
              refine lc_range (lo := 0) (n := ((vs.length : Nat) : Int).toNat) (fun j H' => ∃ out : List Int, H' D = some (.lst (out.map V.int)) ∧ out.length ≤ j ∧ out.Pairwise (· < ·) ∧ (∀ x ∈ out, 0 ≤ x ∧ x < (j : Int)) ∧ Gr t H7 H' ∧ Tape H' t l)
                ⟨[], upd_same, Nat.le_refl _, .nil, fun _ h => (by cases h), Gr.new hD, T7.new hD⟩ ?_ ?_
              · rintro j H8 hj ⟨out, hDo, hol, hop, hor, g8, T8⟩
                refine ⟨rfl, _, rfl, t, l, 4, rfl, T8, by decide, by decide, fun x H9 _ _ g9 T9 => ⟨rfl, _, rfl, ?_⟩⟩
                have hD9 : H9 D = some (.lst (out.map V.int)) := g9 _ _ nD.1 hDo
                refine ite2 (fun _ => ?_) (fun _ => ⟨out, hD9, by omega, hop, fun x hx => by have := hor x hx; omega, g8.trans g9, T9⟩)
                refine ⟨_, rfl, _, hD9, by rw [List.length_map]; exact small_lt (by omega), ?_⟩
                refine ⟨out ++ [0 + (j : Int)], by rw [upd_same, map_snoc], by rw [List.length_append, List.length_singleton]; omega, asc_snoc hop fun x hx => by have := hor x hx; omega, fun x hx => ?_, gr_mut (g8.trans g9) hD, T9.mut nD⟩
                rcases List.mem_append.mp hx with h | h
                · have := hor x h
                  omega
                · rw [List.mem_singleton.mp h]
                  omega
              · rintro H8 ⟨out, hDo, hol, hop, hor, g8, T8⟩
                have g58 := g7.trans g8
                have hfa8 : H8 fa = some (.lst vs') := g58 _ _ nf.1 hfa5
                have hrc8 : H8 rc = some (.lst (row2.map V.int)) := g8 _ _ (T7.ne_ints' hrc) hrc
                have hrs8 := hrs5.gr g58 T5
                refine ⟨_, rfl, .inl ⟨rfl, _, SqL.of hfa8⟩, _, rfl, _, rfl, rc, D, _, _, rfl, rfl, hrc8, hDo, by rw [List.length_map, List.length_map]; exact small_le (by omega), fun ca hca => ?_⟩
                have ncf : fa ≠ ca := ne_of_none hfa8 hca
                refine ⟨ca, row2 ++ out, rfl, SqL.of (by rw [upd_same, List.map_append]), fun ns' p pms so hp => ⟨p, _, rfl, .inl ⟨SqL.of upd_same, fun q hq => ?_⟩⟩⟩
                have npf : fa ≠ p := ne_of_none (show (upd H8 ca (.lst (row2.map V.int ++ out.map V.int))) fa = some (.lst vs') by rw [upd_ne ncf]; exact hfa8) hp
                have nqf : fa ≠ q := ne_of_none (show (upd (upd H8 ca (.lst (row2.map V.int ++ out.map V.int))) p (.lst (ns'.map V.int))) fa = some (.lst vs') by rw [upd_ne npf, upd_ne ncf]; exact hfa8) hq
                have e9 : (upd (upd (upd H8 ca (.lst (row2.map V.int ++ out.map V.int))) p (.lst (ns'.map V.int))) q (.tup (ns'.map V.int))) fa = some (.lst vs') := by rw [upd_ne nqf, upd_ne npf, upd_ne ncf]; exact hfa8
                have g89 : Gr t H8 (upd (upd (upd H8 ca (.lst (row2.map V.int ++ out.map V.int))) p (.lst (ns'.map V.int))) q (.tup (ns'.map V.int))) := ((Gr.new hca).trans (Gr.new hp)).trans (Gr.new hq)
                have T9 := ((T8.new (o := .lst (row2.map V.int ++ out.map V.int)) hca).new (o := .lst (ns'.map V.int)) hp).new (o := .tup (ns'.map V.int)) hq
                refine ⟨fa, vs', .ref q, rfl, rfl, e9, small_lt (by rw [hrs5.len]; omega), ?_⟩
                have nd : (row2 ++ out).Nodup := by
                  show (row2 ++ out).Pairwise (· ≠ ·)
                  rw [List.pairwise_append]
                  exact ⟨hnd2, nodup_of_lt hop, fun a ha b hb q => by
                    have := hrr2 a ha
                    have := hor b hb
                    omega⟩
                refine ⟨vs' ++ [.ref q], rs' ++ [ns'], _, _, _, _, _, rfl, by rw [List.length_append, hl']; rfl, upd_same, ?_, ⟨fun r hr => ?_, fun r hr x hx => ?_⟩, gr_mut (g5.trans (g58.trans g89)) hf, T9.mut nf⟩
                · exact RowsT.snoc (SqT.of (by rw [upd_ne nqf.symm, upd_same])) ((hrs8.gr g89 T8).put e9)
                · rcases List.mem_append.mp hr with h | h
                  · exact hB5.asc r h
                  · rw [List.mem_singleton.mp h]
                    exact asc_of pms so nd
                · rcases List.mem_append.mp hr with h | h
                  · exact hB5.rng r h x hx
                  · rw [List.mem_singleton.mp h] at hx
                    rcases List.mem_append.mp (pms.mem_iff.mp hx) with h2 | h2
                    · have := hrr2 x h2
                      omega
                    · have := hor x h2
                      omega
        · rintro σ' H5 ⟨vs', rs', y6, y7, y8, y9, y10, rfl, hl', hfa5, hrs5, hB5, g5, T5⟩
          refine ⟨n.toNat - rs'.length, by omega, vs', rs', _, _, _, _, _, _, _, _, rfl, by omega, hfa5, hrs5, ⟨hB5.asc, fun r hr x hx => ?_⟩, g5, T5⟩
          have := hB5.rng r hr x hx
          omega
/-! ### rows -/
def spRows (K : PySem.W.Frag) : Sp := fun vs H Q _ => ∃ (t l : Addr) (n : Int), vs = [.ref t, .int n] ∧ Tape H t l ∧ 1 ≤ n ∧ n ≤ 12 ∧ ∀ (v : V) (rows : List (List Int)) (H' : Hp), Good rows → (rows.length : Int) ≤ n → Gr t H H' → Tape H' t l → RowsAt K H' v rows → Q v H'
theorem ok_rows (A : At K mg "_law_rows" s_law_rows ["tape", "most"]) (T : Tx mg) (G_law_pick : Dfn P w K mg base "_law_pick" ["tape", "size"] 1 spPick) (G_law_moved : Dfn P w K mg base "_law_moved" ["tape", "rows"] 3 (spMoved K)) (G_law_blocks : Dfn P w K mg base "_law_blocks" ["tape", "most"] 2 (spBlocks K)) (G_law_loose : Dfn P w K mg base "_law_loose" ["tape", "many"] 3 (spLoose K)) : Dfn P w K mg base "_law_rows" ["tape", "most"] 4 (spRows K) := by
  refine A.ok sc_law_rows (fun vs H Q E h => ?_) (fun f cdv A outer s H vs Q E hr h => ?_)
  · obtain ⟨t, l, n, rfl, _⟩ := h
    rfl
  · obtain ⟨t, l, n, rfl, hT, hn, hn2, k⟩ := h
    refine ⟨_, (pss_cons (ps_set (i := 2) sc_law_rows.nd rfl (Or.inl rfl) (pe_d G_law_pick (hr.mono (by decide)) (pa_cons (pv 0) (pa_cons pe_int pa_nil))))
      (pss_cons (ps_if (pt_cmpR op_eq (pv 2) pe_int (nomark _)) (pss_one (ps_ret (pe_d G_law_moved (hr.mono (by decide)) (pa_cons (pv 0) (pa_cons (pe_d G_law_blocks (hr.mono (by decide)) (pa_cons (pv 0) (pa_cons (pv 1) pa_nil))) pa_nil))))) pss_nil)
      (pss_one (ps_ret (pe_d G_law_loose (hr.mono (by decide)) (pa_cons (pv 0) (pa_cons (pe_op op_add pe_int (pe_d G_law_pick (hr.mono (by decide)) (pa_cons (pv 0) (pa_cons (pv 1) pa_nil)))) pa_nil))))))), ?_⟩
    refine ⟨_, rfl, t, l, 3, rfl, hT, by decide, by decide, fun kd H1 _ _ g1 T1 => ?_⟩
    refine ⟨_, rfl, rfl, _, rfl, ?_⟩
    refine ite2 (fun _ => ?_) (fun _ => ?_)
    · refine ⟨_, rfl, _, rfl, _, rfl, t, l, n, rfl, T1, hn, hn2, fun v rows H2 G hl g2 T2 R2 => ?_⟩
      refine ⟨t, l, v, rows, rfl, T2, G, by omega, R2, fun v' rows' H3 G' hl' g3 T3 R3 => ?_⟩
      exact k v' rows' H3 G' (by omega) ((g1.trans g2).trans g3) T3 R3
    · refine ⟨_, rfl, _, rfl, _, rfl, t, l, n, rfl, T1, by omega, by omega, fun x H2 x0 x1 g2 T2 => ⟨_, _, rfl, rfl, ?_⟩⟩
      refine ⟨t, l, 1 + x, rfl, T2, by omega, by omega, fun v rows H3 G hl g3 T3 R3 => ?_⟩
      exact k v rows H3 G (by omega) ((g1.trans g2).trans g3) T3 R3
end
end Fo

set_option maxRecDepth 100000
set_option maxHeartbeats 4000000
namespace Fo
open PySem PySem.Spec PyProof.Rows L2
abbrev s_is_integer : Stmt := top 8
abbrev n_is_integer : List Str := ["thing"]
theorem sc_is_integer : FnScope n_is_integer ["thing"] (defScope s_is_integer) := ⟨rfl, rfl, rfl, by decide +kernel, rfl, by decide +kernel, by decide +kernel⟩
abbrev s_is_number : Stmt := top 9
abbrev n_is_number : List Str := ["bound", "thing"]
theorem sc_is_number : FnScope n_is_number ["bound", "thing"] (defScope s_is_number) := ⟨rfl, rfl, rfl, by decide +kernel, rfl, by decide +kernel, by decide +kernel⟩
abbrev s_is_numbers : Stmt := top 10
abbrev n_is_numbers : List Str := ["bound", "thing", "one"]
theorem sc_is_numbers : FnScope n_is_numbers ["bound", "thing"] (defScope s_is_numbers) := ⟨rfl, rfl, rfl, by decide +kernel, rfl, by decide +kernel, by decide +kernel⟩
abbrev s_is_ascending : Stmt := top 11
abbrev n_is_ascending : List Str := ["bound", "thing", "low", "high"]
theorem sc_is_ascending : FnScope n_is_ascending ["bound", "thing"] (defScope s_is_ascending) := ⟨rfl, rfl, rfl, by decide +kernel, rfl, by decide +kernel, by decide +kernel⟩
abbrev s_check_rows : Stmt := top 23
abbrev n_check_rows : List Str := ["rows", "person", "row"]
theorem sc_check_rows : FnScope n_check_rows ["rows"] (defScope s_check_rows) := ⟨rfl, rfl, rfl, by decide +kernel, rfl, by decide +kernel, by decide +kernel⟩
abbrev s_Table___init : Stmt := inClass (top 22) 0
abbrev n_Table___init : List Str := ["self", "rows"]
theorem sc_Table___init : FnScope n_Table___init ["self", "rows"] (defScope s_Table___init) := ⟨rfl, rfl, rfl, by decide +kernel, rfl, by decide +kernel, by decide +kernel⟩
abbrev s_Table___eq : Stmt := inClass (top 22) 1
abbrev n_Table___eq : List Str := ["self", "other"]
theorem sc_Table___eq : FnScope n_Table___eq ["self", "other"] (defScope s_Table___eq) := ⟨rfl, rfl, rfl, by decide +kernel, rfl, by decide +kernel, by decide +kernel⟩
section
variable {P : Program} {w : World} {K : PySem.W.Frag} {mg : Str → Option Value} {base : Heap} {C : Addr}
def spInteger (K : PySem.W.Frag) (C : Addr) : Sp := fun vs H Q _ => ∃ x, vs = [x] ∧ Th K C H x ∧ Q (.bl (isIntV x)) H
theorem ok_is_integer (A : At K mg "is_integer" s_is_integer ["thing"]) (T : Tx mg) (tc : TC K C) : Dfn P w K mg base "is_integer" ["thing"] 1 (spInteger K C) := by
  refine A.ok sc_is_integer (fun vs H Q E h => ?_) (fun f cdv A outer s H vs Q E hr h => ?_)
  · obtain ⟨x, rfl, _⟩ := h
    rfl
  · obtain ⟨x, rfl, hx, k⟩ := h
    obtain ⟨t, b1, b2, ty, h1, h2, h3⟩ := th_kit tc hx
    refine ⟨_, (pss_one (ps_ret (pe_and (pe_callB call_isi (by rfl) T.isinstance (by decide +kernel) (pa_cons (pv 0) (pa_cons (pe_bltn (v := V.ty "int") (by rfl) T.int (by decide +kernel) rfl) pa_nil))) (pe_one (pe_not (pe_callB call_isi (by rfl) T.isinstance (by decide +kernel) (pa_cons (pv 0) (pa_cons (pe_bltn (v := V.ty "bool") (by rfl) T.bool (by decide +kernel) rfl) pa_nil)))))))), ?_⟩
    refine ⟨_, rfl, x, .ty "int", t, .type "int", b1, rfl, .ty "int", ty, h1, b1, rfl, ?_⟩
    cases b1 with
    | true =>
      refine ⟨_, rfl, x, .ty "bool", t, .type "bool", b2, rfl, .ty "bool", ty, h2, b2, rfl, ?_⟩
      rw [Bool.true_and] at h3
      rw [h3]
      exact k
    | false =>
      rw [Bool.false_and] at h3
      rw [← h3] at k
      exact k
def spNumber (K : PySem.W.Frag) (C : Addr) : Sp := fun vs H Q _ => ∃ (b : Int) (x : V), vs = [.int b, x] ∧ Th K C H x ∧ Q (.bl (numV b x)) H
theorem ok_is_number (A : At K mg "is_number" s_is_number ["bound", "thing"]) (T : Tx mg) (G_is_integer : Dfn P w K mg base "is_integer" ["thing"] 1 (spInteger K C)) : Dfn P w K mg base "is_number" ["bound", "thing"] 2 (spNumber K C) := by
  refine A.ok sc_is_number (fun vs H Q E h => ?_) (fun f cdv A outer s H vs Q E hr h => ?_)
  · obtain ⟨b, x, rfl, _⟩ := h
    rfl
  · obtain ⟨b, x, rfl, hx, k⟩ := h
    refine ⟨_, (pss_one (ps_ret (pe_and (pe_d G_is_integer (hr.mono (by decide)) (pa_cons (pv 1) pa_nil)) (pe_one (pe_chain op_le op_lt pe_int (pv 1) (pv 0)))))), ?_⟩
    refine ⟨_, rfl, x, rfl, hx, _, rfl, ?_⟩
    cases x with
    | int i =>
      have k : Q (.bl (decide (0 ≤ i) && decide (i < b))) H := k
      refine ⟨_, rfl, 0, i, rfl, rfl, _, rfl, ?_⟩
      refine ite2 (fun h1 => ?_) (fun h1 => ?_)
      · rw [h1, Bool.true_and] at k
        exact ⟨_, rfl, i, b, rfl, rfl, k⟩
      · rw [show decide (0 ≤ i) = false from Bool.eq_false_iff.mpr h1, Bool.false_and] at k
        exact k
    | _ => exact k
def numbersOf (b : Int) : Option (List V) → Bool
  | some xs => xs.all (numV b)
  | none => false
def spNumbers (K : PySem.W.Frag) (C : Addr) : Sp := fun vs H Q _ => ∃ (b : Int) (x : V) (o : Option (List V)), vs = [.int b, x] ∧ Tg K C H x o ∧ ∀ H', Same H H' → Q (.bl (numbersOf b o)) H'
theorem ok_is_numbers (A : At K mg "is_numbers" s_is_numbers ["bound", "thing"]) (T : Tx mg) (G_is_number : Dfn P w K mg base "is_number" ["bound", "thing"] 2 (spNumber K C)) : Dfn P w K mg base "is_numbers" ["bound", "thing"] 3 (spNumbers K C) := by
  refine A.ok sc_is_numbers (fun vs H Q E h => ?_) (fun f cdv A outer s H vs Q E hr h => ?_)
  · obtain ⟨b, x, o, rfl, _⟩ := h
    rfl
  · obtain ⟨b, x, o, rfl, hx, k⟩ := h
    refine ⟨_, (pss_one (ps_ret (pe_and (pe_callB call_isi (by rfl) T.isinstance (by decide +kernel) (pa_cons (pv 1) (pa_cons (pe_bltn (v := V.ty "tuple") (by rfl) T.tuple (by decide +kernel) rfl) pa_nil))) (pe_one (pe_callB (cr_all rfl) (by rfl) T.all (by decide +kernel) (pa_cons (pe_lc (own := [("one", 2)]) (g := (gName 2)) (tt := tYes) (te := (tCall (spNumber K C) [] E0 (tCons (tVar 0) (tCons (tVar 2) tNil)))) (by rfl) sc_is_numbers.nd (pi_tup (pv 1)) (blkOk_by (own := [("one", 2)]) (N := n_is_numbers) (sc := (defScope s_is_numbers)) (by decide +kernel)) (fun _ _ _ _ _ => (pg_name (i := 2) sc_is_numbers.nd rfl (Or.inl rfl))) (fun _ _ _ _ _ => pts_nil) (fun _ _ _ _ _ => (pe_d G_is_number (hr.mono (by decide)) (pa_cons (pv 0) (pa_cons (pv 2) pa_nil))))) pa_nil)))))), ?_⟩
    cases hx with
    | no ty hk => exact ⟨_, rfl, x, .ty "tuple", _, .type "tuple", false, rfl, .ty "tuple", ty, hk, false, rfl, k H (Same.refl H)⟩
    | @tup a xs hq hi hz =>
      refine ⟨_, rfl, .ref a, .ty "tuple", _, .type "tuple", true, rfl, .ty "tuple", tyX_sqT hq, kit_ty (by decide +kernel), true, rfl, ?_⟩
      refine ⟨_, rfl, a, rfl, ⟨xs, hq⟩, fun D hD => lc_tup (xs := xs) (fun i H' => H' D = some (.lst ((xs.take i).map fun x => V.bl (numV b x))) ∧ Same H H') ⟨by rw [upd_same]; rfl, same_new hD⟩ (fun i H' _ p => sqT_same p.2 hq) (fun i y H' hy p => ?_) (fun H' p => ?_)⟩
      · refine ⟨rfl, _, rfl, _, rfl, b, y, rfl, (hi y (List.mem_of_getElem? hy)).same p.2, _, p.1, by rw [List.length_map]; exact small_lt (Nat.le_trans (List.length_take_le _ _) (by have := (List.getElem?_eq_some_iff.mp hy).1; omega)), ?_, same_mut p.2 hD⟩
        rw [upd_same, List.take_add_one, hy, List.map_append]
        rfl
      · obtain ⟨p1, p2⟩ := p
        rw [List.take_length] at p1
        refine ⟨D, xs.map (numV b), rfl, SqL.of (by rw [p1, List.map_map]; rfl), ?_⟩
        have e : (xs.map (numV b)).all id = numbersOf b (some xs) := by
          show _ = xs.all (numV b)
          rw [List.all_map]
          rfl
        rw [e]
        exact k H' p2
def ascOf (b : Int) : Option (List V) → Bool
  | some xs => ascV b xs
  | none => false
def spAsc (K : PySem.W.Frag) (C : Addr) : Sp := fun vs H Q _ => ∃ (b : Int) (x : V) (o : Option (List V)), vs = [.int b, x] ∧ Tg K C H x o ∧ ∀ H', Same H H' → Q (.bl (ascOf b o)) H'
theorem asc_lc {a p D : Addr} {ns : List Int} {H2 : Hp} {b : Int} {Qd : Hp → Prop} (hD : H2 D = none) (hx : SqT K H2 a (ns.map V.int)) (hy : SqT K H2 p ((ns.map V.int).drop 1)) (hz : ns.length ≤ 100000)
    (hd : ∀ H', Same H2 H' → H' D = some (.lst (((ns.map V.int).zip ((ns.map V.int).drop 1)).map fun q => V.bl (ltV q.1 q.2))) → Qd H') :
    ∃ W : Nat → Nat → Hp → Prop, (∃ m, W 0 m (upd H2 D (.lst []))) ∧ ∀ i m H, W i m H →
      ((RZ.ItzT K a p).stop i H ∧ Qd H) ∨ ((RZ.ItzT K a p).go i H ∧ ∃ Nx : Hp → Prop, (∀ H', Nx H' → ∃ m', m' < m ∧ W (i + 1) m' H') ∧ ∀ x H', (RZ.ItzT K a p).yld i H x H' → (gTup K 2 (gCons (gName 2) (gCons (gName 3) gNil))) x (wipe [some (.int b), some (.ref a), none, none] [2, 3]) H' fun σ2 H2 => wipe σ2 [2, 3] = wipe [some (.int b), some (.ref a), none, none] [2, 3] ∧ tYes σ2 H2 fun c H3 =>
        if c = true then (tOp (rI0 fun i j => V.bl (decide (i < j))) (tVar 2) (tVar 3)) σ2 H3 fun y H4 => ∃ acc, H4 D = some (.lst acc) ∧ acc.length < sizeLine ∧ Nx (upd H4 D (.lst (acc ++ [y]))) else Nx H3) := by
  refine lc_zipT (xs := ns.map V.int) (ys := (ns.map V.int).drop 1) (by rw [List.length_drop]; omega) (fun i H' => H' D = some (.lst ((((ns.map V.int).zip ((ns.map V.int).drop 1)).take i).map fun q => V.bl (ltV q.1 q.2))) ∧ Same H2 H') ⟨by rw [upd_same]; rfl, same_new hD⟩ (fun i H' _ q => ⟨sqT_same q.2 hx, sqT_same q.2 hy⟩) ?_ ?_
  · rintro i x y H3 T hxi hyi ⟨q1, q2⟩ hT
    have hDT : D ≠ T := ne_of_none q1 hT
    obtain ⟨u, rfl⟩ : ∃ u, x = V.int u := by
      rw [List.getElem?_map] at hxi
      cases e : ns[i]? with
      | none => rw [e] at hxi; cases hxi
      | some u => rw [e] at hxi; exact ⟨u, (Option.some.inj hxi).symm⟩
    obtain ⟨v, rfl⟩ : ∃ v, y = V.int v := by
      rw [List.getElem?_drop, List.getElem?_map] at hyi
      cases e : ns[1 + i]? with
      | none => rw [e] at hyi; cases hyi
      | some v => rw [e] at hyi; exact ⟨v, (Option.some.inj hyi).symm⟩
    have hzip : ((ns.map V.int).zip ((ns.map V.int).drop 1))[i]? = some (V.int u, V.int v) := List.getElem?_zip_eq_some.mpr ⟨hxi, hyi⟩
    refine ⟨T, [.int u, .int v], rfl, SqT.of upd_same, rfl, .int u, [.int v], rfl, .int v, [], rfl, rfl, rfl, _, rfl, _, rfl, u, v, rfl, rfl, _, by rw [upd_ne hDT]; exact q1, by rw [List.length_map]; exact small_lt (Nat.le_trans (List.length_take_le _ _) (by have := (List.getElem?_eq_some_iff.mp hxi).1; rw [List.length_map] at this; omega)), ?_, same_mut (q2.trans (same_new hT)) hD⟩
    rw [upd_same, List.take_add_one, hzip, List.map_append]
    rfl
  · rintro H3 ⟨q1, q2⟩
    refine hd H3 q2 ?_
    rw [q1, List.take_of_length_le]
    rw [List.length_zip]
    exact Nat.min_le_right _ _
theorem ok_is_ascending (A : At K mg "is_ascending" s_is_ascending ["bound", "thing"]) (T : Tx mg) (G_is_numbers : Dfn P w K mg base "is_numbers" ["bound", "thing"] 3 (spNumbers K C)) : Dfn P w K mg base "is_ascending" ["bound", "thing"] 4 (spAsc K C) := by
  refine A.ok sc_is_ascending (fun vs H Q E h => ?_) (fun f cdv A outer s H vs Q E hr h => ?_)
  · obtain ⟨b, x, o, rfl, _⟩ := h
    rfl
  · obtain ⟨b, x, o, rfl, hx, k⟩ := h
    refine ⟨_, (pss_one (ps_ret (pe_and (pe_d G_is_numbers (hr.mono (by decide)) (pa_cons (pv 0) (pa_cons (pv 1) pa_nil))) (pe_one (pe_callB (cr_all rfl) (by rfl) T.all (by decide +kernel) (pa_cons (pe_lc (own := [("low", 2), ("high", 3)]) (g := (gTup K 2 (gCons (gName 2) (gCons (gName 3) gNil)))) (tt := tYes) (te := (tOp (rI0 fun i j => V.bl (decide (i < j))) (tVar 2) (tVar 3))) (by rfl) sc_is_ascending.nd (RZ.pi_zipA (by rfl) T.zip (pa_cons (pv 1) (pa_cons (pe_slice sl_tupA (pv 1) (po_some pe_int) po_none) pa_nil))) (blkOk_by (own := [("low", 2), ("high", 3)]) (N := n_is_ascending) (sc := (defScope s_is_ascending)) (by decide +kernel)) (fun _ _ _ _ _ => (pg_tup rfl (pgs_cons (pg_name (i := 2) sc_is_ascending.nd rfl (Or.inl rfl)) (pgs_cons (pg_name (i := 3) sc_is_ascending.nd rfl (Or.inl rfl)) pgs_nil)))) (fun _ _ _ _ _ => pts_nil) (fun _ _ _ _ _ => (pe_cmpR op_lt (pv 2) (pv 3) (nomark _)))) pa_nil)))))), ?_⟩
    refine ⟨_, rfl, _, rfl, b, x, o, rfl, hx, fun H1 s1 => ⟨_, rfl, ?_⟩⟩
    cases hx with
    | no ty hk => exact k H1 s1
    | @tup a xs hq hi hz =>
      have kk : ∀ H', Same H H' → Q (.bl (ascV b xs)) H' := k
      show if xs.all (numV b) = true then _ else _
      cases hn : xs.all (numV b) with
      | false =>
        have e : ascV b xs = false := by rw [ascV_eq, hn]; rfl
        rw [e] at kk
        exact kk H1 s1
      | true =>
        obtain ⟨ns, rfl, hb⟩ := all_num_ints hn
        have hq1 := sqT_same s1 hq
        have cut : cutV (ns.map V.int) (some 1) none = (ns.map V.int).drop 1 := by
          unfold cutV
          rw [show HT.sIx (ns.map V.int).length 0 (some 1) = min 1 (ns.map V.int).length from HT.sIx_nat _ 0 1, HT.sIx_none]
          cases ns with
          | nil => rfl
          | cons x r =>
            rw [show min 1 ((x :: r).map V.int).length = 1 by rw [List.map_cons, List.length_cons]; omega]
            show List.take (((x :: r).map V.int).length - 1) (r.map V.int) = r.map V.int
            rw [List.map_cons, List.length_cons, Nat.add_sub_cancel]
            exact List.take_length
        have kk2 : ∀ (D : Addr) (H' : Hp), Same H H' → H' D = some (.lst (((ns.map V.int).zip ((ns.map V.int).drop 1)).map fun q => V.bl (ltV q.1 q.2))) → ∃ (a : Addr) (bs : List Bool), [V.ref D] = [V.ref a] ∧ SqL K H' a (bs.map V.bl) ∧ Q (.bl (bs.all id)) H' := fun D H' s2 hD => by
          refine ⟨D, ((ns.map V.int).zip ((ns.map V.int).drop 1)).map fun q => ltV q.1 q.2, rfl, SqL.of (by rw [hD, List.map_map]; rfl), ?_⟩
          have e : ((((ns.map V.int).zip ((ns.map V.int).drop 1)).map fun q => ltV q.1 q.2).all id) = ascV b (ns.map V.int) := by
            rw [ascV_eq, hn, Bool.true_and, List.all_map]
            rfl
          rw [e]
          exact kk H' s2
        have nz : ns.length ≤ 100000 := by rw [List.length_map] at hz; exact hz
        refine ⟨_, rfl, _, rfl, 1, rfl, a, ns.map V.int, rfl, hq1, fun hw => ?_, fun hw p hp => ?_⟩
        · have e0 : ns = [] := by
            cases ns with
            | nil => rfl
            | cons x r =>
              have h1 := hw.1
              rw [show HT.sIx ((x :: r).map V.int).length 0 (some 1) = min 1 ((x :: r).map V.int).length from HT.sIx_nat _ 0 1, List.map_cons, List.length_cons] at h1
              omega
          have hy : SqT K H1 a ((ns.map V.int).drop 1) := by rw [e0] at hq1 ⊢; exact hq1
          exact ⟨a, a, _, _, rfl, .inr ⟨hq1, hy, fun D hD => asc_lc hD hq1 hy nz fun H' s2 q => kk2 D H' (s1.trans s2) q⟩⟩
        · rw [cut]
          have hx2 := sqT_same (same_new (o := .tup ((ns.map V.int).drop 1)) hp) hq1
          exact ⟨a, p, _, _, rfl, .inr ⟨hx2, SqT.of upd_same, fun D hD => asc_lc hD hx2 (SqT.of upd_same) nz fun H' s2 q => kk2 D H' ((s1.trans (same_new hp)).trans s2) q⟩⟩
/-! ### the class -/
def spCheck (K : PySem.W.Frag) : Sp := fun vs H Q _ => ∃ (v : V) (rows : List (List Int)), vs = [v] ∧ Good rows ∧ rows.length ≤ 12 ∧ RowsAt K H v rows ∧ ∀ H', Same H H' → Q .non H'
theorem ok_check (A : At K mg "_check_rows" s_check_rows ["rows"]) (T : Tx mg) {tk : Tok} (hMR : mg "MOST_ROWS" = some (.int 12 tk)) (G_is_ascending : Dfn P w K mg base "is_ascending" ["bound", "thing"] 4 (spAsc K C)) : Dfn P w K mg base "_check_rows" ["rows"] 5 (spCheck K) := by
  refine A.ok sc_check_rows (fun vs H Q E h => ?_) (fun f cdv A outer s H vs Q E hr h => ?_)
  · obtain ⟨v, rows, rfl, _⟩ := h
    rfl
  · obtain ⟨v, rows, rfl, hG, hl, ⟨a, vs, rfl, ha, hrs⟩, k⟩ := h
    have vl := hrs.len
    have hp := hG.pos
    refine ⟨_, (pss_cons (ps_if (PW.pt (pw_or (pt_not (pt_val (pe_callB call_isi (by rfl) T.isinstance (by decide +kernel) (pa_cons (pv 0) (pa_cons (pe_bltn (v := V.ty "tuple") (by rfl) T.tuple (by decide +kernel) rfl) pa_nil))))) (pw_or1 (pt_not (pt_chain op_le op_le pe_int (pe_callB c_len (by rfl) T.len (by decide +kernel) (pa_cons (pv 0) pa_nil)) (pe_glob (v := V.int 12) (by rfl) hMR ⟨_, rfl⟩)))))) (pss_one ps_never) pss_nil)
      (pss_one (ps_for PassesOwn.never rfl (pi_enumT (by rfl) T.enumerate (pa_cons (pv 0) pa_nil)) (pg_tup rfl (pgs_cons (pg_name (i := 1) sc_check_rows.nd rfl (Or.inl rfl)) (pgs_cons (pg_name (i := 2) sc_check_rows.nd rfl (Or.inl rfl)) pgs_nil)))
      (pss_one (ps_if (pt_not (pt_val (pe_d G_is_ascending (hr.mono (by decide)) (pa_cons (pe_callB c_len (by rfl) T.len (by decide +kernel) (pa_cons (pv 0) pa_nil)) (pa_cons (pv 2) pa_nil))))) (pss_one ps_never) pss_nil))))), ?_⟩
    refine ⟨_, rfl, .ref a, .ty "tuple", _, .type "tuple", true, rfl, .ty "tuple", tyX_sqT ha, kit_ty (by decide +kernel), true, rfl, ?_⟩
    refine ⟨_, rfl, a, vs, rfl, .inr ha, 1, _, rfl, rfl, _, rfl, ?_⟩
    have d1 : decide ((1 : Int) ≤ (vs.length : Nat)) = true := decide_eq_true (by omega)
    have d2 : decide (((vs.length : Nat) : Int) ≤ 12) = true := decide_eq_true (by omega)
    rw [d1]
    refine ⟨_, 12, rfl, rfl, ?_⟩
    refine ⟨_, rfl, ?_⟩
    rw [d2]
    refine ⟨_, rfl, a, vs, rfl, ha, for_enumT (xs := vs) (fun i σ' H' => ∃ x1 x2, σ' = [some (.ref a), x1, x2] ∧ Same H H') ⟨_, _, rfl, Same.refl H⟩ (fun i σ' H' _ ⟨_, _, _, s⟩ => sqT_same s ha) ?_ ?_⟩
    · rintro i x σ' H' T' hx ⟨x1, x2, rfl, s1⟩ hT
      obtain ⟨r, hr1, hr2⟩ : ∃ r, rows[i]? = some r ∧ ∃ q, x = .ref q ∧ SqT K H q (r.map V.int) := by
        have hi : i < rows.length := by rw [← vl]; exact (List.getElem?_eq_some_iff.mp hx).1
        obtain ⟨q, e, h⟩ := hrs.get (List.getElem?_eq_getElem hi)
        rw [hx] at e
        exact ⟨_, List.getElem?_eq_getElem hi, q, Option.some.inj e, h⟩
      obtain ⟨q, rfl, hq⟩ := hr2
      have s2 : Same H (upd H' T' (.tup [.int (i : Nat), .ref q])) := s1.trans (same_new hT)
      have hm := List.mem_of_getElem? hr1
      refine ⟨T', _, rfl, SqT.of upd_same, rfl, _, _, rfl, _, _, rfl, rfl, ?_⟩
      have rl := row_len (hG.asc _ hm) (hG.rng _ hm)
      refine ⟨_, rfl, a, vs, rfl, .inr (sqT_same s2 ha), _, rfl, _, _, _, rfl, Tg.ints (sqT_same s2 hq) (by omega), fun H3 s3 => ⟨_, rfl, ?_⟩⟩
      have e : ascOf ((vs.length : Nat) : Int) (some (r.map V.int)) = true := ascV_ints (hG.asc _ hm) fun x hx => by rw [vl]; exact hG.rng _ hm x hx
      rw [e]
      exact ⟨_, _, rfl, s2.trans s3⟩
    · rintro σ' H' ⟨x1, x2, rfl, s1⟩
      exact k H' s1
theorem ok_init {f : Addr} {fd : FuncData} (F : Fun K "__init__" "Table.__init__" s_Table___init f fd) (T : Tx mg) (tc : TC K C) (G_check_rows : Dfn P w K mg base "_check_rows" ["rows"] 5 (spCheck K)) : FnOk P w K mg base CX0 6 f fd ["self", "rows"] (spInit K C) := by
  refine F.ok sc_Table___init (fun vs H Q E h => ?_) (fun cdv A outer s H vs Q E hr h => ?_)
  · obtain ⟨p, dx, v, rows, rfl, _⟩ := h
    rfl
  · obtain ⟨p, dx, v, rows, rfl, hp, hG, hl, hR, k⟩ := h
    refine ⟨_, (pss_cons (ps_expr (pe_d G_check_rows (hr.mono (by decide)) (pa_cons (pv 1) pa_nil)))
      (pss_cons (ps_fld (pv 0) (pv 1) rfl)
      (pss_one (ps_fld (pv 0) (pe_callB c_len (by rfl) T.len (by decide +kernel) (pa_cons (pv 1) pa_nil)) rfl)))), ?_⟩
    refine ⟨_, rfl, v, rows, rfl, hG, hl, hR, fun H1 s1 => ?_⟩
    obtain ⟨a, vs, rfl, ha, hrs⟩ := hR.same s1
    have hp1 := s1 _ _ hp
    refine ⟨_, rfl, _, rfl, p, C, dx, [], rfl, hp1, tc.cl, tc.nR, by decide, ?_⟩
    have ha2 : SqT K (upd H1 p (.ins C dx (putF "rows" (.ref a) []))) a vs := sqT_ins ha hp1 fun b o n e => by rw [upd_ne n]; exact e
    refine ⟨_, rfl, a, vs, rfl, .inr ha2, _, rfl, p, C, dx, _, rfl, upd_same, tc.cl, tc.nS, by show 1 < 1000; decide, ?_⟩
    refine k _ (fun b o n e => ?_) ?_
    · rw [upd_ne n, upd_ne n]
      exact s1 _ _ e
    · rw [upd_same, hrs.len]
      rfl
theorem ok_eq {f : Addr} {fd : FuncData} (F : Fun K "__eq__" "Table.__eq__" s_Table___eq f fd) (T : Tx mg) (tc : TC K C) (hC : mg "Table" = some (.ref C)) : FnOk P w K mg base CX0 1 f fd ["self", "other"] (spEqT K C) := by
  refine F.ok sc_Table___eq (fun vs H Q E h => ?_) (fun cdv A outer s H vs Q E hr h => ?_)
  · obtain ⟨x, y, r1, r2, rfl, _⟩ := h
    rfl
  · obtain ⟨x, y, r1, r2, rfl, hx, hy, k⟩ := h
    refine ⟨_, (pss_one (ps_ret (pe_and (pe_callB call_isi (by rfl) T.isinstance (by decide +kernel) (pa_cons (pv 1) (pa_cons (pe_glob (v := V.ref C) (by rfl) hC rfl) pa_nil))) (pe_one (pe_cmpR (op_eqD hr.units) (pe_fld (pv 0) rfl) (pe_fld (pv 1) rfl) (nomark _)))))), ?_⟩
    have ty := hy.tyx tc
    obtain ⟨p, dx, v, rfl, hp, hR⟩ := hx
    obtain ⟨q, dy, u, rfl, hq, hS⟩ := hy
    refine ⟨_, rfl, _, .ref C, .ref C, .ref C, true, rfl, .own C, ty, by simp [PySem.W.kitOne], true, rfl, ?_⟩
    refine ⟨_, rfl, p, C, dx, _, v, rfl, hp, tc.cl, tc.nR, tf_rows _ _, _, rfl, q, C, dy, _, u, rfl, hq, tc.cl, tc.nR, tf_rows _ _, dR r1, dR r2, hR.dp, hS.dp, sh_R r1, sh_R r2, ?_⟩
    rw [eqv_R]
    exact k H (Same.refl H)
end
end Fo

set_option maxRecDepth 100000
set_option maxHeartbeats 4000000
namespace Fo
open PySem PySem.Spec PyProof.Rows L2

section
variable {P : Program} {w : World} {K : PySem.W.Frag} {mg : Str → Option Value} {base : Heap} {C : Addr}
def spTableOf (K : PySem.W.Frag) (C : Addr) : Sp := fun vs H Q _ => ∃ (v : V) (rows : List (List Int)), vs = [v] ∧ RowsAt K H v rows ∧ ∀ p H', Same H H' → H p = none → TableAt K C H' (.ref p) rows → Q (.ref p) H'
theorem good1 : Good [[]] := ⟨by decide, fun r h => by rw [List.mem_singleton.mp h]; exact .nil, fun r h x hx => by rw [List.mem_singleton.mp h] at hx; cases hx⟩
end
end Fo

set_option maxRecDepth 100000
set_option maxHeartbeats 4000000
namespace Fo
open PySem PySem.Spec PyProof.Rows L2

/-! ### ties as rows -/
def tieFrom : Int → List (List Int) → List (List Int)
  | _, [] => []
  | k, r :: rs => (r.map fun x => [k, x]) ++ tieFrom (k + 1) rs
abbrev tieRows (rows : List (List Int)) : List (List Int) := tieFrom 0 rows
theorem tieFrom_append : ∀ (k : Int) (a b : List (List Int)), tieFrom k (a ++ b) = tieFrom k a ++ tieFrom (k + a.length) b
  | k, [], b => by
    show tieFrom k b = tieFrom (k + ((0 : Nat) : Int)) b
    rw [show k + ((0 : Nat) : Int) = k by omega]
  | k, r :: rs, b => by
    show (r.map fun x => [k, x]) ++ tieFrom (k + 1) (rs ++ b) = ((r.map fun x => [k, x]) ++ tieFrom (k + 1) rs) ++ tieFrom (k + ((rs.length + 1 : Nat) : Int)) b
    rw [tieFrom_append (k + 1) rs b, List.append_assoc, show k + 1 + (rs.length : Int) = k + ((rs.length + 1 : Nat) : Int) by omega]
theorem tie_take {rows : List (List Int)} {i : Nat} {r : List Int} (h : rows[i]? = some r) : tieRows (rows.take (i + 1)) = tieRows (rows.take i) ++ r.map fun x => [(i : Int), x] := by
  have hi : i < rows.length := (List.getElem?_eq_some_iff.mp h).1
  rw [List.take_add_one, h]
  show tieFrom 0 (rows.take i ++ [r]) = _
  rw [tieFrom_append, List.length_take, show min i rows.length = i by omega]
  show _ ++ ((r.map fun x => [0 + (i : Int), x]) ++ []) = _
  rw [List.append_nil, Int.zero_add]
theorem tie_len {b : Nat} : ∀ (k : Int) (rows : List (List Int)), (∀ r ∈ rows, r.length ≤ b) → (tieFrom k rows).length ≤ rows.length * b
  | _, [], _ => Nat.zero_le _
  | k, r :: rs, h => by
    show ((r.map fun x => [k, x]) ++ tieFrom (k + 1) rs).length ≤ (rs.length + 1) * b
    rw [List.length_append, List.length_map, Nat.add_mul, Nat.one_mul]
    have h1 := h r List.mem_cons_self
    have h2 := tie_len (k + 1) rs fun q hq => h q (List.mem_cons_of_mem _ hq)
    omega
section
variable {P : Program} {w : World} {K : PySem.W.Frag} {mg : Str → Option Value} {base : Heap} {C : Addr}
def spTies (K : PySem.W.Frag) (C : Addr) : Sp := fun vs H Q _ => ∃ (x : V) (rows : List (List Int)), vs = [x] ∧ TableAt K C H x rows ∧ rows.length ≤ 100 ∧ (∀ r ∈ rows, r.length ≤ 100) ∧ ∀ p vs H', Same H H' → H p = none → H' p = some (.lst vs) → RowsT K H' vs (tieRows rows) → Q (.ref p) H'
end
end Fo

set_option maxRecDepth 100000
set_option maxHeartbeats 2000000
/-! What is a list or a tuple: walked, indexed. -/
namespace Fo
open PySem PySem.Spec PyProof.Rows L2
def Sq (b : Bool) (K : PySem.W.Frag) (H : Hp) (a : Addr) (xs : List V) : Prop := match b with
  | true => SqL K H a xs
  | false => SqT K H a xs
theorem Sq.same {b : Bool} {K : PySem.W.Frag} {H H' : Hp} {a : Addr} {xs : List V} (h : Sq b K H a xs) (e : Same H H') : Sq b K H' a xs := by
  cases b with
  | true => exact e.seq h
  | false => exact sqT_same e h
theorem Sq.or {b : Bool} {K : PySem.W.Frag} {H : Hp} {a : Addr} {xs : List V} (h : Sq b K H a xs) : SqL K H a xs ∨ SqT K H a xs := by
  cases b with
  | true => exact .inl h
  | false => exact .inr h
def iAlt (w1 w2 : TI) : TI := fun σ H R => w1 σ H R ∨ w2 σ H R
def rAlt (r1 r2 : R2) : R2 := fun x y H Q => r1 x y H Q ∨ r2 x y H Q
section
variable {X : Cx}
theorem pi_alt {tg e : Expr} {w1 w2 : TI} (h1 : PI X tg e w1) (h2 : PI X tg e w2) : PI X tg e (iAlt w1 w2) := ⟨fun pins s σ H R I h => h.elim (h1.run pins s σ H R I) (h2.run pins s σ H R I)⟩
theorem ix_sq : IxR X (rAlt (rIxL X.K) (rIxT X.K)) := by
  intro ev es pins s σ H x y v u Q I rx ry h pl
  rcases h with h | h
  · exact ix_list ev es pins s σ H x y v u Q I rx ry h pl
  · exact ix_tup ev es pins s σ H x y v u Q I rx ry h pl
end
section
variable {K : PySem.W.Frag}
def ItS (b : Bool) (K : PySem.W.Frag) (a : Addr) : It := match b with
  | true => Itl K a
  | false => Itt K a
def ItES (b : Bool) (K : PySem.W.Frag) (a : Addr) : It := match b with
  | true => Ite K a
  | false => IteT K a
theorem alt_it {b : Bool} {a : Addr} {te : TE} {σ : L2.St} {H H1 : Hp} {R : It → Hp → Prop} {xs : List V} (ht : ∀ Q : VK, Q (.ref a) H1 → te σ H Q) (hq : Sq b K H1 a xs) (hR : R (ItS b K a) H1) : iAlt (iList K te) (iTup K te) σ H R := by
  cases b with
  | true => exact .inl (ht _ ⟨a, rfl, ⟨xs, hq⟩, hR⟩)
  | false => exact .inr (ht _ ⟨a, rfl, ⟨xs, hq⟩, hR⟩)
theorem alt_en {b : Bool} {a : Addr} {ta : TA} {σ : L2.St} {H H1 : Hp} {R : It → Hp → Prop} {xs : List V} (ht : ∀ Q : List V → Hp → Prop, Q [.ref a] H1 → ta σ H Q) (hq : Sq b K H1 a xs) (hR : R (ItES b K a) H1) : iAlt (iEnum K ta) (iEnumT K ta) σ H R := by
  cases b with
  | true => exact .inl (ht _ ⟨a, xs, rfl, hq, hR⟩)
  | false => exact .inr (ht _ ⟨a, xs, rfl, hq, hR⟩)
theorem alt_ix {b : Bool} {a : Addr} {i : Int} {v : V} {H : Hp} {Q : VK} {xs : List V} (hq : Sq b K H a xs) (h : atI xs i = some v) (q : Q v H) : rAlt (rIxL K) (rIxT K) (.ref a) (.int i) H Q := by
  cases b with
  | true => exact .inl ⟨a, xs, i, v, rfl, rfl, hq, h, q⟩
  | false => exact .inr ⟨a, xs, i, v, rfl, rfl, hq, h, q⟩
theorem for_sq {b : Bool} {a : Addr} {xs : List V} {g : TG} {tb : TS} {D : Ends} {σ : L2.St} {H : Hp} (Pv : Nat → L2.St → Hp → Prop) (h0 : Pv 0 σ H) (hl : ∀ i σ H, i ≤ xs.length → Pv i σ H → Sq b K H a xs)
    (hs : ∀ i x σ H, xs[i]? = some x → Pv i σ H → g x σ H fun σ2 H2 => tb { D with nx := Pv (i + 1), ct := Pv (i + 1), bk := D.nx } σ2 H2) (hd : ∀ σ H, Pv xs.length σ H → D.nx σ H) :
    ∃ W : Nat → Nat → L2.St → Hp → Prop, (∃ m, W 0 m σ H) ∧ ∀ i m σ H, W i m σ H →
      ((ItS b K a).stop i H ∧ D.nx σ H) ∨ ((ItS b K a).go i H ∧ ∃ N : L2.St → Hp → Prop, (∀ σ' H', N σ' H' → ∃ m', m' < m ∧ W (i + 1) m' σ' H') ∧ ∀ x H', (ItS b K a).yld i H x H' → g x σ H' fun σ2 H2 => tb { D with nx := N, ct := N, bk := D.nx } σ2 H2) := by
  cases b with
  | true => exact for_list Pv h0 hl hs hd
  | false => exact for_tup Pv h0 hl hs hd
theorem lc_sq {b : Bool} {a : Addr} {xs : List V} {g : TG} {tt : TT} {te : TE} {vs : List Nat} {σ : L2.St} {H1 : Hp} {D : Addr} {Qd : Hp → Prop} (Pv : Nat → Hp → Prop) (h0 : Pv 0 (upd H1 D (.lst []))) (hl : ∀ i H, i ≤ xs.length → Pv i H → Sq b K H a xs)
    (hs : ∀ i x H, xs[i]? = some x → Pv i H → g x (wipe σ vs) H fun σ2 H2 => wipe σ2 vs = wipe σ vs ∧ tt σ2 H2 fun c H3 =>
      if c = true then te σ2 H3 fun y H4 => ∃ acc, H4 D = some (.lst acc) ∧ acc.length < sizeLine ∧ Pv (i + 1) (upd H4 D (.lst (acc ++ [y]))) else Pv (i + 1) H3) (hd : ∀ H, Pv xs.length H → Qd H) :
    ∃ W : Nat → Nat → Hp → Prop, (∃ m, W 0 m (upd H1 D (.lst []))) ∧ ∀ i m H, W i m H →
      ((ItS b K a).stop i H ∧ Qd H) ∨ ((ItS b K a).go i H ∧ ∃ Nx : Hp → Prop, (∀ H', Nx H' → ∃ m', m' < m ∧ W (i + 1) m' H') ∧ ∀ x H', (ItS b K a).yld i H x H' → g x (wipe σ vs) H' fun σ2 H2 => wipe σ2 vs = wipe σ vs ∧ tt σ2 H2 fun c H3 =>
        if c = true then te σ2 H3 fun y H4 => ∃ acc, H4 D = some (.lst acc) ∧ acc.length < sizeLine ∧ Nx (upd H4 D (.lst (acc ++ [y]))) else Nx H3) := by
  cases b with
  | true => exact lc_list Pv h0 hl hs hd
  | false => exact lc_tup Pv h0 hl hs hd
/-! lists counted -/
theorem for_enumL {a : Addr} {xs : List V} {g : TG} {tb : TS} {D : Ends} {σ : L2.St} {H : Hp} (Pv : Nat → L2.St → Hp → Prop) (h0 : Pv 0 σ H) (hl : ∀ i σ H, i ≤ xs.length → Pv i σ H → SqL K H a xs)
    (hs : ∀ i x σ H T, xs[i]? = some x → Pv i σ H → H T = none → g (.ref T) σ (upd H T (.tup [.int (i : Nat), x])) fun σ2 H2 => tb { D with nx := Pv (i + 1), ct := Pv (i + 1), bk := D.nx } σ2 H2) (hd : ∀ σ H, Pv xs.length σ H → D.nx σ H) :
    ∃ W : Nat → Nat → L2.St → Hp → Prop, (∃ m, W 0 m σ H) ∧ ∀ i m σ H, W i m σ H →
      ((Ite K a).stop i H ∧ D.nx σ H) ∨ ((Ite K a).go i H ∧ ∃ N : L2.St → Hp → Prop, (∀ σ' H', N σ' H' → ∃ m', m' < m ∧ W (i + 1) m' σ' H') ∧ ∀ x H', (Ite K a).yld i H x H' → g x σ H' fun σ2 H2 => tb { D with nx := N, ct := N, bk := D.nx } σ2 H2) := by
  refine ⟨fun i m σ H => m = xs.length - i ∧ i ≤ xs.length ∧ Pv i σ H, ⟨xs.length, by simp, Nat.zero_le _, h0⟩, ?_⟩
  rintro i m σ H ⟨rfl, hi, p⟩
  have q := hl i σ H hi p
  by_cases hlt : i < xs.length
  · refine .inr ⟨⟨xs, xs[i], q, by simp [hlt]⟩, Pv (i + 1), fun σ' H' p' => ⟨xs.length - (i + 1), by omega, rfl, hlt, p'⟩, fun x H' y => ?_⟩
    obtain ⟨T, x', rfl, nT, rfl, y⟩ := y
    exact hs i x' σ H T (y xs q) p nT
  · have e : i = xs.length := by omega
    subst e
    exact .inl ⟨⟨xs, q, Nat.le_refl _⟩, hd σ H p⟩
theorem lc_enumL {a : Addr} {xs : List V} {g : TG} {tt : TT} {te : TE} {vs : List Nat} {σ : L2.St} {H1 : Hp} {D : Addr} {Qd : Hp → Prop} (Pv : Nat → Hp → Prop) (h0 : Pv 0 (upd H1 D (.lst []))) (hl : ∀ i H, i ≤ xs.length → Pv i H → SqL K H a xs)
    (hs : ∀ i x H T, xs[i]? = some x → Pv i H → H T = none → g (.ref T) (wipe σ vs) (upd H T (.tup [.int (i : Nat), x])) fun σ2 H2 => wipe σ2 vs = wipe σ vs ∧ tt σ2 H2 fun b H3 =>
      if b = true then te σ2 H3 fun y H4 => ∃ acc, H4 D = some (.lst acc) ∧ acc.length < sizeLine ∧ Pv (i + 1) (upd H4 D (.lst (acc ++ [y]))) else Pv (i + 1) H3) (hd : ∀ H, Pv xs.length H → Qd H) :
    ∃ W : Nat → Nat → Hp → Prop, (∃ m, W 0 m (upd H1 D (.lst []))) ∧ ∀ i m H, W i m H →
      ((Ite K a).stop i H ∧ Qd H) ∨ ((Ite K a).go i H ∧ ∃ Nx : Hp → Prop, (∀ H', Nx H' → ∃ m', m' < m ∧ W (i + 1) m' H') ∧ ∀ x H', (Ite K a).yld i H x H' → g x (wipe σ vs) H' fun σ2 H2 => wipe σ2 vs = wipe σ vs ∧ tt σ2 H2 fun b H3 =>
        if b = true then te σ2 H3 fun y H4 => ∃ acc, H4 D = some (.lst acc) ∧ acc.length < sizeLine ∧ Nx (upd H4 D (.lst (acc ++ [y]))) else Nx H3) := by
  refine ⟨fun i m H => m = xs.length - i ∧ i ≤ xs.length ∧ Pv i H, ⟨xs.length, by simp, Nat.zero_le _, h0⟩, ?_⟩
  rintro i m H ⟨rfl, hi, p⟩
  have q := hl i H hi p
  by_cases hlt : i < xs.length
  · refine .inr ⟨⟨xs, xs[i], q, by simp [hlt]⟩, Pv (i + 1), fun H' p' => ⟨xs.length - (i + 1), by omega, rfl, hlt, p'⟩, fun x H' y => ?_⟩
    obtain ⟨T, x', rfl, nT, rfl, y⟩ := y
    exact hs i x' H T (y xs q) p nT
  · have e : i = xs.length := by omega
    subst e
    exact .inl ⟨⟨xs, q, Nat.le_refl _⟩, hd H p⟩
theorem for_enS {b : Bool} {a : Addr} {xs : List V} {g : TG} {tb : TS} {D : Ends} {σ : L2.St} {H : Hp} (Pv : Nat → L2.St → Hp → Prop) (h0 : Pv 0 σ H) (hl : ∀ i σ H, i ≤ xs.length → Pv i σ H → Sq b K H a xs)
    (hs : ∀ i x σ H T, xs[i]? = some x → Pv i σ H → H T = none → g (.ref T) σ (upd H T (.tup [.int (i : Nat), x])) fun σ2 H2 => tb { D with nx := Pv (i + 1), ct := Pv (i + 1), bk := D.nx } σ2 H2) (hd : ∀ σ H, Pv xs.length σ H → D.nx σ H) :
    ∃ W : Nat → Nat → L2.St → Hp → Prop, (∃ m, W 0 m σ H) ∧ ∀ i m σ H, W i m σ H →
      ((ItES b K a).stop i H ∧ D.nx σ H) ∨ ((ItES b K a).go i H ∧ ∃ N : L2.St → Hp → Prop, (∀ σ' H', N σ' H' → ∃ m', m' < m ∧ W (i + 1) m' σ' H') ∧ ∀ x H', (ItES b K a).yld i H x H' → g x σ H' fun σ2 H2 => tb { D with nx := N, ct := N, bk := D.nx } σ2 H2) := by
  cases b with
  | true => exact for_enumL Pv h0 hl hs hd
  | false => exact for_enumT Pv h0 hl hs hd
theorem lc_enS {b : Bool} {a : Addr} {xs : List V} {g : TG} {tt : TT} {te : TE} {vs : List Nat} {σ : L2.St} {H1 : Hp} {D : Addr} {Qd : Hp → Prop} (Pv : Nat → Hp → Prop) (h0 : Pv 0 (upd H1 D (.lst []))) (hl : ∀ i H, i ≤ xs.length → Pv i H → Sq b K H a xs)
    (hs : ∀ i x H T, xs[i]? = some x → Pv i H → H T = none → g (.ref T) (wipe σ vs) (upd H T (.tup [.int (i : Nat), x])) fun σ2 H2 => wipe σ2 vs = wipe σ vs ∧ tt σ2 H2 fun c H3 =>
      if c = true then te σ2 H3 fun y H4 => ∃ acc, H4 D = some (.lst acc) ∧ acc.length < sizeLine ∧ Pv (i + 1) (upd H4 D (.lst (acc ++ [y]))) else Pv (i + 1) H3) (hd : ∀ H, Pv xs.length H → Qd H) :
    ∃ W : Nat → Nat → Hp → Prop, (∃ m, W 0 m (upd H1 D (.lst []))) ∧ ∀ i m H, W i m H →
      ((ItES b K a).stop i H ∧ Qd H) ∨ ((ItES b K a).go i H ∧ ∃ Nx : Hp → Prop, (∀ H', Nx H' → ∃ m', m' < m ∧ W (i + 1) m' H') ∧ ∀ x H', (ItES b K a).yld i H x H' → g x (wipe σ vs) H' fun σ2 H2 => wipe σ2 vs = wipe σ vs ∧ tt σ2 H2 fun c H3 =>
        if c = true then te σ2 H3 fun y H4 => ∃ acc, H4 D = some (.lst acc) ∧ acc.length < sizeLine ∧ Nx (upd H4 D (.lst (acc ++ [y]))) else Nx H3) := by
  cases b with
  | true => exact lc_enumL Pv h0 hl hs hd
  | false => exact lc_enumT Pv h0 hl hs hd
end
/-! ### rows of either kind: tuples of tuples, or lists of lists -/
inductive RowsB (b : Bool) (K : PySem.W.Frag) (H : Hp) : List V → List (List Int) → Prop
  | nil : RowsB b K H [] []
  | cons {a : Addr} {vs : List V} {r : List Int} {rs : List (List Int)} : Sq b K H a (r.map V.int) → RowsB b K H vs rs → RowsB b K H (.ref a :: vs) (r :: rs)
theorem RowsB.same {b : Bool} {K : PySem.W.Frag} {H H' : Hp} (g : Same H H') : ∀ {vs : List V} {rs : List (List Int)}, RowsB b K H vs rs → RowsB b K H' vs rs
  | _, _, .nil => .nil
  | _, _, .cons h r => .cons (h.same g) (r.same g)
theorem RowsB.len {b : Bool} {K : PySem.W.Frag} {H : Hp} : ∀ {vs : List V} {rs : List (List Int)}, RowsB b K H vs rs → vs.length = rs.length
  | _, _, .nil => rfl
  | _, _, .cons _ r => by rw [List.length_cons, List.length_cons, r.len]
theorem RowsB.get {b : Bool} {K : PySem.W.Frag} {H : Hp} : ∀ {vs : List V} {rs : List (List Int)} {i : Nat} {v : V}, RowsB b K H vs rs → vs[i]? = some v → ∃ a r, v = .ref a ∧ rs[i]? = some r ∧ Sq b K H a (r.map V.int)
  | _, _, _, _, .nil, e => by simp at e
  | _, _, 0, v, .cons (a := a) (r := r) h _, e => by
    have e' : some (V.ref a) = some v := e
    cases e'
    exact ⟨a, r, rfl, rfl, h⟩
  | _, _, i + 1, v, .cons _ t, e => t.get (i := i) e
theorem RowsB.at_ {b : Bool} {K : PySem.W.Frag} {H : Hp} {vs : List V} {rs : List (List Int)} {i : Nat} {r : List Int} (h : RowsB b K H vs rs) (e : rs[i]? = some r) : ∃ a, vs[i]? = some (.ref a) ∧ Sq b K H a (r.map V.int) := by
  have hi : i < vs.length := by rw [h.len]; exact (List.getElem?_eq_some_iff.mp e).1
  obtain ⟨a, r', e1, e2, e3⟩ := h.get (List.getElem?_eq_getElem hi)
  rw [e] at e2
  cases e2
  exact ⟨a, by rw [List.getElem?_eq_getElem hi, e1], e3⟩
theorem RowsB.snoc {b : Bool} {K : PySem.W.Frag} {H : Hp} {a : Addr} {r : List Int} (h : Sq b K H a (r.map V.int)) : ∀ {vs : List V} {rs : List (List Int)}, RowsB b K H vs rs → RowsB b K H (vs ++ [.ref a]) (rs ++ [r])
  | _, _, .nil => .cons h .nil
  | _, _, .cons q t => .cons q (t.snoc h)
def RowsQ (b : Bool) (K : PySem.W.Frag) (H : Hp) (v : V) (rows : List (List Int)) : Prop := ∃ a vs, v = .ref a ∧ Sq b K H a vs ∧ RowsB b K H vs rows
theorem RowsQ.same {b : Bool} {K : PySem.W.Frag} {H H' : Hp} {v : V} {rows : List (List Int)} (h : RowsQ b K H v rows) (g : Same H H') : RowsQ b K H' v rows := by
  obtain ⟨a, vs, e, h1, h2⟩ := h
  exact ⟨a, vs, e, h1.same g, h2.same g⟩
theorem rowsB_T {K : PySem.W.Frag} {H : Hp} : ∀ {vs : List V} {rs : List (List Int)}, RowsT K H vs rs → RowsB false K H vs rs
  | _, _, .nil => .nil
  | _, _, .cons h r => .cons h (rowsB_T r)
theorem RowsAt.q {K : PySem.W.Frag} {H : Hp} {v : V} {rows : List (List Int)} (h : RowsAt K H v rows) : RowsQ false K H v rows := by
  obtain ⟨a, vs, e, h1, h2⟩ := h
  exact ⟨a, vs, e, h1, rowsB_T h2⟩
end Fo

set_option maxRecDepth 100000
set_option maxHeartbeats 1000000
/-! Matching: who can all get something at once. The mathematics alone, over lists and functions. -/
namespace Mt
open Classical
abbrev Rows := List (List Int)
def row (rows : Rows) (p : Nat) : List Int := rows[p]?.getD []
theorem row_lt {rows : Rows} {p : Nat} {t : Int} (h : t ∈ row rows p) : p < rows.length := by
  unfold row at h
  cases e : rows[p]? with
  | none => rw [e] at h; cases h
  | some r => exact (List.getElem?_eq_some_iff.mp e).1
theorem row_get {rows : Rows} {p : Nat} {r : List Int} (h : rows[p]? = some r) : row rows p = r := by
  unfold row
  rw [h]
  rfl
def fset {α β : Type} [DecidableEq α] (f : α → β) (a : α) (b : β) : α → β := fun x => if x = a then b else f x
theorem fset_same {α β : Type} [DecidableEq α] {f : α → β} {a : α} {b : β} : fset f a b a = b := if_pos rfl
theorem fset_ne {α β : Type} [DecidableEq α] {f : α → β} {a x : α} {b : β} (h : x ≠ a) : fset f a b x = f x := if_neg h
/-! counting -/
theorem len_le {α : Type} [DecidableEq α] : ∀ {l1 l2 : List α}, l1.Nodup → (∀ x ∈ l1, x ∈ l2) → l1.length ≤ l2.length
  | [], _, _, _ => Nat.zero_le _
  | x :: l1, l2, hn, hs => by
    have hx := hs x List.mem_cons_self
    have h2 := List.nodup_cons.mp hn
    have ih := len_le (l1 := l1) (l2 := l2.erase x) h2.2 fun y hy => (List.mem_erase_of_ne (fun (e : y = x) => h2.1 (e ▸ hy))).mpr (hs y (List.mem_cons_of_mem _ hy))
    rw [List.length_erase_of_mem hx] at ih
    have : 0 < l2.length := List.length_pos_of_mem hx
    rw [List.length_cons]
    omega
theorem all_in {α : Type} [DecidableEq α] {l1 l2 : List α} (hn : l1.Nodup) (hs : ∀ x ∈ l1, x ∈ l2) (hl : l2.length ≤ l1.length) : ∀ y ∈ l2, y ∈ l1 := by
  intro y hy
  refine Classical.byContradiction fun hc => ?_
  have h := len_le (l2 := l2.erase y) hn fun x hx => (List.mem_erase_of_ne (fun (e : x = y) => hc (e ▸ hx))).mpr (hs x hx)
  rw [List.length_erase_of_mem hy] at h
  have : 0 < l2.length := List.length_pos_of_mem hy
  omega
theorem nodup_map {α β : Type} {f : α → β} : ∀ {l : List α}, l.Nodup → (∀ x ∈ l, ∀ y ∈ l, f x = f y → x = y) → (l.map f).Nodup
  | [], _, _ => List.nodup_nil
  | x :: l, hn, hi => by
    have h2 := List.nodup_cons.mp hn
    rw [List.map_cons, List.nodup_cons]
    refine ⟨fun hm => ?_, nodup_map h2.2 fun a ha b hb => hi a (List.mem_cons_of_mem _ ha) b (List.mem_cons_of_mem _ hb)⟩
    obtain ⟨y, hy, e⟩ := List.mem_map.mp hm
    have := hi y (List.mem_cons_of_mem _ hy) x List.mem_cons_self e
    exact h2.1 (this ▸ hy)
/-- no map into itself that is one to one leaves one out -/
theorem no_room {n : Nat} {R : Nat → Prop} {f : Nat → Nat} {p : Nat} (hp : p < n) (hR : R p) (hf : ∀ x, x < n → R x → f x < n ∧ R (f x) ∧ f x ≠ p) (hi : ∀ x y, x < n → y < n → R x → R y → f x = f y → x = y) : False := by
  obtain ⟨L, eL⟩ : ∃ L, L = (List.range n).filter (fun x => decide (R x)) := ⟨_, rfl⟩
  have memL : ∀ x, x ∈ L ↔ x < n ∧ R x := fun x => by
    rw [eL, List.mem_filter, List.mem_range, decide_eq_true_iff]
  have nd : L.Nodup := by rw [eL]; exact List.Pairwise.filter _ List.nodup_range
  have nm : (L.map f).Nodup := nodup_map nd fun x hx y hy e => hi x y ((memL x).mp hx).1 ((memL y).mp hy).1 ((memL x).mp hx).2 ((memL y).mp hy).2 e
  have hs : ∀ y ∈ L.map f, y ∈ L.erase p := fun y hy => by
    obtain ⟨x, hx, rfl⟩ := List.mem_map.mp hy
    have h := (memL x).mp hx
    obtain ⟨a, b, c⟩ := hf x h.1 h.2
    exact (List.mem_erase_of_ne c).mpr ((memL _).mpr ⟨a, b⟩)
  have h := len_le nm hs
  have hpL : p ∈ L := (memL p).mpr ⟨hp, hR⟩
  rw [List.length_map, List.length_erase_of_mem hpL] at h
  have : 0 < L.length := List.length_pos_of_mem hpL
  omega
/-! dealings -/
structure Ds (rows : Rows) (D : List Int) : Prop where
  len : D.length = rows.length
  tie : ∀ (p : Nat) (t : Int), D[p]? = some t → t ∈ row rows p
  nd : D.Nodup
theorem Ds.get {rows : Rows} {D : List Int} (d : Ds rows D) {p : Nat} (h : p < rows.length) : ∃ t, D[p]? = some t ∧ t ∈ row rows p := by
  have h' : p < D.length := by rw [d.len]; exact h
  exact ⟨_, List.getElem?_eq_getElem h', d.tie p _ (List.getElem?_eq_getElem h')⟩
theorem nodup_get {α : Type} {l : List α} (h : l.Nodup) {i j : Nat} {x : α} (hi : l[i]? = some x) (hj : l[j]? = some x) : i = j := by
  have hi' := (List.getElem?_eq_some_iff.mp hi)
  have hj' := (List.getElem?_eq_some_iff.mp hj)
  obtain ⟨a, ea⟩ := hi'
  obtain ⟨b, eb⟩ := hj'
  refine Classical.byContradiction fun hc => ?_
  have pw := List.pairwise_iff_getElem.mp h
  rcases Nat.lt_or_gt_of_ne hc with z | z
  · exact pw i j a b z (ea.trans eb.symm)
  · exact pw j i b a z (eb.trans ea.symm)
/-! who holds what -/
structure MS where
  h : Nat → Option Int
  o : Int → Option Nat
structure Valid (rows : Rows) (m : MS) : Prop where
  inv : ∀ p t, m.h p = some t ↔ m.o t = some p
  tie : ∀ p t, m.h p = some t → t ∈ row rows p
def Closed (rows : Rows) (m : MS) (R : Nat → Prop) : Prop := ∀ q, R q → ∀ t ∈ row rows q, ∃ q', R q' ∧ m.h q' = some t
theorem Valid.inj {rows : Rows} {m : MS} (v : Valid rows m) {p q : Nat} {t : Int} (h1 : m.h p = some t) (h2 : m.h q = some t) : p = q := by
  have a := (v.inv p t).mp h1
  have b := (v.inv q t).mp h2
  rw [a] at b
  exact Option.some.inj b
theorem no_dealing {rows : Rows} {m : MS} {R : Nat → Prop} {p : Nat} (v : Valid rows m) (hp : p < rows.length) (hR : R p) (c : Closed rows m R) (h0 : m.h p = none) {D : List Int} (d : Ds rows D) : False := by
  refine no_room (n := rows.length) (R := R) (p := p) (f := fun x => (m.o (D[x]?.getD 0)).getD 0) hp hR (fun x hx rx => ?_) (fun x y hx hy rx ry e => ?_)
  · obtain ⟨t, e, ht⟩ := d.get hx
    obtain ⟨q, rq, hq⟩ := c x rx t ht
    have ho := (v.inv q t).mp hq
    show (m.o (D[x]?.getD 0)).getD 0 < _ ∧ R ((m.o (D[x]?.getD 0)).getD 0) ∧ (m.o (D[x]?.getD 0)).getD 0 ≠ p
    rw [e]
    show (m.o t).getD 0 < _ ∧ R ((m.o t).getD 0) ∧ (m.o t).getD 0 ≠ p
    rw [ho]
    refine ⟨row_lt (v.tie q t hq), rq, fun z => ?_⟩
    have z' : q = p := z
    rw [z', h0] at hq
    cases hq
  · obtain ⟨t, e1, ht⟩ := d.get hx
    obtain ⟨s, e2, hs⟩ := d.get hy
    obtain ⟨q, rq, hq⟩ := c x rx t ht
    obtain ⟨r, rr, hr⟩ := c y ry s hs
    have e' : (m.o (D[x]?.getD 0)).getD 0 = (m.o (D[y]?.getD 0)).getD 0 := e
    rw [e1, e2] at e'
    have e'' : (m.o t).getD 0 = (m.o s).getD 0 := e'
    rw [(v.inv q t).mp hq, (v.inv r s).mp hr] at e''
    have e3 : q = r := e''
    subst e3
    rw [hq] at hr
    cases hr
    exact nodup_get d.nd e1 e2
/-! going on from one who waits -/
abbrev Came := Int → Option Nat
def scan (o : Int → Option Nat) (one : Nat) : List Int → Came → List Nat → Option Int × Came × List Nat
  | [], c, w => (none, c, w)
  | t :: l, c, w => if (c t).isSome = true then scan o one l c w else match o t with
    | none => (some t, fset c t (some one), w)
    | some q => scan o one l (fset c t (some one)) (w ++ [q])
inductive Walk (rows : Rows) (o : Int → Option Nat) : Came → List Nat → Option Int → Came → Prop
  | nil {c : Came} : Walk rows o c [] none c
  | found {c c' : Came} {w w' : List Nat} {one : Nat} {t : Int} : scan o one (row rows one) c w = (some t, c', w') → Walk rows o c (w ++ [one]) (some t) c'
  | more {c c' c2 : Came} {w w' : List Nat} {one : Nat} {x : Option Int} : scan o one (row rows one) c w = (none, c', w') → Walk rows o c' w' x c2 → Walk rows o c (w ++ [one]) x c2
structure ScanOk (o : Int → Option Nat) (one : Nat) (l : List Int) (c : Came) (w : List Nat) (x : Option Int) (c' : Came) (w' : List Nat) : Prop where
  ext : ∀ t y, c t = some y → c' t = some y
  new : ∀ t y, c' t = some y → c t = some y ∨ (y = one ∧ t ∈ l ∧ c t = none ∧ ((∃ q, o t = some q ∧ q ∈ w') ∨ x = some t))
  found : ∀ t, x = some t → o t = none ∧ c' t = some one ∧ t ∈ l
  all : x = none → ∀ t ∈ l, c' t ≠ none
  sub : ∀ q ∈ w, q ∈ w'
  wn : ∀ q ∈ w', q ∈ w ∨ ∃ t, c' t = some one ∧ o t = some q
theorem scan_ok {o : Int → Option Nat} {one : Nat} : ∀ (l : List Int) (c : Came) (w : List Nat), ScanOk o one l c w (scan o one l c w).1 (scan o one l c w).2.1 (scan o one l c w).2.2
  | [], c, w => ⟨fun _ _ h => h, fun _ _ h => .inl h, fun _ h => (by cases h), fun _ _ h => (by cases h), fun _ h => h, fun _ h => .inl h⟩
  | t :: l, c, w => by
    by_cases hc : (c t).isSome = true
    · have e : scan o one (t :: l) c w = scan o one l c w := by
        show (if (c t).isSome = true then scan o one l c w else _) = _
        rw [if_pos hc]
      rw [e]
      have ih := scan_ok (o := o) (one := one) l c w
      refine ⟨ih.ext, fun s y h => ?_, fun s h => ?_, fun h s hs => ?_, ih.sub, ih.wn⟩
      · rcases ih.new s y h with a | ⟨a, b, d, f⟩
        · exact .inl a
        · exact .inr ⟨a, List.mem_cons_of_mem _ b, d, f⟩
      · obtain ⟨a, b, d⟩ := ih.found s h
        exact ⟨a, b, List.mem_cons_of_mem _ d⟩
      · rcases List.mem_cons.mp hs with q | q
        · obtain ⟨y, hy⟩ := Option.isSome_iff_exists.mp hc
          rw [q, ih.ext t y hy]
          exact fun z => nomatch z
        · exact ih.all h s q
    · have cn : c t = none := by
        cases z : c t with
        | none => rfl
        | some y => rw [z] at hc; exact absurd rfl hc
      cases ho : o t with
      | none =>
        have e : scan o one (t :: l) c w = (some t, fset c t (some one), w) := by
          show (if (c t).isSome = true then _ else match o t with | none => _ | some q => _) = _
          rw [if_neg hc, ho]
        rw [e]
        refine ⟨fun s y h => ?_, fun s y h => ?_, fun s h => ?_, fun h => (by cases h), fun _ h => h, fun _ h => .inl h⟩
        · show fset c t (some one) s = some y
          rw [fset_ne (fun z => by rw [z, cn] at h; cases h)]
          exact h
        · have h' : fset c t (some one) s = some y := h
          by_cases z : s = t
          · rw [z, fset_same] at h'
            cases h'
            exact .inr ⟨rfl, by rw [z]; exact List.mem_cons_self, by rw [z]; exact cn, .inr (by rw [z])⟩
          · rw [fset_ne z] at h'
            exact .inl h'
        · cases h
          exact ⟨ho, fset_same, List.mem_cons_self⟩
      | some q =>
        have e : scan o one (t :: l) c w = scan o one l (fset c t (some one)) (w ++ [q]) := by
          show (if (c t).isSome = true then _ else match o t with | none => _ | some q => _) = _
          rw [if_neg hc, ho]
        rw [e]
        have ih := scan_ok (o := o) (one := one) l (fset c t (some one)) (w ++ [q])
        have ct : (scan o one l (fset c t (some one)) (w ++ [q])).2.1 t = some one := ih.ext t one fset_same
        refine ⟨fun s y h => ?_, fun s y h => ?_, fun s h => ?_, fun h s hs => ?_, fun r h => ih.sub r (List.mem_append_left _ h), fun r h => ?_⟩
        · exact ih.ext s y (by rw [fset_ne (fun z => by rw [z, cn] at h; cases h)]; exact h)
        · by_cases z : s = t
          · rw [z] at h ⊢
            rw [ct] at h
            cases h
            exact .inr ⟨rfl, List.mem_cons_self, cn, .inl ⟨q, ho, ih.sub q (List.mem_append_right _ List.mem_cons_self)⟩⟩
          · rcases ih.new s y h with a | ⟨a, b, d, f⟩
            · rw [fset_ne z] at a
              exact .inl a
            · rw [fset_ne z] at d
              exact .inr ⟨a, List.mem_cons_of_mem _ b, d, f⟩
        · obtain ⟨a, b, d⟩ := ih.found s h
          exact ⟨a, b, List.mem_cons_of_mem _ d⟩
        · rcases List.mem_cons.mp hs with z | z
          · rw [z, ct]
            exact fun z => nomatch z
          · exact ih.all h s z
        · rcases ih.wn r h with a | a
          · rcases List.mem_append.mp a with b | b
            · exact .inl b
            · rw [List.mem_singleton.mp b]
              exact .inr ⟨t, ct, ho⟩
          · exact .inr a
theorem scan_is {o : Int → Option Nat} {one : Nat} {l : List Int} {c c' : Came} {w w' : List Nat} {x : Option Int} (h : scan o one l c w = (x, c', w')) : ScanOk o one l c w x c' w' := by
  have := scan_ok (o := o) (one := one) l c w
  rw [h] at this
  exact this
/-- how a thing was come to: k steps from p -/
inductive Chain (c : Came) (h : Nat → Option Int) (p : Nat) : Nat → Int → Prop
  | start {t : Int} : c t = some p → Chain c h p 0 t
  | step {k : Nat} {t s : Int} {q : Nat} : c t = some q → h q = some s → Chain c h p k s → Chain c h p (k + 1) t
theorem Chain.ext {c c' : Came} {h : Nat → Option Int} {p : Nat} (e : ∀ t y, c t = some y → c' t = some y) : ∀ {k : Nat} {t : Int}, Chain c h p k t → Chain c' h p k t
  | _, _, .start a => .start (e _ _ a)
  | _, _, .step a b d => .step (e _ _ a) b (d.ext e)
theorem Chain.one {c : Came} {h : Nat → Option Int} {p : Nat} (hp : h p = none) : ∀ {k j : Nat} {t : Int}, Chain c h p k t → Chain c h p j t → k = j
  | _, _, _, .start _, .start _ => rfl
  | _, _, _, .start a, .step b d _ => by
    rw [a] at b
    cases b
    rw [hp] at d
    cases d
  | _, _, _, .step b d _, .start a => by
    rw [a] at b
    cases b
    rw [hp] at d
    cases d
  | _, _, _, .step a b d, .step a' b' d' => by
    rw [a] at a'
    cases a'
    rw [b] at b'
    cases b'
    rw [d.one hp d']
def Vis (o : Int → Option Nat) (p : Nat) (c : Came) (q : Nat) : Prop := q = p ∨ ∃ t x, c t = some x ∧ o t = some q
structure WInv (rows : Rows) (m : MS) (p : Nat) (c : Came) (w : List Nat) : Prop where
  a : ∀ t x, c t = some x → t ∈ row rows x ∧ ∃ q, m.o t = some q
  b : ∀ t x, c t = some x → ∃ k, Chain c m.h p k t
  v : ∀ q ∈ w, Vis m.o p c q
  d : ∀ q, Vis m.o p c q → q ∉ w → ∀ t ∈ row rows q, c t ≠ none
theorem WInv.init {rows : Rows} {m : MS} {p : Nat} : WInv rows m p (fun _ => none) [p] :=
  ⟨fun _ _ h => (by cases h), fun _ _ h => (by cases h), fun q h => .inl (List.mem_singleton.mp h), fun q h n => by
    rcases h with h | ⟨t, x, h, _⟩
    · exact absurd (List.mem_singleton.mpr h) n
    · cases h⟩
theorem chain_of {rows : Rows} {m : MS} {p one : Nat} {c c' : Came} {w : List Nat} {t : Int} (v : Valid rows m) (i : WInv rows m p c w) (h1 : Vis m.o p c one) (e : ∀ t y, c t = some y → c' t = some y) (ht : c' t = some one) : ∃ k, Chain c' m.h p k t := by
  rcases h1 with h1 | ⟨s, x, hs, ho⟩
  · exact ⟨0, .start (by rw [← h1]; exact ht)⟩
  · obtain ⟨k, hk⟩ := i.b s x hs
    exact ⟨k + 1, .step ht ((v.inv one s).mpr ho) (hk.ext e)⟩
theorem WInv.next {rows : Rows} {m : MS} {p one : Nat} {c c' : Came} {w w' : List Nat} (v : Valid rows m) (i : WInv rows m p c (w ++ [one])) (h : scan m.o one (row rows one) c w = (none, c', w')) : WInv rows m p c' w' := by
  have s := scan_is h
  have h1 : Vis m.o p c one := i.v one (List.mem_append_right _ List.mem_cons_self)
  have up : ∀ q, Vis m.o p c q → Vis m.o p c' q := fun q z => z.imp id fun ⟨t, x, a, b⟩ => ⟨t, x, s.ext _ _ a, b⟩
  refine ⟨fun t x ht => ?_, fun t x ht => ?_, fun q hq => ?_, fun q hv hq t ht => ?_⟩
  · rcases s.new t x ht with a | ⟨a, b, d, f⟩
    · exact i.a t x a
    · rw [a]
      rcases f with ⟨q, f, _⟩ | f
      · exact ⟨b, q, f⟩
      · cases f
  · rcases s.new t x ht with a | ⟨a, b, d, f⟩
    · obtain ⟨k, hk⟩ := i.b t x a
      exact ⟨k, hk.ext s.ext⟩
    · rw [a] at ht
      exact chain_of v i h1 s.ext ht
  · rcases s.wn q hq with a | ⟨t, a, b⟩
    · exact up q (i.v q (List.mem_append_left _ a))
    · exact .inr ⟨t, one, a, b⟩
  · by_cases hone : q = one
    · rw [hone] at ht
      exact s.all rfl t ht
    · have hv' : Vis m.o p c q := by
        rcases hv with z | ⟨u, x, hu, ho⟩
        · exact .inl z
        · rcases s.new u x hu with a | ⟨a, b, d, f⟩
          · exact .inr ⟨u, x, a, ho⟩
          · rcases f with ⟨r, f, fr⟩ | f
            · rw [ho] at f
              cases f
              exact absurd fr hq
            · cases f
      have hq' : q ∉ w ++ [one] := fun z => by
        rcases List.mem_append.mp z with z | z
        · exact hq (s.sub q z)
        · exact hone (List.mem_singleton.mp z)
      have := i.d q hv' hq' t ht
      cases z : c t with
      | none => exact absurd z this
      | some y => rw [s.ext t y z]; exact fun z => nomatch z
theorem walk_none {rows : Rows} {m : MS} {p : Nat} (v : Valid rows m) {c c' : Came} {w : List Nat} {x : Option Int} (h : Walk rows m.o c w x c') : x = none → WInv rows m p c w → WInv rows m p c' [] := by
  induction h with
  | nil => exact fun _ i => i
  | found h => exact fun e => nomatch e
  | more h _ ih => exact fun e i => ih e (i.next v h)
theorem walk_closed {rows : Rows} {m : MS} {p : Nat} (v : Valid rows m) {c' : Came} (h : Walk rows m.o (fun _ => none) [p] none c') : Closed rows m (Vis m.o p c') := by
  have i := walk_none v h rfl WInv.init
  intro q hq t ht
  have hc := i.d q hq (by simp) t ht
  cases z : c' t with
  | none => exact absurd z hc
  | some x =>
    obtain ⟨_, r, hr⟩ := i.a t x z
    exact ⟨r, .inr ⟨t, x, z, hr⟩, (v.inv r t).mpr hr⟩
structure Found (rows : Rows) (m : MS) (p : Nat) (c : Came) (t : Int) : Prop where
  free : m.o t = none
  tie : ∀ s x, c s = some x → s ∈ row rows x
  chain : ∃ k, Chain c m.h p k t
theorem walk_found {rows : Rows} {m : MS} {p : Nat} (v : Valid rows m) {c c' : Came} {w : List Nat} {x : Option Int} (h : Walk rows m.o c w x c') : ∀ t, x = some t → WInv rows m p c w → Found rows m p c' t := by
  induction h with
  | nil => exact fun _ e => nomatch e
  | found h =>
    intro t e i
    cases e
    have s := scan_is h
    have f := s.found _ rfl
    refine ⟨f.1, fun u y hu => ?_, chain_of v i (i.v _ (List.mem_append_right _ List.mem_cons_self)) s.ext f.2.1⟩
    rcases s.new u y hu with a | ⟨a, b, _⟩
    · exact (i.a u y a).1
    · rw [a]; exact b
  | more h _ ih => exact fun t e i => ih t e (i.next v h)
/-! handing on -/
def put (m : MS) (q : Nat) (t : Int) : MS := ⟨fset m.h q (some t), fset m.o t (some q)⟩
inductive Hand (c : Came) : MS → Int → MS → Prop
  | last {m : MS} {t : Int} {q : Nat} : c t = some q → m.h q = none → Hand c m t (put m q t)
  | more {m m' : MS} {t s : Int} {q : Nat} : c t = some q → m.h q = some s → Hand c (put m q t) s m' → Hand c m t m'
/-- while things are handed on: m behind m0, t in hand, k steps left -/
structure HInv (rows : Rows) (m0 : MS) (p : Nat) (c : Came) (m : MS) (t : Int) (k : Nat) : Prop where
  ch : Chain c m0.h p k t
  ho : ∀ x s, m.h x = some s → m.o s = some x
  oh : ∀ x s, m.o s = some x → m.h x = some s ∨ s = t
  no : ∀ x, m.h x ≠ some t
  tie : ∀ x s, m.h x = some s → s ∈ row rows x
  dom : ∀ x, m.h x = none ↔ m0.h x = none
  old : ∀ x, m.h x ≠ m0.h x → ∃ s j, m0.h x = some s ∧ Chain c m0.h p j s ∧ k ≤ j
  cl : ∀ R, Closed rows m0 R → (∀ q, c t = some q → ¬ R q) ∧ ∀ x, R x → m.h x = m0.h x
theorem HInv.init {rows : Rows} {m : MS} {p : Nat} {c : Came} {t : Int} (v : Valid rows m) (f : Found rows m p c t) : ∃ k, HInv rows m p c m t k := by
  obtain ⟨k, hk⟩ := f.chain
  refine ⟨k, hk, fun x s h => (v.inv x s).mp h, fun x s h => .inl ((v.inv x s).mpr h), fun x h => ?_, v.tie, fun _ => Iff.rfl, fun x h => absurd rfl h, fun R hR => ⟨fun q hq rq => ?_, fun _ _ => rfl⟩⟩
  · have := (v.inv x t).mp h
    rw [f.free] at this
    cases this
  · obtain ⟨r, _, hr⟩ := hR q rq t (f.tie t q hq)
    have := (v.inv r t).mp hr
    rw [f.free] at this
    cases this
theorem HInv.at_ {rows : Rows} {m0 m : MS} {p : Nat} {c : Came} {t : Int} {k : Nat} (hp : m0.h p = none) (i : HInv rows m0 p c m t k) : ∃ q, c t = some q ∧ m.h q = m0.h q ∧ ((k = 0 ∧ q = p) ∨ ∃ s j, k = j + 1 ∧ m0.h q = some s ∧ Chain c m0.h p j s) := by
  have ch := i.ch
  cases ch with
  | start a =>
    refine ⟨p, a, ?_, .inl ⟨rfl, rfl⟩⟩
    rw [hp]
    exact (i.dom p).mpr hp
  | @step j _ s q a b d =>
    refine ⟨q, a, ?_, .inr ⟨s, j, rfl, b, d⟩⟩
    refine Classical.byContradiction fun hc => ?_
    obtain ⟨s', j', h1, h2, h3⟩ := i.old q hc
    rw [b] at h1
    cases h1
    have := d.one hp h2
    omega
theorem HInv.more {rows : Rows} {m0 m : MS} {p : Nat} {c : Came} {t s : Int} {k j q : Nat} (v0 : Valid rows m0) (hp : m0.h p = none) (tie : ∀ s x, c s = some x → s ∈ row rows x) (i : HInv rows m0 p c m t k) (hc : c t = some q) (e : m.h q = m0.h q) (hk : k = j + 1) (hs : m0.h q = some s) (hch : Chain c m0.h p j s) : HInv rows m0 p c (put m q t) s j := by
  have hms : m.h q = some s := e.trans hs
  have nst : s ≠ t := fun z => i.no q (by rw [hms, z])
  refine ⟨hch, fun x r h => ?_, fun x r h => ?_, fun x h => ?_, fun x r h => ?_, fun x => ?_, fun x h => ?_, fun R hR => ?_⟩
  · have h' : fset m.h q (some t) x = some r := h
    show fset m.o t (some q) r = some x
    by_cases z : x = q
    · rw [z, fset_same] at h'
      cases h'
      rw [fset_same, z]
    · rw [fset_ne z] at h'
      rw [fset_ne (fun y => i.no x (by rw [h', y]))]
      exact i.ho x r h'
  · have h' : fset m.o t (some q) r = some x := h
    show fset m.h q (some t) x = some r ∨ r = s
    by_cases z : r = t
    · rw [z, fset_same] at h'
      cases h'
      rw [fset_same, z]
      exact .inl rfl
    · rw [fset_ne z] at h'
      by_cases y : x = q
      · rcases i.oh x r h' with a | a
        · rw [y, hms] at a
          exact .inr (Option.some.inj a).symm
        · exact absurd a z
      · rw [fset_ne y]
        rcases i.oh x r h' with a | a
        · exact .inl a
        · exact absurd a z
  · have h' : fset m.h q (some t) x = some s := h
    by_cases z : x = q
    · rw [z, fset_same] at h'
      exact nst (Option.some.inj h').symm
    · rw [fset_ne z] at h'
      have a := i.ho x s h'
      have b := i.ho q s hms
      rw [a] at b
      exact z (Option.some.inj b)
  · have h' : fset m.h q (some t) x = some r := h
    by_cases z : x = q
    · rw [z, fset_same] at h'
      cases h'
      rw [z]
      exact tie t q hc
    · rw [fset_ne z] at h'
      exact i.tie x r h'
  · show fset m.h q (some t) x = none ↔ _
    by_cases z : x = q
    · rw [z, fset_same, hs]
      exact ⟨fun y => (by cases y), fun y => (by cases y)⟩
    · rw [fset_ne z]
      exact i.dom x
  · have h' : fset m.h q (some t) x ≠ m0.h x := h
    by_cases z : x = q
    · exact ⟨s, j, by rw [z]; exact hs, hch, Nat.le_refl _⟩
    · rw [fset_ne z] at h'
      obtain ⟨a, b, d, f, g⟩ := i.old x h'
      exact ⟨a, b, d, f, by omega⟩
  · obtain ⟨a, b⟩ := i.cl R hR
    refine ⟨fun r hr rr => ?_, fun x rx => ?_⟩
    · obtain ⟨y, ry, hy⟩ := hR r rr s (tie s r hr)
      have := v0.inj hy hs
      rw [this] at ry
      exact a q hc ry
    · show fset m.h q (some t) x = _
      rw [fset_ne (fun z => a q hc (by rw [← z]; exact rx))]
      exact b x rx
structure Given (rows : Rows) (m0 : MS) (p : Nat) (m : MS) : Prop where
  valid : Valid rows m
  got : m.h p ≠ none
  dom : ∀ x, x ≠ p → (m.h x = none ↔ m0.h x = none)
  cl : ∀ R, Closed rows m0 R → ∀ x, R x → m.h x = m0.h x
theorem HInv.last {rows : Rows} {m0 m : MS} {p : Nat} {c : Came} {t : Int} {k q : Nat} (hp : m0.h p = none) (tie : ∀ s x, c s = some x → s ∈ row rows x) (i : HInv rows m0 p c m t k) (hc : c t = some q) (hq : m.h q = none) : Given rows m0 p (put m q t) := by
  have hqp : q = p := by
    obtain ⟨r, h1, h2, h3⟩ := i.at_ hp
    rw [hc] at h1
    cases h1
    rcases h3 with ⟨_, e⟩ | ⟨s, j, _, e, _⟩
    · exact e
    · rw [h2, e] at hq
      cases hq
  refine ⟨⟨fun x r => ⟨fun h => ?_, fun h => ?_⟩, fun x r h => ?_⟩, ?_, fun x hx => ?_, fun R hR x rx => ?_⟩
  · have h' : fset m.h q (some t) x = some r := h
    show fset m.o t (some q) r = some x
    by_cases z : x = q
    · rw [z, fset_same] at h'
      cases h'
      rw [fset_same, z]
    · rw [fset_ne z] at h'
      rw [fset_ne (fun y => i.no x (by rw [h', y]))]
      exact i.ho x r h'
  · have h' : fset m.o t (some q) r = some x := h
    show fset m.h q (some t) x = some r
    by_cases z : r = t
    · rw [z, fset_same] at h'
      cases h'
      rw [fset_same, z]
    · rw [fset_ne z] at h'
      rcases i.oh x r h' with a | a
      · rw [fset_ne (fun y => by rw [y, hq] at a; cases a)]
        exact a
      · exact absurd a z
  · have h' : fset m.h q (some t) x = some r := h
    by_cases z : x = q
    · rw [z, fset_same] at h'
      cases h'
      rw [z]
      exact tie t q hc
    · rw [fset_ne z] at h'
      exact i.tie x r h'
  · show fset m.h q (some t) p ≠ none
    rw [hqp, fset_same]
    exact fun z => nomatch z
  · show fset m.h q (some t) x = none ↔ _
    rw [fset_ne (by rw [hqp]; exact hx)]
    exact i.dom x
  · obtain ⟨a, b⟩ := i.cl R hR
    show fset m.h q (some t) x = _
    rw [fset_ne (fun z => a q hc (by rw [← z]; exact rx))]
    exact b x rx
theorem hand_given {rows : Rows} {m0 : MS} {p : Nat} {c : Came} (v0 : Valid rows m0) (hp : m0.h p = none) (tie : ∀ s x, c s = some x → s ∈ row rows x) {m m' : MS} {t : Int} (h : Hand c m t m') : ∀ k, HInv rows m0 p c m t k → Given rows m0 p m' := by
  induction h with
  | last a b => exact fun k i => i.last hp tie a b
  | @more m m' t u r a b _ ih =>
    intro k i
    obtain ⟨r', h1, h2, h3⟩ := i.at_ hp
    rw [a] at h1
    obtain rfl := Option.some.inj h1
    rcases h3 with ⟨_, e⟩ | ⟨s, j, e1, e2, e3⟩
    · rw [h2, e, hp] at b
      cases b
    · have e4 : m0.h r = some _ := h2.symm.trans b
      rw [e2] at e4
      cases e4
      exact ih j (i.more v0 hp tie a h2 e1 e2 e3)
theorem hand_ex {rows : Rows} {m0 : MS} {p : Nat} {c : Came} (v0 : Valid rows m0) (hp : m0.h p = none) (tie : ∀ s x, c s = some x → s ∈ row rows x) : ∀ (k : Nat) {m : MS} {t : Int}, HInv rows m0 p c m t k → ∃ m', Hand c m t m'
  | 0, m, t, i => by
    obtain ⟨r, h1, h2, h3⟩ := i.at_ hp
    rcases h3 with ⟨_, e⟩ | ⟨s, j, e1, _⟩
    · exact ⟨_, .last h1 (by rw [h2, e, hp])⟩
    · omega
  | k + 1, m, t, i => by
    obtain ⟨r, h1, h2, h3⟩ := i.at_ hp
    rcases h3 with ⟨e, _⟩ | ⟨s, j, e1, e2, e3⟩
    · omega
    · have ej : j = k := by omega
      subst ej
      obtain ⟨m', hm⟩ := hand_ex v0 hp tie j (i.more v0 hp tie h1 h2 rfl e2 e3)
      exact ⟨m', .more h1 (h2.trans e2) hm⟩
end Mt

set_option maxRecDepth 100000
set_option maxHeartbeats 1000000
/-! Matching, on: giving to each in turn; ties that are in a dealing. -/
namespace Mt
open Classical
theorem filt_lt {α : Type} {P Q : α → Bool} (h : ∀ x, P x = true → Q x = true) : ∀ {l : List α} {t : α}, t ∈ l → Q t = true → P t = false → (l.filter P).length + 1 ≤ (l.filter Q).length
  | x :: l, t, ht, hq, hp => by
    have mono : ∀ l : List α, (l.filter P).length ≤ (l.filter Q).length := fun l => by
      induction l with
      | nil => exact Nat.le_refl _
      | cons y l ih =>
        cases hy : P y with
        | true => rw [List.filter_cons_of_pos hy, List.filter_cons_of_pos (h y hy), List.length_cons, List.length_cons]; omega
        | false =>
          rw [List.filter_cons_of_neg (by rw [hy]; decide)]
          cases hz : Q y with
          | true => rw [List.filter_cons_of_pos hz, List.length_cons]; omega
          | false => rw [List.filter_cons_of_neg (by rw [hz]; decide)]; exact ih
    rcases List.mem_cons.mp ht with e | e
    · rw [← e, List.filter_cons_of_neg (by rw [hp]; decide), List.filter_cons_of_pos hq, List.length_cons]
      have := mono l
      omega
    · have ih := filt_lt h e hq hp
      cases hy : P x with
      | true => rw [List.filter_cons_of_pos hy, List.filter_cons_of_pos (h x hy), List.length_cons, List.length_cons]; omega
      | false =>
        rw [List.filter_cons_of_neg (by rw [hy]; decide)]
        cases hz : Q x with
        | true => rw [List.filter_cons_of_pos hz, List.length_cons]; omega
        | false => rw [List.filter_cons_of_neg (by rw [hz]; decide)]; exact ih
/-- how much is left to do: things not come to, and people waiting -/
def todo (U : List Int) (c : Came) (w : List Nat) : Nat := (U.filter fun t => (c t).isNone).length + w.length
theorem scan_todo {o : Int → Option Nat} {one : Nat} {U : List Int} : ∀ (l : List Int) (c : Came) (w : List Nat), (∀ t ∈ l, t ∈ U) → (scan o one l c w).1 = none → todo U (scan o one l c w).2.1 (scan o one l c w).2.2 ≤ todo U c w
  | [], c, w, _, _ => Nat.le_refl _
  | t :: l, c, w, hU, hn => by
    by_cases hc : (c t).isSome = true
    · have e : scan o one (t :: l) c w = scan o one l c w := by
        show (if (c t).isSome = true then scan o one l c w else _) = _
        rw [if_pos hc]
      rw [e] at hn ⊢
      exact scan_todo l c w (fun s hs => hU s (List.mem_cons_of_mem _ hs)) hn
    · cases ho : o t with
      | none =>
        have e : scan o one (t :: l) c w = (some t, fset c t (some one), w) := by
          show (if (c t).isSome = true then _ else match o t with | none => _ | some q => _) = _
          rw [if_neg hc, ho]
        rw [e] at hn
        cases hn
      | some q =>
        have e : scan o one (t :: l) c w = scan o one l (fset c t (some one)) (w ++ [q]) := by
          show (if (c t).isSome = true then _ else match o t with | none => _ | some q => _) = _
          rw [if_neg hc, ho]
        rw [e] at hn ⊢
        refine Nat.le_trans (scan_todo l _ _ (fun s hs => hU s (List.mem_cons_of_mem _ hs)) hn) ?_
        unfold todo
        rw [List.length_append, List.length_singleton]
        have := filt_lt (P := fun s => (fset c t (some one) s).isNone) (Q := fun s => (c s).isNone) (l := U) (t := t) (fun x hx => by
          by_cases z : x = t
          · rw [z, fset_same] at hx
            cases hx
          · rw [fset_ne z] at hx
            exact hx) (hU t List.mem_cons_self) (by
          cases z : c t with
          | none => rfl
          | some y => rw [z] at hc; exact absurd rfl hc) (by rw [fset_same]; rfl)
        omega
theorem scan_todo' {o : Int → Option Nat} {one : Nat} {U : List Int} {l : List Int} {c c' : Came} {w w' : List Nat} (hU : ∀ t ∈ l, t ∈ U) (h : scan o one l c w = (none, c', w')) : todo U c' w' ≤ todo U c w := by
  have := scan_todo (o := o) (one := one) (U := U) l c w hU
  rw [h] at this
  exact this rfl
theorem todo_snoc {U : List Int} {c : Came} {w : List Nat} {q : Nat} : todo U c (w ++ [q]) = todo U c w + 1 := by
  unfold todo
  rw [List.length_append, List.length_singleton]
  omega
def things (rows : Rows) : List Int := rows.flatten
theorem mem_things {rows : Rows} {p : Nat} {t : Int} (h : t ∈ row rows p) : t ∈ things rows := by
  unfold row at h
  cases e : rows[p]? with
  | none => rw [e] at h; cases h
  | some r =>
    rw [e] at h
    exact List.mem_flatten.mpr ⟨r, List.mem_of_getElem? e, h⟩
theorem walk_ex {rows : Rows} {o : Int → Option Nat} : ∀ (n : Nat) (c : Came) (w : List Nat), todo (things rows) c w ≤ n → ∃ x c', Walk rows o c w x c'
  | n, c, w, h => by
    rcases List.eq_nil_or_concat w with e | ⟨w0, q, e⟩
    · rw [e]
      exact ⟨none, c, .nil⟩
    · rw [List.concat_eq_append] at e
      subst e
      cases n with
      | zero => rw [todo_snoc] at h; omega
      | succ n =>
        rw [todo_snoc] at h
        rcases hs : scan o q (row rows q) c w0 with ⟨x, c', w'⟩
        cases x with
        | some t => exact ⟨some t, c', .found hs⟩
        | none =>
          have := scan_todo' (U := things rows) (fun t ht => mem_things ht) hs
          obtain ⟨x, c2, hw⟩ := walk_ex (rows := rows) (o := o) n c' w' (by omega)
          exact ⟨x, c2, .more hs hw⟩
inductive Give (rows : Rows) (m : MS) (p : Nat) : MS → Prop
  | no {c : Came} : Walk rows m.o (fun _ => none) [p] none c → Give rows m p m
  | yes {c : Came} {t : Int} {m' : MS} : Walk rows m.o (fun _ => none) [p] (some t) c → Hand c m t m' → Give rows m p m'
theorem give_ex {rows : Rows} {m : MS} {p : Nat} (v : Valid rows m) (hp : m.h p = none) : ∃ m', Give rows m p m' := by
  obtain ⟨x, c, hw⟩ := walk_ex (rows := rows) (o := m.o) _ (fun _ => none) [p] (Nat.le_refl _)
  cases x with
  | none => exact ⟨m, .no hw⟩
  | some t =>
    have f := walk_found v hw t rfl WInv.init
    obtain ⟨k, i⟩ := HInv.init v f
    obtain ⟨m', hm⟩ := hand_ex v hp f.tie k i
    exact ⟨m', .yes hw hm⟩
theorem give_ok {rows : Rows} {m m' : MS} {p : Nat} (v : Valid rows m) (hp : m.h p = none) (g : Give rows m p m') : Given rows m p m' ∨ (m' = m ∧ ∃ R, R p ∧ Closed rows m R) := by
  cases g with
  | no hw => exact .inr ⟨rfl, _, .inl rfl, walk_closed v hw⟩
  | yes hw hh =>
    have f := walk_found v hw _ rfl WInv.init
    obtain ⟨k, i⟩ := HInv.init v f
    exact .inl (hand_given v hp f.tie hh k i)
/-! one answer alone -/
theorem walk_one {rows : Rows} {o : Int → Option Nat} {c c1 : Came} {w : List Nat} {x : Option Int} (a : Walk rows o c w x c1) : ∀ {y : Option Int} {c2 : Came}, Walk rows o c w y c2 → x = y ∧ c1 = c2 := by
  induction a with
  | nil =>
    intro y c2 b
    generalize ew : ([] : List Nat) = w' at b
    cases b with
    | nil => exact ⟨rfl, rfl⟩
    | found h => exact absurd ew (by simp)
    | more h _ => exact absurd ew (by simp)
  | @found c c' w w' one t h =>
    intro y c2 b
    generalize ew : w ++ [one] = w2 at b
    cases b with
    | nil => exact absurd ew (by simp)
    | found h2 =>
      obtain ⟨e1, e2⟩ := List.append_inj' ew rfl
      cases e2
      subst e1
      rw [h] at h2
      cases h2
      exact ⟨rfl, rfl⟩
    | more h2 _ =>
      obtain ⟨e1, e2⟩ := List.append_inj' ew rfl
      cases e2
      subst e1
      rw [h] at h2
      cases h2
  | @more c c' c2 w w' one x h _ ih =>
    intro y c3 b
    generalize ew : w ++ [one] = w2 at b
    cases b with
    | nil => exact absurd ew (by simp)
    | found h2 =>
      obtain ⟨e1, e2⟩ := List.append_inj' ew rfl
      cases e2
      subst e1
      rw [h] at h2
      cases h2
    | more h2 b2 =>
      obtain ⟨e1, e2⟩ := List.append_inj' ew rfl
      cases e2
      subst e1
      rw [h] at h2
      cases h2
      exact ih b2
theorem hand_one {c : Came} {m m1 : MS} {t : Int} (a : Hand c m t m1) : ∀ {m2 : MS}, Hand c m t m2 → m1 = m2 := by
  induction a with
  | last a b =>
    intro m2 h
    cases h with
    | last a2 b2 => rw [a] at a2; cases a2; rfl
    | more a2 b2 _ => rw [a] at a2; cases a2; rw [b] at b2; cases b2
  | more a b _ ih =>
    intro m2 h
    cases h with
    | last a2 b2 => rw [a] at a2; cases a2; rw [b] at b2; cases b2
    | more a2 b2 h2 => rw [a] at a2; cases a2; rw [b] at b2; cases b2; exact ih h2
theorem give_one {rows : Rows} {m m1 m2 : MS} {p : Nat} (a : Give rows m p m1) (b : Give rows m p m2) : m1 = m2 := by
  cases a with
  | no h =>
    cases b with
    | no h2 => rfl
    | yes h2 k2 => exact absurd (walk_one h h2).1 (by simp)
  | yes h k =>
    cases b with
    | no h2 => exact absurd (walk_one h h2).1 (by simp)
    | yes h2 k2 =>
      obtain ⟨e1, e2⟩ := walk_one h h2
      cases e1
      subst e2
      exact hand_one k k2
/-! each in turn -/
def m0 : MS := ⟨fun _ => none, fun _ => none⟩
inductive Upto (rows : Rows) : Nat → MS → Prop
  | zero : Upto rows 0 m0
  | succ {k : Nat} {m m' : MS} : Upto rows k m → Give rows m k m' → Upto rows (k + 1) m'
structure UpOk (rows : Rows) (k : Nat) (m : MS) : Prop where
  valid : Valid rows m
  late : ∀ p, k ≤ p → m.h p = none
  cl : ∀ p, p < k → m.h p = none → ∃ R, R p ∧ Closed rows m R
theorem upto_ok {rows : Rows} {k : Nat} {m : MS} (u : Upto rows k m) : UpOk rows k m := by
  induction u with
  | zero => exact ⟨⟨fun p t => ⟨fun h => (by cases h), fun h => (by cases h)⟩, fun p t h => (by cases h)⟩, fun _ _ => rfl, fun p h => absurd h (Nat.not_lt_zero _)⟩
  | @succ k m m' _ g ih =>
    have hk := ih.late k (Nat.le_refl _)
    rcases give_ok ih.valid hk g with a | ⟨rfl, R, r, c⟩
    · refine ⟨a.valid, fun p hp => (a.dom p (by omega)).mpr (ih.late p (by omega)), fun p hp hn => ?_⟩
      by_cases e : p = k
      · rw [e] at hn
        exact absurd hn a.got
      · obtain ⟨R, r, c⟩ := ih.cl p (by omega) ((a.dom p e).mp hn)
        refine ⟨R, r, fun q rq t ht => ?_⟩
        obtain ⟨q', r', hq'⟩ := c q rq t ht
        exact ⟨q', r', (a.cl R c q' r').trans hq'⟩
    · refine ⟨ih.valid, fun p hp => ih.late p (by omega), fun p hp hn => ?_⟩
      by_cases e : p = k
      · rw [e]
        exact ⟨R, r, c⟩
      · exact ih.cl p (by omega) hn
theorem upto_ex {rows : Rows} : ∀ k, ∃ m, Upto rows k m
  | 0 => ⟨_, .zero⟩
  | k + 1 => by
    obtain ⟨m, u⟩ := upto_ex (rows := rows) k
    have o := upto_ok u
    obtain ⟨m', g⟩ := give_ex o.valid (o.late k (Nat.le_refl _))
    exact ⟨m', .succ u g⟩
theorem upto_one {rows : Rows} : ∀ {k : Nat} {a b : MS}, Upto rows k a → Upto rows k b → a = b
  | 0, _, _, .zero, .zero => rfl
  | k + 1, _, _, .succ u g, .succ v h => by
    have := upto_one u v
    subst this
    exact give_one g h
def Full (rows : Rows) (m : MS) : Prop := ∀ p, p < rows.length → m.h p ≠ none
def dealt (n : Nat) (m : MS) : List Int := (List.range n).map fun p => (m.h p).getD 0
theorem dealt_get {n p : Nat} {m : MS} (h : p < n) : (dealt n m)[p]? = some ((m.h p).getD 0) := by
  unfold dealt
  rw [List.getElem?_map, List.getElem?_range h]
  rfl
theorem dealt_ok {rows : Rows} {m : MS} (v : Valid rows m) (f : Full rows m) : Ds rows (dealt rows.length m) ∧ ∀ p t, m.h p = some t → (dealt rows.length m)[p]? = some t := by
  have ln : (dealt rows.length m).length = rows.length := by unfold dealt; rw [List.length_map, List.length_range]
  have get : ∀ p t, m.h p = some t → (dealt rows.length m)[p]? = some t := fun p t h => by
    rw [dealt_get (row_lt (v.tie p t h)), h]
    rfl
  have back : ∀ p t, (dealt rows.length m)[p]? = some t → m.h p = some t := fun p t h => by
    have hp : p < rows.length := by
      have := (List.getElem?_eq_some_iff.mp h).1
      omega
    cases e : m.h p with
    | none => exact absurd e (f p hp)
    | some s =>
      rw [get p s e] at h
      exact h
  refine ⟨⟨ln, fun p t h => v.tie p t (back p t h), ?_⟩, get⟩
  unfold dealt
  refine nodup_map List.nodup_range fun x hx y hy e => ?_
  have hx' := List.mem_range.mp hx
  have hy' := List.mem_range.mp hy
  cases ex : m.h x with
  | none => exact absurd ex (f x hx')
  | some s =>
    cases ey : m.h y with
    | none => exact absurd ey (f y hy')
    | some t =>
      rw [ex, ey] at e
      have e' : s = t := e
      rw [e'] at ex
      exact v.inj ex ey
/-- either all are served, or there is no dealing -/
theorem full_or {rows : Rows} {m : MS} (o : UpOk rows rows.length m) : Full rows m ∨ ∃ p, p < rows.length ∧ m.h p = none ∧ ∀ D, ¬ Ds rows D := by
  by_cases f : Full rows m
  · exact .inl f
  · obtain ⟨p, hp⟩ := Classical.not_forall.mp f
    obtain ⟨h1, h2⟩ := Classical.not_imp.mp hp
    have h3 : m.h p = none := Classical.byContradiction h2
    obtain ⟨R, r, c⟩ := o.cl p h1 h3
    exact .inr ⟨p, h1, h3, fun D d => no_dealing o.valid h1 r c h3 d⟩
/-! steps from one to another -/
inductive Reach (rows : Rows) (o : Int → Option Nat) (q : Nat) : Nat → Prop
  | refl : Reach rows o q q
  | step {x y : Nat} {s : Int} : Reach rows o q x → s ∈ row rows x → o s = some y → Reach rows o q y
def Few (rows : Rows) : Prop := ∃ U : List Int, U.length ≤ rows.length ∧ ∀ p, ∀ t ∈ row rows p, t ∈ U
theorem owned {rows : Rows} {m : MS} (v : Valid rows m) (f : Full rows m) (few : Few rows) {p : Nat} {t : Int} (h : t ∈ row rows p) : ∃ q, m.o t = some q := by
  obtain ⟨U, hl, hU⟩ := few
  obtain ⟨d, get⟩ := dealt_ok v f
  have h1 := all_in d.nd (l2 := U) (fun x hx => by
    obtain ⟨i, hi⟩ := List.getElem?_of_mem hx
    exact hU i x (d.tie i x hi)) (by rw [d.len]; exact hl) t (hU p t h)
  obtain ⟨i, hi⟩ := List.getElem?_of_mem h1
  have hin : i < rows.length := row_lt (d.tie i t hi)
  cases e : m.h i with
  | none => exact absurd e (f i hin)
  | some s =>
    rw [get i s e] at hi
    cases hi
    exact ⟨i, (v.inv i t).mp e⟩
theorem reach_of {rows : Rows} {m : MS} {D : List Int} {p q : Nat} {t : Int} (v : Valid rows m) (f : Full rows m) (few : Few rows) (d : Ds rows D) (hD : D[p]? = some t) (ho : m.o t = some q) : Reach rows m.o q p := by
  refine Classical.byContradiction fun hc => ?_
  have hq : q < rows.length := row_lt (v.tie q t ((v.inv q t).mpr ho))
  have own : ∀ x, x < rows.length → ∃ s y, D[x]? = some s ∧ s ∈ row rows x ∧ m.o s = some y := fun x hx => by
    obtain ⟨s, e, hs⟩ := d.get hx
    obtain ⟨y, hy⟩ := owned v f few hs
    exact ⟨s, y, e, hs, hy⟩
  refine no_room (n := rows.length) (R := Reach rows m.o q) (p := q) (f := fun x => (m.o (D[x]?.getD 0)).getD 0) hq .refl (fun x hx rx => ?_) (fun x y hx hy rx ry e => ?_)
  · obtain ⟨s, y, e, hs, hy⟩ := own x hx
    show (m.o (D[x]?.getD 0)).getD 0 < _ ∧ Reach rows m.o q ((m.o (D[x]?.getD 0)).getD 0) ∧ (m.o (D[x]?.getD 0)).getD 0 ≠ q
    rw [e]
    show (m.o s).getD 0 < _ ∧ Reach rows m.o q ((m.o s).getD 0) ∧ (m.o s).getD 0 ≠ q
    rw [hy]
    refine ⟨row_lt (v.tie y s ((v.inv y s).mpr hy)), .step rx hs hy, fun z => ?_⟩
    have z' : y = q := z
    rw [z'] at hy
    have a := (v.inv q s).mpr hy
    have b := (v.inv q t).mpr ho
    rw [a] at b
    cases b
    exact hc (nodup_get d.nd e hD ▸ rx)
  · obtain ⟨s, u, e1, hs, hu⟩ := own x hx
    obtain ⟨s', u', e2, hs', hu'⟩ := own y hy
    have e' : (m.o (D[x]?.getD 0)).getD 0 = (m.o (D[y]?.getD 0)).getD 0 := e
    rw [e1, e2] at e'
    have e'' : (m.o s).getD 0 = (m.o s').getD 0 := e'
    rw [hu, hu'] at e''
    have e3 : u = u' := e''
    subst e3
    have a := (v.inv u s).mpr hu
    have b := (v.inv u s').mpr hu'
    rw [a] at b
    cases b
    exact nodup_get d.nd e1 e2
def narrow (rows : Rows) (p : Nat) (t : Int) : Rows := rows.mapIdx fun x r => if x = p then [t] else r.filter (fun s => decide (s ≠ t))
theorem narrow_len {rows : Rows} {p : Nat} {t : Int} : (narrow rows p t).length = rows.length := List.length_mapIdx
theorem narrow_get {rows : Rows} {p : Nat} {t : Int} (x : Nat) : (narrow rows p t)[x]? = rows[x]?.map fun r => if x = p then [t] else r.filter (fun s => decide (s ≠ t)) := List.getElem?_mapIdx
theorem row_narrow {rows : Rows} {p : Nat} {t : Int} {x : Nat} (h : x < rows.length) : row (narrow rows p t) x = if x = p then [t] else (row rows x).filter (fun s => decide (s ≠ t)) := by
  unfold row
  rw [narrow_get, List.getElem?_eq_getElem h]
  rfl
theorem mem_narrow {rows : Rows} {p : Nat} {t : Int} {x : Nat} {s : Int} (h : x < rows.length) : s ∈ row (narrow rows p t) x ↔ (x = p ∧ s = t) ∨ (x ≠ p ∧ s ∈ row rows x ∧ s ≠ t) := by
  rw [row_narrow h]
  by_cases e : x = p
  · rw [if_pos e, List.mem_singleton]
    exact ⟨fun z => .inl ⟨e, z⟩, fun z => z.elim (fun z => z.2) fun z => absurd e z.1⟩
  · rw [if_neg e, List.mem_filter, decide_eq_true_iff]
    exact ⟨fun z => .inr ⟨e, z⟩, fun z => z.elim (fun z => absurd z.1 e) fun z => z.2⟩
theorem ds_narrow {rows : Rows} {p : Nat} {t : Int} {D : List Int} (hp : p < rows.length) (ht : t ∈ row rows p) : Ds (narrow rows p t) D ↔ Ds rows D ∧ D[p]? = some t := by
  constructor
  · intro d
    have ln : D.length = rows.length := by rw [d.len, narrow_len]
    have hpt : D[p]? = some t := by
      obtain ⟨s, e, hs⟩ := d.get (p := p) (by rw [narrow_len]; exact hp)
      rcases (mem_narrow hp).mp hs with a | a
      · rw [e, a.2]
      · exact absurd rfl a.1
    refine ⟨⟨ln, fun x s e => ?_, d.nd⟩, hpt⟩
    have hx : x < rows.length := by
      have := (List.getElem?_eq_some_iff.mp e).1
      omega
    rcases (mem_narrow hx).mp (d.tie x s e) with a | a
    · rw [a.1, a.2]; exact ht
    · exact a.2.1
  · rintro ⟨d, hpt⟩
    refine ⟨by rw [narrow_len]; exact d.len, fun x s e => ?_, d.nd⟩
    have hx : x < rows.length := by
      have := (List.getElem?_eq_some_iff.mp e).1
      rw [d.len] at this
      exact this
    refine (mem_narrow hx).mpr ?_
    by_cases z : x = p
    · rw [z, hpt] at e
      exact .inl ⟨z, (Option.some.inj e).symm⟩
    · exact .inr ⟨z, d.tie x s e, fun y => z (nodup_get d.nd (by rw [y] at e; exact e) hpt)⟩
/-- a tie is in a dealing if the one who holds its thing comes to the person -/
theorem dealing_of {rows : Rows} {m : MS} {p q : Nat} {t : Int} (v : Valid rows m) (f : Full rows m) (ht : t ∈ row rows p) (ho : m.o t = some q) (r : Reach rows m.o q p) : ∃ D, Ds rows D ∧ D[p]? = some t := by
  have hp : p < rows.length := row_lt ht
  have hqt := (v.inv q t).mpr ho
  have hq : q < rows.length := row_lt (v.tie q t hqt)
  by_cases e : q = p
  · obtain ⟨d, get⟩ := dealt_ok v f
    exact ⟨_, d, get p t (by rw [← e]; exact hqt)⟩
  · obtain ⟨g, hg⟩ : ∃ g, m.h p = some g := by
      cases z : m.h p with
      | none => exact absurd z (f p hp)
      | some g => exact ⟨g, rfl⟩
    have hgt : g ≠ t := fun z => e (v.inj hqt (by rw [← z]; exact hg))
    obtain ⟨N, eN⟩ : ∃ N : MS, N = ⟨fset (fset m.h q none) p (some t), fset (fset m.o g none) t (some p)⟩ := ⟨_, rfl⟩
    have Nh : ∀ x, N.h x = if x = p then some t else if x = q then none else m.h x := fun x => by rw [eN]; rfl
    have No : ∀ s, N.o s = if s = t then some p else if s = g then none else m.o s := fun s => by rw [eN]; rfl
    have vN : Valid (narrow rows p t) N := by
      refine ⟨fun x s => ?_, fun x s h => ?_⟩
      · rw [Nh, No]
        by_cases a : x = p
        · rw [if_pos a]
          by_cases b : s = t
          · rw [if_pos b, a, b]
            exact ⟨fun _ => rfl, fun _ => rfl⟩
          · rw [if_neg b]
            refine ⟨fun z => absurd (Option.some.inj z).symm b, fun z => ?_⟩
            by_cases c : s = g
            · rw [if_pos c] at z; cases z
            · rw [if_neg c] at z
              have := (v.inv x s).mpr z
              rw [a, hg] at this
              exact absurd (Option.some.inj this).symm c
        · rw [if_neg a]
          by_cases b : s = t
          · rw [if_pos b]
            refine ⟨fun z => ?_, fun z => absurd (Option.some.inj z).symm a⟩
            by_cases c : x = q
            · rw [if_pos c] at z; cases z
            · rw [if_neg c, b] at z
              exact absurd (v.inj z hqt) c
          · rw [if_neg b]
            by_cases c : x = q
            · rw [if_pos c]
              refine ⟨fun z => (by cases z), fun z => ?_⟩
              by_cases d : s = g
              · rw [if_pos d] at z; cases z
              · rw [if_neg d] at z
                have := (v.inv x s).mpr z
                rw [c, hqt] at this
                exact absurd (Option.some.inj this).symm b
            · rw [if_neg c]
              by_cases d : s = g
              · rw [if_pos d]
                refine ⟨fun z => ?_, fun z => (by cases z)⟩
                rw [d] at z
                exact absurd (v.inj z hg) a
              · rw [if_neg d]
                exact v.inv x s
      · rw [Nh] at h
        by_cases a : x = p
        · rw [if_pos a] at h
          cases h
          exact (mem_narrow (by rw [a]; exact hp)).mpr (.inl ⟨a, rfl⟩)
        · rw [if_neg a] at h
          by_cases c : x = q
          · rw [if_pos c] at h; cases h
          · rw [if_neg c] at h
            have hs := v.tie x s h
            exact (mem_narrow (row_lt hs)).mpr (.inr ⟨a, hs, fun z => c (v.inj (by rw [z] at h; exact h) hqt)⟩)
    have hNq : N.h q = none := by rw [Nh, if_neg e, if_pos rfl]
    obtain ⟨m', g'⟩ := give_ex vN hNq
    rcases give_ok vN hNq g' with a | ⟨_, R, rq, c⟩
    · have full : Full (narrow rows p t) m' := fun x hx => by
        by_cases z : x = q
        · rw [z]; exact a.got
        · intro y
          have := (a.dom x z).mp y
          rw [Nh] at this
          by_cases w : x = p
          · rw [if_pos w] at this; cases this
          · rw [if_neg w, if_neg z] at this
            rw [narrow_len] at hx
            exact f x hx this
      have d := (dealt_ok a.valid full).1
      have := (ds_narrow hp ht).mp d
      exact ⟨_, this.1, this.2⟩
    · exfalso
      have all : ∀ x, Reach rows m.o q x → R x ∧ x ≠ p := fun x hx => by
        induction hx with
        | refl => exact ⟨rq, e⟩
        | @step x y s _ hs hy ih =>
          have hys := (v.inv y s).mpr hy
          by_cases z : s = t
          · rw [z, ho] at hy
            cases hy
            exact ⟨rq, e⟩
          · obtain ⟨y', ry', hy'⟩ := c x ih.1 s ((mem_narrow (row_lt hs)).mpr (.inr ⟨ih.2, hs, z⟩))
            rw [Nh] at hy'
            by_cases w : y' = p
            · rw [if_pos w] at hy'
              exact absurd (Option.some.inj hy').symm z
            · rw [if_neg w] at hy'
              by_cases u : y' = q
              · rw [if_pos u] at hy'; cases hy'
              · rw [if_neg u] at hy'
                have := v.inj hy' hys
                rw [← this]
                exact ⟨ry', w⟩
      exact (all p r).2 rfl
def Live (rows : Rows) (p : Nat) (t : Int) : Prop := ∃ D, Ds rows D ∧ D[p]? = some t
theorem live_iff {rows : Rows} {m : MS} {p q : Nat} {t : Int} (v : Valid rows m) (f : Full rows m) (few : Few rows) (ht : t ∈ row rows p) (ho : m.o t = some q) : Live rows p t ↔ Reach rows m.o q p :=
  ⟨fun ⟨_, d, e⟩ => reach_of v f few d e ho, fun r => dealing_of v f ht ho r⟩
/-- the rows without the ties that are in no dealing -/
noncomputable def liveR (rows : Rows) : Rows := rows.mapIdx fun p r => r.filter (fun t => decide (Live rows p t))
theorem liveR_len {rows : Rows} : (liveR rows).length = rows.length := List.length_mapIdx
theorem row_liveR {rows : Rows} {p : Nat} : row (liveR rows) p = (row rows p).filter (fun t => decide (Live rows p t)) := by
  unfold row liveR
  rw [List.getElem?_mapIdx]
  cases rows[p]? with
  | none => rfl
  | some r => rfl
theorem mem_liveR {rows : Rows} {p : Nat} {t : Int} : t ∈ row (liveR rows) p ↔ Live rows p t := by
  rw [row_liveR, List.mem_filter, decide_eq_true_iff]
  exact ⟨fun h => h.2, fun h => ⟨by obtain ⟨D, d, e⟩ := h; exact d.tie p t e, h⟩⟩
theorem ds_liveR {rows : Rows} {D : List Int} : Ds (liveR rows) D ↔ Ds rows D := by
  constructor
  · intro d
    refine ⟨by rw [d.len, liveR_len], fun p t e => ?_, d.nd⟩
    obtain ⟨D', d', e'⟩ := mem_liveR.mp (d.tie p t e)
    exact d'.tie p t e'
  · intro d
    exact ⟨by rw [liveR_len]; exact d.len, fun p t e => mem_liveR.mpr ⟨D, d, e⟩, d.nd⟩
end Mt

set_option maxRecDepth 100000
set_option maxHeartbeats 2000000
/-! Dicts from ints to people; stores with an operator; a while by a number that is told. -/
namespace Fo
open PySem PySem.Spec PyProof.Rows L2
section
variable {X : Cx}
theorem pip_of {op : Operator} {r : R2} (h : OpR X (inplaceOp op) r) : PIp X op r := fun pins s σ H x y v u Q I r1 r2 q => h pins s σ H x y v u Q I r1 r2 q
def rGetL (K : PySem.W.Frag) : V → V → Hp → VK → Prop := fun o i H Q => ∃ p xs k v, o = .ref p ∧ i = .int k ∧ 0 ≤ k ∧ SqL K H p xs ∧ atI xs k = some v ∧ Q v H
theorem get_list : PGet X (rGetL X.K) := by
  intro pins s σ H o i ov iv Q I ro ri h
  obtain ⟨p, xs, k, z, rfl, rfl, k0, hq, he, q⟩ := h
  cases ro
  obtain ⟨t, rfl⟩ := ri
  obtain ⟨its, r, pl, hz⟩ := I.list hq
  obtain ⟨j, h1, h2, h3, h4, h5⟩ := atI_get he
  obtain ⟨w, ew, rw'⟩ := r.get h2
  have hl := r.length
  have hn := line63
  have hj : k.toNat = j := by
    rw [seqIndex_of k0 h5] at h1
    exact Option.some.inj h1
  exact wpAny_getItem_list pl.isList k0 (by omega) (by rw [hj]; simpa using ew) ⟨z, H, I, rw', q⟩
end
theorem while_m {c : TT} {tb : TS} {D : Ends} {σ : L2.St} {H : Hp} (Pv : Nat → L2.St → Hp → Prop) (h0 : ∃ m, Pv m σ H)
    (hs : ∀ m σ H, Pv m σ H → c σ H fun b H1 => if b = true then tb { D with nx := fun σ' H' => ∃ j, j < m ∧ Pv j σ' H', ct := fun σ' H' => ∃ j, j < m ∧ Pv j σ' H', bk := D.nx } σ H1 else D.nx σ H1)
    (mono : ∀ σ H Q Q', (∀ b H1, Q b H1 → Q' b H1) → c σ H Q → c σ H Q') : tWhile c tb D σ H := by
  refine ⟨Pv, h0, fun m σ H p => mono σ H _ _ (fun b H1 q => ?_) (hs m σ H p)⟩
  cases b with
  | true => exact ⟨_, fun σ' H' h => h, q⟩
  | false => exact q
/-! ### dicts from ints to people -/
abbrev nV (q : Nat) : V := .int (q : Int)
def DR (H : Hp) (a : Addr) (f : Int → Option Nat) : Prop := ∃ kvs : List (Key × V), H a = some (.dK kvs) ∧ (∀ t : Int, valV kvs (.inl t) = (f t).map nV) ∧ (kvs.map (·.1)).Nodup ∧ ∀ k ∈ kvs.map (·.1), ∃ t : Int, k = .inl t ∧ f t ≠ none
theorem DR.new {H : Hp} {p : Addr} : DR (upd H p (.dK [])) p (fun _ => none) := ⟨[], upd_same, fun _ => rfl, List.nodup_nil, fun _ h => (by cases h)⟩
theorem DR.at_ {H H' : Hp} {a : Addr} {f : Int → Option Nat} (d : DR H a f) (h : ∀ o, H a = some o → H' a = some o) : DR H' a f := by
  obtain ⟨kvs, e, r⟩ := d
  exact ⟨kvs, h _ e, r⟩
theorem DR.isd {H : Hp} {a : Addr} {f : Int → Option Nat} (d : DR H a f) : ∃ kvs, H a = some (.dK kvs) := by
  obtain ⟨kvs, e, r⟩ := d
  exact ⟨kvs, e⟩
theorem keys_put {kvs : List (Key × V)} {k : Key} {v : V} : ∀ j ∈ (putK kvs k v).map (·.1), j = k ∨ j ∈ kvs.map (·.1) := by
  intro j hj
  unfold putK at hj
  by_cases c : (kvs.any fun kv => decide (kv.1 = k)) = true
  · rw [if_pos c, List.map_map] at hj
    right
    obtain ⟨kv, h1, h2⟩ := List.mem_map.mp hj
    refine List.mem_map.mpr ⟨kv, h1, ?_⟩
    rw [← h2]
    show kv.1 = (if kv.1 = k then (kv.1, v) else kv).1
    by_cases z : kv.1 = k
    · rw [if_pos z]
    · rw [if_neg z]
  · rw [if_neg c, List.map_append] at hj
    rcases List.mem_append.mp hj with h | h
    · exact .inr h
    · exact .inl (by simpa using h)
theorem nodup_put {kvs : List (Key × V)} {k : Key} {v : V} (h : (kvs.map (·.1)).Nodup) : ((putK kvs k v).map (·.1)).Nodup := by
  unfold putK
  by_cases c : (kvs.any fun kv => decide (kv.1 = k)) = true
  · rw [if_pos c, List.map_map]
    have e : kvs.map ((·.1) ∘ fun kv => if kv.1 = k then (kv.1, v) else kv) = kvs.map (·.1) := List.map_congr_left fun kv _ => by
      show (if kv.1 = k then (kv.1, v) else kv).1 = kv.1
      by_cases z : kv.1 = k
      · rw [if_pos z]
      · rw [if_neg z]
    rw [e]
    exact h
  · rw [if_neg c, List.map_append]
    refine List.nodup_append.mpr ⟨h, List.nodup_cons.mpr ⟨fun z => (by cases z), List.nodup_nil⟩, fun x hx y hy => ?_⟩
    have ey : y = k := by simpa using hy
    rw [ey]
    intro z
    apply c
    rw [List.any_eq_true]
    obtain ⟨kv, h1, h2⟩ := List.mem_map.mp hx
    exact ⟨kv, h1, decide_eq_true (by rw [h2, z])⟩
theorem DR.len {H : Hp} {a : Addr} {f : Int → Option Nat} {U : List Int} {kvs : List (Key × V)} (hn : (kvs.map (·.1)).Nodup) (hk : ∀ k ∈ kvs.map (·.1), ∃ t : Int, k = .inl t ∧ f t ≠ none) (hU : ∀ t, f t ≠ none → t ∈ U) : kvs.length ≤ U.length := by
  have := Mt.len_le (l2 := U.map (Sum.inl : Int → Key)) hn fun k hk' => by
    obtain ⟨t, e, h⟩ := hk k hk'
    exact List.mem_map.mpr ⟨t, hU t h, e.symm⟩
  rw [List.length_map, List.length_map] at this
  exact this
theorem DR.get {H : Hp} {a : Addr} {f : Int → Option Nat} (d : DR H a f) (t : Int) : DGet H a (.int t) ((f t).map nV) := by
  obtain ⟨kvs, e, h, _⟩ := d
  rw [← h t]
  exact DGet.k (k := .inl t) e
theorem DR.put {H : Hp} {a : Addr} {f : Int → Option Nat} {U : List Int} (d : DR H a f) (t : Int) (q : Nat) (hU : ∀ t, f t ≠ none → t ∈ U) (hl : U.length ≤ 100000) : ∃ H', DPut H a (.int t) (nV q) H' ∧ DR H' a (Mt.fset f t (some q)) ∧ ∀ b, b ≠ a → H' b = H b := by
  obtain ⟨kvs, e, h, hn, hk⟩ := d
  have ln := DR.len (H := H) (a := a) hn hk hU
  refine ⟨_, DPut.k (k := .inl t) e (small_lt (by omega)), ⟨_, upd_same, fun s => ?_, nodup_put hn, fun k hk' => ?_⟩, fun b hb => upd_ne hb⟩
  · rw [valV_put]
    by_cases z : s = t
    · rw [if_pos (by rw [z]), z, Mt.fset_same]
      rfl
    · rw [if_neg (fun y => z (by injection y)), Mt.fset_ne z]
      exact h s
  · rcases keys_put k hk' with z | z
    · exact ⟨t, z, by rw [Mt.fset_same]; exact fun y => nomatch y⟩
    · obtain ⟨s, e1, e2⟩ := hk k z
      refine ⟨s, e1, ?_⟩
      by_cases y : s = t
      · rw [y, Mt.fset_same]; exact fun y => nomatch y
      · rw [Mt.fset_ne y]; exact e2
/-- all but two places are kept -/
def Keep2 (a b : Addr) (H H' : Hp) : Prop := ∀ c o, c ≠ a → c ≠ b → H c = some o → H' c = some o
theorem Keep2.refl {a b : Addr} {H : Hp} : Keep2 a b H H := fun _ _ _ _ h => h
theorem Keep2.trans {a b : Addr} {H H1 H2 : Hp} (x : Keep2 a b H H1) (y : Keep2 a b H1 H2) : Keep2 a b H H2 := fun c o h1 h2 e => y c o h1 h2 (x c o h1 h2 e)
theorem Keep2.same {a b : Addr} {H H' : Hp} (s : Same H H') : Keep2 a b H H' := fun c o _ _ e => s c o e
theorem same_keep2 {a b : Addr} {H0 H H' : Hp} (s : Same H0 H) (k : Keep2 a b H H') (ha : H0 a = none) (hb : H0 b = none) : Same H0 H' := fun c o e => k c o (ne_of_none e ha) (ne_of_none e hb) (s c o e)
/-- who holds what, as a list -/
abbrev oI : Option Int → V
  | none => .non
  | some t => .int t
def heldV (n : Nat) (h : Nat → Option Int) : List V := (List.range n).map fun p => oI (h p)
theorem heldV_len {n : Nat} {h : Nat → Option Int} : (heldV n h).length = n := by unfold heldV; rw [List.length_map, List.length_range]
theorem heldV_get {n p : Nat} {h : Nat → Option Int} (hp : p < n) : (heldV n h)[p]? = some (oI (h p)) := by
  unfold heldV
  rw [List.getElem?_map, List.getElem?_range hp]
  rfl
theorem heldV_set {n q : Nat} {h : Nat → Option Int} {t : Int} : (heldV n h).set q (.int t) = heldV n (Mt.fset h q (some t)) := by
  apply List.ext_getElem?
  intro i
  rw [List.getElem?_set, heldV_len]
  by_cases hq : q = i
  · rw [if_pos hq]
    subst hq
    by_cases hn : q < n
    · rw [if_pos hn, heldV_get hn, Mt.fset_same]
    · rw [if_neg hn]
      symm
      rw [List.getElem?_eq_none_iff, heldV_len]
      omega
  · rw [if_neg hq]
    by_cases hn : i < n
    · rw [heldV_get hn, heldV_get hn, Mt.fset_ne (Ne.symm hq)]
    · rw [List.getElem?_eq_none (by rw [heldV_len]; omega), List.getElem?_eq_none (by rw [heldV_len]; omega)]
/-- handing on in so many steps -/
inductive HandN (c : Mt.Came) : Nat → Mt.MS → Int → Mt.MS → Prop
  | last {m : Mt.MS} {t : Int} {q : Nat} : c t = some q → m.h q = none → HandN c 0 m t (Mt.put m q t)
  | more {k : Nat} {m m' : Mt.MS} {t s : Int} {q : Nat} : c t = some q → m.h q = some s → HandN c k (Mt.put m q t) s m' → HandN c (k + 1) m t m'
theorem hand_n {c : Mt.Came} {m m' : Mt.MS} {t : Int} (h : Mt.Hand c m t m') : ∃ k, HandN c k m t m' := by
  induction h with
  | last a b => exact ⟨0, .last a b⟩
  | more a b _ ih =>
    obtain ⟨k, hk⟩ := ih
    exact ⟨k + 1, .more a b hk⟩
end Fo
namespace Fo
open PySem PySem.Spec PyProof.Rows L2
/-! a dict out of a list that is counted -/
theorem dc_enumL {K : PySem.W.Frag} {a : Addr} {xs : List V} {g : TG} {tt : TT} {tk tv : TE} {vs : List Nat} {σ : L2.St} {H1 : Hp} {D : Addr} {Qd : Hp → Prop} (Pv : Nat → Hp → Prop) (h0 : Pv 0 (upd H1 D (.dK []))) (hl : ∀ i H, i ≤ xs.length → Pv i H → SqL K H a xs)
    (hs : ∀ i x H T, xs[i]? = some x → Pv i H → H T = none → g (.ref T) (wipe σ vs) (upd H T (.tup [.int (i : Nat), x])) fun σ2 H2 => wipe σ2 vs = wipe σ vs ∧ tt σ2 H2 fun b H3 =>
      if b = true then tk σ2 H3 fun y H4 => tv σ2 H4 fun z H5 => ∃ kvs k, y = kV k ∧ H5 D = some (.dK kvs) ∧ kvs.length < sizeLine ∧ Pv (i + 1) (upd H5 D (.dK (putK kvs k z))) else Pv (i + 1) H3) (hd : ∀ H, Pv xs.length H → Qd H) :
    ∃ W : Nat → Nat → Hp → Prop, (∃ m, W 0 m (upd H1 D (.dK []))) ∧ ∀ i m H, W i m H →
      ((Ite K a).stop i H ∧ Qd H) ∨ ((Ite K a).go i H ∧ ∃ Nx : Hp → Prop, (∀ H', Nx H' → ∃ m', m' < m ∧ W (i + 1) m' H') ∧ ∀ x H', (Ite K a).yld i H x H' → g x (wipe σ vs) H' fun σ2 H2 => wipe σ2 vs = wipe σ vs ∧ tt σ2 H2 fun b H3 =>
        if b = true then tk σ2 H3 fun y H4 => tv σ2 H4 fun z H5 => ∃ kvs k, y = kV k ∧ H5 D = some (.dK kvs) ∧ kvs.length < sizeLine ∧ Nx (upd H5 D (.dK (putK kvs k z))) else Nx H3) := by
  refine ⟨fun i m H => m = xs.length - i ∧ i ≤ xs.length ∧ Pv i H, ⟨xs.length, by simp, Nat.zero_le _, h0⟩, ?_⟩
  rintro i m H ⟨rfl, hi, p⟩
  have q := hl i H hi p
  by_cases hlt : i < xs.length
  · refine .inr ⟨⟨xs, xs[i], q, by simp [hlt]⟩, Pv (i + 1), fun H' p' => ⟨xs.length - (i + 1), by omega, rfl, hlt, p'⟩, fun x H' y => ?_⟩
    obtain ⟨T, x', rfl, nT, rfl, y⟩ := y
    exact hs i x' H T (y xs q) p nT
  · have e : i = xs.length := by omega
    subst e
    exact .inl ⟨⟨xs, q, Nat.le_refl _⟩, hd H p⟩
/-- a list of numbers, by a function -/
def numL (n : Nat) (M : Nat → Nat) : List V := (List.range n).map fun p => nV (M p)
theorem numL_len {n : Nat} {M : Nat → Nat} : (numL n M).length = n := by unfold numL; rw [List.length_map, List.length_range]
theorem numL_get {n p : Nat} {M : Nat → Nat} (hp : p < n) : (numL n M)[p]? = some (nV (M p)) := by
  unfold numL
  rw [List.getElem?_map, List.getElem?_range hp]
  rfl
theorem numL_set {n q N : Nat} {M : Nat → Nat} : (numL n M).set q (nV N) = numL n (Mt.fset M q N) := by
  apply List.ext_getElem?
  intro i
  rw [List.getElem?_set, numL_len]
  by_cases hq : q = i
  · rw [if_pos hq]
    subst hq
    by_cases hn : q < n
    · rw [if_pos hn, numL_get hn, Mt.fset_same]
    · rw [if_neg hn]
      symm
      rw [List.getElem?_eq_none_iff, numL_len]
      omega
  · rw [if_neg hq]
    by_cases hn : i < n
    · rw [numL_get hn, numL_get hn, Mt.fset_ne (Ne.symm hq)]
    · rw [List.getElem?_eq_none (by rw [numL_len]; omega), List.getElem?_eq_none (by rw [numL_len]; omega)]
theorem numL_snoc {n N : Nat} {M : Nat → Nat} : numL n M ++ [nV N] = numL (n + 1) (Mt.fset M n N) := by
  unfold numL
  rw [List.range_succ, List.map_append]
  congr 1
  · exact List.map_congr_left fun p hp => by
      have := List.mem_range.mp hp
      rw [Mt.fset_ne (by omega)]
  · show _ = [nV (Mt.fset M n N n)]
    rw [Mt.fset_same]
/-! readings of the operators on bits -/
def rOdd : R2 := fun x y H Q => ∃ n : Nat, x = .int (n : Int) ∧ y = .int 1 ∧ Q (.int ((n % 2 : Nat) : Int)) H
def rOneShl : R2 := fun x y H Q => ∃ k : Nat, x = .int 1 ∧ y = .int (k : Int) ∧ k ≤ 134217727 ∧ Q (.int (2 ^ k)) H
theorem two_pow_nat (k : Nat) : ((2 : Int) ^ k) = ((2 ^ k : Nat) : Int) := by
  induction k with
  | zero => rfl
  | succ k ih => rw [Int.pow_succ, ih, Nat.pow_succ]; omega
theorem or_nat (a b : Nat) : Builtin.bitOr (a : Int) (b : Int) = ((a ||| b : Nat) : Int) := by
  rw [bitOr_nn (by omega) (by omega)]
  rfl
theorem shr_nat (a k : Nat) : (a : Int) / 2 ^ k = ((a / 2 ^ k : Nat) : Int) := by
  rw [two_pow_nat]
  rfl
end Fo
namespace Fo
open PySem PySem.Spec PyProof.Rows L2
def rNotN : R2 := fun x y H Q => y = .non ∧ Q (.bl (!decide (x = .non))) H
end Fo
namespace Fo
open PySem PySem.Spec PyProof.Rows L2
def retScope (s : Stmt) : Scope := match (defBody s).getLast? with
  | some (.Return (some (.ListComp _ _ sc _)) _) => sc
  | some (.Return (some (.Call _ [.ListComp _ _ sc _] _ _)) _) => sc
  | _ => defScope s
def envQ (sc : Scope) : Env := { scope := sc, locals := 0, globals := 0, cells := [], qual := "", func := none, code := .none, frame := none, builtins := 0 }
theorem non_in (n : Nat) (h : Nat → Option Int) : inV .non (heldV n h) = decide (∃ p, p < n ∧ h p = none) := by
  unfold inV heldV
  rw [List.any_map]
  by_cases c : ∃ p, p < n ∧ h p = none
  · rw [decide_eq_true c, List.any_eq_true]
    obtain ⟨p, h1, h2⟩ := c
    exact ⟨p, List.mem_range.mpr h1, by show eqV (oI (h p)) .non = true; rw [h2]; rfl⟩
  · rw [decide_eq_false c]
    rw [Bool.eq_false_iff]
    intro q
    rw [List.any_eq_true] at q
    obtain ⟨p, h1, h2⟩ := q
    cases e : h p with
    | none => exact c ⟨p, List.mem_range.mp h1, e⟩
    | some t =>
      have h2' : eqV (oI (h p)) .non = true := h2
      rw [e] at h2'
      cases h2'
theorem held_flat (n : Nat) (h : Nat → Option Int) : (heldV n h).all flatV = true := by
  unfold heldV
  rw [List.all_map, List.all_eq_true]
  intro p _
  show flatV (oI (h p)) = true
  cases h p <;> rfl
end Fo

set_option maxRecDepth 100000
set_option maxHeartbeats 4000000
namespace Fo
open PySem PySem.Spec PyProof.Rows L2
abbrev s_hand_on : Stmt := top 15
abbrev n_hand_on : List Str := ["held", "owner", "came", "thing", "person", "left"]
theorem sc_hand_on : FnScope n_hand_on ["held", "owner", "came", "thing"] (defScope s_hand_on) := ⟨rfl, rfl, rfl, by decide +kernel, rfl, by decide +kernel, by decide +kernel⟩
abbrev s_give : Stmt := top 14
abbrev n_give : List Str := ["rows", "held", "owner", "person", "came", "waiting", "one", "thing"]
theorem sc_give : FnScope n_give ["rows", "held", "owner", "person"] (defScope s_give) := ⟨rfl, rfl, rfl, by decide +kernel, rfl, by decide +kernel, by decide +kernel⟩
abbrev s_matched : Stmt := top 13
abbrev n_matched : List Str := ["rows", "held", "owner", "person"]
theorem sc_matched : FnScope n_matched ["rows"] (defScope s_matched) := ⟨rfl, rfl, rfl, by decide +kernel, rfl, by decide +kernel, by decide +kernel⟩
theorem ixN_nat {n q : Nat} (h : q < n) : ixN n (q : Int) = some q := by
  unfold ixN
  rw [if_pos (by omega), if_pos (by omega)]
  rfl
theorem at_nat {α : Type} {xs : List α} {x : α} {j : Nat} (h : xs[j]? = some x) : atI xs (j : Int) = some x := atI_nat h
section
variable {P : Program} {w : World} {K : PySem.W.Frag} {mg : Str → Option Value} {base : Heap} {C : Addr}
def HR (n : Nat) (H : Hp) (hd ow : Addr) (m : Mt.MS) : Prop := H hd = some (.lst (heldV n m.h)) ∧ DR H ow m.o
theorem HR.ne {n : Nat} {H : Hp} {hd ow : Addr} {m : Mt.MS} (h : HR n H hd ow m) : hd ≠ ow := by
  obtain ⟨kvs, e⟩ := h.2.isd
  exact ne_of h.1 e (by intro z; cases z)
theorem HR.at_ {n : Nat} {H H' : Hp} {hd ow : Addr} {m : Mt.MS} (h : HR n H hd ow m) (a : ∀ o, H hd = some o → H' hd = some o) (b : ∀ o, H ow = some o → H' ow = some o) : HR n H' hd ow m := ⟨a _ h.1, h.2.at_ b⟩
def spHand : Sp := fun vs H Q _ => ∃ (hd ow cm : Addr) (n : Nat) (m m' : Mt.MS) (c : Mt.Came) (t : Int) (U : List Int), vs = [.ref hd, .ref ow, .ref cm, .int t] ∧ HR n H hd ow m ∧ DR H cm c ∧ cm ≠ ow ∧ Mt.Hand c m t m' ∧
  (∀ s q, c s = some q → q < n ∧ s ∈ U) ∧ (∀ s, m.o s ≠ none → s ∈ U) ∧ U.length ≤ 100000 ∧ n ≤ 100000 ∧ ∀ H', Keep2 hd ow H H' → HR n H' hd ow m' → Q .non H'
theorem ok_hand (A : At K mg "_hand_on" s_hand_on ["held", "owner", "came", "thing"]) (T : Tx mg) : Dfn P w K mg base "_hand_on" ["held", "owner", "came", "thing"] 1 spHand := by
  refine A.ok sc_hand_on (fun vs H Q E h => ?_) (fun f cdv A outer s H vs Q E hr h => ?_)
  · obtain ⟨hd, ow, cm, n, m, m', c, t, U, rfl, _⟩ := h
    rfl
  · obtain ⟨hd, ow, cm, n, m, m', c, t, U, rfl, hm, hc, nco, hh, hcb, hU, hl, hn, k⟩ := h
    obtain ⟨j0, hj0⟩ := hand_n hh
    have ncd : cm ≠ hd := by
      obtain ⟨kvs, e⟩ := hc.isd
      exact ne_of e hm.1 (by intro z; cases z)
    refine ⟨_, (pss_one (ps_while PassesOwn.never (pt_cmpR op_notN (pv 3) pe_non (nomark _)) (pss_cons (ps_set (i := 4) sc_hand_on.nd rfl (Or.inl rfl) (pe_dget (hu_of hr) (pv 2) (pv 3) (fun _ _ => rfl)))
      (pss_cons (ps_set (i := 5) sc_hand_on.nd rfl (Or.inl rfl) (pe_ix ix_list (pv 0) (pv 4) (fun _ _ => rfl)))
      (pss_cons (ps_asg (pv 3) (pg_sub (pv 0) (pv 4) set_list))
      (pss_cons (ps_dput (hu_of hr) (pv 1) (pv 3) (pv 4) rfl)
      (pss_one (ps_set (i := 3) sc_hand_on.nd rfl (Or.inl rfl) (pv 5))))))))), ?_⟩
    refine while_m (fun z σ' H' => ∃ x4 x5, (∃ j m1 t1, z = j + 1 ∧ σ' = [some (.ref hd), some (.ref ow), some (.ref cm), some (.int t1), x4, x5] ∧ HandN c j m1 t1 m' ∧ HR n H' hd ow m1 ∧ DR H' cm c ∧ Keep2 hd ow H H' ∧ ∀ s, m1.o s ≠ none → s ∈ U) ∨ (z = 0 ∧ σ' = [some (.ref hd), some (.ref ow), some (.ref cm), some .non, x4, x5] ∧ HR n H' hd ow m' ∧ Keep2 hd ow H H')) ⟨_, _, _, .inl ⟨j0, m, t, rfl, rfl, hj0, hm, hc, Keep2.refl, hU⟩⟩ ?_ ?_
    · rintro z σ' H1 ⟨x4, x5, ⟨j, m1, t1, rfl, rfl, hj, h1, hc1, kp, hU1⟩ | ⟨rfl, rfl, h1, kp⟩⟩
      · refine ⟨_, rfl, rfl, _, rfl, ?_⟩
        have go : ∀ (q : Nat), c t1 = some q → ∃ H', DPut (upd H1 hd (.lst ((heldV n m1.h).set q (.int t1)))) ow (.int t1) (nV q) H' ∧ HR n H' hd ow (Mt.put m1 q t1) ∧ DR H' cm c ∧ Keep2 hd ow H H' ∧ (∀ s, (Mt.put m1 q t1).o s ≠ none → s ∈ U) := fun q hq => by
          have h2 : DR (upd H1 hd (.lst ((heldV n m1.h).set q (.int t1)))) ow m1.o := h1.2.at_ fun o e => by rw [upd_ne h1.ne.symm]; exact e
          obtain ⟨H', d1, d2, d3⟩ := h2.put t1 q hU1 hl
          refine ⟨H', d1, ⟨?_, d2⟩, hc1.at_ fun o e => ?_, fun b o n1 n2 e => ?_, fun s hs => ?_⟩
          · rw [d3 hd h1.ne, upd_same, heldV_set]
            rfl
          · rw [d3 cm nco, upd_ne ncd]
            exact e
          · rw [d3 b n2, upd_ne n1]
            exact kp b o n1 n2 e
          · have hs' : Mt.fset m1.o t1 (some q) s ≠ none := hs
            by_cases y : s = t1
            · rw [y]; exact (hcb t1 q hq).2
            · rw [Mt.fset_ne y] at hs'
              exact hU1 s hs'
        cases hj with
        | @last _ _ q a b =>
          obtain ⟨H', d1, d2, d3, d4, d5⟩ := go q a
          have qn := (hcb t1 q a).1
          have get := hc1.get t1
          rw [a] at get
          refine ⟨_, rfl, _, rfl, cm, _, rfl, get, ?_⟩
          refine ⟨_, rfl, _, rfl, hd, _, _, _, rfl, rfl, SqL.of h1.1, at_nat (heldV_get qn), ?_⟩
          refine ⟨_, rfl, _, rfl, _, rfl, hd, _, _, q, rfl, rfl, h1.1, by rw [heldV_len]; exact ixN_nat qn, ?_⟩
          refine ⟨_, rfl, _, rfl, _, rfl, ow, H', rfl, d1, ?_⟩
          rw [b]
          exact ⟨_, rfl, 0, Nat.zero_lt_succ _, _, _, .inr ⟨rfl, rfl, d2, d4⟩⟩
        | @more j _ _ _ s q a b d =>
          obtain ⟨H', d1, d2, d3, d4, d5⟩ := go q a
          have qn := (hcb t1 q a).1
          have get := hc1.get t1
          rw [a] at get
          refine ⟨_, rfl, _, rfl, cm, _, rfl, get, ?_⟩
          refine ⟨_, rfl, _, rfl, hd, _, _, _, rfl, rfl, SqL.of h1.1, at_nat (heldV_get qn), ?_⟩
          refine ⟨_, rfl, _, rfl, _, rfl, hd, _, _, q, rfl, rfl, h1.1, by rw [heldV_len]; exact ixN_nat qn, ?_⟩
          refine ⟨_, rfl, _, rfl, _, rfl, ow, H', rfl, d1, ?_⟩
          rw [b]
          exact ⟨_, rfl, j + 1, Nat.lt_succ_self _, _, _, .inl ⟨j, _, s, rfl, rfl, d, d2, d3, d4, d5⟩⟩
      · refine ⟨_, rfl, rfl, _, rfl, ?_⟩
        exact k H1 kp h1
    · rintro σ' H1 Q1 Q2 hQ ⟨a, b, c, d, e, f⟩
      exact ⟨a, b, c, d, e, hQ _ _ f⟩
theorem todo_put {o : Int → Option Nat} {U : List Int} {c : Mt.Came} {w : List Nat} {one q : Nat} {t : Int} (ht : t ∈ U) (hc : ¬ (c t).isSome = true) (ho : o t = some q) : Mt.todo U (Mt.fset c t (some one)) (w ++ [q]) ≤ Mt.todo U c w := by
  refine Mt.scan_todo' (o := o) (one := one) (l := [t]) (fun s hs => by rw [List.mem_singleton.mp hs]; exact ht) ?_
  show (if (c t).isSome = true then _ else match o t with | none => _ | some q => _) = _
  rw [if_neg hc, ho]
  rfl
theorem scan_some {o : Int → Option Nat} {c : Mt.Came} {w : List Nat} {one : Nat} {t : Int} {l : List Int} (hc : (c t).isSome = true) : Mt.scan o one (t :: l) c w = Mt.scan o one l c w := by
  show (if (c t).isSome = true then Mt.scan o one l c w else _) = _
  rw [if_pos hc]
theorem scan_free {o : Int → Option Nat} {c : Mt.Came} {w : List Nat} {one : Nat} {t : Int} {l : List Int} (hc : ¬ (c t).isSome = true) (ho : o t = none) : Mt.scan o one (t :: l) c w = (some t, Mt.fset c t (some one), w) := by
  show (if (c t).isSome = true then _ else match o t with | none => _ | some q => _) = _
  rw [if_neg hc, ho]
theorem scan_own {o : Int → Option Nat} {c : Mt.Came} {w : List Nat} {one q : Nat} {t : Int} {l : List Int} (hc : ¬ (c t).isSome = true) (ho : o t = some q) : Mt.scan o one (t :: l) c w = Mt.scan o one l (Mt.fset c t (some one)) (w ++ [q]) := by
  show (if (c t).isSome = true then _ else match o t with | none => _ | some q => _) = _
  rw [if_neg hc, ho]
def spGive (K : PySem.W.Frag) : Sp := fun vs H Q _ => ∃ (b : Bool) (H0 : Hp) (rv : V) (rows : List (List Int)) (hd ow : Addr) (p : Nat) (m : Mt.MS), vs = [rv, .ref hd, .ref ow, .int (p : Int)] ∧ RowsQ b K H0 rv rows ∧ Same H0 H ∧ H0 hd = none ∧ H0 ow = none ∧ HR rows.length H hd ow m ∧
  Mt.Valid rows m ∧ m.h p = none ∧ p < rows.length ∧ (Mt.things rows).length ≤ 90000 ∧ rows.length ≤ 90000 ∧ ∀ m' H', Mt.Give rows m p m' → Same H0 H' → HR rows.length H' hd ow m' → Q .non H'
theorem ok_give (A : At K mg "_give" s_give ["rows", "held", "owner", "person"]) (T : Tx mg) (G_hand_on : Dfn P w K mg base "_hand_on" ["held", "owner", "came", "thing"] 1 spHand) : Dfn P w K mg base "_give" ["rows", "held", "owner", "person"] 2 (spGive K) := by
  refine A.ok sc_give (fun vs H Q E h => ?_) (fun f cdv A outer s H vs Q E hr h => ?_)
  · obtain ⟨b, H0, rv, rows, hd, ow, p, m, rfl, _⟩ := h
    rfl
  · obtain ⟨b, H0, rv, rows, hd, ow, p, m, rfl, hR, s0, fhd, fow, hm, v, hp, hpn, hU, hn, k⟩ := h
    obtain ⟨ra, vs, rfl, hra, hrb⟩ := hR
    refine ⟨_, (pss_cons (ps_set (i := 4) sc_give.nd rfl (Or.inl rfl) pe_dnewK)
      (pss_cons (ps_set (i := 5) sc_give.nd rfl (Or.inl rfl) (pe_lst (pa_cons (pv 3) pa_nil)))
      (pss_one (ps_while PassesOwn.never (pt_truth (pv 5) (by intro _; rfl)) (pss_cons (ps_set (i := 6) sc_give.nd rfl (Or.inl rfl) (pe_bm0 PySem.F.plainAttrs_list PySem.F.slot_list_pop PySem.F.type_list_pop mt_pop (pv 5)))
      (pss_one (ps_for PassesOwn.never rfl (pi_alt (pi_list (pe_ix ix_sq (pv 0) (pv 6) (fun _ _ => rfl))) (pi_tup (pe_ix ix_sq (pv 0) (pv 6) (fun _ _ => rfl)))) (pg_name (i := 7) sc_give.nd rfl (Or.inl rfl))
      (pss_cons (ps_if (pt_cmp (pc_din (hu_of hr) (pv 7) (pv 4))) (pss_one ps_continue) pss_nil)
      (pss_cons (ps_dput (hu_of hr) (pv 4) (pv 7) (pv 6) rfl)
      (pss_cons (ps_if (pt_cmp (pc_dnotin (hu_of hr) (pv 7) (pv 2))) (pss_cons (ps_expr (pe_d G_hand_on (hr.mono (by decide)) (pa_cons (pv 1) (pa_cons (pv 2) (pa_cons (pv 4) (pa_cons (pv 7) pa_nil))))))
      (pss_one ps_retN)) pss_nil)
      (pss_one (ps_expr (pe_bm PySem.F.plainAttrs_list PySem.F.slot_list_append PySem.F.type_list_append mt_append (pv 5) (pa_cons (pe_dget (hu_of hr) (pv 2) (pv 7) (fun _ _ => rfl)) pa_nil)))))))))))))), ?_⟩
    refine fun cm hcm => ?_
    have sc := same_new (o := .dK []) hcm
    refine ⟨_, rfl, by show 1 ≤ sizeLine; decide, fun wt hwt => ?_⟩
    have sw := same_new (o := .lst [V.int (p : Int)]) hwt
    have nco : cm ≠ ow := by
      obtain ⟨kvs, e⟩ := hm.2.isd
      exact (ne_of_none e hcm).symm
    have nch : cm ≠ hd := (ne_of_none hm.1 hcm).symm
    have nwh : wt ≠ hd := (ne_of_none (sc _ _ hm.1) hwt).symm
    have nwo : wt ≠ ow := by
      obtain ⟨kvs, e⟩ := hm.2.isd
      exact (ne_of_none (sc _ _ e) hwt).symm
    have nwc : wt ≠ cm := (ne_of_none upd_same hwt).symm
    have f0c : H0 cm = none := s0.free hcm
    have f0w : H0 wt = none := (s0.trans sc).free hwt
    obtain ⟨H1, e1⟩ : ∃ H1, H1 = upd (upd H cm (.dK [])) wt (.lst [V.int (p : Int)]) := ⟨_, rfl⟩
    have s01 : Same H0 H1 := by rw [e1]; exact (s0.trans sc).trans sw
    have hw1 : H1 wt = some (.lst ([p].map nV)) := by rw [e1]; exact upd_same
    have hc1 : DR H1 cm (fun _ => none) := by rw [e1]; exact (DR.new (H := H) (p := cm)).at_ fun o e => by rw [upd_ne nwc.symm]; exact e
    have hm1 : HR rows.length H1 hd ow m := by
      rw [e1]
      exact hm.at_ (fun o e => by rw [upd_ne nwh.symm, upd_ne nch.symm]; exact e) (fun o e => by rw [upd_ne nwo.symm, upd_ne nco.symm]; exact e)
    rw [← e1]
    clear e1
    have oU : ∀ s, m.o s ≠ none → s ∈ Mt.things rows := fun s hs => by
      cases e : m.o s with
      | none => exact absurd e hs
      | some x => exact Mt.mem_things (v.tie x s ((v.inv x s).mpr e))
    dsimp only [gName]
    refine while_m (fun z σ' H' => ∃ x6 x7 c w, z = Mt.todo (Mt.things rows) c w ∧ σ' = [some (.ref ra), some (.ref hd), some (.ref ow), some (.int (p : Int)), some (.ref cm), some (.ref wt), x6, x7] ∧ H' wt = some (.lst (w.map nV)) ∧ DR H' cm c ∧ HR rows.length H' hd ow m ∧ Same H0 H' ∧ Mt.WInv rows m p c w ∧ Mt.todo (Mt.things rows) c w ≤ 90001 ∧ ∀ x c', Mt.Walk rows m.o c w x c' → Mt.Walk rows m.o (fun _ => none) [p] x c') ⟨_, _, _, _, [p], rfl, rfl, hw1, hc1, hm1, s01, Mt.WInv.init, ?_, fun _ _ h => h⟩ ?_ ?_
    · unfold Mt.todo
      have := List.length_filter_le (fun t => ((fun _ => none : Mt.Came) t).isNone) (Mt.things rows)
      show _ + 1 ≤ 90001
      omega
    · rintro z σ' H2 ⟨x6, x7, c, w, rfl, rfl, hw2, hc2, hm2, s2, iw, bd, cont⟩
      refine ⟨_, rfl, !(w.map nV).isEmpty, .inl ⟨_, SqL.of hw2, rfl⟩, ?_⟩
      rcases List.eq_nil_or_concat w with e | ⟨w0, one, e⟩
      · subst e
        exact k m H2 (.no (cont _ _ .nil)) s2 hm2
      · rw [List.concat_eq_append] at e
        subst e
        have ne : (!((w0 ++ [one]).map nV).isEmpty) = true := by rw [List.map_append]; cases w0.map nV <;> rfl
        rw [ne]
        have lst1 : ((w0 ++ [one]).map nV)[((w0 ++ [one]).map nV).length - 1]? = some (nV one) := by
          rw [List.map_append, List.length_append]
          simp
        have lst2 : ((w0 ++ [one]).map nV).dropLast = w0.map nV := by
          rw [List.map_append]
          exact List.dropLast_concat
        refine ⟨_, rfl, .inl ⟨rfl, _, SqL.of hw2⟩, wt, _, _, rfl, rfl, hw2, lst1, ?_⟩
        rw [lst2]
        have hvis := iw.v one (List.mem_append_right _ List.mem_cons_self)
        have hone : one < rows.length := by
          rcases hvis with e | ⟨t, x, _, ho⟩
          · rw [e]; exact hpn
          · exact Mt.row_lt (v.tie one t ((v.inv one t).mpr ho))
        have hro := List.getElem?_eq_getElem hone
        obtain ⟨r, er⟩ : ∃ r, r = rows[one] := ⟨_, rfl⟩
        rw [← er] at hro
        have hrow : Mt.row rows one = r := Mt.row_get hro
        obtain ⟨aa, hva, hqa⟩ := hrb.at_ hro
        rw [Mt.todo_snoc] at bd
        have rU : ∀ t ∈ r, t ∈ Mt.things rows := fun t ht => Mt.mem_things (p := one) (by rw [hrow]; exact ht)
        obtain ⟨H3, e3⟩ : ∃ H3, H3 = upd H2 wt (.lst (w0.map nV)) := ⟨_, rfl⟩
        have hw3 : H3 wt = some (.lst (w0.map nV)) := by rw [e3]; exact upd_same
        have hc3 : DR H3 cm c := by rw [e3]; exact hc2.at_ fun o e => by rw [upd_ne nwc.symm]; exact e
        have hm3 : HR rows.length H3 hd ow m := by rw [e3]; exact hm2.at_ (fun o e => by rw [upd_ne nwh.symm]; exact e) (fun o e => by rw [upd_ne nwo.symm]; exact e)
        have s3 : Same H0 H3 := by rw [e3]; exact same_mut s2 f0w
        rw [← e3]
        clear e3
        have ctie : ∀ s x, c s = some x → s ∈ Mt.row rows x := fun s x e => (iw.a s x e).1
        refine alt_it (b := b) (xs := r.map V.int) (fun Q' q => ⟨_, rfl, _, rfl, alt_ix (hra.same s3) (at_nat hva) q⟩) (hqa.same s3) (for_sq (fun i σ' H' => ∃ x7 c1 w1, σ' = [some (.ref ra), some (.ref hd), some (.ref ow), some (.int (p : Int)), some (.ref cm), some (.ref wt), some (nV one), x7] ∧ H' wt = some (.lst (w1.map nV)) ∧ DR H' cm c1 ∧ HR rows.length H' hd ow m ∧ Same H0 H' ∧ Mt.scan m.o one (r.drop i) c1 w1 = Mt.scan m.o one r c w0 ∧ (∀ s x, c1 s = some x → s ∈ Mt.row rows x) ∧ Mt.todo (Mt.things rows) c1 w1 ≤ 90001) ⟨_, c, w0, rfl, hw3, hc3, hm3, s3, rfl, ctie, by omega⟩ (fun i σ' H' _ hp' => by obtain ⟨_, _, _, _, _, _, _, s4, _⟩ := hp'; exact hqa.same s4) ?_ ?_)
        · rintro i x σ' H4 hx ⟨y7, c1, w1, rfl, hw4, hc4, hm4, s4, sc4, ct4, bd4⟩
          have hir : i < r.length := by
            have := (List.getElem?_eq_some_iff.mp hx).1
            rw [List.length_map] at this
            exact this
          have hri := List.getElem?_eq_getElem hir
          obtain ⟨t, et⟩ : ∃ t, t = r[i] := ⟨_, rfl⟩
          rw [← et] at hri
          rw [List.getElem?_map, hri] at hx
          have ex : V.int t = x := Option.some.inj hx
          subst ex
          have htr : t ∈ r := List.mem_of_getElem? hri
          have hd' : r.drop i = t :: r.drop (i + 1) := by rw [et]; exact List.drop_eq_getElem_cons hir
          rw [hd'] at sc4
          have w1l : w1.length ≤ 90001 := by unfold Mt.todo at bd4; omega
          refine ⟨_, rfl, _, rfl, cm, _, rfl, hc4.get t, ?_⟩
          by_cases hin : (c1 t).isSome = true
          · have d : ((c1 t).map nV).isSome = true := by rw [Option.isSome_map]; exact hin
            rw [d]
            rw [scan_some hin] at sc4
            exact ⟨_, rfl, ⟨_, c1, w1, rfl, hw4, hc4, hm4, s4, sc4, ct4, bd4⟩⟩
          · have d : ((c1 t).map nV).isSome = false := by rw [Option.isSome_map]; exact Bool.eq_false_iff.mpr hin
            rw [d]
            have c1U : ∀ s, c1 s ≠ none → s ∈ Mt.things rows := fun s hs => by
              cases e : c1 s with
              | none => exact absurd e hs
              | some x => exact Mt.mem_things (ct4 s x e)
            obtain ⟨H5, d1, d2, d3⟩ := hc4.put t one c1U (by omega)
            have hw5 : H5 wt = some (.lst (w1.map nV)) := by rw [d3 wt nwc]; exact hw4
            have hm5 : HR rows.length H5 hd ow m := hm4.at_ (fun o e => by rw [d3 hd nch.symm]; exact e) (fun o e => by rw [d3 ow nco.symm]; exact e)
            have s5 : Same H0 H5 := fun a o e => by rw [d3 a (ne_of_none e f0c)]; exact s4 a o e
            have ct5 : ∀ s x, Mt.fset c1 t (some one) s = some x → s ∈ Mt.row rows x := fun s x e => by
              by_cases y : s = t
              · rw [y, Mt.fset_same] at e
                cases e
                rw [y, hrow]
                exact htr
              · rw [Mt.fset_ne y] at e
                exact ct4 s x e
            refine ⟨_, rfl, _, rfl, _, rfl, _, rfl, cm, H5, rfl, d1, ?_⟩
            refine ⟨_, rfl, _, rfl, ow, _, rfl, hm5.2.get t, ?_⟩
            cases ho : m.o t with
            | none =>
              rw [scan_free hin ho] at sc4
              have hwalk := cont (some t) (Mt.fset c1 t (some one)) (.found (by rw [hrow]; exact sc4.symm))
              have fo := Mt.walk_found v hwalk t rfl Mt.WInv.init
              obtain ⟨kk, hi⟩ := Mt.HInv.init v fo
              obtain ⟨m', hm'⟩ := Mt.hand_ex v hp fo.tie kk hi
              refine ⟨_, rfl, _, rfl, _, rfl, _, rfl, _, rfl, hd, ow, cm, rows.length, m, m', _, t, Mt.things rows, rfl, hm5, d2, nco, hm', fun s q e => ⟨Mt.row_lt (ct5 s q e), Mt.mem_things (ct5 s q e)⟩, oU, by omega, by omega, fun H6 kp hr6 => ?_⟩
              exact k m' H6 (.yes hwalk hm') (same_keep2 s5 kp fhd fow) hr6
            | some q =>
              rw [scan_own hin ho] at sc4
              have get5 := hm5.2.get t
              rw [ho] at get5
              refine ⟨_, rfl, _, rfl, .inl ⟨rfl, _, SqL.of hw5⟩, _, rfl, _, rfl, ow, _, rfl, get5, wt, _, nV q, rfl, rfl, hw5, small_lt (by rw [List.length_map]; omega), ?_⟩
              refine ⟨_, _, w1 ++ [q], rfl, by rw [upd_same, List.map_append]; rfl, d2.at_ fun o e => (by rw [upd_ne nwc.symm]; exact e), hm5.at_ (fun o e => by rw [upd_ne nwh.symm]; exact e) (fun o e => by rw [upd_ne nwo.symm]; exact e), same_mut s5 f0w, sc4, ct5, Nat.le_trans (todo_put (rU t htr) hin ho) bd4⟩
        · rintro σ' H4 ⟨y7, c1, w1, rfl, hw4, hc4, hm4, s4, sc4, ct4, bd4⟩
          rw [List.length_map, List.drop_length] at sc4
          have sc5 : Mt.scan m.o one (Mt.row rows one) c w0 = (none, c1, w1) := by rw [hrow]; exact sc4.symm
          have td := Mt.scan_todo' (U := Mt.things rows) (fun t ht => Mt.mem_things ht) sc5
          refine ⟨Mt.todo (Mt.things rows) c1 w1, by rw [Mt.todo_snoc]; omega, _, _, c1, w1, rfl, rfl, hw4, hc4, hm4, s4, iw.next v sc5, bd4, fun x c' hwk => cont x c' (.more sc5 hwk)⟩
    · rintro σ' H1 Q1 Q2 hQ ⟨a, b, c, d, e⟩
      exact ⟨a, b, c, d, hQ _ _ e⟩
end
end Fo

set_option maxRecDepth 100000
set_option maxHeartbeats 1000000
/-! Who comes to whom, as bits; short lots. -/
namespace Mt
open Classical
theorem Reach.trans {rows : Rows} {o : Int → Option Nat} {a b c : Nat} (x : Reach rows o a b) (y : Reach rows o b c) : Reach rows o a c := by
  induction y with
  | refl => exact x
  | step _ h1 h2 ih => exact .step ih h1 h2
def S0 (rows : Rows) (o : Int → Option Nat) (p q : Nat) : Prop := q = p ∨ ∃ t ∈ row rows p, o t = some q
def WS (rows : Rows) (o : Int → Option Nat) : Nat → Nat → Nat → Prop
  | 0 => S0 rows o
  | k + 1 => fun p q => WS rows o k p q ∨ (WS rows o k p k ∧ WS rows o k k q)
theorem ws_up {rows : Rows} {o : Int → Option Nat} {p q : Nat} : ∀ {k j : Nat}, k ≤ j → WS rows o k p q → WS rows o j p q
  | k, 0, h, w => by
    have : k = 0 := by omega
    rw [this] at w
    exact w
  | k, j + 1, h, w => by
    by_cases e : k = j + 1
    · rw [e] at w; exact w
    · exact .inl (ws_up (k := k) (j := j) (by omega) w)
theorem ws_reach {rows : Rows} {o : Int → Option Nat} : ∀ {k p q : Nat}, WS rows o k p q → Reach rows o p q
  | 0, p, q, h => by
    rcases h with h | ⟨t, h1, h2⟩
    · rw [h]; exact .refl
    · exact .step .refl h1 h2
  | k + 1, p, q, h => by
    rcases h with h | ⟨h1, h2⟩
    · exact ws_reach h
    · exact (ws_reach h1).trans (ws_reach h2)
theorem ws_mid {rows : Rows} {o : Int → Option Nat} : ∀ {k p m q : Nat}, m < k → WS rows o k p m → WS rows o k m q → WS rows o k p q
  | 0, _, _, _, h, _, _ => absurd h (Nat.not_lt_zero _)
  | k + 1, p, m, q, h, a, b => by
    by_cases e : m = k
    · subst e
      have a' : WS rows o m p m := a.elim id fun z => z.1
      have b' : WS rows o m m q := b.elim id fun z => z.2
      exact .inr ⟨a', b'⟩
    · have hm : m < k := by omega
      rcases a with a | ⟨a1, a2⟩
      · rcases b with b | ⟨b1, b2⟩
        · exact .inl (ws_mid hm a b)
        · exact .inr ⟨ws_mid hm a b1, b2⟩
      · rcases b with b | ⟨b1, b2⟩
        · exact .inr ⟨a1, ws_mid hm a2 b⟩
        · exact .inr ⟨a1, b2⟩
theorem reach_ws {rows : Rows} {o : Int → Option Nat} {p q : Nat} (h : Reach rows o p q) : WS rows o rows.length p q := by
  induction h with
  | refl => exact ws_up (Nat.zero_le _) (.inl rfl)
  | @step x y s _ h1 h2 ih => exact ws_mid (row_lt h1) ih (ws_up (Nat.zero_le _) (.inr ⟨s, h1, h2⟩))
theorem ws_iff {rows : Rows} {o : Int → Option Nat} {p q : Nat} : WS rows o rows.length p q ↔ Reach rows o p q := ⟨ws_reach, reach_ws⟩
/-- a number whose bits say who is in -/
def Bits (N : Nat) (S : Nat → Prop) : Prop := ∀ q, N.testBit q = true ↔ S q
theorem bits_one (p : Nat) : Bits (2 ^ p) (fun q => q = p) := fun q => by
  rw [Nat.testBit_two_pow, decide_eq_true_iff]
  exact ⟨fun h => h.symm, fun h => h.symm⟩
theorem bits_or {N M : Nat} {S T : Nat → Prop} (a : Bits N S) (b : Bits M T) : Bits (N ||| M) (fun q => S q ∨ T q) := fun q => by
  rw [Nat.testBit_or, Bool.or_eq_true, a q, b q]
theorem Bits.congr {N : Nat} {S T : Nat → Prop} (a : Bits N S) (h : ∀ q, S q ↔ T q) : Bits N T := fun q => (a q).trans (h q)
theorem bit_of (N p : Nat) : N / 2 ^ p % 2 = if N.testBit p = true then 1 else 0 := by
  rw [Nat.testBit_eq_decide_div_mod_eq]
  have := Nat.mod_two_eq_zero_or_one (N / 2 ^ p)
  rcases this with h | h <;> rw [h] <;> simp
theorem ws_step {rows : Rows} {o : Int → Option Nat} {k j : Nat} {N M : Nat} (a : Bits N (WS rows o k j)) (b : Bits M (WS rows o k k)) (h : N.testBit k = true) : Bits (N ||| M) (WS rows o (k + 1) j) :=
  (bits_or a b).congr fun q => ⟨fun z => z.elim .inl fun z => .inr ⟨(a k).mp h, z⟩, fun z => z.elim .inl fun z => .inr z.2⟩
theorem ws_stay {rows : Rows} {o : Int → Option Nat} {k j : Nat} {N : Nat} (a : Bits N (WS rows o k j)) (h : ¬ N.testBit k = true) : Bits N (WS rows o (k + 1) j) :=
  a.congr fun q => ⟨.inl, fun z => z.elim id fun z => absurd ((a k).mpr z.1) h⟩
theorem ws_self {rows : Rows} {o : Int → Option Nat} {k : Nat} {N : Nat} (a : Bits N (WS rows o (k + 1) k)) : Bits N (WS rows o k k) :=
  a.congr fun q => ⟨fun z => z.elim id fun z => z.2, .inl⟩
/-! short lots -/
structure Short (rows : Rows) (L : List Nat) : Prop where
  asc : L.Pairwise (· < ·)
  lt : ∀ p ∈ L, p < rows.length
  few : ∃ U : List Int, U.length < L.length ∧ ∀ p ∈ L, ∀ t ∈ row rows p, t ∈ U
theorem short_no {rows : Rows} {L : List Nat} (s : Short rows L) {D : List Int} (d : Ds rows D) : False := by
  obtain ⟨U, hl, hU⟩ := s.few
  have nd : L.Nodup := s.asc.imp fun {a b} h => Nat.ne_of_lt h
  have n2 : (L.map fun p => D[p]?.getD 0).Nodup := nodup_map nd fun x hx y hy e => by
    obtain ⟨t, e1, _⟩ := d.get (s.lt x hx)
    obtain ⟨u, e2, _⟩ := d.get (s.lt y hy)
    rw [e1, e2] at e
    have e' : t = u := e
    rw [e'] at e1
    exact nodup_get d.nd e1 e2
  have := len_le n2 (l2 := U) fun z hz => by
    obtain ⟨p, hp, rfl⟩ := List.mem_map.mp hz
    obtain ⟨t, e1, ht⟩ := d.get (s.lt p hp)
    rw [e1]
    exact hU p hp t ht
  rw [List.length_map] at this
  omega
def reached (n N : Nat) : List Nat := (List.range n).filter fun q => N.testBit q
theorem mem_reached {n N q : Nat} : q ∈ reached n N ↔ q < n ∧ N.testBit q = true := by
  unfold reached
  rw [List.mem_filter, List.mem_range]
theorem short_of {rows : Rows} {m : MS} {p N n : Nat} (o : UpOk rows rows.length m) (hp : p < rows.length) (h0 : m.h p = none) (hN : Bits N (Reach rows m.o p)) (hn : ∀ q, N.testBit q = true → q < n) : Short rows (reached n N) := by
  obtain ⟨R, r, c⟩ := o.cl p hp h0
  have inR : ∀ x, Reach rows m.o p x → R x := fun x hx => by
    induction hx with
    | refl => exact r
    | @step x y s _ h1 h2 ih =>
      obtain ⟨q', rq, hq⟩ := c x ih s h1
      have := (o.valid.inv q' s).mp hq
      rw [h2] at this
      cases this
      exact rq
  have own : ∀ x, Reach rows m.o p x → ∀ t ∈ row rows x, ∃ y, m.o t = some y ∧ Reach rows m.o p y := fun x hx t ht => by
    obtain ⟨y, _, hy⟩ := c x (inR x hx) t ht
    have h2 := (o.valid.inv y t).mp hy
    exact ⟨y, h2, .step hx ht h2⟩
  have lt : ∀ x, Reach rows m.o p x → x < rows.length := fun x hx => by
    cases hx with
    | refl => exact hp
    | @step _ _ s _ h1 h2 => exact row_lt (o.valid.tie _ s ((o.valid.inv _ s).mpr h2))
  have mem : ∀ x, x ∈ reached n N ↔ Reach rows m.o p x := fun x => by
    rw [mem_reached]
    exact ⟨fun h => (hN x).mp h.2, fun h => ⟨hn x ((hN x).mpr h), (hN x).mpr h⟩⟩
  refine ⟨?_, fun x hx => lt x ((mem x).mp hx), ((reached n N).erase p).map fun x => (m.h x).getD 0, ?_, fun x hx t ht => ?_⟩
  · unfold reached
    exact List.Pairwise.filter _ List.pairwise_lt_range
  · have hpm : p ∈ reached n N := (mem p).mpr .refl
    rw [List.length_map, List.length_erase_of_mem hpm]
    have : 0 < (reached n N).length := List.length_pos_of_mem hpm
    omega
  · obtain ⟨y, h1, h2⟩ := own x ((mem x).mp hx) t ht
    have hy := (o.valid.inv y t).mpr h1
    have yp : y ≠ p := fun e => by rw [e, h0] at hy; cases hy
    exact List.mem_map.mpr ⟨y, (List.mem_erase_of_ne yp).mpr ((mem y).mpr h2), by rw [hy]; rfl⟩
end Mt

set_option maxRecDepth 100000
set_option maxHeartbeats 4000000
namespace Fo
open PySem PySem.Spec PyProof.Rows L2
abbrev s_owners : Stmt := top 16
abbrev n_owners : List Str := ["held", "person", "thing"]
theorem sc_owners : FnScope n_owners ["held"] (defScope s_owners) := ⟨rfl, rfl, rfl, by decide +kernel, rfl, by decide +kernel, by decide +kernel⟩
abbrev s_reaches : Stmt := top 17
abbrev n_reaches : List Str := ["rows", "held", "owner", "found", "person", "row", "mask", "thing", "middle"]
theorem sc_reaches : FnScope n_reaches ["rows", "held"] (defScope s_reaches) := ⟨rfl, rfl, rfl, by decide +kernel, rfl, by decide +kernel, by decide +kernel⟩
theorem nones {n : Nat} : (List.replicate n [V.non]).flatten = heldV n (fun _ => none) := by
  unfold heldV
  induction n with
  | zero => rfl
  | succ n ih =>
    rw [List.range_succ, List.map_append, ← ih, List.replicate_succ', List.flatten_append]
    rfl
section
variable {P : Program} {w : World} {K : PySem.W.Frag} {mg : Str → Option Value} {base : Heap} {C : Addr}
def spMatched (K : PySem.W.Frag) : Sp := fun vs H Q _ => ∃ (b : Bool) (rv : V) (rows : List (List Int)), vs = [rv] ∧ RowsQ b K H rv rows ∧ (Mt.things rows).length ≤ 90000 ∧ rows.length ≤ 90000 ∧
  ∀ m l H', Mt.Upto rows rows.length m → Same H H' → H l = none → H' l = some (.lst (heldV rows.length m.h)) → Q (.ref l) H'
theorem ok_matched (A : At K mg "matched" s_matched ["rows"]) (T : Tx mg) (G_give : Dfn P w K mg base "_give" ["rows", "held", "owner", "person"] 2 (spGive K)) : Dfn P w K mg base "matched" ["rows"] 3 (spMatched K) := by
  refine A.ok sc_matched (fun vs H Q E h => ?_) (fun f cdv A outer s H vs Q E hr h => ?_)
  · obtain ⟨b, rv, rows, rfl, _⟩ := h
    rfl
  · obtain ⟨b, rv, rows, rfl, hR, hU, hn, k⟩ := h
    obtain ⟨ra, vs, rfl, hra, hrb⟩ := id hR
    have vl := hrb.len
    refine ⟨_, (pss_cons (ps_set (i := 1) sc_matched.nd rfl (Or.inl rfl) (pe_op op_rep (pe_lst (pa_cons pe_non pa_nil)) (pe_callB c_len (by rfl) T.len (by decide +kernel) (pa_cons (pv 0) pa_nil))))
      (pss_cons (ps_set (i := 2) sc_matched.nd rfl (Or.inl rfl) pe_dnewK)
      (pss_cons (ps_for PassesOwn.never rfl (pi_range1 rfl T.range (pa_cons (pe_callB c_len (by rfl) T.len (by decide +kernel) (pa_cons (pv 0) pa_nil)) pa_nil)) (pg_name (i := 3) sc_matched.nd rfl (Or.inl rfl))
      (pss_one (ps_expr (pe_d G_give (hr.mono (by decide)) (pa_cons (pv 0) (pa_cons (pv 1) (pa_cons (pv 2) (pa_cons (pv 3) pa_nil))))))))
      (pss_one (ps_ret (pv 1)))))), ?_⟩
    refine ⟨by show 1 ≤ sizeLine; decide, fun l1 h1 => ?_⟩
    have s1 := same_new (o := .lst [V.non]) h1
    refine ⟨_, rfl, ra, vs, rfl, (hra.same s1).or, l1, _, [V.non], rfl, rfl, upd_same, by omega, by omega, ?_, fun hd hhd => ?_⟩
    · rw [List.length_singleton, Int.toNat_natCast, Nat.one_mul]
      exact small_le (by omega)
    rw [Int.toNat_natCast, vl, nones]
    have s2 := s1.trans (same_new (o := .lst (heldV rows.length (fun _ => none))) hhd)
    have fhd : H hd = none := s1.free hhd
    refine fun ow how => ?_
    have s3 := s2.trans (same_new (o := .dK []) how)
    have fow : H ow = none := s2.free how
    have nho : hd ≠ ow := ne_of_none upd_same how
    have hm0 : HR rows.length (upd (upd (upd H l1 (.lst [V.non])) hd (.lst (heldV rows.length (fun _ => none)))) ow (.dK [])) hd ow Mt.m0 := ⟨by rw [upd_ne nho, upd_same]; rfl, DR.new⟩
    refine ⟨_, rfl, ra, vs, rfl, (hra.same s3).or, _, rfl, by omega, by omega, for_range (lo := 0) (n := ((vs.length : Nat) : Int).toNat) (fun i σ' H' => ∃ x3 m, σ' = [some (.ref ra), some (.ref hd), some (.ref ow), x3] ∧ Mt.Upto rows i m ∧ HR rows.length H' hd ow m ∧ Same H H') ⟨_, _, rfl, .zero, hm0, s3⟩ ?_ ?_⟩
    · rintro i σ' H1 hi ⟨x3, m, rfl, u, hm, s4⟩
      have o := Mt.upto_ok u
      refine ⟨_, rfl, _, rfl, _, rfl, _, rfl, b, H, .ref ra, rows, hd, ow, i, m, by rw [Int.zero_add]; rfl, hR, s4, fhd, fow, hm, o.valid, o.late i (Nat.le_refl _), by omega, hU, hn, fun m' H' g s5 hm' => ?_⟩
      exact ⟨_, m', rfl, .succ u g, hm', s5⟩
    · rintro σ' H1 ⟨x3, m, rfl, u, hm, s4⟩
      have e : ((vs.length : Nat) : Int).toNat = rows.length := by omega
      rw [e] at u
      exact ⟨_, rfl, k m hd H1 u s4 fhd hm.1⟩
/-- who holds a thing, of the first i people -/
def cutO (i : Nat) (m : Mt.MS) : Int → Option Nat := fun t => match m.o t with
  | some p => if p < i then some p else none
  | none => none
theorem cutO_zero {m : Mt.MS} : cutO 0 m = fun _ => none := by
  funext t
  unfold cutO
  cases m.o t with
  | none => rfl
  | some p => rfl
theorem cutO_put {m : Mt.MS} {i : Nat} {t : Int} (iv : ∀ p t, m.h p = some t ↔ m.o t = some p) (h : m.h i = some t) : Mt.fset (cutO i m) t (some i) = cutO (i + 1) m := by
  funext s
  by_cases e : s = t
  · rw [e, Mt.fset_same]
    unfold cutO
    rw [(iv i t).mp h]
    show some i = if i < i + 1 then some i else none
    rw [if_pos (Nat.lt_succ_self i)]
  · rw [Mt.fset_ne e]
    unfold cutO
    cases ho : m.o s with
    | none => rfl
    | some p =>
      have hp : p ≠ i := fun z => by
        have := (iv p s).mpr ho
        rw [z, h] at this
        exact e (Option.some.inj this).symm
      show (if p < i then some p else none) = if p < i + 1 then some p else none
      by_cases c : p < i
      · rw [if_pos c, if_pos (by omega)]
      · rw [if_neg c, if_neg (by omega)]
theorem cutO_skip {m : Mt.MS} {i : Nat} (iv : ∀ p t, m.h p = some t ↔ m.o t = some p) (h : m.h i = none) : cutO i m = cutO (i + 1) m := by
  funext s
  unfold cutO
  cases ho : m.o s with
  | none => rfl
  | some p =>
    have hp : p ≠ i := fun z => by
      have := (iv p s).mpr ho
      rw [z, h] at this
      cases this
    show (if p < i then some p else none) = if p < i + 1 then some p else none
    by_cases c : p < i
    · rw [if_pos c, if_pos (by omega)]
    · rw [if_neg c, if_neg (by omega)]
theorem cutO_all {m : Mt.MS} {n : Nat} (iv : ∀ p t, m.h p = some t ↔ m.o t = some p) (late : ∀ p, n ≤ p → m.h p = none) : cutO n m = m.o := by
  funext s
  unfold cutO
  cases ho : m.o s with
  | none => rfl
  | some p =>
    have hp : p < n := by
      refine Nat.lt_of_not_le fun z => ?_
      have := (iv p s).mpr ho
      rw [late p z] at this
      cases this
    show (if p < n then some p else none) = some p
    rw [if_pos hp]
def spOwners (K : PySem.W.Frag) : Sp := fun vs H Q _ => ∃ (hd : Addr) (n : Nat) (m : Mt.MS), vs = [.ref hd] ∧ H hd = some (.lst (heldV n m.h)) ∧ (∀ p t, m.h p = some t ↔ m.o t = some p) ∧ (∀ p, n ≤ p → m.h p = none) ∧ n ≤ 90000 ∧
  ∀ d H', Same H H' → H d = none → DR H' d m.o → Q (.ref d) H'
theorem ok_owners (A : At K mg "owners" s_owners ["held"]) (T : Tx mg) : Dfn P w K mg base "owners" ["held"] 1 (spOwners K) := by
  refine A.ok sc_owners (fun vs H Q E h => ?_) (fun f cdv A outer s H vs Q E hr h => ?_)
  · obtain ⟨hd, n, m, rfl, _⟩ := h
    rfl
  · obtain ⟨hd, n, m, rfl, hh, iv, late, hn, k⟩ := h
    refine ⟨_, (pss_one (ps_ret (pe_dc (own := [("person", 1), ("thing", 2)]) (g := (gTup K 2 (gCons (gName 1) (gCons (gName 2) gNil)))) (tt := (tTest (tOp rNotN (tVar 2) (tC V.non)))) (tk := (tVar 2)) (tv := (tVar 1)) (by rfl) sc_owners.nd (pi_enum (by rfl) T.enumerate (pa_cons (pv 0) pa_nil)) (blkOk_by (own := [("person", 1), ("thing", 2)]) (N := n_owners) (sc := (defScope s_owners)) (by decide +kernel)) (fun _ _ _ _ _ => (pg_tup rfl (pgs_cons (pg_name (i := 1) sc_owners.nd rfl (Or.inl rfl)) (pgs_cons (pg_name (i := 2) sc_owners.nd rfl (Or.inl rfl)) pgs_nil)))) (fun _ _ _ _ _ => (pts_one (pt_cmpR op_notN (pv 2) pe_non (nomark _)))) (fun _ _ _ _ _ => (pv 2)) (fun _ _ _ _ _ => (pv 1))))), ?_⟩
    refine ⟨_, rfl, hd, _, rfl, SqL.of hh, fun D hD => ?_⟩
    refine dc_enumL (xs := heldV n m.h) (fun i H' => DR H' D (cutO i m) ∧ Same H H') ⟨by rw [cutO_zero]; exact DR.new, same_new hD⟩ (fun i H' _ h => SqL.of (h.2 _ _ hh)) ?_ ?_
    · rintro i x H1 c hx ⟨d1, s1⟩ hc
      have hin : i < n := by
        have := (List.getElem?_eq_some_iff.mp hx).1
        rw [heldV_len] at this
        exact this
      rw [heldV_get hin] at hx
      have ex : oI (m.h i) = x := Option.some.inj hx
      subst ex
      have nDc : D ≠ c := by
        obtain ⟨kvs, e⟩ := d1.isd
        exact ne_of_none e hc
      have s2 := s1.trans (same_new (o := .tup [.int ((i : Nat) : Int), oI (m.h i)]) hc)
      have d2 : DR (upd H1 c (.tup [.int ((i : Nat) : Int), oI (m.h i)])) D (cutO i m) := d1.at_ fun o e => by rw [upd_ne nDc]; exact e
      refine ⟨c, _, rfl, SqT.of upd_same, rfl, _, _, rfl, _, _, rfl, rfl, ?_⟩
      cases hi : m.h i with
      | none =>
        rw [hi] at d2 s2
        refine ⟨rfl, _, rfl, rfl, _, rfl, ?_⟩
        exact ⟨by rw [← cutO_skip iv hi]; exact d2, s2⟩
      | some t =>
        rw [hi] at d2 s2
        refine ⟨rfl, _, rfl, rfl, _, rfl, ?_⟩
        obtain ⟨kvs, e, h, hnd, hk⟩ := id d2
        have ln := DR.len (U := (List.range n).map fun p => (m.h p).getD 0) (f := cutO i m) (H := H1) (a := D) hnd hk fun s hs => by
          unfold cutO at hs
          cases ho : m.o s with
          | none => rw [ho] at hs; exact absurd rfl hs
          | some p =>
            have hp := (iv p s).mpr ho
            have hpn : p < n := Nat.lt_of_not_le fun z => by rw [late p z] at hp; cases hp
            exact List.mem_map.mpr ⟨p, List.mem_range.mpr hpn, by rw [hp]; rfl⟩
        rw [List.length_map, List.length_range] at ln
        refine ⟨_, rfl, _, rfl, kvs, .inl t, rfl, e, small_lt (by omega), ?_, same_mut s2 hD⟩
        obtain ⟨H', d3, d4, _⟩ := d2.put t i (U := (List.range n).map fun p => (m.h p).getD 0) (fun s hs => by
          unfold cutO at hs
          cases ho : m.o s with
          | none => rw [ho] at hs; exact absurd rfl hs
          | some p =>
            have hp := (iv p s).mpr ho
            have hpn : p < n := Nat.lt_of_not_le fun z => by rw [late p z] at hp; cases hp
            exact List.mem_map.mpr ⟨p, List.mem_range.mpr hpn, by rw [hp]; rfl⟩) (by rw [List.length_map, List.length_range]; omega)
        rw [cutO_put iv hi] at d4
        have d5 : DPut (upd H1 c (.tup [.int ((i : Nat) : Int), V.int t])) D (.int t) (nV i) (upd (upd H1 c (.tup [.int ((i : Nat) : Int), V.int t])) D (.dK (putK kvs (.inl t) (nV i)))) := DPut.k (k := .inl t) e (small_lt (by omega))
        have e6 : H' = upd (upd H1 c (.tup [.int ((i : Nat) : Int), V.int t])) D (.dK (putK kvs (.inl t) (nV i))) := by
          rcases d3 with ⟨kvs2, k2, a1, a2, a3, a4⟩ | ⟨kvs2, k2, b2, a1, _⟩
          · have a1' := a1.symm.trans e
            cases a1'
            have : k2 = .inl t := by
              cases k2 with
              | inl z => have a2' : V.int t = V.int z := a2; injection a2' with a2'; rw [a2']
              | inr z => cases a2
            rw [a4, this]
          · have a1' := a1.symm.trans e
            cases a1'
        rw [← e6]
        exact d4
    · rintro H1 ⟨d1, s1⟩
      rw [heldV_len, cutO_all iv late] at d1
      exact k D H1 s1 hD d1
theorem at_nat0 {α : Type} {xs : List α} {x : α} {j : Nat} (h : xs[j]? = some x) : atI xs (0 + (j : Int)) = some x := by rw [Int.zero_add]; exact at_nat h
theorem ixN_nat0 {n q : Nat} (h : q < n) : ixN n (0 + (q : Int)) = some q := by rw [Int.zero_add]; exact ixN_nat h
def spReaches (K : PySem.W.Frag) : Sp := fun vs H Q _ => ∃ (b : Bool) (rv : V) (rows : List (List Int)) (hd : Addr) (m : Mt.MS), vs = [rv, .ref hd] ∧ RowsQ b K H rv rows ∧ H hd = some (.lst (heldV rows.length m.h)) ∧ (∀ p t, m.h p = some t ↔ m.o t = some p) ∧ (∀ p, rows.length ≤ p → m.h p = none) ∧ rows.length ≤ 90000 ∧
  ∀ l (M : Nat → Nat) H', Same H H' → H l = none → H' l = some (.lst (numL rows.length M)) → (∀ p, p < rows.length → Mt.Bits (M p) (Mt.Reach rows m.o p)) → Q (.ref l) H'
theorem ok_reaches (A : At K mg "reaches" s_reaches ["rows", "held"]) (T : Tx mg) (G_owners : Dfn P w K mg base "owners" ["held"] 1 (spOwners K)) : Dfn P w K mg base "reaches" ["rows", "held"] 2 (spReaches K) := by
  refine A.ok sc_reaches (fun vs H Q E h => ?_) (fun f cdv A outer s H vs Q E hr h => ?_)
  · obtain ⟨b, rv, rows, hd, m, rfl, _⟩ := h
    rfl
  · obtain ⟨b, rv, rows, hd, m, rfl, hR, hh, iv, late, hn, k⟩ := h
    obtain ⟨ra, vs, rfl, hra, hrb⟩ := id hR
    have vl := hrb.len
    refine ⟨_, (pss_cons (ps_set (i := 2) sc_reaches.nd rfl (Or.inl rfl) (pe_d G_owners (hr.mono (by decide)) (pa_cons (pv 1) pa_nil)))
      (pss_cons (ps_set (i := 3) sc_reaches.nd rfl (Or.inl rfl) (pe_lst pa_nil))
      (pss_cons (ps_for PassesOwn.never rfl (pi_alt (pi_enum (by rfl) T.enumerate (pa_cons (pv 0) pa_nil)) (pi_enumT (by rfl) T.enumerate (pa_cons (pv 0) pa_nil))) (pg_tup rfl (pgs_cons (pg_name (i := 4) sc_reaches.nd rfl (Or.inl rfl)) (pgs_cons (pg_name (i := 5) sc_reaches.nd rfl (Or.inl rfl)) pgs_nil)))
      (pss_cons (ps_set (i := 6) sc_reaches.nd rfl (Or.inl rfl) (pe_op op_oneShl pe_int (pv 4)))
      (pss_cons (ps_for PassesOwn.never rfl (pi_alt (pi_list (pv 5)) (pi_tup (pv 5))) (pg_name (i := 7) sc_reaches.nd rfl (Or.inl rfl))
      (pss_one (ps_if (pt_cmp (pc_din (hu_of hr) (pv 7) (pv 2))) (pss_one (ps_aug (i := 6) sc_reaches.nd rfl (Or.inl rfl) (pe_op op_oneShl pe_int (pe_dget (hu_of hr) (pv 2) (pv 7) (fun _ _ => rfl))) (pip_of iop_or))) pss_nil)))
      (pss_one (ps_expr (pe_bm PySem.F.plainAttrs_list PySem.F.slot_list_append PySem.F.type_list_append mt_append (pv 3) (pa_cons (pv 6) pa_nil)))))))
      (pss_cons (ps_for PassesOwn.never rfl (pi_range1 rfl T.range (pa_cons (pe_callB c_len (by rfl) T.len (by decide +kernel) (pa_cons (pv 0) pa_nil)) pa_nil)) (pg_name (i := 8) sc_reaches.nd rfl (Or.inl rfl))
      (pss_one (ps_for PassesOwn.never rfl (pi_range1 rfl T.range (pa_cons (pe_callB c_len (by rfl) T.len (by decide +kernel) (pa_cons (pv 0) pa_nil)) pa_nil)) (pg_name (i := 4) sc_reaches.nd rfl (Or.inl rfl))
      (pss_one (ps_if (pt_truth (pe_op op_odd (pe_op op_shr (pe_ix ix_list (pv 3) (pv 4) (fun _ _ => rfl)) (pv 8)) pe_int) (by intro _; rfl)) (pss_one (ps_augS (pv 3) (pv 4) get_list (pe_ix ix_list (pv 3) (pv 8) (fun _ _ => rfl)) (pip_of iop_or) set_list)) pss_nil)))))
      (pss_one (ps_ret (pv 3))))))), ?_⟩
    refine ⟨_, rfl, hd, rows.length, m, rfl, hh, iv, late, hn, fun ow H1 s1 how d1 => ?_⟩
    refine ⟨Nat.zero_le _, fun fa hfa => ?_⟩
    have sf := same_new (o := .lst []) hfa
    have f0 : H fa = none := s1.free hfa
    have nfo : fa ≠ ow := by
      obtain ⟨kvs, e⟩ := d1.isd
      exact (ne_of_none e hfa).symm
    have d2 : DR (upd H1 fa (.lst [])) ow m.o := d1.at_ fun o e => by rw [upd_ne nfo.symm]; exact e
    have qlt : ∀ t q, m.o t = some q → q < rows.length := fun t q e => Nat.lt_of_not_le fun z => by
      have := (iv q t).mpr e
      rw [late q z] at this
      cases this
    refine alt_en (b := b) (xs := vs) (fun Q' q => ⟨_, rfl, q⟩) (hra.same (s1.trans sf)) (for_enS (fun i σ' H' => ∃ x4 x5 x6 x7 x8 M, σ' = [some (.ref ra), some (.ref hd), some (.ref ow), some (.ref fa), x4, x5, x6, x7, x8] ∧ H' fa = some (.lst (numL i M)) ∧ DR H' ow m.o ∧ Same H H' ∧ ∀ p, p < i → Mt.Bits (M p) (Mt.S0 rows m.o p)) ⟨_, _, _, _, _, fun _ => 0, rfl, upd_same, d2, s1.trans sf, fun p hp => absurd hp (Nat.not_lt_zero _)⟩ (fun i σ' H' _ hp => by obtain ⟨_, _, _, _, _, _, _, _, _, s3, _⟩ := hp; exact hra.same s3) ?_ ?_)
    · rintro i x σ' H2 c hx ⟨x4, x5, x6, x7, x8, M, rfl, h2, d3, s3, hM⟩ hc
      obtain ⟨aa, r, ex, hri, hqa⟩ := hrb.get hx
      subst ex
      have hir : i < rows.length := (List.getElem?_eq_some_iff.mp hri).1
      have hrow : Mt.row rows i = r := Mt.row_get hri
      obtain ⟨H3, e3⟩ : ∃ H3, H3 = upd H2 c (.tup [.int ((i : Nat) : Int), V.ref aa]) := ⟨_, rfl⟩
      have s4 : Same H2 H3 := by rw [e3]; exact same_new hc
      have hcT : SqT K H3 c [.int ((i : Nat) : Int), V.ref aa] := by rw [e3]; exact SqT.of upd_same
      rw [← e3]
      clear e3
      have h3 := s4 _ _ h2
      have d4 : DR H3 ow m.o := d3.at_ fun o e => s4 _ _ e
      have s5 := s3.trans s4
      refine ⟨c, _, rfl, hcT, rfl, _, _, rfl, _, _, rfl, rfl, ?_⟩
      refine ⟨_, rfl, i, rfl, rfl, by omega, ?_⟩
      refine alt_it (b := b) (xs := r.map V.int) (fun Q' q => ⟨_, rfl, q⟩) (hqa.same s5) (for_sq (fun j σ' H' => ∃ y7 N, σ' = [some (.ref ra), some (.ref hd), some (.ref ow), some (.ref fa), some (nV i), some (.ref aa), some (nV N), y7, x8] ∧ H' = H3 ∧ Mt.Bits N (fun q => q = i ∨ ∃ t ∈ r.take j, m.o t = some q)) ⟨x7, 2 ^ i, by rw [two_pow_nat]; rfl, rfl, (Mt.bits_one i).congr fun q => ⟨.inl, fun z => z.elim id fun ⟨t, ht, _⟩ => (by cases ht)⟩⟩ (fun j σ' H' _ hp => by obtain ⟨_, _, _, e, _⟩ := hp; rw [e]; exact hqa.same s5) ?_ ?_)
      · rintro j x σ' H4 hx2 ⟨y7, N, rfl, rfl, hN⟩
        have hjr : j < r.length := by
          have := (List.getElem?_eq_some_iff.mp hx2).1
          rw [List.length_map] at this
          exact this
        have hrj := List.getElem?_eq_getElem hjr
        obtain ⟨t, et⟩ : ∃ t, t = r[j] := ⟨_, rfl⟩
        rw [← et] at hrj
        rw [List.getElem?_map, hrj] at hx2
        have ex : V.int t = x := Option.some.inj hx2
        subst ex
        refine ⟨_, rfl, _, rfl, ow, _, rfl, d4.get t, ?_⟩
        have step : ∀ q, (∃ s ∈ r.take (j + 1), m.o s = some q) ↔ ((∃ s ∈ r.take j, m.o s = some q) ∨ m.o t = some q) := fun q => by
          rw [List.take_add_one, hrj]
          constructor
          · rintro ⟨s, hs, e⟩
            rcases List.mem_append.mp hs with g | g
            · exact .inl ⟨s, g, e⟩
            · rw [List.mem_singleton.mp g] at e; exact .inr e
          · rintro (⟨s, hs, e⟩ | e)
            · exact ⟨s, List.mem_append_left _ hs, e⟩
            · exact ⟨t, List.mem_append_right _ List.mem_cons_self, e⟩
        cases ho : m.o t with
        | none =>
          refine ⟨_, rfl, _, N, rfl, rfl, hN.congr fun q => ?_⟩
          rw [step q, ho]
          exact ⟨fun z => z.elim .inl fun z => .inr (.inl z), fun z => z.elim .inl fun z => z.elim .inr fun z => (by cases z)⟩
        | some q =>
          have get := d4.get t
          rw [ho] at get
          refine ⟨_, rfl, _, rfl, _, rfl, _, rfl, ow, _, rfl, get, q, rfl, rfl, by have := qlt t q ho; omega, _, _, rfl, rfl, ?_⟩
          have eb : V.int (Builtin.bitOr (N : Int) ((2 : Int) ^ q)) = nV (N ||| 2 ^ q) := by rw [two_pow_nat, or_nat]
          refine ⟨some (.int t), N ||| 2 ^ q, congrArg (fun z => [some (V.ref ra), some (.ref hd), some (.ref ow), some (.ref fa), some (nV i), some (.ref aa), some z, some (.int t), x8]) eb, rfl, (Mt.bits_or hN (Mt.bits_one q)).congr fun y => ?_⟩
          rw [step y, ho]
          constructor
          · rintro ((z | z) | z)
            · exact .inl z
            · exact .inr (.inl z)
            · exact .inr (.inr (by rw [z]))
          · rintro (z | z | z)
            · exact .inl (.inl z)
            · exact .inl (.inr z)
            · exact .inr (Option.some.inj z).symm
      · rintro σ' H4 ⟨y7, N, rfl, rfl, hN⟩
        rw [List.length_map, List.take_length] at hN
        refine ⟨_, rfl, .inl ⟨rfl, _, SqL.of h3⟩, _, rfl, fa, _, nV N, rfl, rfl, h3, small_lt (by rw [numL_len]; omega), ?_⟩
        refine ⟨_, _, _, _, _, Mt.fset M i N, rfl, by rw [upd_same, numL_snoc], d4.at_ fun o e => (by rw [upd_ne nfo.symm]; exact e), same_mut s5 f0, fun p hp => ?_⟩
        by_cases z : p = i
        · rw [z, Mt.fset_same]
          refine hN.congr fun q => ?_
          unfold Mt.S0
          rw [hrow]
        · rw [Mt.fset_ne z]
          exact hM p (by omega)
    · rintro σ' H2 ⟨x4, x5, x6, x7, x8, M, rfl, h2, d3, s3, hM⟩
      rw [vl] at h2 hM
      refine ⟨_, rfl, ra, vs, rfl, (hra.same s3).or, _, rfl, by omega, by omega, ?_⟩
      have en : ((vs.length : Nat) : Int).toNat = rows.length := by omega
      rw [en]
      refine for_range (lo := 0) (n := rows.length) (fun k σ' H' => ∃ x4 x5 x6 x7 x8 M, σ' = [some (.ref ra), some (.ref hd), some (.ref ow), some (.ref fa), x4, x5, x6, x7, x8] ∧ H' fa = some (.lst (numL rows.length M)) ∧ Same H H' ∧ ∀ p, p < rows.length → Mt.Bits (M p) (Mt.WS rows m.o k p)) ⟨_, _, _, _, _, M, rfl, h2, s3, hM⟩ ?_ ?_
      · rintro kk σ' H3 hk ⟨x4, x5, x6, x7, x8, M, rfl, h3, s4, hM⟩
        refine ⟨_, rfl, ra, vs, rfl, (hra.same s4).or, _, rfl, by omega, by omega, ?_⟩
        rw [en]
        refine for_range (lo := 0) (n := rows.length) (fun j σ' H' => ∃ x4 M, σ' = [some (.ref ra), some (.ref hd), some (.ref ow), some (.ref fa), x4, x5, x6, x7, some (.int (0 + (kk : Int)))] ∧ H' fa = some (.lst (numL rows.length M)) ∧ Same H H' ∧ (∀ p, p < j → p < rows.length → Mt.Bits (M p) (Mt.WS rows m.o (kk + 1) p)) ∧ ∀ p, j ≤ p → p < rows.length → Mt.Bits (M p) (Mt.WS rows m.o kk p)) ⟨_, M, rfl, h3, s4, fun p hp => absurd hp (Nat.not_lt_zero _), fun p _ hp => hM p hp⟩ ?_ ?_
        · rintro j σ' H4 hj ⟨y4, M, rfl, h4, s5, hA, hB⟩
          have hkb : Mt.Bits (M kk) (Mt.WS rows m.o kk kk) := by
            by_cases c : kk < j
            · exact Mt.ws_self (hA kk c hk)
            · exact hB kk (by omega) hk
          have hjb := hB j (Nat.le_refl _) hj
          refine ⟨_, rfl, _, rfl, fa, _, _, _, rfl, rfl, SqL.of h4, at_nat0 (numL_get hj), ?_⟩
          refine ⟨_, rfl, _, _, rfl, rfl, by omega, M j / 2 ^ kk, by rw [← shr_nat, Int.zero_add]; rfl, rfl, (((M j / 2 ^ kk % 2 : Nat) : Int) != 0), rfl, ?_⟩
          rw [Mt.bit_of]
          by_cases hb : (M j).testBit kk = true
          · rw [if_pos hb]
            refine ⟨_, rfl, _, rfl, fa, _, _, _, rfl, rfl, by omega, SqL.of h4, at_nat0 (numL_get hj), ?_⟩
            refine ⟨_, rfl, _, rfl, fa, _, _, _, rfl, rfl, SqL.of h4, at_nat0 (numL_get hk), ?_⟩
            refine ⟨_, _, rfl, rfl, fa, _, _, j, rfl, rfl, h4, by rw [numL_len]; exact ixN_nat0 hj, ?_⟩
            refine ⟨_, Mt.fset M j (M j ||| M kk), rfl, by rw [upd_same]; show some (HO.lst ((numL rows.length M).set j (V.int (Builtin.bitOr (M j : Int) (M kk : Int))))) = _; rw [or_nat, numL_set], same_mut s5 f0, fun p hp hpn => ?_, fun p hp hpn => ?_⟩
            · by_cases z : p = j
              · rw [z, Mt.fset_same]
                exact Mt.ws_step hjb hkb hb
              · rw [Mt.fset_ne z]
                exact hA p (by omega) hpn
            · rw [Mt.fset_ne (by omega)]
              exact hB p (by omega) hpn
          · rw [if_neg hb]
            refine ⟨_, M, rfl, h4, s5, fun p hp hpn => ?_, fun p hp hpn => hB p (by omega) hpn⟩
            by_cases z : p = j
            · rw [z]
              exact Mt.ws_stay hjb hb
            · exact hA p (by omega) hpn
        · rintro σ' H4 ⟨y4, M, rfl, h4, s5, hA, hB⟩
          exact ⟨_, _, _, _, _, M, rfl, h4, s5, fun p hp => hA p hp hp⟩
      · rintro σ' H3 ⟨x4, x5, x6, x7, x8, M, rfl, h3, s4, hM⟩
        exact ⟨_, rfl, k fa M H3 s4 f0 h3 fun p hp => (hM p hp).congr fun q => Mt.ws_iff⟩
end
end Fo

set_option maxRecDepth 100000
set_option maxHeartbeats 4000000
namespace Fo
open PySem PySem.Spec PyProof.Rows L2
open Classical in
noncomputable def liveB (rows : List (List Int)) (p : Nat) (t : Int) : Bool := decide (Mt.Live rows p t)
open Classical in
theorem liveB_iff {rows : List (List Int)} {p : Nat} {t : Int} : liveB rows p t = true ↔ Mt.Live rows p t := by
  unfold liveB
  exact decide_eq_true_iff
abbrev s_live_rows : Stmt := top 18
abbrev n_live_rows : List Str := ["rows", "held", "found", "owner", "person", "row", "thing"]
theorem sc_live_rows : FnScope n_live_rows ["rows"] (defScope s_live_rows) := ⟨rfl, rfl, rfl, by decide +kernel, rfl, by decide +kernel, by decide +kernel⟩
theorem liveR_get {rows : List (List Int)} {p : Nat} {r : List Int} (h : rows[p]? = some r) : (Mt.liveR rows)[p]? = some (r.filter (liveB rows p)) := by
  unfold Mt.liveR
  rw [List.getElem?_mapIdx, h]
  rfl
theorem take_snoc {α : Type} {l : List α} {i : Nat} {x : α} (h : l[i]? = some x) : l.take (i + 1) = l.take i ++ [x] := by rw [List.take_add_one, h]; rfl
section
variable {P : Program} {w : World} {K : PySem.W.Frag} {mg : Str → Option Value} {base : Heap} {C : Addr}
/-- a list that changes is no row of an older heap -/
theorem RowsB.put {H : Hp} {f : Addr} {us ws : List V} {rs : List (List Int)} (e : ∀ (a : Addr) (r : List Int), Sq true K H a (r.map V.int) → (∃ v ∈ us, v = .ref a) → Sq true K (upd H f (.lst ws)) a (r.map V.int)) : ∀ {vs : List V}, (∀ v ∈ vs, v ∈ us) → RowsB true K H vs rs → RowsB true K (upd H f (.lst ws)) vs rs := by
  intro vs
  induction rs generalizing vs with
  | nil =>
    intro _ h
    cases h
    exact .nil
  | cons r rs ih =>
    intro hv h
    cases h with
    | cons h t => exact .cons (e _ r h ⟨_, hv _ List.mem_cons_self, rfl⟩) (ih (fun v hm => hv v (List.mem_cons_of_mem _ hm)) t)
/-- rows in new lists -/
def RowsF (H H' : Hp) (l : Addr) (rs : List (List Int)) : Prop := ∃ ws, H' l = some (.lst ws) ∧ ws.length = rs.length ∧ ∀ (i : Nat) (r : List Int), rs[i]? = some r → ∃ a, ws[i]? = some (.ref a) ∧ H a = none ∧ H' a = some (.lst (r.map V.int)) ∧ a ≠ l
def spLive (K : PySem.W.Frag) : Sp := fun vs H Q _ => ∃ (b : Bool) (rv : V) (rows : List (List Int)), vs = [rv] ∧ RowsQ b K H rv rows ∧ (Mt.things rows).length ≤ 90000 ∧ rows.length ≤ 90000 ∧ (∀ r ∈ rows, r.length ≤ 90000) ∧ Mt.Few rows ∧
  ((∀ D, ¬ Mt.Ds rows D) → ∀ H', Same H H' → Q .non H') ∧ ((∃ D, Mt.Ds rows D) → ∀ l H', Same H H' → H l = none → RowsQ true K H' (.ref l) (Mt.liveR rows) → RowsF H H' l (Mt.liveR rows) → Q (.ref l) H')
theorem ok_live (A : At K mg "live_rows" s_live_rows ["rows"]) (T : Tx mg) (G_matched : Dfn P w K mg base "matched" ["rows"] 3 (spMatched K)) (G_reaches : Dfn P w K mg base "reaches" ["rows", "held"] 2 (spReaches K)) (G_owners : Dfn P w K mg base "owners" ["held"] 1 (spOwners K)) : Dfn P w K mg base "live_rows" ["rows"] 4 (spLive K) := by
  refine A.ok sc_live_rows (fun vs H Q E h => ?_) (fun f cdv A outer s H vs Q E hr h => ?_)
  · obtain ⟨b, rv, rows, rfl, _⟩ := h
    rfl
  · obtain ⟨b, rv, rows, rfl, hR, hU, hn, hrl, few, k1, k2⟩ := h
    obtain ⟨ra, vs, rfl, hra, hrb⟩ := id hR
    have vl := hrb.len
    refine ⟨_, (pss_cons (ps_set (i := 1) sc_live_rows.nd rfl (Or.inl rfl) (pe_d G_matched (hr.mono (by decide)) (pa_cons (pv 0) pa_nil)))
      (pss_cons (ps_if (pt_cmpR op_in_seq pe_non (pv 1) rfl) (pss_one (ps_ret pe_non)) pss_nil)
      (pss_cons (ps_set (i := 2) sc_live_rows.nd rfl (Or.inr rfl) (pe_d G_reaches (hr.mono (by decide)) (pa_cons (pv 0) (pa_cons (pv 1) pa_nil))))
      (pss_cons (ps_set (i := 3) sc_live_rows.nd rfl (Or.inr rfl) (pe_d G_owners (hr.mono (by decide)) (pa_cons (pv 1) pa_nil)))
      (pss_one (ps_ret (pe_lc (own := [("person", 4), ("row", 5)]) (g := (gTup K 2 (gCons (gName 4) (gCons (gName 5) gNil)))) (tt := tYes) (te := (tLc (iAlt (iList K (tVar 5)) (iTup K (tVar 5))) (gName 6) (tTru K (tOp rOdd (tOp (rI (fun _ j => 0 ≤ j) fun i j => .int (i / 2 ^ j.toNat)) (tOp (rIxL K) (tVar 2) (tDGet (tVar 3) (tVar 6))) (tVar 4)) (tC (V.int 1)))) (tVar 6) [6])) (by rfl) sc_live_rows.nd (pi_alt (pi_enum (by rfl) T.enumerate (pa_cons (pv 0) pa_nil)) (pi_enumT (by rfl) T.enumerate (pa_cons (pv 0) pa_nil))) (blkOk_by (own := [("person", 4), ("row", 5)]) (N := n_live_rows) (sc := (defScope s_live_rows)) (by decide +kernel)) (fun _ _ _ _ _ => (pg_tup rfl (pgs_cons (pg_name (i := 4) sc_live_rows.nd rfl (Or.inr rfl)) (pgs_cons (pg_name (i := 5) sc_live_rows.nd rfl (Or.inl rfl)) pgs_nil)))) (fun _ _ _ _ _ => pts_nil) (fun _ _ _ _ _ => (pe_lc (own := [("thing", 6)]) (g := (gName 6)) (tt := (tTru K (tOp rOdd (tOp (rI (fun _ j => 0 ≤ j) fun i j => .int (i / 2 ^ j.toNat)) (tOp (rIxL K) (tVar 2) (tDGet (tVar 3) (tVar 6))) (tVar 4)) (tC (V.int 1))))) (te := (tVar 6)) (by rfl) sc_live_rows.nd (pi_alt (pi_list (pv 5)) (pi_tup (pv 5))) (blkOk_by (own := [("thing", 6)]) (N := n_live_rows) (sc := (relabel (retScope s_live_rows) (envQ (defScope s_live_rows)))) (by decide +kernel)) (fun _ _ _ _ _ => (pg_name (i := 6) sc_live_rows.nd rfl (Or.inl rfl))) (fun _ _ _ _ _ => (pts_one (pt_truth (pe_op op_odd (pe_op op_shr (pe_ix ix_list (pv 2) (pe_dget (hu_of hr) (pv 3) (pv 6) (fun _ _ => rfl)) (fun _ _ => rfl)) (pv 4)) pe_int) (by intro _; rfl)))) (fun _ _ _ _ _ => (pv 6))))))))))), ?_⟩
    refine ⟨_, rfl, b, .ref ra, rows, rfl, hR, hU, hn, fun m hd H1 u s1 f1 hh => ?_⟩
    have o := Mt.upto_ok u
    refine ⟨_, rfl, hd, _, rfl, .inl (SqL.of hh), rfl, held_flat _ _, _, rfl, ?_⟩
    have ei : inV .non (heldV rows.length m.h) = decide (∃ p, p < rows.length ∧ m.h p = none) := non_in _ _
    rcases Mt.full_or o with full | ⟨p, h1, h2, h3⟩
    · have e0 : inV .non (heldV rows.length m.h) = false := by
        rw [ei]
        exact decide_eq_false fun ⟨p, a, b⟩ => full p a b
      rw [show (if false = true then !inV V.non (heldV rows.length m.h) else inV V.non (heldV rows.length m.h)) = false from e0]
      refine ⟨_, rfl, _, rfl, b, .ref ra, rows, hd, m, rfl, hR.same s1, hh, o.valid.inv, o.late, hn, fun fl M H2 s2 ffl hfl bits => ?_⟩
      have hh2 := s2 _ _ hh
      refine ⟨_, rfl, hd, rows.length, m, rfl, hh2, o.valid.inv, o.late, hn, fun ow H3 s3 fow dr => ?_⟩
      have hfl3 := s3 _ _ hfl
      have s13 := (s1.trans s2).trans s3
      have dex : ∃ D, Mt.Ds rows D := ⟨_, (Mt.dealt_ok o.valid full).1⟩
      refine alt_en (b := b) (xs := vs) (fun Q' q => ⟨_, rfl, q⟩) (hra.same s13) fun D hD => ?_
      refine lc_enS (fun i H' => ∃ ws, H' D = some (.lst ws) ∧ RowsB true K H' ws ((Mt.liveR rows).take i) ∧ Same H3 H' ∧ (∀ v ∈ ws, ∃ a, v = .ref a ∧ a ≠ D) ∧ ∀ (j : Nat) (r : List Int), ((Mt.liveR rows).take i)[j]? = some r → ∃ a, ws[j]? = some (.ref a) ∧ H3 a = none ∧ H' a = some (.lst (r.map V.int)) ∧ a ≠ D) ⟨[], upd_same, .nil, same_new hD, fun v hv => (by cases hv), fun j r h => (by rw [List.take_zero] at h; cases h)⟩ (fun i H' _ hp => by obtain ⟨_, _, _, s4, _⟩ := hp; exact hra.same (s13.trans s4)) ?_ ?_
      · rintro i x H4 c hx ⟨ws, h4, hw, s4, hne, hF⟩ hc
        obtain ⟨aa, r, ex, hri, hqa⟩ := hrb.get hx
        subst ex
        have hir : i < rows.length := (List.getElem?_eq_some_iff.mp hri).1
        have hrow : Mt.row rows i = r := Mt.row_get hri
        have rl := hrl r (List.mem_of_getElem? hri)
        have nDc : D ≠ c := ne_of_none h4 hc
        have sc := same_new (o := .tup [.int ((i : Nat) : Int), V.ref aa]) hc
        refine ⟨c, _, rfl, SqT.of upd_same, rfl, _, _, rfl, _, _, rfl, rfl, rfl, ?_⟩
        have s5 := s4.trans sc
        refine alt_it (b := b) (xs := r.map V.int) (fun Q' q => ⟨_, rfl, q⟩) (hqa.same (s13.trans s5)) fun D2 hD2 => ?_
        have fD2 : H4 D2 = none := sc.free hD2
        refine lc_sq (fun j H' => H' D2 = some (.lst (((r.take j).filter (liveB rows i)).map V.int)) ∧ Same (upd H4 c (.tup [.int ((i : Nat) : Int), V.ref aa])) H') ⟨upd_same, same_new hD2⟩ (fun j H' _ hp => hqa.same (s13.trans (s5.trans hp.2))) ?_ ?_
        · rintro j y H5 hy ⟨h5, s6⟩
          have hjr : j < r.length := by
            have := (List.getElem?_eq_some_iff.mp hy).1
            rw [List.length_map] at this
            exact this
          have hrj := List.getElem?_eq_getElem hjr
          obtain ⟨t, et⟩ : ∃ t, t = r[j] := ⟨_, rfl⟩
          rw [← et] at hrj
          rw [List.getElem?_map, hrj] at hy
          have ey : V.int t = y := Option.some.inj hy
          subst ey
          have htr : t ∈ Mt.row rows i := by rw [hrow]; exact List.mem_of_getElem? hrj
          obtain ⟨q, hq⟩ := Mt.owned o.valid full few htr
          have hqn : q < rows.length := Mt.row_lt (o.valid.tie q t ((o.valid.inv q t).mpr hq))
          have s36 := s5.trans s6
          have dr6 : DR H5 ow m.o := dr.at_ fun z e => s36 _ _ e
          have get := dr6.get t
          rw [hq] at get
          have li : liveB rows i t = (M q).testBit i := by
            have := (Mt.live_iff o.valid full few htr hq).trans (bits q hqn i).symm
            cases hb : (M q).testBit i with
            | true => exact liveB_iff.mpr (this.mpr hb)
            | false =>
              cases hl : liveB rows i t with
              | false => rfl
              | true => rw [this.mp (liveB_iff.mp hl)] at hb; cases hb
          refine ⟨rfl, _, rfl, _, rfl, _, rfl, ow, _, rfl, get, fl, _, _, _, rfl, rfl, SqL.of (s36 _ _ hfl3), at_nat (numL_get hqn), _, rfl, _, _, rfl, rfl, by omega, M q / 2 ^ i, by rw [← shr_nat]; rfl, rfl, ((M q / 2 ^ i % 2 : Nat) : Int) != 0, rfl, ?_⟩
          rw [Mt.bit_of]
          have et2 : ((r.take (j + 1)).filter (liveB rows i)) = (r.take j).filter (liveB rows i) ++ if (M q).testBit i = true then [t] else [] := by
            rw [take_snoc hrj, List.filter_append]
            congr 1
            by_cases hb : (M q).testBit i = true
            · rw [if_pos hb, List.filter_cons_of_pos (by rw [li]; exact hb)]; rfl
            · rw [if_neg hb, List.filter_cons_of_neg (by rw [li]; exact hb)]; rfl
          by_cases hb : (M q).testBit i = true
          · rw [if_pos hb]
            rw [if_pos hb] at et2
            refine ⟨_, rfl, _, h5, by rw [List.length_map]; exact small_lt (Nat.le_trans (List.length_filter_le _ _) (by rw [List.length_take]; omega)), ?_, same_mut s6 hD2⟩
            rw [upd_same, et2, List.map_append]
            rfl
          · rw [if_neg hb]
            rw [if_neg hb] at et2
            exact ⟨by rw [et2, List.append_nil]; exact h5, s6⟩
        · rintro H5 ⟨h5, s6⟩
          rw [List.length_map, List.take_length] at h5
          have s46 := sc.trans s6
          have h5D := s46 _ _ h4
          have nD2 : D2 ≠ D := (ne_of_none h4 fD2).symm
          have wl : ws.length ≤ 90000 := by rw [hw.len, List.length_take, Mt.liveR_len]; omega
          refine ⟨ws, h5D, small_lt (by omega), ws ++ [.ref D2], upd_same, ?_, same_mut (s4.trans s46) hD, fun v hv => ?_, fun j r' hj => ?_⟩
          · rw [take_snoc (liveR_get hri)]
            refine RowsB.snoc (b := true) (r := r.filter (liveB rows i)) (show SqL K _ D2 _ from SqL.of (by rw [upd_ne nD2]; exact h5)) ?_
            refine RowsB.put (us := ws) (fun a r' h ⟨v, hv, ev⟩ => ?_) (fun v hv => hv) (hw.same s46)
            obtain ⟨a', e1, n1⟩ := hne v hv
            rw [ev] at e1
            cases e1
            rcases h with (h | ⟨o', h⟩) | h
            · exact .inl (.inl (by rw [upd_ne n1]; exact h))
            · exact .inl (.inr ⟨o', by rw [upd_ne n1]; exact h⟩)
            · exact .inr h
          · rcases List.mem_append.mp hv with g | g
            · exact hne v g
            · exact ⟨D2, List.mem_singleton.mp g, nD2⟩
          · have lw := hw.len
            rw [take_snoc (liveR_get hri)] at hj
            by_cases jl : j < ((Mt.liveR rows).take i).length
            · rw [List.getElem?_append_left jl] at hj
              obtain ⟨a, a1, a2, a3, a4⟩ := hF j r' hj
              refine ⟨a, ?_, a2, by rw [upd_ne a4]; exact s46 _ _ a3, a4⟩
              rw [List.getElem?_append_left (by omega)]
              exact a1
            · have := (List.getElem?_eq_some_iff.mp hj).1
              rw [List.length_append, List.length_singleton] at this
              have ej : j = ((Mt.liveR rows).take i).length := by omega
              rw [ej, List.getElem?_concat_length] at hj
              cases hj
              refine ⟨D2, ?_, s4.free fD2, by rw [upd_ne nD2]; exact h5, nD2⟩
              rw [ej, ← lw, List.getElem?_concat_length]
      · rintro H4 ⟨ws, h4, hw, s4, hne, hF⟩
        have e : (Mt.liveR rows).take vs.length = Mt.liveR rows := List.take_of_length_le (by rw [Mt.liveR_len, vl]; exact Nat.le_refl _)
        rw [e] at hw
        refine k2 dex D H4 (s13.trans s4) (s13.free hD) ⟨D, ws, rfl, SqL.of h4, hw⟩ ⟨ws, h4, hw.len, fun j r hj => ?_⟩
        rw [← e] at hj
        obtain ⟨a, a1, a2, a3, a4⟩ := hF j r hj
        exact ⟨a, a1, s13.free a2, a3, a4⟩
    · have e0 : inV .non (heldV rows.length m.h) = true := by
        rw [ei]
        exact decide_eq_true ⟨p, h1, h2⟩
      rw [show (if false = true then !inV V.non (heldV rows.length m.h) else inV V.non (heldV rows.length m.h)) = true from e0]
      exact k1 h3 H1 s1
theorem RowsB.snocL {H : Hp} {D D2 : Addr} {ws : List V} {rs : List (List Int)} {r : List Int} (h2 : H D2 = some (.lst (r.map V.int))) (n : D2 ≠ D) (hne : ∀ v ∈ ws, ∃ a, v = .ref a ∧ a ≠ D) (hw : RowsB true K H ws rs) : RowsB true K (upd H D (.lst (ws ++ [.ref D2]))) (ws ++ [.ref D2]) (rs ++ [r]) := by
  refine RowsB.snoc (b := true) (r := r) (show SqL K _ D2 _ from SqL.of (by rw [upd_ne n]; exact h2)) ?_
  refine RowsB.put (us := ws) (fun a r' h ⟨v, hv, ev⟩ => ?_) (fun v hv => hv) hw
  obtain ⟨a', e1, n1⟩ := hne v hv
  rw [ev] at e1
  cases e1
  rcases h with (h | ⟨o', h⟩) | h
  · exact .inl (.inl (by rw [upd_ne n1]; exact h))
  · exact .inl (.inr ⟨o', by rw [upd_ne n1]; exact h⟩)
  · exact .inr h
end
end Fo

set_option maxRecDepth 100000
set_option maxHeartbeats 4000000
namespace Fo
open PySem PySem.Spec PyProof.Rows L2
section
variable {P : Program} {w : World} {K : PySem.W.Frag} {mg : Str → Option Value} {base : Heap} {C : Addr}
theorem catA {a b : Addr} {xs ys : List V} {H : Hp} {Q : VK} (ha : SqT K H a xs) (hb : SqT K H b ys) (hz : xs.length + ys.length ≤ 100000) (k : ∀ p H', Same H H' → SqT K H' p (xs ++ ys) → Q (.ref p) H') : rCatA K (.ref a) (.ref b) H Q := by
  refine ⟨a, b, xs, ys, rfl, rfl, ha, hb, small_le hz, fun h => ?_, fun _ h => ?_, fun _ _ p hp => k p _ (same_new hp) (SqT.of upd_same)⟩
  · subst h
    exact k b H (Same.refl H) hb
  · subst h
    exact k a H (Same.refl H) (by rw [List.append_nil]; exact ha)
theorem slA {a : Addr} {xs : List V} {lo hi : Option Int} {H : Hp} {Q : VK} (ha : SqT K H a xs) (k : ∀ p H', Same H H' → SqT K H' p (cutV xs lo hi) → Q (.ref p) H') : rSlA K (.ref a) lo hi H Q := by
  refine ⟨a, xs, rfl, ha, fun hw => k a H (Same.refl H) ?_, fun _ p hp => k p _ (same_new hp) (SqT.of upd_same)⟩
  have e : cutV xs lo hi = xs := by
    unfold cutV
    rw [hw.1, hw.2]
    simp
  rw [e]
  exact ha
theorem cut_to {xs : List V} {n : Nat} (h : n ≤ xs.length) : cutV xs none (some (n : Int)) = xs.take n := by
  unfold cutV
  rw [HT.sIx_none, HT.sIx_nat, show min n xs.length = n by omega]
  rfl
theorem cut_from {xs : List V} {n : Nat} (h : n ≤ xs.length) : cutV xs (some (n : Int)) none = xs.drop n := by
  unfold cutV
  rw [HT.sIx_none, HT.sIx_nat, show min n xs.length = n by omega]
  rw [List.take_of_length_le]
  rw [List.length_drop]
  omega
theorem RowsT.app {H : Hp} : ∀ {vs ws : List V} {rs ss : List (List Int)}, RowsT K H vs rs → RowsT K H ws ss → RowsT K H (vs ++ ws) (rs ++ ss)
  | _, _, _, _, .nil, s => s
  | _, _, _, _, .cons h r, s => .cons h (r.app s)
theorem RowsT.takeN {H : Hp} : ∀ {vs : List V} {rs : List (List Int)} (n : Nat), RowsT K H vs rs → RowsT K H (vs.take n) (rs.take n)
  | _, _, 0, _ => .nil
  | _, _, _ + 1, .nil => .nil
  | _, _, n + 1, .cons h r => .cons h (r.takeN n)
theorem RowsT.dropN {H : Hp} : ∀ {vs : List V} {rs : List (List Int)} (n : Nat), RowsT K H vs rs → RowsT K H (vs.drop n) (rs.drop n)
  | _, _, 0, r => r
  | _, _, _ + 1, .nil => .nil
  | _, _, n + 1, .cons _ r => r.dropN n
theorem set_eq {α : Type} : ∀ (l : List α) (n : Nat) (x : α), n < l.length → l.set n x = l.take n ++ [x] ++ l.drop (n + 1)
  | _ :: _, 0, _, _ => rfl
  | y :: l, n + 1, x, h => by
    show y :: l.set n x = y :: (l.take n ++ [x] ++ l.drop (n + 1))
    rw [set_eq l n x (by simpa using h)]
end
theorem ext_by {α : Type} (f : α → Int) : ∀ {l1 l2 : List α}, l1.Pairwise (fun a b => f a < f b) → l2.Pairwise (fun a b => f a < f b) → (∀ x, x ∈ l1 ↔ x ∈ l2) → l1 = l2
  | [], [], _, _, _ => rfl
  | [], y :: r, _, _, h => absurd ((h y).mpr List.mem_cons_self) (by simp)
  | x :: r, [], _, _, h => absurd ((h x).mp List.mem_cons_self) (by simp)
  | x :: r, y :: q, h1, h2, h => by
    have p1 := List.pairwise_cons.mp h1
    have p2 := List.pairwise_cons.mp h2
    have e : x = y := by
      rcases List.mem_cons.mp ((h x).mp List.mem_cons_self) with e | m
      · exact e
      · rcases List.mem_cons.mp ((h y).mpr List.mem_cons_self) with e | m2
        · exact e.symm
        · have a := p2.1 x m
          have b := p1.1 y m2
          omega
    subst e
    have t : r = q := ext_by f p1.2 p2.2 fun z => by
      constructor
      · intro hz
        rcases List.mem_cons.mp ((h z).mp (List.mem_cons_of_mem _ hz)) with e | m
        · have := p1.1 z hz
          rw [e] at this
          omega
        · exact m
      · intro hz
        rcases List.mem_cons.mp ((h z).mpr (List.mem_cons_of_mem _ hz)) with e | m
        · have := p2.1 z hz
          rw [e] at this
          omega
        · exact m
    rw [t]
theorem asc_ext {l1 l2 : List Int} (h1 : l1.Pairwise (· < ·)) (h2 : l2.Pairwise (· < ·)) (h : ∀ x, x ∈ l1 ↔ x ∈ l2) : l1 = l2 := ext_by id h1 h2 h
theorem good_set {rows : List (List Int)} {i : Nat} {r' : List Int} (G : Good rows) (h1 : r'.Pairwise (· < ·)) (h2 : ∀ x ∈ r', 0 ≤ x ∧ x < (rows.length : Int)) : Good (rows.set i r') := by
  refine ⟨by rw [List.length_set]; exact G.pos, fun r hr => ?_, fun r hr x hx => ?_⟩
  · rcases List.mem_or_eq_of_mem_set hr with h | h
    · exact G.asc r h
    · rw [h]; exact h1
  · rw [List.length_set]
    rcases List.mem_or_eq_of_mem_set hr with h | h
    · exact G.rng r h x hx
    · rw [h] at hx; exact h2 x hx
theorem set_same {rows : List (List Int)} {i : Nat} {r : List Int} (h : rows[i]? = some r) : rows.set i r = rows := by
  apply List.ext_getElem?
  intro j
  rw [List.getElem?_set]
  by_cases e : i = j
  · subst e
    rw [if_pos rfl, if_pos (List.getElem?_eq_some_iff.mp h).1, h]
  · rw [if_neg e]
theorem set_get {rows : List (List Int)} {i : Nat} {r' : List Int} (h : i < rows.length) : (rows.set i r')[i]? = some r' := by
  rw [List.getElem?_set, if_pos rfl, if_pos h]
theorem set_set' {rows : List (List Int)} {i : Nat} {r' r2 : List Int} : (rows.set i r').set i r2 = rows.set i r2 := by rw [List.set_set]
section
variable {K : PySem.W.Frag} {H : Hp}
theorem RowsT.keys : ∀ {vs : List V} {rs : List (List Int)}, RowsT K H vs rs → ∃ ks : List (Addr × List Int), vs = ks.map (fun p => V.ref p.1) ∧ rs = ks.map (·.2) ∧ ∀ p ∈ ks, SqT K H p.1 (p.2.map V.int)
  | _, _, .nil => ⟨[], rfl, rfl, fun _ h => (by cases h)⟩
  | _, _, .cons (a := a) (r := r) h t => by
    obtain ⟨ks, e1, e2, h3⟩ := t.keys
    refine ⟨(a, r) :: ks, by rw [e1]; rfl, by rw [e2]; rfl, fun p hp => ?_⟩
    rcases List.mem_cons.mp hp with q | q
    · rw [q]; exact h
    · exact h3 p q
theorem rows_keys : ∀ {ks : List (Addr × List Int)}, (∀ p ∈ ks, SqT K H p.1 (p.2.map V.int)) → RowsT K H (ks.map fun p => V.ref p.1) (ks.map (·.2))
  | [], _ => .nil
  | p :: ks, h => .cons (h p List.mem_cons_self) (rows_keys fun q hq => h q (List.mem_cons_of_mem _ hq))
end
theorem dp_LU {K : PySem.W.Frag} {H : Hp} {z : Addr} {vs : List V} {rs : List (List Int)} (r : RowsT K (upd H z (.lst vs)) vs rs) : Dp K (upd H z (.lst vs)) (.ref z) (.list (rs.map dI)) := dp_L upd_same r
end Fo

set_option maxRecDepth 100000
set_option maxHeartbeats 1000000
/-! The least dealing; all dealings in order. -/
namespace Mt
open Classical
structure Least (rows : Rows) (E : List Int) : Prop where
  ds : Ds rows E
  le : ∀ (D : List Int), Ds rows D → ∀ q : Nat, (∀ j : Nat, j < q → D[j]? = E[j]?) → ∀ x y : Int, E[q]? = some x → D[q]? = some y → x ≤ y
theorem Least.one {rows : Rows} {A B : List Int} (a : Least rows A) (b : Least rows B) : A = B := by
  have h : ∀ q : Nat, ∀ j : Nat, j < q → A[j]? = B[j]? := by
    intro q
    induction q with
    | zero => exact fun j hj => absurd hj (Nat.not_lt_zero _)
    | succ q ih =>
      intro j hj
      by_cases e : j = q
      · subst e
        by_cases hn : j < rows.length
        · obtain ⟨x, hx, _⟩ := a.ds.get hn
          obtain ⟨y, hy, _⟩ := b.ds.get hn
          have h1 := a.le B b.ds j (fun i hi => (ih i hi).symm) x y hx hy
          have h2 := b.le A a.ds j ih y x hy hx
          rw [hx, hy]
          congr 1
          omega
        · rw [List.getElem?_eq_none (by rw [a.ds.len]; omega), List.getElem?_eq_none (by rw [b.ds.len]; omega)]
      · exact ih j (by omega)
  exact List.ext_getElem? fun j => h (j + 1) j (Nat.lt_succ_self j)
/-- behind the choices of the first i people -/
structure Gree (rows : Rows) (i : Nat) (L : Rows) : Prop where
  len : L.length = rows.length
  ex : ∃ D, Ds L D
  live : ∀ p, ∀ t ∈ row L p, Live L p t
  sub : ∀ D, Ds L D → Ds rows D
  asc : ∀ p, (row L p).Pairwise (· < ·)
  one : ∀ q, q < i → q < rows.length → ∃ e, row L q = [e]
  cmp : ∀ D, Ds rows D → (∀ q, q < i → ∀ e, row L q = [e] → D[q]? = some e) → Ds L D
  min : ∀ q, q < i → ∀ e, row L q = [e] → ∀ D, Ds rows D → (∀ j, j < q → ∀ f, row L j = [f] → D[j]? = some f) → ∀ y, D[q]? = some y → e ≤ y
theorem pair_filter {r : List Int} {f : Int → Bool} (h : r.Pairwise (· < ·)) : (r.filter f).Pairwise (· < ·) := List.Pairwise.filter _ h
theorem Gree.init {rows : Rows} (asc : ∀ p, (row rows p).Pairwise (· < ·)) (ex : ∃ D, Ds rows D) : Gree rows 0 (liveR rows) where
  len := liveR_len
  ex := by obtain ⟨D, d⟩ := ex; exact ⟨D, ds_liveR.mpr d⟩
  live := fun p t h => by
    obtain ⟨D, d, e⟩ := mem_liveR.mp h
    exact ⟨D, ds_liveR.mpr d, e⟩
  sub := fun D d => ds_liveR.mp d
  asc := fun p => by rw [row_liveR]; exact pair_filter (asc p)
  one := fun q h => absurd h (Nat.not_lt_zero _)
  cmp := fun D d _ => ds_liveR.mpr d
  min := fun q h => absurd h (Nat.not_lt_zero _)
theorem single_live {L : Rows} {q : Nat} {e : Int} {D : List Int} (h : row L q = [e]) (d : Ds L D) (hq : q < L.length) : D[q]? = some e := by
  obtain ⟨t, ht, hm⟩ := d.get hq
  rw [h] at hm
  rw [ht, List.mem_singleton.mp hm]
theorem first_le {r : List Int} {t y : Int} {l : List Int} (h : r.Pairwise (· < ·)) (e : r = t :: l) (hy : y ∈ r) : t ≤ y := by
  rw [e] at h hy
  rcases List.mem_cons.mp hy with z | z
  · omega
  · have := (List.pairwise_cons.mp h).1 y z
    omega
/-- the person has one thing alone: nothing to choose -/
theorem Gree.stay {rows L : Rows} {i : Nat} {t : Int} (g : Gree rows i L) (hi : i < rows.length) (h : row L i = [t]) : Gree rows (i + 1) L where
  len := g.len
  ex := g.ex
  live := g.live
  sub := g.sub
  asc := g.asc
  one := fun q hq hn => by
    by_cases e : q = i
    · rw [e]; exact ⟨t, h⟩
    · exact g.one q (by omega) hn
  cmp := fun D d hD => g.cmp D d fun q hq e he => hD q (by omega) e he
  min := fun q hq e he D d hD y hy => by
    by_cases z : q = i
    · subst z
      have dl := g.cmp D d fun j hj f hf => hD j hj f hf
      have := single_live he dl (by rw [g.len]; exact hi)
      rw [this] at hy
      cases hy
      exact Int.le_refl _
    · exact g.min q (by omega) e he D d hD y hy
/-- the person takes the first thing -/
theorem Gree.take {rows L : Rows} {i : Nat} {t : Int} {l : List Int} (g : Gree rows i L) (hi : i < rows.length) (h : row L i = t :: l) : Gree rows (i + 1) (liveR (narrow L i t)) := by
  have hiL : i < L.length := by rw [g.len]; exact hi
  have ht : t ∈ row L i := by rw [h]; exact List.mem_cons_self
  have ex2 : ∃ D, Ds (narrow L i t) D := by
    obtain ⟨D, d, e⟩ := g.live i t ht
    exact ⟨D, (ds_narrow hiL ht).mpr ⟨d, e⟩⟩
  have len2 : (liveR (narrow L i t)).length = rows.length := by rw [liveR_len, narrow_len, g.len]
  have dsn : ∀ D, Ds (liveR (narrow L i t)) D ↔ Ds L D ∧ D[i]? = some t := fun D => ds_liveR.trans (ds_narrow hiL ht)
  have rown : ∀ p, p < rows.length → ∀ s, s ∈ row (liveR (narrow L i t)) p ↔ ∃ D, Ds L D ∧ D[i]? = some t ∧ D[p]? = some s := fun p hp s => by
    rw [mem_liveR]
    constructor
    · rintro ⟨D, d, e⟩
      obtain ⟨a, b⟩ := (ds_narrow hiL ht).mp d
      exact ⟨D, a, b, e⟩
    · rintro ⟨D, a, b, e⟩
      exact ⟨D, (ds_narrow hiL ht).mpr ⟨a, b⟩, e⟩
  have asc2 : ∀ p, (row (liveR (narrow L i t)) p).Pairwise (· < ·) := fun p => by
    rw [row_liveR]
    refine pair_filter ?_
    by_cases hp : p < L.length
    · rw [row_narrow hp]
      by_cases e : p = i
      · rw [if_pos e]; exact List.pairwise_singleton _ _
      · rw [if_neg e]; exact pair_filter (g.asc p)
    · have : row (narrow L i t) p = [] := by
        unfold row
        rw [narrow_get, List.getElem?_eq_none (by omega)]
        rfl
      rw [this]
      exact .nil
  have one_of : ∀ p, p < rows.length → ∀ e, (∀ D, Ds L D → D[i]? = some t → D[p]? = some e) → row (liveR (narrow L i t)) p = [e] := fun p hp e he => by
    have all : ∀ s ∈ row (liveR (narrow L i t)) p, s = e := fun s hs => by
      obtain ⟨D, a, b, c⟩ := (rown p hp s).mp hs
      have := he D a b
      rw [c] at this
      exact Option.some.inj this
    have mem : e ∈ row (liveR (narrow L i t)) p := by
      obtain ⟨D, d, b⟩ := g.live i t ht
      exact (rown p hp e).mpr ⟨D, d, b, he D d b⟩
    have as := asc2 p
    cases hr : row (liveR (narrow L i t)) p with
    | nil => rw [hr] at mem; cases mem
    | cons a r =>
      rw [hr] at all as
      have ea := all a List.mem_cons_self
      cases r with
      | nil => rw [ea]
      | cons b r =>
        have eb := all b (List.mem_cons_of_mem _ List.mem_cons_self)
        have := (List.pairwise_cons.mp as).1 b List.mem_cons_self
        omega
  have old : ∀ q, q < i → q < rows.length → ∀ e, row L q = [e] → row (liveR (narrow L i t)) q = [e] := fun q hq hn e he =>
    one_of q hn e fun D d _ => single_live he d (by rw [g.len]; exact hn)
  have new : row (liveR (narrow L i t)) i = [t] := one_of i hi t fun D _ b => b
  refine ⟨len2, ?_, fun p s hs => ?_, fun D d => g.sub D ((dsn D).mp d).1, asc2, fun q hq hn => ?_, fun D d hD => ?_, fun q hq e he D d hD y hy => ?_⟩
  · obtain ⟨D, d⟩ := ex2
    exact ⟨D, ds_liveR.mpr d⟩
  · obtain ⟨D, d, e⟩ := mem_liveR.mp hs
    exact ⟨D, ds_liveR.mpr d, e⟩
  · by_cases z : q = i
    · rw [z]; exact ⟨t, new⟩
    · obtain ⟨e, he⟩ := g.one q (by omega) hn
      exact ⟨e, old q (by omega) hn e he⟩
  · refine (dsn D).mpr ⟨g.cmp D d fun q hq e he => hD q (by omega) e ?_, hD i (Nat.lt_succ_self i) t new⟩
    have hn : q < rows.length := by omega
    exact old q hq hn e he
  · have hn : q < rows.length := by omega
    have back : ∀ j, j < i → j < rows.length → ∀ f, row L j = [f] → row (liveR (narrow L i t)) j = [f] := old
    by_cases z : q = i
    · subst z
      rw [new] at he
      cases he
      have dl := g.cmp D d fun j hj f hf => hD j hj f (old j hj (by omega) f hf)
      obtain ⟨y', e1, m1⟩ := dl.get hiL
      rw [hy] at e1
      cases e1
      exact first_le (g.asc q) h m1
    · have hq2 : q < i := by omega
      obtain ⟨f, hf⟩ := g.one q hq2 hn
      have := old q hq2 hn f hf
      rw [this] at he
      cases he
      exact g.min q hq2 e hf D d (fun j hj f hf => hD j hj f (old j (by omega) (by omega) f hf)) y hy
theorem Gree.done {rows L : Rows} (g : Gree rows rows.length L) : Least rows (L.map fun r => r.headD 0) := by
  obtain ⟨D, d⟩ := g.ex
  have get : ∀ q, q < rows.length → ∃ e, row L q = [e] ∧ D[q]? = some e ∧ (L.map fun r => r.headD 0)[q]? = some e := fun q hq => by
    obtain ⟨e, he⟩ := g.one q hq hq
    refine ⟨e, he, single_live he d (by rw [g.len]; exact hq), ?_⟩
    have hqL : q < L.length := by rw [g.len]; exact hq
    rw [List.getElem?_map, List.getElem?_eq_getElem hqL]
    have : row L q = L[q] := row_get (List.getElem?_eq_getElem hqL)
    rw [this] at he
    show some (L[q].headD 0) = some e
    rw [he]
    rfl
  have e : (L.map fun r => r.headD 0) = D := by
    refine List.ext_getElem? fun q => ?_
    by_cases hq : q < rows.length
    · obtain ⟨e, _, h1, h2⟩ := get q hq
      rw [h1, h2]
    · rw [List.getElem?_eq_none (by rw [List.length_map, g.len]; omega), List.getElem?_eq_none (by rw [d.len, g.len]; omega)]
  rw [e]
  refine ⟨g.sub D d, fun D2 d2 q hj x y hx hy => ?_⟩
  have hq : q < rows.length := by
    have := (List.getElem?_eq_some_iff.mp hx).1
    rw [d.len, g.len] at this
    exact this
  obtain ⟨e, he, h1, _⟩ := get q hq
  rw [hx] at h1
  cases h1
  refine g.min q hq x he D2 d2 (fun j hjq f hf => ?_) y hy
  rw [hj j hjq]
  obtain ⟨f', hf', h3, _⟩ := get j (by omega)
  rw [hf] at hf'
  cases hf'
  exact h3
/-! all dealings, row by row -/
def ext (found : List (List Int)) (r : List Int) : List (List Int) := found.flatMap fun d => (r.filter fun t => decide (t ∉ d)).map fun t => d ++ [t]
def deals (rows : Rows) : List (List Int) := rows.foldl ext [[]]
theorem mem_ext {found : List (List Int)} {r : List Int} {x : List Int} : x ∈ ext found r ↔ ∃ d ∈ found, ∃ t ∈ r, t ∉ d ∧ x = d ++ [t] := by
  unfold ext
  rw [List.mem_flatMap]
  constructor
  · rintro ⟨d, hd, hx⟩
    obtain ⟨t, ht, e⟩ := List.mem_map.mp hx
    have := List.mem_filter.mp ht
    exact ⟨d, hd, t, this.1, of_decide_eq_true this.2, e.symm⟩
  · rintro ⟨d, hd, t, ht, hn, e⟩
    exact ⟨d, hd, List.mem_map.mpr ⟨t, List.mem_filter.mpr ⟨ht, decide_eq_true hn⟩, e.symm⟩⟩
theorem deals_snoc {rows : Rows} {r : List Int} : deals (rows ++ [r]) = ext (deals rows) r := by
  unfold deals
  rw [List.foldl_append]
  rfl
theorem row_app {rows : Rows} {r : List Int} {p : Nat} (h : p < rows.length) : row (rows ++ [r]) p = row rows p := by
  unfold row
  rw [List.getElem?_append_left h]
theorem row_last {rows : Rows} {r : List Int} : row (rows ++ [r]) rows.length = r := by
  unfold row
  rw [List.getElem?_append_right (Nat.le_refl _), Nat.sub_self]
  rfl
theorem ds_snoc {rows : Rows} {r : List Int} {x : List Int} : Ds (rows ++ [r]) x ↔ ∃ d t, Ds rows d ∧ t ∈ r ∧ t ∉ d ∧ x = d ++ [t] := by
  constructor
  · intro h
    have hl : x.length = rows.length + 1 := by rw [h.len, List.length_append]; rfl
    rcases List.eq_nil_or_concat x with e | ⟨d, t, e⟩
    · rw [e] at hl; cases hl
    · rw [List.concat_eq_append] at e
      subst e
      have dl : d.length = rows.length := by
        rw [List.length_append, List.length_singleton] at hl
        omega
      have nd := List.nodup_append.mp h.nd
      refine ⟨d, t, ⟨dl, fun p s hs => ?_, nd.1⟩, ?_, fun hm => nd.2.2 t hm t List.mem_cons_self rfl, rfl⟩
      · have hp : p < d.length := (List.getElem?_eq_some_iff.mp hs).1
        have := h.tie p s (by rw [List.getElem?_append_left hp]; exact hs)
        rw [row_app (by omega)] at this
        exact this
      · have := h.tie d.length t (by rw [List.getElem?_append_right (Nat.le_refl _), Nat.sub_self]; rfl)
        rw [dl, row_last] at this
        exact this
  · rintro ⟨d, t, h, ht, hn, rfl⟩
    refine ⟨by rw [List.length_append, List.length_append, h.len]; rfl, fun p s hs => ?_, ?_⟩
    · by_cases hp : p < d.length
      · rw [List.getElem?_append_left hp] at hs
        rw [row_app (by rw [← h.len]; exact hp)]
        exact h.tie p s hs
      · rw [List.getElem?_append_right (by omega)] at hs
        have hp2 : p - d.length = 0 := by
          have := (List.getElem?_eq_some_iff.mp hs).1
          rw [List.length_singleton] at this
          omega
        rw [hp2] at hs
        have hs' : some t = some s := hs
        cases hs'
        have : p = rows.length := by rw [← h.len]; omega
        rw [this, row_last]
        exact ht
    · exact List.nodup_append.mpr ⟨h.nd, List.nodup_cons.mpr ⟨fun z => (by cases z), List.nodup_nil⟩, fun x hx y hy => by rw [List.mem_singleton.mp hy]; exact fun e => hn (e ▸ hx)⟩
theorem rev_ind {α : Type} {P : List α → Prop} (h0 : P []) (h1 : ∀ l x, P l → P (l ++ [x])) : ∀ l, P l := by
  intro l
  have : ∀ n, ∀ l : List α, l.length = n → P l := by
    intro n
    induction n with
    | zero => intro l hl; rw [List.length_eq_zero_iff.mp hl]; exact h0
    | succ n ih =>
      intro l hl
      rcases List.eq_nil_or_concat l with e | ⟨d, t, e⟩
      · rw [e] at hl; cases hl
      · rw [List.concat_eq_append] at e
        rw [e] at hl ⊢
        rw [List.length_append, List.length_singleton] at hl
        exact h1 d t (ih d (by omega))
  exact this _ l rfl
theorem mem_deals {rows : Rows} : ∀ x, x ∈ deals rows ↔ Ds rows x := by
  refine rev_ind (P := fun rows => ∀ x, x ∈ deals rows ↔ Ds rows x) ?_ ?_ rows
  · intro x
    show x ∈ [[]] ↔ _
    rw [List.mem_singleton]
    constructor
    · rintro rfl
      exact ⟨rfl, fun p t h => by simp at h, List.nodup_nil⟩
    · intro h
      exact List.length_eq_zero_iff.mp h.len
  · intro rows r ih x
    rw [deals_snoc, mem_ext, ds_snoc]
    constructor
    · rintro ⟨d, hd, t, ht, hn, e⟩
      exact ⟨d, t, (ih d).mp hd, ht, hn, e⟩
    · rintro ⟨d, t, hd, ht, hn, e⟩
      exact ⟨d, (ih d).mpr hd, t, ht, hn, e⟩
/-- smaller at the first place where they differ -/
def Lx (a b : List Int) : Prop := ∃ (q : Nat) (x y : Int), (∀ j : Nat, j < q → a[j]? = b[j]?) ∧ a[q]? = some x ∧ b[q]? = some y ∧ x < y
theorem lx_app {a b u v : List Int} (h : Lx a b) : Lx (a ++ u) (b ++ v) := by
  obtain ⟨q, x, y, h1, h2, h3, h4⟩ := h
  have ha := (List.getElem?_eq_some_iff.mp h2).1
  have hb := (List.getElem?_eq_some_iff.mp h3).1
  refine ⟨q, x, y, fun j hj => ?_, ?_, ?_, h4⟩
  · rw [List.getElem?_append_left (by omega), List.getElem?_append_left (by omega)]
    exact h1 j hj
  · rw [List.getElem?_append_left ha]; exact h2
  · rw [List.getElem?_append_left hb]; exact h3
theorem lx_last {d : List Int} {s t : Int} (h : s < t) : Lx (d ++ [s]) (d ++ [t]) := by
  refine ⟨d.length, s, t, fun j hj => ?_, ?_, ?_, h⟩
  · rw [List.getElem?_append_left hj, List.getElem?_append_left hj]
  · rw [List.getElem?_append_right (Nat.le_refl _), Nat.sub_self]; rfl
  · rw [List.getElem?_append_right (Nat.le_refl _), Nat.sub_self]; rfl
theorem pair_flat {f : List Int → List (List Int)} : ∀ {l : List (List Int)}, l.Pairwise Lx → (∀ d ∈ l, (f d).Pairwise Lx) → (∀ a ∈ l, ∀ b ∈ l, Lx a b → ∀ x ∈ f a, ∀ y ∈ f b, Lx x y) → (l.flatMap f).Pairwise Lx
  | [], _, _, _ => .nil
  | d :: l, hp, h1, h2 => by
    rw [List.flatMap_cons, List.pairwise_append]
    have hc := List.pairwise_cons.mp hp
    refine ⟨h1 d List.mem_cons_self, pair_flat hc.2 (fun e he => h1 e (List.mem_cons_of_mem _ he)) (fun a ha b hb => h2 a (List.mem_cons_of_mem _ ha) b (List.mem_cons_of_mem _ hb)), fun x hx y hy => ?_⟩
    obtain ⟨e, he, hy⟩ := List.mem_flatMap.mp hy
    exact h2 d List.mem_cons_self e (List.mem_cons_of_mem _ he) (hc.1 e he) x hx y hy
theorem ext_lx {found : List (List Int)} {r : List Int} (hf : found.Pairwise Lx) (hr : r.Pairwise (· < ·)) : (ext found r).Pairwise Lx := by
  unfold ext
  refine pair_flat hf (fun d _ => ?_) (fun a _ b _ hab x hx y hy => ?_)
  · rw [List.pairwise_map]
    exact (pair_filter hr).imp fun {s t} h => lx_last h
  · obtain ⟨s, _, rfl⟩ := List.mem_map.mp hx
    obtain ⟨t, _, rfl⟩ := List.mem_map.mp hy
    exact lx_app hab
theorem deals_lx {rows : Rows} (asc : ∀ r ∈ rows, r.Pairwise (· < ·)) : (deals rows).Pairwise Lx := by
  revert asc
  refine rev_ind (P := fun rows => (∀ r ∈ rows, r.Pairwise (· < ·)) → (deals rows).Pairwise Lx) ?_ ?_ rows
  · intro _
    exact List.pairwise_singleton _ _
  · intro rows r ih asc
    rw [deals_snoc]
    exact ext_lx (ih fun x hx => asc x (List.mem_append_left _ hx)) (asc r (List.mem_append_right _ List.mem_cons_self))
/-- the least dealing comes first -/
theorem deals_head {rows : Rows} (asc : ∀ r ∈ rows, r.Pairwise (· < ·)) {E : List Int} (h : Least rows E) : ∃ l, deals rows = E :: l := by
  have hm := (mem_deals E).mpr h.ds
  have pw := deals_lx asc
  cases hd : deals rows with
  | nil => rw [hd] at hm; cases hm
  | cons D l =>
    rw [hd] at hm pw
    rcases List.mem_cons.mp hm with e | e
    · rw [e]; exact ⟨l, rfl⟩
    · exfalso
      obtain ⟨q, x, y, h1, h2, h3, h4⟩ := (List.pairwise_cons.mp pw).1 E e
      have dD : Ds rows D := (mem_deals D).mp (by rw [hd]; exact List.mem_cons_self)
      have := h.le D dD q h1 y x h3 h2
      omega
end Mt

namespace Mt
/-! sums -/
theorem sum_append (a b : List Nat) : (a ++ b).sum = a.sum + b.sum := by
  induction a with
  | nil => simp
  | cons x a ih => rw [List.cons_append, List.sum_cons, List.sum_cons, ih]; omega
theorem sum_flat {α : Type} (f : α → List Nat) : ∀ l : List α, (l.flatMap f).sum = (l.map fun x => (f x).sum).sum
  | [] => rfl
  | x :: l => by rw [List.flatMap_cons, sum_append, List.map_cons, List.sum_cons, sum_flat f l]
theorem sum_zero {α : Type} {f : α → Nat} : ∀ {l : List α}, (∀ x ∈ l, f x = 0) → (l.map f).sum = 0
  | [], _ => rfl
  | x :: l, h => by rw [List.map_cons, List.sum_cons, h x List.mem_cons_self, sum_zero fun y hy => h y (List.mem_cons_of_mem _ hy)]
theorem sum_congr {α : Type} {f g : α → Nat} : ∀ {l : List α}, (∀ x ∈ l, f x = g x) → (l.map f).sum = (l.map g).sum
  | [], _ => rfl
  | x :: l, h => by rw [List.map_cons, List.map_cons, List.sum_cons, List.sum_cons, h x List.mem_cons_self, sum_congr fun y hy => h y (List.mem_cons_of_mem _ hy)]
theorem sum_if {α : Type} {p : α → Bool} {f : α → Nat} : ∀ l : List α, ((l.filter p).map f).sum = (l.map fun x => if p x = true then f x else 0).sum
  | [] => rfl
  | x :: l => by
    rw [List.map_cons, List.sum_cons, ← sum_if l]
    by_cases h : p x = true
    · rw [List.filter_cons_of_pos h, List.map_cons, List.sum_cons, if_pos h]
    · rw [List.filter_cons_of_neg h, if_neg h, Nat.zero_add]
theorem sum_add {α : Type} {f g : α → Nat} : ∀ l : List α, (l.map fun x => f x + g x).sum = (l.map f).sum + (l.map g).sum
  | [] => rfl
  | x :: l => by rw [List.map_cons, List.map_cons, List.map_cons, List.sum_cons, List.sum_cons, List.sum_cons, sum_add l]; omega
theorem sum_swap {α β : Type} {f : α → β → Nat} : ∀ (a : List α) (b : List β), (a.map fun x => (b.map fun y => f x y).sum).sum = (b.map fun y => (a.map fun x => f x y).sum).sum
  | [], b => (sum_zero fun y _ => rfl).symm
  | x :: a, b => by
    rw [List.map_cons, List.sum_cons, sum_swap a b, ← sum_add]
    rfl
theorem sum_mul {α : Type} {f : α → Nat} (c : Nat) : ∀ l : List α, (l.map fun x => f x * c).sum = (l.map f).sum * c
  | [] => (Nat.zero_mul c).symm
  | x :: l => by rw [List.map_cons, List.map_cons, List.sum_cons, List.sum_cons, sum_mul c l, Nat.add_mul]
theorem sum_const {α : Type} {f : α → Nat} {c : Nat} : ∀ {l : List α}, (∀ x ∈ l, f x = c) → (l.map f).sum = l.length * c
  | [], _ => (Nat.zero_mul c).symm
  | x :: l, h => by rw [List.map_cons, List.sum_cons, h x List.mem_cons_self, sum_const fun y hy => h y (List.mem_cons_of_mem _ hy), List.length_cons, Nat.add_mul, Nat.one_mul]; omega
theorem sum_perm {α : Type} {f : α → Nat} {a b : List α} (h : a.Perm b) : (a.map f).sum = (b.map f).sum := by
  induction h with
  | nil => rfl
  | cons x _ ih => rw [List.map_cons, List.map_cons, List.sum_cons, List.sum_cons, ih]
  | swap x y l => rw [List.map_cons, List.map_cons, List.map_cons, List.map_cons, List.sum_cons, List.sum_cons, List.sum_cons, List.sum_cons]; omega
  | trans _ _ a b => exact a.trans b
/-! the number of dealings, thing by thing -/
/-- in how many ways each row takes a thing, none twice, none of S -/
def cnt : List Int → Rows → Nat
  | _, [] => 1
  | S, r :: rs => ((r.filter fun t => decide (t ∉ S)).map fun t => cnt (t :: S) rs).sum
theorem cnt_congr : ∀ {rows : Rows} {S S' : List Int}, (∀ r ∈ rows, ∀ t ∈ r, t ∈ S ↔ t ∈ S') → cnt S rows = cnt S' rows
  | [], _, _, _ => rfl
  | r :: rs, S, S', h => by
    unfold cnt
    have e : (r.filter fun t => decide (t ∉ S)) = r.filter fun t => decide (t ∉ S') := List.filter_congr fun t ht => decide_eq_decide.mpr (not_congr (h r List.mem_cons_self t ht))
    rw [e]
    refine sum_congr fun t _ => cnt_congr fun q hq u hu => ?_
    rw [List.mem_cons, List.mem_cons, h q (List.mem_cons_of_mem _ hq) u hu]
theorem cnt_deals : ∀ (rows : Rows) (found : List (List Int)), (rows.foldl ext found).length = (found.map fun d => cnt d rows).sum
  | [], found => by
    show found.length = (found.map fun _ => 1).sum
    rw [sum_const (c := 1) fun _ _ => rfl, Nat.mul_one]
  | r :: rs, found => by
    show (rs.foldl ext (ext found r)).length = _
    rw [cnt_deals rs]
    unfold ext
    rw [List.map_flatMap, sum_flat]
    refine sum_congr fun d _ => ?_
    rw [List.map_map]
    show _ = ((r.filter fun t => decide (t ∉ d)).map fun t => cnt (t :: d) rs).sum
    exact sum_congr fun t _ => cnt_congr fun q _ u _ => by
      show u ∈ d ++ [t] ↔ _
      rw [List.mem_append, List.mem_singleton, List.mem_cons]
      exact Or.comm
theorem deals_cnt (rows : Rows) : (deals rows).length = cnt [] rows := by
  have := cnt_deals rows [[]]
  rwa [List.map_singleton, List.sum_singleton] at this
theorem cnt_swap {S : List Int} {a b : List Int} {rs : Rows} : cnt S (a :: b :: rs) = cnt S (b :: a :: rs) := by
  have e : ∀ a b : List Int, cnt S (a :: b :: rs) = (a.map fun t => (b.map fun u => if t ∉ S ∧ u ∉ S ∧ u ≠ t then cnt (u :: t :: S) rs else 0).sum).sum := fun a b => by
    show ((a.filter fun t => decide (t ∉ S)).map fun t => ((b.filter fun u => decide (u ∉ t :: S)).map fun u => cnt (u :: t :: S) rs).sum).sum = _
    rw [sum_if]
    refine sum_congr fun t _ => ?_
    by_cases h : t ∉ S
    · rw [if_pos (decide_eq_true h), sum_if]
      refine sum_congr fun u _ => ?_
      by_cases h2 : u ∉ t :: S
      · rw [if_pos (decide_eq_true h2), if_pos ⟨h, fun z => h2 (List.mem_cons_of_mem _ z), fun z => h2 (z ▸ List.mem_cons_self)⟩]
      · rw [if_neg (by simpa using h2), if_neg]
        rintro ⟨_, x, y⟩
        exact h2 fun z => (List.mem_cons.mp z).elim y x
    · rw [if_neg (by simpa using h)]
      exact (sum_zero fun u _ => if_neg fun z => h z.1).symm
  rw [e a b, e b a, sum_swap]
  refine sum_congr fun u _ => sum_congr fun t _ => ?_
  by_cases h : t ∉ S ∧ u ∉ S ∧ u ≠ t
  · rw [if_pos h, if_pos ⟨h.2.1, h.1, fun z => h.2.2 z.symm⟩]
    exact cnt_congr fun q _ x _ => by
      simp only [List.mem_cons]
      constructor <;> rintro (x | x | x) <;> simp [x]
  · rw [if_neg h, if_neg fun z => h ⟨z.2.1, z.1, fun y => z.2.2 y.symm⟩]
theorem cnt_perm {A B : Rows} (h : A.Perm B) : ∀ S, cnt S A = cnt S B := by
  induction h with
  | nil => exact fun _ => rfl
  | cons x _ ih => exact fun S => sum_congr fun t _ => ih _
  | swap x y l => exact fun S => cnt_swap
  | trans _ _ a b => exact fun S => (a S).trans (b S)
theorem cnt_app : ∀ {A B : Rows} {S : List Int}, (∀ a ∈ A, ∀ b ∈ B, ∀ t ∈ a, t ∉ b) → cnt S (A ++ B) = cnt S A * cnt S B
  | [], B, S, _ => (Nat.one_mul _).symm
  | r :: A, B, S, h => by
    show ((r.filter fun t => decide (t ∉ S)).map fun t => cnt (t :: S) (A ++ B)).sum = ((r.filter fun t => decide (t ∉ S)).map fun t => cnt (t :: S) A).sum * cnt S B
    rw [← sum_mul]
    refine sum_congr fun t ht => ?_
    rw [cnt_app fun a ha => h a (List.mem_cons_of_mem _ ha)]
    congr 1
    exact cnt_congr fun q hq u hu => by
      rw [List.mem_cons]
      exact ⟨fun z => z.elim (fun e => absurd hu (e ▸ h r List.mem_cons_self q hq t (List.mem_filter.mp ht).1)) id, .inr⟩
theorem cnt_none {rows : Rows} : ∀ {S U : List Int}, (∀ r ∈ rows, ∀ t ∈ r, t ∉ S → t ∈ U) → U.length < rows.length → cnt S rows = 0 := by
  induction rows with
  | nil => exact fun _ h => absurd h (Nat.not_lt_zero _)
  | cons r rs ih =>
    intro S U h hl
    refine sum_zero fun t ht => ?_
    have hm := List.mem_filter.mp ht
    have hS : t ∉ S := of_decide_eq_true hm.2
    have hU := h r List.mem_cons_self t hm.1 hS
    refine ih (U := U.erase t) (fun q hq u hu hn => ?_) ?_
    · have ne : u ≠ t := fun z => hn (z ▸ List.mem_cons_self)
      exact (List.mem_erase_of_ne ne).mpr (h q (List.mem_cons_of_mem _ hq) u hu fun z => hn (List.mem_cons_of_mem _ z))
    · rw [List.length_erase_of_mem hU]
      have : 0 < U.length := List.length_pos_of_mem hU
      rw [List.length_cons] at hl
      omega
end Mt

namespace Mt
/-! heaps of things: the people who may get them, their place in a state, how many they are -/
structure Hap where
  ppl : List Nat
  place : Nat
  most : Nat
deriving DecidableEq
/-- how many of a heap are used in a state -/
def dg (s : Nat) (h : Hap) : Nat := s / h.place % (h.most + 1)
def mkH : Nat → List (List Nat × Nat) → List Hap
  | _, [] => []
  | pl, (k, m) :: r => ⟨k, pl, m⟩ :: mkH (pl * (m + 1)) r
theorem mkH_dvd : ∀ (l : List (List Nat × Nat)) (pl : Nat), ∀ h ∈ mkH pl l, pl ∣ h.place
  | [], _, h, hh => by cases hh
  | (k, m) :: r, pl, h, hh => by
    rcases List.mem_cons.mp hh with rfl | hh
    · exact Nat.dvd_refl _
    · exact Nat.dvd_trans (Nat.dvd_mul_right _ _) (mkH_dvd r _ h hh)
theorem mkH_pos : ∀ (l : List (List Nat × Nat)) (pl : Nat), 0 < pl → ∀ h ∈ mkH pl l, 0 < h.place
  | [], _, _, h, hh => by cases hh
  | (k, m) :: r, pl, hp, h, hh => by
    rcases List.mem_cons.mp hh with rfl | hh
    · exact hp
    · exact mkH_pos r _ (Nat.mul_pos hp (Nat.succ_pos _)) h hh
theorem mkH_pair : ∀ (l : List (List Nat × Nat)) (pl : Nat), (mkH pl l).Pairwise fun a b => a.place * (a.most + 1) ∣ b.place
  | [], _ => .nil
  | (k, m) :: r, pl => List.pairwise_cons.mpr ⟨fun h hh => mkH_dvd r _ h hh, mkH_pair r _⟩
theorem mkH_keys : ∀ (l : List (List Nat × Nat)) (pl : Nat), (mkH pl l).map Hap.ppl = l.map fun q => q.1
  | [], _ => rfl
  | (k, m) :: r, pl => by
    show k :: (mkH (pl * (m + 1)) r).map Hap.ppl = k :: r.map fun q => q.1
    rw [mkH_keys r]
theorem mkH_most : ∀ (l : List (List Nat × Nat)) (pl : Nat), ∀ h ∈ mkH pl l, (h.ppl, h.most) ∈ l
  | [], _, h, hh => by cases hh
  | (k, m) :: r, pl, h, hh => by
    rcases List.mem_cons.mp hh with rfl | hh
    · exact List.mem_cons_self
    · exact List.mem_cons_of_mem _ (mkH_most r _ h hh)
theorem up_mod {q m : Nat} (h : q % (m + 1) < m) : (q + 1) % (m + 1) = q % (m + 1) + 1 ∧ (q + 1) / (m + 1) = q / (m + 1) := by
  have e := Nat.div_add_mod q (m + 1)
  have hl : q % (m + 1) + 1 < m + 1 := by omega
  have e2 : q + 1 = (m + 1) * (q / (m + 1)) + (q % (m + 1) + 1) := by omega
  constructor
  · rw [e2, Nat.mul_add_mod, Nat.mod_eq_of_lt hl]
  · rw [e2, Nat.mul_add_div (Nat.succ_pos _), Nat.div_eq_of_lt hl, Nat.add_zero]
theorem dg_up {s : Nat} {a : Hap} (hp : 0 < a.place) (h : dg s a < a.most) : dg (s + a.place) a = dg s a + 1 := by
  unfold dg at h ⊢
  rw [Nat.add_div_right _ hp]
  exact (up_mod h).1
theorem dg_low {s : Nat} {a b : Hap} (hp : 0 < a.place) (h : a.place * (a.most + 1) ∣ b.place) : dg (s + b.place) a = dg s a := by
  obtain ⟨c, e⟩ := h
  unfold dg
  rw [e, Nat.mul_assoc, Nat.add_mul_div_left _ _ hp, Nat.add_mul_mod_self_left]
theorem dg_high {s : Nat} {a b : Hap} (hp : 0 < a.place) (h : a.place * (a.most + 1) ∣ b.place) (hl : dg s a < a.most) : dg (s + a.place) b = dg s b := by
  obtain ⟨c, e⟩ := h
  unfold dg at hl ⊢
  rw [e, ← Nat.div_div_eq_div_mul, ← Nat.div_div_eq_div_mul, ← Nat.div_div_eq_div_mul, ← Nat.div_div_eq_div_mul, Nat.add_div_right _ hp, (up_mod hl).2]
/-- all heaps that end with a person are used up -/
def endsOk (hs : List Hap) (p : Nat) (s : Nat) : Bool := (hs.filter fun h => decide (h.ppl.getLast? = some p)).all fun h => decide (dg s h = h.most)
/-- in how many ways the people behind may go on from a state -/
def waysD (hs : List Hap) : List Nat → Nat → Nat
  | [], _ => 1
  | p :: ps, s => ((hs.filter fun h => decide (p ∈ h.ppl)).map fun h => (h.most - dg s h) * (if endsOk hs p (s + h.place) = true then waysD hs ps (s + h.place) else 0)).sum
def pplOf (R : Rows) (t : Int) : List Nat := (List.range R.length).filter fun p => decide (t ∈ row R p)
/-- things in heaps -/
structure Heaped (R : Rows) (T : List Int) (hs : List Hap) : Prop where
  rnd : ∀ p, (row R p).Nodup
  nd : T.Nodup
  sub : ∀ p, ∀ t ∈ row R p, t ∈ T
  len : T.length = R.length
  knd : (hs.map Hap.ppl).Nodup
  key : ∀ t ∈ T, ∃ h ∈ hs, h.ppl = pplOf R t
  most : ∀ h ∈ hs, h.most = (T.filter fun t => decide (pplOf R t = h.ppl)).length
  pos : ∀ h ∈ hs, 0 < h.place
  pair : hs.Pairwise fun a b => a.place * (a.most + 1) ∣ b.place
def usedN (R : Rows) (T : List Int) (k : List Nat) (S : List Int) : Nat := (T.filter fun t => decide (pplOf R t = k ∧ t ∈ S)).length
def Enc (R : Rows) (T : List Int) (hs : List Hap) (s : Nat) (S : List Int) : Prop := ∀ h ∈ hs, dg s h = usedN R T h.ppl S
theorem filt_split {α : Type} (p q : α → Bool) : ∀ l : List α, (l.filter p).length = (l.filter fun x => p x && q x).length + (l.filter fun x => p x && !q x).length
  | [] => rfl
  | x :: l => by
    have ih := filt_split p q l
    cases hp : p x <;> cases hq : q x <;> simp [List.filter_cons, hp, hq] <;> omega
theorem used_left {R : Rows} {T : List Int} {k : List Nat} {S : List Int} : (T.filter fun t => decide (pplOf R t = k)).length = usedN R T k S + (T.filter fun t => decide (pplOf R t = k ∧ t ∉ S)).length := by
  rw [filt_split _ (fun t => decide (t ∈ S))]
  unfold usedN
  congr 1
  · congr 1
    refine List.filter_congr fun t _ => ?_
    rw [Bool.eq_iff_iff]
    simp
  · congr 1
    refine List.filter_congr fun t _ => ?_
    rw [Bool.eq_iff_iff]
    simp
theorem used_same {R : Rows} {T : List Int} {k : List Nat} {S : List Int} {t : Int} (h : pplOf R t ≠ k) : usedN R T k (t :: S) = usedN R T k S := by
  unfold usedN
  congr 1
  refine List.filter_congr fun u _ => decide_eq_decide.mpr ⟨fun ⟨a, b⟩ => ⟨a, (List.mem_cons.mp b).elim (fun e => absurd (e ▸ a) h) id⟩, fun ⟨a, b⟩ => ⟨a, List.mem_cons_of_mem _ b⟩⟩
theorem left_one {R : Rows} {S : List Int} {t : Int} (hS : t ∉ S) : ∀ {T : List Int}, T.Nodup → t ∈ T → (T.filter fun u => decide (pplOf R u = pplOf R t ∧ u ∈ t :: S)).length = (T.filter fun u => decide (pplOf R u = pplOf R t ∧ u ∈ S)).length + 1
  | [], _, h => by cases h
  | x :: T, nd, h => by
    have hx := List.nodup_cons.mp nd
    by_cases e : x = t
    · subst e
      have same : (T.filter fun u => decide (pplOf R u = pplOf R x ∧ u ∈ x :: S)) = T.filter fun u => decide (pplOf R u = pplOf R x ∧ u ∈ S) := List.filter_congr fun u hu => decide_eq_decide.mpr ⟨fun ⟨a, b⟩ => ⟨a, (List.mem_cons.mp b).elim (fun e => absurd (e ▸ hu) hx.1) id⟩, fun ⟨a, b⟩ => ⟨a, List.mem_cons_of_mem _ b⟩⟩
      rw [List.filter_cons_of_pos (by simp), List.filter_cons_of_neg (by simp [hS]), same, List.length_cons]
    · have ht : t ∈ T := (List.mem_cons.mp h).elim (fun y => absurd y.symm e) id
      have ih := left_one (R := R) hS hx.2 ht
      by_cases c : pplOf R x = pplOf R t ∧ x ∈ S
      · rw [List.filter_cons_of_pos (by simp [c.1, c.2]), List.filter_cons_of_pos (by simp [c.1, c.2]), List.length_cons, List.length_cons, ih]
      · rw [List.filter_cons_of_neg (by simpa [e] using c), List.filter_cons_of_neg (by simpa using c), ih]
theorem Enc.step {R : Rows} {T : List Int} {hs : List Hap} (W : Heaped R T hs) {s : Nat} {S : List Int} (e : Enc R T hs s S) {t : Int} (ht : t ∈ T) (hS : t ∉ S) {h : Hap} (hh : h ∈ hs) (hk : h.ppl = pplOf R t) : dg s h < h.most ∧ Enc R T hs (s + h.place) (t :: S) := by
  have lt : dg s h < h.most := by
    rw [e h hh, W.most h hh, used_left (S := S)]
    have : 0 < (T.filter fun u => decide (pplOf R u = h.ppl ∧ u ∉ S)).length := List.length_pos_of_mem (List.mem_filter.mpr ⟨ht, decide_eq_true ⟨hk.symm, hS⟩⟩)
    omega
  refine ⟨lt, fun b hb => ?_⟩
  by_cases eb : b = h
  · subst eb
    rw [dg_up (W.pos b hb) lt, e b hb]
    unfold usedN
    rw [hk, left_one hS W.nd ht]
  · have nk : pplOf R t ≠ b.ppl := fun z => eb (by
      have hn := W.knd
      obtain ⟨i, hi⟩ := List.getElem?_of_mem hb
      obtain ⟨j, hj⟩ := List.getElem?_of_mem hh
      have := nodup_get hn (i := i) (j := j) (x := b.ppl) (by rw [List.getElem?_map, hi]; rfl) (by rw [List.getElem?_map, hj]; show some h.ppl = _; rw [hk, z])
      subst this
      rw [hi] at hj
      exact Option.some.inj hj)
    rw [used_same nk, ← e b hb]
    obtain ⟨i, hi⟩ := List.getElem?_of_mem hb
    obtain ⟨j, hj⟩ := List.getElem?_of_mem hh
    obtain ⟨li, ei⟩ := List.getElem?_eq_some_iff.mp hi
    obtain ⟨lj, ej⟩ := List.getElem?_eq_some_iff.mp hj
    have pw := List.pairwise_iff_getElem.mp W.pair
    rcases Nat.lt_trichotomy i j with z | z | z
    · have := pw i j li lj z
      rw [ei, ej] at this
      exact dg_low (W.pos b hb) this
    · subst z
      exact absurd (ei.symm.trans ej) eb
    · have := pw j i lj li z
      rw [ei, ej] at this
      exact dg_high (W.pos h hh) this lt
theorem sum_one {α β : Type} [DecidableEq β] {f : α → β} {k : β} {X : Nat} : ∀ {l : List α}, (l.map f).Nodup → (∃ a ∈ l, f a = k) → (l.map fun a => if f a = k then X else 0).sum = X
  | [], _, ⟨_, h, _⟩ => by cases h
  | a :: l, nd, h => by
    have hn := List.nodup_cons.mp nd
    rw [List.map_cons, List.sum_cons]
    by_cases e : f a = k
    · rw [if_pos e, sum_zero fun b hb => if_neg fun z => hn.1 (List.mem_map.mpr ⟨b, hb, z.trans e.symm⟩)]
      rfl
    · rw [if_neg e, Nat.zero_add]
      refine sum_one hn.2 ?_
      obtain ⟨b, hb, z⟩ := h
      exact ⟨b, (List.mem_cons.mp hb).elim (fun y => absurd (y ▸ z) e) id, z⟩
theorem asc_last {n : Nat} {p : Nat → Bool} {q : Nat} (h : ((List.range n).filter p).getLast? = some q) : ∀ x, q < x → x < n → p x = false := by
  intro x hq hx
  cases e : p x with
  | false => rfl
  | true =>
    have hm : x ∈ (List.range n).filter p := List.mem_filter.mpr ⟨List.mem_range.mpr hx, e⟩
    have asc : ((List.range n).filter p).Pairwise (· < ·) := List.Pairwise.filter _ List.pairwise_lt_range
    obtain ⟨l, el⟩ := List.getLast?_eq_some_iff.mp h
    rw [el] at hm asc
    rcases List.mem_append.mp hm with z | z
    · have := (List.pairwise_append.mp asc).2.2 x z q List.mem_cons_self
      omega
    · have := List.mem_singleton.mp z
      omega
theorem ways_cnt {R : Rows} {T : List Int} {hs : List Hap} (W : Heaped R T hs) : ∀ (d i : Nat) (S : List Int) (s : Nat), i + d = R.length → S.Nodup → S.length = i → (∀ t ∈ S, t ∈ T) → Enc R T hs s S → waysD hs (List.range' i d) s = cnt S (R.drop i)
  | 0, i, S, s, hi, _, _, _, _ => by
    rw [show i = R.length by omega, List.drop_length]
    rfl
  | d + 1, i, S, s, hi, nd, hl, hT, he => by
    have il : i < R.length := by omega
    have er : row R i = R[i] := row_get (List.getElem?_eq_getElem il)
    rw [List.drop_eq_getElem_cons il, ← er]
    show ((hs.filter fun h => decide (i ∈ h.ppl)).map fun h => (h.most - dg s h) * (if endsOk hs i (s + h.place) = true then waysD hs (List.range' (i + 1) d) (s + h.place) else 0)).sum = (((row R i).filter fun t => decide (t ∉ S)).map fun t => cnt (t :: S) (R.drop (i + 1))).sum
    have mp : ∀ t p, p ∈ pplOf R t ↔ t ∈ row R p := fun t p => by
      unfold pplOf
      rw [List.mem_filter, List.mem_range, decide_eq_true_iff]
      exact ⟨fun h => h.2, fun h => ⟨row_lt h, h⟩⟩
    -- the ways on are the same for all things of a heap
    have same : ∀ h ∈ hs, ∀ t ∈ T, h.ppl = pplOf R t → t ∉ S → cnt (t :: S) (R.drop (i + 1)) = (if endsOk hs i (s + h.place) = true then waysD hs (List.range' (i + 1) d) (s + h.place) else 0) := fun h hh t ht hk hS => by
      obtain ⟨lt, e2⟩ := he.step W ht hS hh hk
      by_cases c : endsOk hs i (s + h.place) = true
      · rw [if_pos c]
        refine (ways_cnt W d (i + 1) (t :: S) (s + h.place) (by omega) (List.nodup_cons.mpr ⟨hS, nd⟩) (by rw [List.length_cons, hl]) (fun u hu => ?_) e2).symm
        exact (List.mem_cons.mp hu).elim (fun z => z ▸ ht) (hT u)
      · rw [if_neg c]
        have c' : ∃ b ∈ hs, b.ppl.getLast? = some i ∧ dg (s + h.place) b ≠ b.most := by
          refine Classical.byContradiction fun z => c (List.all_eq_true.mpr fun b hb => ?_)
          obtain ⟨b1, b2⟩ := List.mem_filter.mp hb
          refine decide_eq_true (Classical.byContradiction fun y => z ⟨b, b1, of_decide_eq_true b2, y⟩)
        obtain ⟨b, hb, hlast, hne⟩ := c'
        rw [e2 b hb, W.most b hb] at hne
        have split := used_left (R := R) (T := T) (k := b.ppl) (S := t :: S)
        obtain ⟨t0, h0⟩ := List.exists_mem_of_length_pos (l := T.filter fun u => decide (pplOf R u = b.ppl ∧ u ∉ t :: S)) (by omega)
        obtain ⟨m0, m1⟩ := List.mem_filter.mp h0
        have m1 := of_decide_eq_true m1
        have late : ∀ x, i < x → t0 ∉ row R x := fun x hx hr => by
          have hxl := row_lt hr
          have := asc_last (p := fun p => decide (t0 ∈ row R p)) (by show (pplOf R t0).getLast? = some i; rw [m1.1]; exact hlast) x hx hxl
          exact of_decide_eq_false this hr
        have ndS : (t :: S).Nodup := List.nodup_cons.mpr ⟨hS, nd⟩
        have un : (T.filter fun u => decide (u ∉ t :: S)).length + (i + 1) = T.length := by
          have := filt_split (fun _ => true) (fun u => decide (u ∈ t :: S)) T
          rw [List.filter_eq_self.mpr fun _ _ => rfl] at this
          have e1 : (T.filter fun u => true && decide (u ∈ t :: S)).length = (t :: S).length := by
            refine (List.perm_ext_iff_of_nodup (List.Nodup.sublist List.filter_sublist W.nd) ndS |>.mpr fun u => ?_).length_eq
            rw [List.mem_filter]
            simp only [Bool.true_and, decide_eq_true_eq]
            exact ⟨fun z => z.2, fun z => ⟨(List.mem_cons.mp z).elim (fun y => y ▸ ht) (hT u), z⟩⟩
          have e2 : (T.filter fun u => true && !decide (u ∈ t :: S)) = T.filter fun u => decide (u ∉ t :: S) := List.filter_congr fun u _ => by simp
          rw [e1, e2, List.length_cons, hl] at this
          omega
        refine cnt_none (U := (T.filter fun u => decide (u ∉ t :: S)).erase t0) (fun r hr u hu hn => ?_) ?_
        · obtain ⟨j, hj⟩ := List.getElem?_of_mem hr
          rw [List.getElem?_drop] at hj
          have ru : u ∈ row R (i + 1 + j) := by rw [row_get hj]; exact hu
          have ne : u ≠ t0 := fun z => late (i + 1 + j) (by omega) (z ▸ ru)
          exact (List.mem_erase_of_ne ne).mpr (List.mem_filter.mpr ⟨W.sub _ _ ru, decide_eq_true hn⟩)
        · have hm : t0 ∈ T.filter fun u => decide (u ∉ t :: S) := List.mem_filter.mpr ⟨m0, decide_eq_true m1.2⟩
          have := List.length_pos_of_mem hm
          rw [List.length_erase_of_mem hm, List.length_drop]
          have := W.len
          omega
    -- the things of the row, heap by heap
    have e1 : (((row R i).filter fun t => decide (t ∉ S)).map fun t => cnt (t :: S) (R.drop (i + 1))).sum = ((T.filter fun t => decide (i ∈ pplOf R t ∧ t ∉ S)).map fun t => cnt (t :: S) (R.drop (i + 1))).sum := by
      refine sum_perm ((List.perm_ext_iff_of_nodup (List.Nodup.sublist List.filter_sublist (W.rnd i)) (List.Nodup.sublist List.filter_sublist W.nd)).mpr fun t => ?_)
      rw [List.mem_filter, List.mem_filter, decide_eq_true_iff, decide_eq_true_iff, mp]
      exact ⟨fun h => ⟨W.sub i t h.1, h⟩, fun h => h.2⟩
    rw [e1, sum_if, sum_if]
    have e2 : ∀ h ∈ hs, (if decide (i ∈ h.ppl) = true then (h.most - dg s h) * (if endsOk hs i (s + h.place) = true then waysD hs (List.range' (i + 1) d) (s + h.place) else 0) else 0) = (T.map fun t => if h.ppl = pplOf R t then (if decide (i ∈ pplOf R t ∧ t ∉ S) = true then cnt (t :: S) (R.drop (i + 1)) else 0) else 0).sum := fun h hh => by
      have e3 : (T.map fun t => if h.ppl = pplOf R t then (if decide (i ∈ pplOf R t ∧ t ∉ S) = true then cnt (t :: S) (R.drop (i + 1)) else 0) else 0).sum = ((T.filter fun t => decide (pplOf R t = h.ppl ∧ t ∉ S)).map fun t => if decide (i ∈ h.ppl) = true then (if endsOk hs i (s + h.place) = true then waysD hs (List.range' (i + 1) d) (s + h.place) else 0) else 0).sum := by
        rw [sum_if (p := fun t => decide (pplOf R t = h.ppl ∧ t ∉ S))]
        refine sum_congr fun t ht => ?_
        by_cases k : h.ppl = pplOf R t
        · rw [if_pos k, ← k]
          by_cases m : t ∉ S
          · have d2 : decide (h.ppl = h.ppl ∧ t ∉ S) = true := decide_eq_true ⟨rfl, m⟩
            rw [d2, if_pos (rfl : true = true)]
            by_cases q : i ∈ h.ppl
            · have d1 : decide (i ∈ h.ppl ∧ t ∉ S) = true := decide_eq_true ⟨q, m⟩
              rw [d1, if_pos (rfl : true = true), decide_eq_true q, if_pos (rfl : true = true)]
              exact same h hh t ht k m
            · have d1 : decide (i ∈ h.ppl ∧ t ∉ S) = false := decide_eq_false fun z => q z.1
              rw [d1, if_neg (by decide), decide_eq_false q, if_neg (by decide)]
          · have d2 : decide (h.ppl = h.ppl ∧ t ∉ S) = false := decide_eq_false fun z => m z.2
            have d1 : decide (i ∈ h.ppl ∧ t ∉ S) = false := decide_eq_false fun z => m z.2
            rw [d1, d2, if_neg (by decide), if_neg (by decide)]
        · have d2 : decide (pplOf R t = h.ppl ∧ t ∉ S) = false := decide_eq_false fun z => k z.1.symm
          rw [if_neg k, d2, if_neg (by decide)]
      rw [e3, sum_const fun _ _ => rfl]
      have := used_left (R := R) (T := T) (k := h.ppl) (S := S)
      rw [he h hh, W.most h hh]
      by_cases q : i ∈ h.ppl
      · rw [if_pos (decide_eq_true q), if_pos (decide_eq_true q)]
        congr 1
        omega
      · rw [if_neg (by simp [q]), if_neg (by simp [q]), Nat.mul_zero]
    rw [sum_congr e2, sum_swap]
    refine sum_congr fun t ht => ?_
    obtain ⟨h, hh, hk⟩ := W.key t ht
    exact sum_one W.knd ⟨h, hh, hk⟩
end Mt

namespace Mt
/-! people whom things hang together -/
def Tied (rows : Rows) (p q : Nat) : Prop := ∃ t, t ∈ row rows p ∧ t ∈ row rows q
theorem Tied.symm {rows : Rows} {p q : Nat} (h : Tied rows p q) : Tied rows q p := let ⟨t, a, b⟩ := h; ⟨t, b, a⟩
inductive Conn (rows : Rows) (p : Nat) : Nat → Prop
  | refl : Conn rows p p
  | step {q r : Nat} : Conn rows p q → Tied rows q r → Conn rows p r
theorem Conn.trans {rows : Rows} {p q r : Nat} (a : Conn rows p q) (b : Conn rows q r) : Conn rows p r := by
  induction b with
  | refl => exact a
  | step _ h ih => exact .step ih h
theorem Conn.one {rows : Rows} {p q : Nat} (h : Tied rows p q) : Conn rows p q := .step .refl h
theorem Conn.symm {rows : Rows} {p q : Nat} (a : Conn rows p q) : Conn rows q p := by
  induction a with
  | refl => exact .refl
  | step _ h ih => exact (Conn.one h.symm).trans ih
theorem pair_all {α : Type} {R : α → α → Prop} (sym : ∀ a b, R a b → R b a) : ∀ {l : List α}, l.Pairwise R → ∀ a ∈ l, ∀ b ∈ l, a ≠ b → R a b
  | [], _, a, h, _, _, _ => by cases h
  | x :: l, hp, a, ha, b, hb, ne => by
    have hp' := List.pairwise_cons.mp hp
    rcases List.mem_cons.mp ha with e1 | h1
    · rcases List.mem_cons.mp hb with e2 | h2
      · exact absurd (e1.trans e2.symm) ne
      · rw [e1]
        exact hp'.1 b h2
    · rcases List.mem_cons.mp hb with e2 | h2
      · rw [e2]
        exact sym _ _ (hp'.1 a h1)
      · exact pair_all sym hp'.2 a h1 b h2 ne
theorem flat_split {α : Type} (p : List α → Bool) : ∀ F : List (List α), ((F.filter fun g => !p g).flatten ++ (F.filter p).flatten).Perm F.flatten
  | [] => .refl _
  | g :: F => by
    have ih := flat_split p F
    cases h : p g
    · rw [List.filter_cons_of_pos (by simp [h]), List.filter_cons_of_neg (by simp [h]), List.flatten_cons, List.flatten_cons, List.append_assoc]
      exact ih.append_left g
    · rw [List.filter_cons_of_neg (by simp [h]), List.filter_cons_of_pos (by simp [h]), List.flatten_cons, List.flatten_cons]
      refine (List.perm_append_comm.trans ?_)
      rw [List.append_assoc]
      exact (List.perm_append_comm.trans ih).append_left g
structure Parts (rows : Rows) (i : Nat) (F : List (List Nat)) : Prop where
  perm : F.flatten.Perm (List.range i)
  ne : ∀ g ∈ F, g ≠ []
  apart : F.Pairwise fun a b => ∀ p ∈ a, ∀ q ∈ b, ¬ Tied rows p q
  conn : ∀ g ∈ F, ∀ p ∈ g, ∀ q ∈ g, Conn rows p q
theorem Parts.init {rows : Rows} : Parts rows 0 [] := ⟨.refl _, fun _ h => (by cases h), .nil, fun _ h => (by cases h)⟩
theorem Parts.step {rows : Rows} {i : Nat} {F : List (List Nat)} (h : Parts rows i F) {hit : List Nat → Bool} (hh : ∀ g ∈ F, hit g = true ↔ ∃ p ∈ g, Tied rows i p) : Parts rows (i + 1) ((F.filter fun g => !hit g) ++ [i :: (F.filter hit).flatten]) where
  perm := by
    rw [List.flatten_append, List.flatten_singleton, List.range_succ]
    have e : ((F.filter fun g => !hit g).flatten ++ i :: (F.filter hit).flatten).Perm (((F.filter fun g => !hit g).flatten ++ (F.filter hit).flatten) ++ [i]) := by
      rw [List.append_assoc]
      refine List.Perm.append_left _ ?_
      exact List.perm_append_comm (l₁ := [i]) (l₂ := (F.filter hit).flatten)
    exact e.trans (((flat_split hit F).trans h.perm).append_right [i])
  ne := fun g hg => by
    rcases List.mem_append.mp hg with hg | hg
    · exact h.ne g (List.mem_filter.mp hg).1
    · rw [List.mem_singleton.mp hg]
      exact fun z => by cases z
  apart := by
    refine List.pairwise_append.mpr ⟨h.apart.sublist List.filter_sublist, List.pairwise_singleton _ _, fun a ha b hb p hp q hq => ?_⟩
    rw [List.mem_singleton.mp hb] at hq
    obtain ⟨ha, na⟩ := List.mem_filter.mp ha
    have na' : ¬ hit a = true := by simpa using na
    rcases List.mem_cons.mp hq with rfl | hq
    · exact fun z => na' ((hh a ha).mpr ⟨p, hp, z.symm⟩)
    · obtain ⟨c, hc, hqc⟩ := List.mem_flatten.mp hq
      obtain ⟨hc, hitc⟩ := List.mem_filter.mp hc
      exact pair_all (R := fun a b => ∀ p ∈ a, ∀ q ∈ b, ¬ Tied rows p q) (fun a b h p hp q hq z => h q hq p hp z.symm) h.apart a ha c hc (fun z => na' (z ▸ hitc)) p hp q hqc
  conn := fun g hg => by
    rcases List.mem_append.mp hg with hg | hg
    · exact h.conn g (List.mem_filter.mp hg).1
    · rw [List.mem_singleton.mp hg]
      have from_i : ∀ p ∈ i :: (F.filter hit).flatten, Conn rows i p := fun p hp => by
        rcases List.mem_cons.mp hp with rfl | hp
        · exact .refl
        · obtain ⟨c, hc, hpc⟩ := List.mem_flatten.mp hp
          obtain ⟨hc, hitc⟩ := List.mem_filter.mp hc
          obtain ⟨p0, h0, ht⟩ := (hh c hc).mp hitc
          exact (Conn.one ht).trans (h.conn c hc p0 h0 p hpc)
      exact fun p hp q hq => (from_i p hp).symm.trans (from_i q hq)
/-- ascending lists of the people whom things hang together -/
structure Groups (rows : Rows) (G : List (List Nat)) : Prop where
  asc : ∀ g ∈ G, g.Pairwise (· < ·)
  perm : G.flatten.Perm (List.range rows.length)
  ne : ∀ g ∈ G, g ≠ []
  apart : G.Pairwise fun a b => ∀ p ∈ a, ∀ q ∈ b, ¬ Tied rows p q
  conn : ∀ g ∈ G, ∀ p ∈ g, ∀ q ∈ g, Conn rows p q
theorem Groups.lt {rows : Rows} {G : List (List Nat)} (h : Groups rows G) {g : List Nat} (hg : g ∈ G) {p : Nat} (hp : p ∈ g) : p < rows.length :=
  List.mem_range.mp (h.perm.mem_iff.mp (List.mem_flatten.mpr ⟨g, hg, hp⟩))
theorem Groups.nd {rows : Rows} {G : List (List Nat)} (h : Groups rows G) {g : List Nat} (hg : g ∈ G) : g.Nodup := (h.asc g hg).imp fun {a b} z => Nat.ne_of_lt z
theorem Groups.tied {rows : Rows} {G : List (List Nat)} (h : Groups rows G) {g : List Nat} (hg : g ∈ G) {p q : Nat} (hp : p ∈ g) (hq : q < rows.length) (ht : Tied rows p q) : q ∈ g := by
  obtain ⟨c, hc, hqc⟩ := List.mem_flatten.mp (h.perm.mem_iff.mpr (List.mem_range.mpr hq))
  by_cases e : g = c
  · rw [e]; exact hqc
  · exact absurd ht (pair_all (R := fun a b => ∀ p ∈ a, ∀ q ∈ b, ¬ Tied rows p q) (fun a b h p hp q hq z => h q hq p hp z.symm) h.apart g hg c hc e p hp q hqc)
/-- from the parts: each put in order, and the whole in some order -/
theorem Parts.groups {rows : Rows} {F G : List (List Nat)} (h : Parts rows rows.length F) {srt : List Nat → List Nat} (hs : ∀ g ∈ F, (srt g).Perm g ∧ (srt g).Pairwise (· < ·)) (hp : G.Perm (F.map srt)) : Groups rows G := by
  have back : ∀ g ∈ G, ∃ f ∈ F, g = srt f := fun g hg => by
    obtain ⟨f, hf, e⟩ := List.mem_map.mp (hp.mem_iff.mp hg)
    exact ⟨f, hf, e.symm⟩
  refine ⟨fun g hg => ?_, ?_, fun g hg => ?_, ?_, fun g hg p hpg q hqg => ?_⟩
  · obtain ⟨f, hf, rfl⟩ := back g hg
    exact (hs f hf).2
  · refine (hp.flatten).trans (List.Perm.trans ?_ h.perm)
    have : ∀ F' : List (List Nat), (∀ g ∈ F', (srt g).Perm g) → ((F'.map srt).flatten).Perm F'.flatten := fun F' => by
      induction F' with
      | nil => exact fun _ => .refl _
      | cons g F' ih =>
        intro hF
        rw [List.map_cons, List.flatten_cons, List.flatten_cons]
        exact (hF g List.mem_cons_self).append (ih fun c hc => hF c (List.mem_cons_of_mem _ hc))
    exact this F fun g hg => (hs g hg).1
  · obtain ⟨f, hf, rfl⟩ := back g hg
    exact fun z => h.ne f hf (by
      have := (hs f hf).1
      rw [z] at this
      exact this.nil_eq.symm)
  · have sym : ∀ a b : List Nat, (∀ p ∈ a, ∀ q ∈ b, ¬ Tied rows p q) → ∀ p ∈ b, ∀ q ∈ a, ¬ Tied rows p q := fun a b h p hp q hq z => h q hq p hp z.symm
    refine (hp.pairwise_iff (fun {a b} => sym a b)).mpr ?_
    rw [List.pairwise_map]
    exact (List.Pairwise.and_mem.mp h.apart).imp fun {a b} ⟨ha, hb, hab⟩ p hp q hq => hab p ((hs a ha).1.mem_iff.mp hp) q ((hs b hb).1.mem_iff.mp hq)
  · obtain ⟨f, hf, rfl⟩ := back g hg
    exact h.conn f hf p ((hs f hf).1.mem_iff.mp hpg) q ((hs f hf).1.mem_iff.mp hqg)
/-! the number of dealings, group by group -/
def prodN (l : List Nat) : Nat := l.foldl (· * ·) 1
theorem prodN_snoc {l : List Nat} {a : Nat} : prodN (l ++ [a]) = prodN l * a := by
  unfold prodN
  rw [List.foldl_append]
  rfl
theorem foldl_mul (l : List Nat) : ∀ a : Nat, l.foldl (· * ·) a = a * prodN l := by
  induction l with
  | nil => exact fun a => (Nat.mul_one a).symm
  | cons x l ih =>
    intro a
    show l.foldl (· * ·) (a * x) = a * l.foldl (· * ·) (1 * x)
    rw [ih, ih (1 * x), Nat.one_mul, Nat.mul_assoc]
theorem prodN_cons {l : List Nat} {a : Nat} : prodN (a :: l) = a * prodN l := by
  show l.foldl (· * ·) (1 * a) = _
  rw [foldl_mul, Nat.one_mul]
theorem rows_range (rows : Rows) : (List.range rows.length).map (row rows) = rows := by
  refine List.ext_getElem? fun i => ?_
  rw [List.getElem?_map]
  by_cases h : i < rows.length
  · rw [List.getElem?_range h, List.getElem?_eq_getElem h]
    show some (row rows i) = _
    rw [row_get (List.getElem?_eq_getElem h)]
  · rw [List.getElem?_eq_none (by rw [List.length_range]; omega), List.getElem?_eq_none (by omega)]
    rfl
theorem cnt_groups {rows : Rows} : ∀ {G : List (List Nat)}, (G.Pairwise fun a b => ∀ p ∈ a, ∀ q ∈ b, ¬ Tied rows p q) → cnt [] (G.flatten.map (row rows)) = prodN (G.map fun g => cnt [] (g.map (row rows)))
  | [], _ => rfl
  | g :: G, h => by
    have h' := List.pairwise_cons.mp h
    rw [List.flatten_cons, List.map_append, List.map_cons, prodN_cons, cnt_app, cnt_groups h'.2]
    intro a ha b hb t hta htb
    obtain ⟨p, hp, rfl⟩ := List.mem_map.mp ha
    obtain ⟨q, hq, rfl⟩ := List.mem_map.mp hb
    obtain ⟨c, hc, hqc⟩ := List.mem_flatten.mp hq
    exact h'.1 c hc p hp q hqc ⟨t, hta, htb⟩
theorem Groups.cnt {rows : Rows} {G : List (List Nat)} (h : Groups rows G) : cnt [] rows = prodN (G.map fun g => Mt.cnt [] (g.map (row rows))) := by
  rw [← cnt_groups h.apart]
  have := cnt_perm (h.perm.map (row rows)) []
  rw [rows_range] at this
  exact this.symm
/-- a group has as many things as people -/
theorem Groups.things {rows : Rows} {G : List (List Nat)} (h : Groups rows G) (few : Few rows) {D : List Int} (d : Ds rows D) {g : List Nat} (hg : g ∈ G) {T : List Int} (nd : T.Nodup) (mem : ∀ t, t ∈ T ↔ ∃ p ∈ g, t ∈ row rows p) : T.length = g.length := by
  obtain ⟨U, hU, hm⟩ := few
  have n2 : (g.map fun p => D[p]?.getD 0).Nodup := nodup_map (h.nd hg) fun x hx y hy e => by
    obtain ⟨t, e1, _⟩ := d.get (h.lt hg hx)
    obtain ⟨u, e2, _⟩ := d.get (h.lt hg hy)
    rw [e1, e2] at e
    have e' : t = u := e
    rw [e'] at e1
    exact nodup_get d.nd e1 e2
  have a := len_le n2 (l2 := T) fun z hz => by
    obtain ⟨p, hp, rfl⟩ := List.mem_map.mp hz
    obtain ⟨t, e1, ht⟩ := d.get (h.lt hg hp)
    rw [e1]
    exact (mem t).mpr ⟨p, hp, ht⟩
  have all := all_in d.nd (l2 := U) (fun x hx => by
    obtain ⟨i, hi⟩ := List.getElem?_of_mem hx
    exact hm i x (d.tie i x hi)) (by rw [d.len]; exact hU)
  have b := len_le nd (l2 := g.map fun p => D[p]?.getD 0) fun t ht => by
    obtain ⟨p, hp, hr⟩ := (mem t).mp ht
    obtain ⟨q, hq⟩ := List.getElem?_of_mem (all t (hm p t hr))
    have hql : q < rows.length := row_lt (d.tie q t hq)
    exact List.mem_map.mpr ⟨q, h.tied hg hp hql ⟨t, hr, d.tie q t hq⟩, by rw [hq]; rfl⟩
  rw [List.length_map] at a b
  omega
end Mt

namespace Mt
/-! counts by keys -/
section
variable {κ : Type} [DecidableEq κ]
/-- v more at k -/
def bump : List (κ × Nat) → κ → Nat → List (κ × Nat)
  | [], k, v => [(k, v)]
  | (s, w) :: r, k, v => if s = k then (s, w + v) :: r else (s, w) :: bump r k v
def getN : List (κ × Nat) → κ → Nat
  | [], _ => 0
  | (s, w) :: r, k => if s = k then w else getN r k
/-- the sum of the counts, each by its key's weight -/
def wt (F : κ → Nat) (st : List (κ × Nat)) : Nat := (st.map fun q => q.2 * F q.1).sum
theorem wt_bump {F : κ → Nat} (k : κ) (v : Nat) : ∀ st : List (κ × Nat), wt F (bump st k v) = wt F st + v * F k
  | [] => by
    show (v * F k) + 0 = 0 + v * F k
    omega
  | (s, w) :: r => by
    have ih := wt_bump (F := F) k v r
    unfold bump
    by_cases h : s = k
    · rw [if_pos h]
      unfold wt at *
      rw [List.map_cons, List.map_cons, List.sum_cons, List.sum_cons, h]
      show (w + v) * F k + _ = w * F k + _ + _
      rw [Nat.add_mul]
      omega
    · rw [if_neg h]
      unfold wt at *
      rw [List.map_cons, List.map_cons, List.sum_cons, List.sum_cons, ih]
      show w * F s + _ = w * F s + _ + _
      omega
theorem bump_keys (k : κ) (v : Nat) : ∀ st : List (κ × Nat), (bump st k v).map (·.1) = if k ∈ st.map (·.1) then st.map (·.1) else st.map (·.1) ++ [k]
  | [] => rfl
  | (s, w) :: r => by
    have ih := bump_keys k v r
    unfold bump
    by_cases h : s = k
    · rw [if_pos h, if_pos (by rw [h]; exact List.mem_cons_self)]
      rfl
    · rw [if_neg h, List.map_cons, ih, List.map_cons]
      by_cases m : k ∈ r.map (·.1)
      · rw [if_pos m, if_pos (List.mem_cons_of_mem _ m)]
      · rw [if_neg m, if_neg fun z => (List.mem_cons.mp z).elim (fun y => h y.symm) m]
        rfl
theorem bump_mem {k : κ} {v : Nat} {st : List (κ × Nat)} {x : κ} : x ∈ (bump st k v).map (·.1) ↔ x ∈ st.map (·.1) ∨ x = k := by
  rw [bump_keys]
  by_cases h : k ∈ st.map (·.1)
  · rw [if_pos h]
    exact ⟨.inl, fun z => z.elim id fun z => z ▸ h⟩
  · rw [if_neg h, List.mem_append, List.mem_singleton]
theorem bump_nd {k : κ} {v : Nat} {st : List (κ × Nat)} (nd : (st.map (·.1)).Nodup) : ((bump st k v).map (·.1)).Nodup := by
  rw [bump_keys]
  by_cases h : k ∈ st.map (·.1)
  · rw [if_pos h]
    exact nd
  · rw [if_neg h, List.nodup_append]
    refine ⟨nd, List.nodup_cons.mpr ⟨fun z => (by cases z), List.nodup_nil⟩, fun a ha b hb e => ?_⟩
    rw [List.mem_singleton.mp hb] at e
    exact h (e ▸ ha)
theorem bump_get (k : κ) (v : Nat) (x : κ) : ∀ st : List (κ × Nat), getN (bump st k v) x = getN st x + if x = k then v else 0
  | [] => by
    show (if k = x then v else 0) = 0 + _
    by_cases h : k = x
    · rw [if_pos h, if_pos h.symm, Nat.zero_add]
    · rw [if_neg h, if_neg fun z => h z.symm]
  | (s, w) :: r => by
    have ih := bump_get k v x r
    unfold bump
    by_cases h : s = k
    · rw [if_pos h]
      show (if s = x then w + v else getN r x) = (if s = x then w else getN r x) + _
      by_cases e : s = x
      · rw [if_pos e, if_pos e, if_pos (e.symm.trans h)]
      · rw [if_neg e, if_neg e, if_neg fun z => e (h.trans z.symm)]
        rfl
    · rw [if_neg h]
      show (if s = x then w else getN (bump r k v) x) = (if s = x then w else getN r x) + _
      by_cases e : s = x
      · rw [if_pos e, if_pos e, if_neg fun z => h (e.trans z)]
        rfl
      · rw [if_neg e, if_neg e, ih]
theorem getN_mem {st : List (κ × Nat)} {k : κ} {v : Nat} (nd : (st.map (·.1)).Nodup) (h : (k, v) ∈ st) : getN st k = v := by
  induction st with
  | nil => cases h
  | cons q r ih =>
    obtain ⟨s, w⟩ := q
    have hn := List.nodup_cons.mp nd
    show (if s = k then w else getN r k) = v
    rcases List.mem_cons.mp h with e | h
    · injection e with e1 e2
      rw [if_pos e1.symm, e2]
    · rw [if_neg fun z => hn.1 (List.mem_map.mpr ⟨(k, v), h, z.symm⟩), ih hn.2 h]
end
/-! one person more -/
/-- the states behind the choices of one person, from one state -/
def stepO (acc : List (Nat × Nat)) (s w : Nat) : List (Nat × Nat) → List (Nat × Nat)
  | [] => acc
  | (pl, m) :: cs => stepO (if 0 < m - s / pl % (m + 1) then bump acc (s + pl) (w * (m - s / pl % (m + 1))) else acc) s w cs
def stepN (acc : List (Nat × Nat)) (cs : List (Nat × Nat)) : List (Nat × Nat) → List (Nat × Nat)
  | [] => acc
  | (s, w) :: st => stepN (stepO acc s w cs) cs st
/-- the ways on from a state -/
def onW (F : Nat → Nat) (cs : List (Nat × Nat)) (s : Nat) : Nat := (cs.map fun c => (c.2 - s / c.1 % (c.2 + 1)) * F (s + c.1)).sum
theorem wt_stepO {F : Nat → Nat} (s w : Nat) : ∀ (cs acc : List (Nat × Nat)), wt F (stepO acc s w cs) = wt F acc + w * onW F cs s
  | [], acc => by
    show wt F acc = wt F acc + w * 0
    rw [Nat.mul_zero, Nat.add_zero]
  | (pl, m) :: cs, acc => by
    show wt F (stepO _ s w cs) = wt F acc + w * (((m - s / pl % (m + 1)) * F (s + pl)) + onW F cs s)
    rw [wt_stepO s w cs, Nat.mul_add, ← Nat.add_assoc, ← Nat.mul_assoc]
    congr 1
    by_cases h : 0 < m - s / pl % (m + 1)
    · rw [if_pos h, wt_bump]
    · rw [if_neg h, show m - s / pl % (m + 1) = 0 by omega, Nat.mul_zero, Nat.zero_mul, Nat.add_zero]
theorem wt_stepN {F : Nat → Nat} (cs : List (Nat × Nat)) : ∀ (st acc : List (Nat × Nat)), wt F (stepN acc cs st) = wt F acc + wt (onW F cs) st
  | [], acc => by
    show wt F acc = wt F acc + 0
    omega
  | (s, w) :: st, acc => by
    show wt F (stepN (stepO acc s w cs) cs st) = wt F acc + (w * onW F cs s + wt (onW F cs) st)
    rw [wt_stepN cs st, wt_stepO, Nat.add_assoc]
theorem wt_filter {F : Nat → Nat} {p : Nat → Bool} (st : List (Nat × Nat)) : wt F (st.filter fun q => p q.1) = wt (fun s => if p s = true then F s else 0) st := by
  unfold wt
  rw [sum_if]
  refine sum_congr fun q _ => ?_
  by_cases h : p q.1 = true
  · show (if p q.1 = true then q.2 * F q.1 else 0) = q.2 * (if p q.1 = true then F q.1 else 0)
    rw [if_pos h, if_pos h]
  · show (if p q.1 = true then q.2 * F q.1 else 0) = q.2 * (if p q.1 = true then F q.1 else 0)
    rw [if_neg h, if_neg h, Nat.mul_zero]
/-! the states stay below the product -/
theorem next_lt {M s pl m : Nat} (hp : 0 < pl) (hd : pl * (m + 1) ∣ M) (hs : s < M) (h : 0 < m - s / pl % (m + 1)) : s + pl < M := by
  have hlt : s / pl % (m + 1) < m := by omega
  obtain ⟨c, e⟩ := hd
  have hB : 0 < pl * (m + 1) := Nat.mul_pos hp (Nat.succ_pos _)
  have h1 : (s + pl) / (pl * (m + 1)) = s / (pl * (m + 1)) := by
    rw [← Nat.div_div_eq_div_mul, ← Nat.div_div_eq_div_mul, Nat.add_div_right _ hp, (up_mod hlt).2]
  have h2 : s / (pl * (m + 1)) < c := (Nat.div_lt_iff_lt_mul hB).mpr (by rw [Nat.mul_comm, ← e]; exact hs)
  rw [← h1] at h2
  have := (Nat.div_lt_iff_lt_mul hB).mp h2
  rw [e, Nat.mul_comm]
  exact this
structure Sts (M : Nat) (st : List (Nat × Nat)) : Prop where
  nd : (st.map (·.1)).Nodup
  lt : ∀ s ∈ st.map (·.1), s < M
theorem Sts.len {M : Nat} {st : List (Nat × Nat)} (h : Sts M st) : st.length ≤ M := by
  have := len_le h.nd (l2 := List.range M) fun x hx => List.mem_range.mpr (h.lt x hx)
  rwa [List.length_map, List.length_range] at this
theorem Sts.nil {M : Nat} : Sts M [] := ⟨List.nodup_nil, fun _ h => by cases h⟩
theorem sts_bump {M : Nat} {st : List (Nat × Nat)} (h : Sts M st) {k v : Nat} (hk : k < M) : Sts M (bump st k v) :=
  ⟨bump_nd h.nd, fun s hs => (bump_mem.mp hs).elim (h.lt s) fun e => e ▸ hk⟩
theorem sts_stepO {M : Nat} {s w : Nat} (hs : s < M) : ∀ {cs acc : List (Nat × Nat)}, (∀ c ∈ cs, 0 < c.1 ∧ c.1 * (c.2 + 1) ∣ M) → Sts M acc → Sts M (stepO acc s w cs)
  | [], _, _, h => h
  | (pl, m) :: cs, acc, hc, h => by
    show Sts M (stepO (if 0 < m - s / pl % (m + 1) then bump acc (s + pl) (w * (m - s / pl % (m + 1))) else acc) s w cs)
    refine sts_stepO (cs := cs) hs (fun c hx => hc c (List.mem_cons_of_mem _ hx)) ?_
    by_cases c : 0 < m - s / pl % (m + 1)
    · rw [if_pos c]
      have := hc _ List.mem_cons_self
      exact sts_bump h (next_lt this.1 this.2 hs c)
    · rw [if_neg c]
      exact h
theorem sts_stepN {M : Nat} {cs : List (Nat × Nat)} (hc : ∀ c ∈ cs, 0 < c.1 ∧ c.1 * (c.2 + 1) ∣ M) : ∀ {st acc : List (Nat × Nat)}, (∀ q ∈ st, q.1 < M) → Sts M acc → Sts M (stepN acc cs st)
  | [], _, _, h => h
  | (s, w) :: st, acc, hs, h => show Sts M (stepN (stepO acc s w cs) cs st) from sts_stepN (st := st) hc (fun q hq => hs q (List.mem_cons_of_mem _ hq)) (sts_stepO (hs (s, w) List.mem_cons_self) hc h)
theorem sts_filter {M : Nat} {st : List (Nat × Nat)} (h : Sts M st) (p : Nat × Nat → Bool) : Sts M (st.filter p) :=
  ⟨List.Nodup.sublist (List.Sublist.map _ List.filter_sublist) h.nd, fun s hs => by
    obtain ⟨q, hq, rfl⟩ := List.mem_map.mp hs
    exact h.lt _ (List.mem_map.mpr ⟨q, (List.mem_filter.mp hq).1, rfl⟩)⟩
theorem stepO_snoc {acc : List (Nat × Nat)} {s w : Nat} {c : Nat × Nat} : ∀ {cs : List (Nat × Nat)}, stepO acc s w (cs ++ [c]) = if 0 < c.2 - s / c.1 % (c.2 + 1) then bump (stepO acc s w cs) (s + c.1) (w * (c.2 - s / c.1 % (c.2 + 1))) else stepO acc s w cs := fun {cs} => by
  induction cs generalizing acc with
  | nil => rfl
  | cons d cs ih =>
    obtain ⟨pl, m⟩ := d
    show stepO _ s w (cs ++ [c]) = _
    rw [ih]
    rfl
theorem stepN_snoc {acc : List (Nat × Nat)} {cs : List (Nat × Nat)} {q : Nat × Nat} : ∀ {st : List (Nat × Nat)}, stepN acc cs (st ++ [q]) = stepO (stepN acc cs st) q.1 q.2 cs := fun {st} => by
  induction st generalizing acc with
  | nil => rfl
  | cons d st ih =>
    obtain ⟨s, w⟩ := d
    show stepN _ cs (st ++ [q]) = _
    rw [ih]
    rfl
end Mt

set_option maxRecDepth 100000
set_option maxHeartbeats 1000000
/-! right rows: all that the matching asks -/
namespace Fo
open PySem PySem.Spec PyProof.Rows L2
theorem row_mem {rows : List (List Int)} {p : Nat} {t : Int} (h : t ∈ Mt.row rows p) : ∃ r ∈ rows, t ∈ r := by
  unfold Mt.row at h
  cases e : rows[p]? with
  | none => rw [e] at h; cases h
  | some r => rw [e] at h; exact ⟨r, List.mem_of_getElem? e, h⟩
theorem Good.row_rng {rows : List (List Int)} (G : Good rows) {p : Nat} {t : Int} (h : t ∈ Mt.row rows p) : 0 ≤ t ∧ t < (rows.length : Int) := by
  obtain ⟨r, hr, ht⟩ := row_mem h
  exact G.rng r hr t ht
theorem Good.row_asc {rows : List (List Int)} (G : Good rows) (p : Nat) : (Mt.row rows p).Pairwise (· < ·) := by
  unfold Mt.row
  cases e : rows[p]? with
  | none => exact .nil
  | some r => exact G.asc r (List.mem_of_getElem? e)
theorem Good.few {rows : List (List Int)} (G : Good rows) : Mt.Few rows :=
  ⟨rangeI rows.length, by rw [rangeI_len]; exact Nat.le_refl _, fun p t h => mem_rangeI.mpr (G.row_rng h)⟩
theorem asc_len {r : List Int} {n : Nat} (h : r.Pairwise (· < ·)) (hr : ∀ x ∈ r, 0 ≤ x ∧ x < (n : Int)) : r.length ≤ n := by
  have nd : r.Nodup := h.imp fun {a b} h => by omega
  have := Mt.len_le (l2 := rangeI n) nd fun x hx => mem_rangeI.mpr (hr x hx)
  rw [rangeI_len] at this
  exact this
theorem Good.row_len {rows : List (List Int)} (G : Good rows) : ∀ r ∈ rows, r.length ≤ rows.length := fun r hr => asc_len (G.asc r hr) (G.rng r hr)
theorem flat_len {n : Nat} : ∀ {l : List (List Int)}, (∀ r ∈ l, r.length ≤ n) → l.flatten.length ≤ l.length * n
  | [], _ => Nat.zero_le _
  | r :: l, h => by
    rw [List.flatten_cons, List.length_append, List.length_cons, Nat.succ_mul]
    have h1 := h r List.mem_cons_self
    have h2 := flat_len (l := l) fun r hr => h r (List.mem_cons_of_mem _ hr)
    omega
theorem Good.few_things {rows : List (List Int)} (G : Good rows) {n : Nat} (h : rows.length ≤ n) : (Mt.things rows).length ≤ n * n :=
  Nat.le_trans (flat_len G.row_len) (Nat.mul_le_mul h h)
theorem mapIdx_get {α β : Type} {f : Nat → α → β} {l : List α} {y : β} (h : y ∈ l.mapIdx f) : ∃ (i : Nat) (x : α), l[i]? = some x ∧ y = f i x := by
  obtain ⟨i, hi⟩ := List.getElem?_of_mem h
  rw [List.getElem?_mapIdx] at hi
  cases e : l[i]? with
  | none => rw [e] at hi; cases hi
  | some x => rw [e] at hi; exact ⟨i, x, e, (Option.some.inj hi).symm⟩
theorem Good.live {rows : List (List Int)} (G : Good rows) : Good (Mt.liveR rows) where
  pos := by rw [Mt.liveR_len]; exact G.pos
  asc := fun r hr => by
    obtain ⟨i, x, e, rfl⟩ := mapIdx_get hr
    exact List.Pairwise.filter _ (G.asc x (List.mem_of_getElem? e))
  rng := fun r hr t ht => by
    rw [Mt.liveR_len]
    obtain ⟨i, x, e, rfl⟩ := mapIdx_get hr
    exact G.rng x (List.mem_of_getElem? e) t (List.mem_filter.mp ht).1
theorem Good.narrow {rows : List (List Int)} (G : Good rows) {p : Nat} {t : Int} (hp : t ∈ Mt.row rows p) : Good (Mt.narrow rows p t) where
  pos := by rw [Mt.narrow_len]; exact G.pos
  asc := fun r hr => by
    obtain ⟨i, x, e, rfl⟩ := mapIdx_get hr
    by_cases c : i = p
    · rw [if_pos c]; exact List.pairwise_singleton _ _
    · rw [if_neg c]; exact List.Pairwise.filter _ (G.asc x (List.mem_of_getElem? e))
  rng := fun r hr u hu => by
    rw [Mt.narrow_len]
    obtain ⟨i, x, e, rfl⟩ := mapIdx_get hr
    by_cases c : i = p
    · rw [if_pos c] at hu
      rw [List.mem_singleton.mp hu]
      exact G.row_rng hp
    · rw [if_neg c] at hu
      exact G.rng x (List.mem_of_getElem? e) u (List.mem_filter.mp hu).1
end Fo

namespace Mt
theorem cnt_no {rows : Rows} (h : ∀ D, ¬ Ds rows D) : cnt [] rows = 0 := by
  rw [← deals_cnt]
  cases e : deals rows with
  | nil => rfl
  | cons x l => exact absurd ((mem_deals x).mp (by rw [e]; exact List.mem_cons_self)) (h x)
theorem lx_irr {a : List Int} (h : Lx a a) : False := by
  obtain ⟨q, x, y, _, h1, h2, h3⟩ := h
  rw [h1] at h2
  cases h2
  exact Int.lt_irrefl _ h3
theorem deals_nd {rows : Rows} (asc : ∀ r ∈ rows, r.Pairwise (· < ·)) : (deals rows).Nodup := (deals_lx asc).imp fun {a b} h e => by subst e; exact lx_irr h
theorem liveR_asc {rows : Rows} (asc : ∀ r ∈ rows, r.Pairwise (· < ·)) : ∀ r ∈ liveR rows, r.Pairwise (· < ·) := fun r hr => by
  obtain ⟨i, hi, e⟩ := List.getElem_of_mem hr
  have h1 : row (liveR rows) i = r := row_get (by rw [List.getElem?_eq_getElem hi, e])
  rw [← h1, row_liveR]
  refine List.Pairwise.filter _ ?_
  have hi' : i < rows.length := by rw [← liveR_len (rows := rows)]; exact hi
  have h2 : row rows i = rows[i] := row_get (List.getElem?_eq_getElem hi')
  rw [h2]
  exact asc _ (List.getElem_mem hi')
/-- two lists of rows with the same dealings have as many -/
theorem cnt_same {A B : Rows} (aA : ∀ r ∈ A, r.Pairwise (· < ·)) (aB : ∀ r ∈ B, r.Pairwise (· < ·)) (h : ∀ D, Ds A D ↔ Ds B D) : cnt [] A = cnt [] B := by
  rw [← deals_cnt, ← deals_cnt]
  exact ((List.perm_ext_iff_of_nodup (deals_nd aA) (deals_nd aB)).mpr fun x => (mem_deals x).trans ((h x).trans (mem_deals x).symm)).length_eq
theorem cnt_live {rows : Rows} (asc : ∀ r ∈ rows, r.Pairwise (· < ·)) : cnt [] (liveR rows) = cnt [] rows := cnt_same (liveR_asc asc) asc fun D => ds_liveR
theorem nodup_ex : ∀ l : List Int, ∃ T : List Int, T.Nodup ∧ ∀ k, k ∈ T ↔ k ∈ l
  | [] => ⟨[], List.nodup_nil, fun k => Iff.rfl⟩
  | x :: l => by
    obtain ⟨T, h1, h2⟩ := nodup_ex l
    by_cases e : x ∈ l
    · exact ⟨T, h1, fun k => (h2 k).trans ⟨List.mem_cons_of_mem _, fun h => (List.mem_cons.mp h).elim (fun z => z ▸ e) id⟩⟩
    · exact ⟨x :: T, List.nodup_cons.mpr ⟨fun z => e ((h2 x).mp z), h1⟩, fun k => by rw [List.mem_cons, List.mem_cons, h2 k]⟩
/-- m (m - 1) .. of k factors -/
def fall : Nat → Nat → Nat
  | _, 0 => 1
  | m, k + 1 => m * fall (m - 1) k
theorem sum_le {α : Type} {f : α → Nat} {c : Nat} : ∀ {l : List α}, (∀ x ∈ l, f x ≤ c) → (l.map f).sum ≤ l.length * c
  | [], _ => Nat.zero_le _
  | x :: l, h => by
    rw [List.map_cons, List.sum_cons, List.length_cons, Nat.add_mul, Nat.one_mul]
    have := h x List.mem_cons_self
    have := sum_le fun y hy => h y (List.mem_cons_of_mem x hy)
    omega
theorem cnt_fall : ∀ {rows : Rows} {S U : List Int}, (∀ r ∈ rows, r.Nodup) → U.Nodup → (∀ r ∈ rows, ∀ t ∈ r, t ∉ S → t ∈ U) → cnt S rows ≤ fall U.length rows.length
  | [], _, _, _, _, _ => Nat.le_refl _
  | r :: rs, S, U, hr, hU, h => by
    have hl : (r.filter fun t => decide (t ∉ S)).length ≤ U.length := len_le (List.Nodup.sublist List.filter_sublist (hr r List.mem_cons_self)) fun t ht => h r List.mem_cons_self t (List.mem_filter.mp ht).1 (of_decide_eq_true (List.mem_filter.mp ht).2)
    have h2 : cnt S (r :: rs) ≤ (r.filter fun t => decide (t ∉ S)).length * fall (U.length - 1) rs.length := by
      refine sum_le fun t ht => ?_
      have hm := List.mem_filter.mp ht
      have hS : t ∉ S := of_decide_eq_true hm.2
      have hm2 := h r List.mem_cons_self t hm.1 hS
      have h3 := cnt_fall (rows := rs) (S := t :: S) (U := U.erase t) (fun q hq => hr q (List.mem_cons_of_mem _ hq)) (hU.erase t) fun q hq u hu hn => by
        have ne : u ≠ t := fun z => hn (z ▸ List.mem_cons_self)
        exact (List.mem_erase_of_ne ne).mpr (h q (List.mem_cons_of_mem _ hq) u hu fun z => hn (List.mem_cons_of_mem _ z))
      rw [List.length_erase_of_mem hm2] at h3
      exact h3
    exact Nat.le_trans h2 (Nat.mul_le_mul_right _ hl)
theorem fall_le : ∀ n, n ≤ 20 → fall n n < 2 ^ 64 := by decide
theorem cnt_small {rows : Rows} {T : List Int} (hr : ∀ r ∈ rows, r.Nodup) (nd : T.Nodup) (h : ∀ r ∈ rows, ∀ t ∈ r, t ∈ T) (hl : T.length = rows.length) (h20 : rows.length ≤ 20) : cnt [] rows < 2 ^ 64 := by
  have := cnt_fall (S := []) hr nd fun r hr t ht _ => h r hr t ht
  rw [hl] at this
  exact Nat.lt_of_le_of_lt this (fall_le _ h20)
theorem sub_flat0 {a b : List (List Nat)} (h : a.Sublist b) : a.flatten.length ≤ b.flatten.length := by
  induction h with
  | slnil => exact Nat.le_refl _
  | cons x _ ih => rw [List.flatten_cons, List.length_append]; omega
  | cons_cons x _ ih => rw [List.flatten_cons, List.flatten_cons, List.length_append, List.length_append]; omega
theorem Groups.len {rows : Rows} {G : List (List Nat)} (h : Groups rows G) {g : List Nat} (hg : g ∈ G) : g.length ≤ rows.length := by
  have h1 : [g].Sublist G := List.singleton_sublist.mpr hg
  have h2 := sub_flat0 h1
  rw [List.flatten_singleton, h.perm.length_eq, List.length_range] at h2
  exact h2
theorem Groups.num {rows : Rows} {G : List (List Nat)} (h : Groups rows G) : G.length ≤ rows.length := by
  have h2 := h.perm.length_eq
  rw [List.length_range] at h2
  rw [← h2]
  have : ∀ F : List (List Nat), (∀ g ∈ F, g ≠ []) → F.length ≤ F.flatten.length := fun F => by
    induction F with
    | nil => exact fun _ => Nat.le_refl _
    | cons g F ih =>
      intro hF
      rw [List.flatten_cons, List.length_append, List.length_cons]
      have h1 := ih fun c hc => hF c (List.mem_cons_of_mem _ hc)
      have h2 : 0 < g.length := List.length_pos_iff.mpr (hF g List.mem_cons_self)
      omega
  exact this G h.ne
end Mt

set_option maxRecDepth 100000
set_option maxHeartbeats 4000000
namespace Fo
open PySem PySem.Spec PyProof.Rows L2
abbrev s_live_of : Stmt := top 25
abbrev n_live_of : List Str := ["table", "live"]
theorem sc_live_of : FnScope n_live_of ["table"] (defScope s_live_of) := ⟨rfl, rfl, rfl, by decide +kernel, rfl, by decide +kernel, by decide +kernel⟩
section
variable {P : Program} {w : World} {K : PySem.W.Frag} {mg : Str → Option Value} {base : Heap} {C : Addr}
theorem tie_at {q : List Int} : ∀ (k : Int) (rows : List (List Int)), q ∈ tieFrom k rows → ∃ (p : Nat) (t : Int), q = [k + (p : Int), t] ∧ t ∈ Mt.row rows p
  | _, [], h => by cases h
  | k, r :: rs, h => by
    rcases List.mem_append.mp (show q ∈ (r.map fun x => [k, x]) ++ tieFrom (k + 1) rs from h) with h | h
    · obtain ⟨t, ht, rfl⟩ := List.mem_map.mp h
      exact ⟨0, t, by rw [show k + ((0 : Nat) : Int) = k by omega], ht⟩
    · obtain ⟨p, t, rfl, ht⟩ := tie_at (k + 1) rs h
      exact ⟨p + 1, t, by rw [show k + 1 + (p : Int) = k + ((p + 1 : Nat) : Int) by omega], ht⟩
theorem tie_num : ∀ (k : Int) (rows : List (List Int)), (tieFrom k rows).length = rows.flatten.length
  | _, [] => rfl
  | k, r :: rs => by
    show ((r.map fun x => [k, x]) ++ tieFrom (k + 1) rs).length = _
    rw [List.length_append, List.length_map, tie_num (k + 1) rs, List.flatten_cons, List.length_append]
def spLiveOf (K : PySem.W.Frag) (C : Addr) : Sp := fun vs H Q _ => ∃ (x : V) (rows : List (List Int)), vs = [x] ∧ TableAt K C H x rows ∧ Good rows ∧ rows.length ≤ 40 ∧ (∃ D, Mt.Ds rows D) ∧
  ∀ l H', Same H H' → H l = none → RowsQ true K H' (.ref l) (Mt.liveR rows) → Q (.ref l) H'
theorem ok_live_of (A : At K mg "live_of" s_live_of ["table"]) (T : Tx mg) (tc : TC K C) (G_live_rows : Dfn P w K mg base "live_rows" ["rows"] 4 (spLive K)) : Dfn P w K mg base "live_of" ["table"] 5 (spLiveOf K C) := by
  refine A.ok sc_live_of (fun vs H Q E h => ?_) (fun f cdv A outer s H vs Q E hr h => ?_)
  · obtain ⟨_, _, rfl, _⟩ := h
    rfl
  · obtain ⟨x, rows, rfl, tb, G, hn, yes, k⟩ := h
    obtain ⟨p, dx, v, rfl, hp, hR⟩ := id tb
    refine ⟨_, (pss_cons (ps_set (i := 1) sc_live_of.nd rfl (Or.inl rfl) (pe_d G_live_rows (hr.mono (by decide)) (pa_cons (pe_fld (pv 0) rfl) pa_nil)))
      (pss_cons (ps_if (pt_cmpR op_isN (pv 1) pe_non (nomark _)) (pss_one ps_never) pss_nil)
      (pss_one (ps_ret (pv 1))))), ?_⟩
    have thl := G.few_things hn
    refine ⟨_, rfl, p, C, dx, _, v, rfl, hp, tc.cl, tc.nR, tf_rows _ _, false, v, rows, rfl, hR.q, by omega, by omega, fun r hr => Nat.le_trans (G.row_len r hr) (by omega), G.few, fun no H1 s1 => absurd yes fun ⟨D, h⟩ => no D h, fun _ l H1 s1 fl hl _ => ?_⟩
    refine ⟨_, rfl, rfl, _, rfl, ?_⟩
    rw [show decide (V.ref l = V.non) = false from decide_eq_false (by intro z; cases z)]
    exact ⟨_, rfl, k l H1 s1 fl hl⟩
open Classical in
/-- the idle ones of ties -/
noncomputable def idleF (rows : List (List Int)) (q : List Int) : Bool := !decide (Mt.Live rows (q.headD 0).toNat (q.getD 1 0))
noncomputable def idleR (rows : List (List Int)) : List (List Int) := (tieRows rows).filter (idleF rows)
def spIdle (K : PySem.W.Frag) (C : Addr) : Sp := fun vs H Q _ => ∃ (x : V) (rows : List (List Int)), vs = [x] ∧ TableAt K C H x rows ∧ Good rows ∧ rows.length ≤ 40 ∧ (∃ D, Mt.Ds rows D) ∧
  ∀ l ws H', Same H H' → H l = none → H' l = some (.lst ws) → RowsT K H' ws (idleR rows) → Q (.ref l) H'
noncomputable def sureF (rows : List (List Int)) (p : Nat) : Bool := decide ((Mt.row (Mt.liveR rows) p).length = 1)
noncomputable def sureT (rows : List (List Int)) (p : Nat) : List Int := [(p : Int), (Mt.row (Mt.liveR rows) p).headD 0]
noncomputable def sureR (rows : List (List Int)) : List (List Int) := ((List.range rows.length).filter (sureF rows)).map (sureT rows)
def spSure (K : PySem.W.Frag) (C : Addr) : Sp := fun vs H Q _ => ∃ (x : V) (rows : List (List Int)), vs = [x] ∧ TableAt K C H x rows ∧ Good rows ∧ rows.length ≤ 40 ∧ (∃ D, Mt.Ds rows D) ∧
  ∀ l ws H', Same H H' → H l = none → H' l = some (.lst ws) → RowsT K H' ws (sureR rows) → Q (.ref l) H'
end
end Fo

set_option maxRecDepth 100000
set_option maxHeartbeats 4000000
/-! d.update(a dict); sorted(a list of lists of ints). -/
namespace Fo
open PySem PySem.Spec PyProof.Rows L2
section
variable {X : Cx}
def rDUpd : V → List V → Hp → VK → Prop := fun x vs H Q => ∃ (d o : Addr) (kvs more : List (Key × V)), x = .ref d ∧ vs = [.ref o] ∧ d ≠ o ∧ H d = some (.dK kvs) ∧ H o = some (.dK more) ∧ kvs.length + more.length ≤ sizeLine ∧ Q .non (upd H d (.dK (mergeK kvs more)))
theorem mtd_update : MtR X "dict.update" rDUpd := by
  intro pins s σ H x vs v us Q I rx rv h
  obtain ⟨d, o, kvs, more, rfl, rfl, ne, e, eo, hl, q⟩ := h
  obtain rfl : v = Value.ref d := rx
  obtain ⟨u, rfl, ru⟩ := rv.one
  obtain rfl : u = Value.ref o := ru
  obtain ⟨z1, hd1, vs1, rel1, dd1⟩ := dk_of I.hok e
  obtain ⟨z2, hd2, vs2, rel2, dd2⟩ := dk_of I.hok eo
  refine call_meetsIn PySem.F.slot_dict_update dd1.typeIs PySem.F.entry_dict_update (PySem.F.args_dict_update_2 _ _) (meets_dict_update (mixKind X.prog X.w) d o ne hd2) ⟨vs1, vs2, dd1, dd2, by rw [← rel1.length, ← rel2.length]; exact hl, fun h' d1 d2 hs => ?_⟩
  have he : ∃ q, h'.get? d = some q := let ⟨q, _, _, hq, _⟩ := d1; ⟨q, hq⟩
  have hz : (mergeK kvs more).length ≤ sizeLine := Nat.le_trans (length_mergeK more kvs) hl
  exact ⟨.non, _, d_write (t' := s.toks) I (by rw [e]; exact True.intro) hs he (dk_new hz hd1 (rel2.merge rel1) d1), rfl, q⟩
theorem pe_dupdate {o e : Expr} {to : TE} {t : TA} {es : List Expr} {apos cpos : Pos} (ho : PE X o to) (ha : PA X (e :: es) t)
    (hbase : attributeBase o "update" X.env (eval o X.env) = eval o X.env := by rfl)
    (hfew : ((backTo cpos (starEach (e :: es) X.env)).all (fun x => !x.1) && (backToKw cpos (keywordEach [] X.env)).all (fun x => x.1.isSome)
      && decide ((e :: es).length + ([] : List Keyword).length + (if ([] : List Keyword).isEmpty then 0 else 1) < 30)) = true := by rfl)
    (hline : (apos.endLine == cpos.line) = true := by rfl) (hs : starEach (e :: es) X.env = (false, eval e X.env) :: starEach es X.env := by rfl) (hplain : (backTo cpos (starEach es X.env)).any (·.1) = false := by rfl) :
    PE X (.Call (.Attribute o "update" apos) (e :: es) [] cpos) (tBM X.K "dict" rDUpd to t) :=
  pe_bm PySem.F.plainAttrs_dict PySem.F.slot_dict_update PySem.F.type_dict_update mtd_update ho ha hbase hfew hline hs hplain
/-! sorted of a list of lists -/
def rSortedLL (K : PySem.W.Frag) : List V → Hp → VK → Prop := fun vs H Q => ∃ (a : Addr) (bs : List (Addr × List Int)), vs = [V.ref a] ∧ SqL K H a (bs.map fun b => V.ref b.1) ∧ (∀ b ∈ bs, SqL K H b.1 (b.2.map V.int)) ∧
  ∀ (os : List (Addr × List Int)) p, os.Perm bs → (os.map fun b => b.2).Pairwise (· ≤ ·) → H p = none → Q (.ref p) (upd H p (.lst (os.map fun b => V.ref b.1)))
theorem refs_of {bs : List (Addr × List Int)} {its : List Value} (h : Vals (bs.map fun b => V.ref b.1) its) : its = bs.map fun b => Value.ref b.1 := by
  induction bs generalizing its with
  | nil => cases h; rfl
  | cons b bs ih =>
    cases h with
    | cons r t =>
      rw [ih t, show _ = Value.ref b.1 from r]
      rfl
theorem refs_to : ∀ bs : List (Addr × List Int), Vals (bs.map fun b => V.ref b.1) (bs.map fun b => Value.ref b.1)
  | [] => .nil
  | b :: bs => .cons rfl (refs_to bs)
theorem each_refs : ∀ bs : List (Addr × List Int), PySem.W.EachIs (fun v (b : Addr × List Int) => v = Value.ref b.1) (bs.map fun b => Value.ref b.1) bs
  | [] => .nil
  | b :: bs => .cons rfl (each_refs bs)
theorem each_back {bs : List (Addr × List Int)} {out : List Value} (h : PySem.W.EachIs (fun v (b : Addr × List Int) => v = Value.ref b.1) out bs) : out = bs.map fun b => Value.ref b.1 := by
  induction h with
  | nil => rfl
  | cons h _ ih => rw [ih, h]; rfl
theorem each_of {R : Value → (Addr × List Int) → Prop} : ∀ {bs : List (Addr × List Int)}, (∀ b ∈ bs, R (Value.ref b.1) b) → PySem.W.EachIs R (bs.map fun b => Value.ref b.1) bs
  | [], _ => .nil
  | b :: bs, h => .cons (h b List.mem_cons_self) (each_of fun c hc => h c (List.mem_cons_of_mem _ hc))
theorem cr_sortedLL (hu : X.A.units + 64 < cLine) : CallR X (.builtin "sorted") (rSortedLL X.K) := by
  intro pins s σ H vs us Q I r h
  obtain ⟨a, bs, rfl, hs, hb, q⟩ := h
  obtain ⟨its, rv, hl, hz⟩ := I.list hs
  obtain ⟨u, rfl, ru⟩ := r.one
  obtain rfl : u = Value.ref a := ru
  have ei := refs_of rv
  subst ei
  have bl : bs.length ≤ sizeLine := by
    have := hz
    simpa using this
  refine PySem.W.sorted_data (R := fun v (b : Addr × List Int) => v = Value.ref b.1) (enc := fun b => .list (b.2.map .int)) hl.isList (each_refs bs) (each_of fun b hm => ?_) (PySem.W.AllAlike.of fun b b' => ?_) (PySem.W.Sortable.others fun b => ⟨fun z => (by cases z), fun xs z => (by cases z)⟩) bl (fun b _ => ?_) fun out ho eo => ?_
  · exact Dp.reads I (.list (b.2.map .int)) (V.ref b.1) (Value.ref b.1) (.lst (hb b hm) (dpAll_ints _)) rfl
  · exact PySem.W.alike_ints _ _
  · show X.A.units + 2 + (PyData.list (b.2.map .int)).depth < cLine
    rw [PyData.depth, PySem.W.depth_ints]
    omega
  · obtain ⟨n, hn⟩ := sortedAll_at s.heap (bs.map fun b => Value.ref b.1) out.toArray
    rw [PySem.W.dataLe_rows] at eo
    have eo' := each_back eo
    have pm := List.mergeSort_perm bs fun p q => decide (p.2 ≤ q.2)
    have hf := I.hok.fresh (Nat.le_succ s.heap.objs.size)
    refine ⟨.ref (s.heap.objs.size + 1), _, I.laid (t' := s.toks) (o := .lst ((bs.mergeSort fun p q => decide (p.2 ≤ q.2)).map fun b => V.ref b.1)) (fun b o e => sortedAll_old e) (Nat.le_succ _) ⟨?_, out, n, ?_, hn⟩, rfl, q (bs.mergeSort fun p q => decide (p.2 ≤ q.2)) _ pm ?_ hf⟩
    · rw [List.length_map, pm.length_eq]; exact bl
    · rw [eo']
      exact refs_to _
    · rw [List.pairwise_map]
      refine (List.pairwise_mergeSort (fun a b c h1 h2 => ?_) (fun a b => ?_) bs).imp fun h => of_decide_eq_true h
      · exact decide_eq_true (List.le_trans (of_decide_eq_true h1) (of_decide_eq_true h2))
      · by_cases h : a.2 ≤ b.2
        · rw [decide_eq_true h]; rfl
        · rw [decide_eq_true (List.le_of_lt (List.not_le.mp h)), Bool.or_true]
end
section
variable {X : Cx}
/-- name = {k: v for ..} on one line, the name a local -/
theorem ps_setDc {i : Nat} {y : Str} {py : Pos} {kx vx tg iter : Expr} {ifs : List Expr} {scope : Scope} {own : List (Str × Nat)} {pos spos : Pos} {wi : TI} {g : TG} {tt : TT} {tk tv : TE} (hc : X.calm = true) (hN : X.N.Nodup) (hy : X.N[i]? = some y) (hyl : X.env.scope.names.lookup y = some .local)
    (hsw : swapsWith (.DictComp kx vx [⟨tg, iter, ifs, 0⟩] scope pos) (some (.Name y py)) spos.line X.env = pure true) (hi : PI X tg iter wi) (ok : BlkOk X.N X.env.scope scope own)
    (hg : ∀ (s : Shared) (H : Hp) (C : Addr) (cl : List (Str × Addr)) (fp : List Addr), PG (X.blk s H scope (compEnvC scope cl C X.env) fp) tg g) (ht : ∀ (s : Shared) (H : Hp) (C : Addr) (cl : List (Str × Addr)) (fp : List Addr), PTs (X.blk s H scope (compEnvC scope cl C X.env) fp) ifs tt)
    (hk : ∀ (s : Shared) (H : Hp) (C : Addr) (cl : List (Str × Addr)) (fp : List Addr), PE (X.blk s H scope (compEnvC scope cl C X.env) fp) kx tk)
    (he : ∀ (s : Shared) (H : Hp) (C : Addr) (cl : List (Str × Addr)) (fp : List Addr), PE (X.blk s H scope (compEnvC scope cl C X.env) fp) vx tv) (hs : ∀ x, foldedSetIterable iter X.env x = pure x := by intro _; rfl) :
    PS X (.Assign [.Name y py] (.DictComp kx vx [⟨tg, iter, ifs, 0⟩] scope pos) spos) (tAsg (tDc wi g tt tk tv (own.map (·.2))) (gName i)) := by
  refine ⟨fun pins s σ H D I h => ?_⟩
  rw [exec_Assign_Name_used _ _ _ _ hsw]
  refine wpAny_bind (wpAny_standAt (wpAny_bind ?_))
  show wpAny _ X.A (do let _ ← comprehension (.DictComp kx vx [⟨tg, iter, ifs, 0⟩] scope pos) scope X.env (firstIterPos [⟨tg, iter, ifs, 0⟩] pos) newDict false (eval iter X.env) (some (assign (.Name y py) X.env))) _ _ s
  have h : tDc wi g tt tk tv (own.map (·.2)) σ H (fun x H1 => gName i x σ H1 D.nx) := h
  refine wpAny_bind (thn (dc_core (Qf := fun _ s' => SP X pins D .next s') hc hN I hi ok hg ht hk he hs h fun L C s' m H' I' q hn f => ?_) fun _ s' hq => wpAny_pure (wpAny_pure hq))
  show wpAny _ _ (assign (.Name y py) X.env (.ref L)) _ _ _
  refine wpAny_assign_Name (store_ok2 (v := V.ref L) I' hN hy (.inl hyl) rfl (fun s2 I2 ⟨a, sb, ha⟩ => ?_) (.inr hyl))
  obtain ⟨f0, f1, f2, f3, f4, f5⟩ := f
  have haC : C ≠ a := by
    rcases ha with z | z
    · rw [z]; exact f1
    · exact fun e => f4 y a z e.symm
  refine ⟨m, hn.sameBut sb haC, fun h3 sb3 => ?_⟩
  exact ⟨_, H', I2.turned (t' := s2.toks) (fun b o hb e => (sb3.2 b hb).trans e) f0 f1 f3 f4 f5, q⟩
theorem swD_true {kx vx : Expr} {gs : List Comprehension} {scope : Scope} {pos py : Pos} {y : Str} {l : Nat} {env : Env} (hk : env.scope.kind = .function) (hy : env.scope.names.lookup y = some .local) (hl : (py.line == pos.line) = true)
    (ha : (scope.names.any fun (n, k) => n == y && (k == .local || k == .cell)) = false) : swapsWith (.DictComp kx vx gs scope pos) (some (.Name y py)) l env = pure true := by
  have ky : env.kindOf y = some .local := hy
  have hb : env.blockKind = .function := by unfold Env.blockKind; rw [hk]; rfl
  unfold swapsWith
  simp only [hb, ky, ha, Expr.pos, hl]
  rfl
end
end Fo

set_option maxRecDepth 100000
set_option maxHeartbeats 4000000
namespace Fo
open PySem PySem.Spec PyProof.Rows L2
abbrev s_groups : Stmt := top 19
abbrev n_groups : List Str := ["rows", "found", "person", "row", "people", "things", "apart", "others", "known", "thing", "lot", "_"]
theorem sc_groups : FnScope n_groups ["rows"] (defScope s_groups) := ⟨rfl, rfl, rfl, by decide +kernel, rfl, by decide +kernel, by decide +kernel⟩
/-- a dict of ints as a set -/
def SD (kvs : List (Key × V)) (P : Int → Prop) : Prop := ∀ t : Int, (valV kvs (.inl t)).isSome = true ↔ P t
theorem SD.nil : SD [] fun _ => False := fun t => by
  rw [valV_nil]
  exact ⟨fun h => (by cases h), False.elim⟩
theorem SD.put {kvs : List (Key × V)} {P : Int → Prop} (h : SD kvs P) (t : Int) (v : V) : SD (putK kvs (.inl t) v) fun u => P u ∨ u = t := fun u => by
  rw [valV_put]
  by_cases e : (Sum.inl u : Key) = .inl t
  · rw [if_pos e]
    injection e with e
    exact ⟨fun _ => .inr e, fun _ => rfl⟩
  · rw [if_neg e, h u]
    exact ⟨.inl, fun z => z.elim id fun z => absurd (by rw [z]) e⟩
theorem val_key {kvs : List (Key × V)} {k : Key} : (valV kvs k).isSome = true ↔ ∃ p ∈ kvs, p.1 = k := by
  rw [← valV_any k kvs, List.any_eq_true]
  exact ⟨fun ⟨p, h, e⟩ => ⟨p, h, of_decide_eq_true e⟩, fun ⟨p, h, e⟩ => ⟨p, h, decide_eq_true e⟩⟩
theorem merge_key {k : Key} : ∀ (more kvs : List (Key × V)), (valV (mergeK kvs more) k).isSome = true ↔ (valV kvs k).isSome = true ∨ ∃ p ∈ more, p.1 = k
  | [], kvs => ⟨.inl, fun h => h.elim id fun ⟨p, hp, _⟩ => by cases hp⟩
  | q :: more, kvs => by
    show (valV (mergeK (putK kvs q.1 q.2) more) k).isSome = true ↔ _
    rw [merge_key more, valV_put]
    by_cases e : k = q.1
    · rw [if_pos e]
      exact ⟨fun _ => .inr ⟨q, List.mem_cons_self, e.symm⟩, fun _ => .inl rfl⟩
    · rw [if_neg e]
      refine or_congr_right ⟨fun ⟨p, hp, h⟩ => ⟨p, List.mem_cons_of_mem _ hp, h⟩, fun ⟨p, hp, h⟩ => ?_⟩
      rcases List.mem_cons.mp hp with rfl | hp
      · exact absurd h.symm e
      · exact ⟨p, hp, h⟩
theorem SD.merge {kvs more : List (Key × V)} {P Q : Int → Prop} (h : SD kvs P) (h2 : SD more Q) : SD (mergeK kvs more) fun t => P t ∨ Q t := fun t => by
  rw [merge_key, h t, ← val_key, h2 t]
theorem SD.congr {kvs : List (Key × V)} {P Q : Int → Prop} (h : SD kvs P) (e : ∀ t, P t ↔ Q t) : SD kvs Q := fun t => (h t).trans (e t)
/-- somebody of them may get it -/
def GetsP (rows : List (List Int)) (g : List Nat) (t : Int) : Prop := ∃ p ∈ g, t ∈ Mt.row rows p
/-- what is found so far: pairs of people and of the dict of their things; the pairs stand in H, the rest in H0 -/
inductive FR (rows : List (List Int)) (H H0 : Hp) : List V → List (List Nat) → Prop
  | nil : FR rows H H0 [] []
  | cons {c L D : Addr} {kvs : List (Key × V)} {vs : List V} {g : List Nat} {F : List (List Nat)} : H c = some (.tup [.ref L, .ref D]) → H0 L = some (.lst (g.map nV)) → H0 D = some (.dK kvs) → SD kvs (GetsP rows g) → kvs.length ≤ 40 * g.length → FR rows H H0 vs F → FR rows H H0 (.ref c :: vs) (g :: F)
theorem FR.len {rows : List (List Int)} {H H0 : Hp} : ∀ {vs : List V} {F : List (List Nat)}, FR rows H H0 vs F → vs.length = F.length
  | _, _, .nil => rfl
  | _, _, .cons _ _ _ _ _ r => congrArg (· + 1) r.len
theorem FR.same {rows : List (List Int)} {H H' H0 H0' : Hp} (e : Same H H') (e0 : Same H0 H0') : ∀ {vs : List V} {F : List (List Nat)}, FR rows H H0 vs F → FR rows H' H0' vs F
  | _, _, .nil => .nil
  | _, _, .cons a b c d l r => .cons (e _ _ a) (e0 _ _ b) (e0 _ _ c) d l (r.same e e0)
theorem FR.put {rows : List (List Int)} {H H0 : Hp} {f : Addr} {o o' : HO} (h : H f = some o) (n : ∀ xs, o ≠ .tup xs) : ∀ {vs : List V} {F : List (List Nat)}, FR rows H H0 vs F → FR rows (upd H f o') H0 vs F
  | _, _, .nil => .nil
  | _, _, .cons a b c d l r => .cons (by rw [upd_ne (ne_of a h fun z => n _ z.symm)]; exact a) b c d l (r.put h n)
theorem FR.snoc {rows : List (List Int)} {H H0 : Hp} {c L D : Addr} {kvs : List (Key × V)} {g : List Nat} (a : H c = some (.tup [.ref L, .ref D])) (b : H0 L = some (.lst (g.map nV))) (d : H0 D = some (.dK kvs)) (s : SD kvs (GetsP rows g)) (l : kvs.length ≤ 40 * g.length) : ∀ {vs : List V} {F : List (List Nat)}, FR rows H H0 vs F → FR rows H H0 (vs ++ [.ref c]) (F ++ [g])
  | _, _, .nil => .cons a b d s l .nil
  | _, _, .cons a1 b1 c1 d1 l1 r => .cons a1 b1 c1 d1 l1 (r.snoc a b d s l)
theorem FR.get {rows : List (List Int)} {H H0 : Hp} : ∀ {vs : List V} {F : List (List Nat)} {i : Nat} {g : List Nat}, FR rows H H0 vs F → F[i]? = some g → ∃ c L D kvs, vs[i]? = some (.ref c) ∧ H c = some (.tup [.ref L, .ref D]) ∧ H0 L = some (.lst (g.map nV)) ∧ H0 D = some (.dK kvs) ∧ SD kvs (GetsP rows g) ∧ kvs.length ≤ 40 * g.length
  | _, _, _, _, .nil, h => by cases h
  | _, _, 0, _, .cons a b c d l _, h => by cases Option.some.inj h; exact ⟨_, _, _, _, rfl, a, b, c, d, l⟩
  | _, _, i + 1, _, .cons _ _ _ _ _ r, h => r.get (i := i) h
open Classical in
noncomputable def hitC (rows : List (List Int)) (i : Nat) (g : List Nat) : Bool := decide (∃ p ∈ g, Mt.Tied rows i p)
open Classical in
theorem hitC_iff {rows : List (List Int)} {i : Nat} {g : List Nat} : hitC rows i g = true ↔ ∃ p ∈ g, Mt.Tied rows i p := by
  unfold hitC
  exact decide_eq_true_iff
/-- the people put in order -/
def srtG (n : Nat) (g : List Nat) : List Nat := (List.range n).filter fun p => decide (p ∈ g)
theorem srtG_mem {n : Nat} {g : List Nat} (h : ∀ p ∈ g, p < n) (p : Nat) : p ∈ srtG n g ↔ p ∈ g := by
  unfold srtG
  rw [List.mem_filter, List.mem_range, decide_eq_true_iff]
  exact ⟨fun z => z.2, fun z => ⟨h p z, z⟩⟩
theorem srtG_asc {n : Nat} {g : List Nat} : (srtG n g).Pairwise (· < ·) := List.Pairwise.filter _ List.pairwise_lt_range
theorem srtG_perm {n : Nat} {g : List Nat} (nd : g.Nodup) (h : ∀ p ∈ g, p < n) : (srtG n g).Perm g :=
  (List.perm_ext_iff_of_nodup (srtG_asc.imp fun {a b} z => Nat.ne_of_lt z) nd).mpr fun p => srtG_mem h p
/-- sorted(g) as ints -/
theorem srtG_ints {n : Nat} {g : List Nat} (nd : g.Nodup) (h : ∀ p ∈ g, p < n) {ns : List Int} (pm : ns.Perm (g.map fun (p : Nat) => (p : Int))) (up : ns.Pairwise (· ≤ ·)) : ns = (srtG n g).map fun (p : Nat) => (p : Int) := by
  have ndI : (g.map fun (p : Nat) => (p : Int)).Nodup := Mt.nodup_map nd fun x _ y _ e => by omega
  refine asc_ext (asc_of pm up ndI) (List.pairwise_map.mpr (srtG_asc.imp fun h => by omega)) fun x => ?_
  rw [pm.mem_iff, List.mem_map, List.mem_map]
  exact ⟨fun ⟨p, hp, e⟩ => ⟨p, (srtG_mem h p).mpr hp, e⟩, fun ⟨p, hp, e⟩ => ⟨p, (srtG_mem h p).mp hp, e⟩⟩
theorem any_hit {rows : List (List Int)} {i : Nat} {r : List Int} (hr : rows[i]? = some r) {g : List Nat} {kvs : List (Key × V)} (h : SD kvs (GetsP rows g)) : ((r.map fun t : Int => (valV kvs (.inl t)).isSome).any id) = hitC rows i g := by
  rw [Bool.eq_iff_iff, hitC_iff, List.any_eq_true]
  constructor
  · rintro ⟨b, hb, e⟩
    obtain ⟨t, ht, rfl⟩ := List.mem_map.mp hb
    obtain ⟨p, hp, h2⟩ := (h t).mp e
    exact ⟨p, hp, t, by rw [Mt.row_get hr]; exact ht, h2⟩
  · rintro ⟨p, hp, t, h1, h2⟩
    rw [Mt.row_get hr] at h1
    exact ⟨_, List.mem_map.mpr ⟨t, h1, rfl⟩, (h t).mpr ⟨p, hp, h2⟩⟩
theorem filt_hit {rows : List (List Int)} {i j : Nat} {F : List (List Nat)} {g : List Nat} (h : F[j]? = some g) (p : List Nat → Bool) : (F.take (j + 1)).filter p = (F.take j).filter p ++ if p g = true then [g] else [] := by
  rw [List.take_add_one, h, List.filter_append]
  show _ ++ [g].filter p = _
  by_cases c : p g = true
  · rw [List.filter_cons_of_pos c, if_pos c]; rfl
  · rw [List.filter_cons_of_neg c, if_neg c]; rfl
theorem sub_flat {a b : List (List Nat)} (h : a.Sublist b) : a.flatten.length ≤ b.flatten.length := by
  induction h with
  | slnil => exact Nat.le_refl _
  | cons x _ ih => rw [List.flatten_cons, List.length_append]; omega
  | cons_cons x _ ih => rw [List.flatten_cons, List.flatten_cons, List.length_append, List.length_append]; omega
theorem part_len {rows : List (List Int)} {i : Nat} {F : List (List Nat)} (h : Mt.Parts rows i F) (j : Nat) (p : List Nat → Bool) : (((F.take j).filter p).flatten).length ≤ i := by
  have s1 : ((F.take j).filter p).Sublist F := List.filter_sublist.trans (List.take_sublist j F)
  have := sub_flat s1
  rw [h.perm.length_eq, List.length_range] at this
  exact this
theorem part_num {rows : List (List Int)} {i : Nat} {F : List (List Nat)} (h : Mt.Parts rows i F) : F.length ≤ i := by
  have : ∀ F : List (List Nat), (∀ g ∈ F, g ≠ []) → F.length ≤ F.flatten.length := fun F => by
    induction F with
    | nil => exact fun _ => Nat.le_refl _
    | cons g F ih =>
      intro hn
      have h1 := ih fun c hc => hn c (List.mem_cons_of_mem _ hc)
      have h2 := List.length_pos_iff.mpr (hn g List.mem_cons_self)
      rw [List.length_cons, List.flatten_cons, List.length_append]
      omega
  have := this F h.ne
  rw [h.perm.length_eq, List.length_range] at this
  exact this
section
variable {P : Program} {w : World} {K : PySem.W.Frag} {mg : Str → Option Value} {base : Heap} {C : Addr}
def natI (g : List Nat) : List Int := g.map fun (p : Nat) => (p : Int)
theorem dc_list {a : Addr} {xs : List V} {g : TG} {tt : TT} {tk tv : TE} {vs : List Nat} {σ : L2.St} {H1 : Hp} {D : Addr} {Qd : Hp → Prop} (Pv : Nat → Hp → Prop) (h0 : Pv 0 (upd H1 D (.dK []))) (hl : ∀ i H, i ≤ xs.length → Pv i H → SqL K H a xs)
    (hs : ∀ i x H, xs[i]? = some x → Pv i H → g x (wipe σ vs) H fun σ2 H2 => wipe σ2 vs = wipe σ vs ∧ tt σ2 H2 fun b H3 =>
      if b = true then tk σ2 H3 fun y H4 => tv σ2 H4 fun z H5 => ∃ kvs k, y = kV k ∧ H5 D = some (.dK kvs) ∧ kvs.length < sizeLine ∧ Pv (i + 1) (upd H5 D (.dK (putK kvs k z))) else Pv (i + 1) H3) (hd : ∀ H, Pv xs.length H → Qd H) :
    ∃ W : Nat → Nat → Hp → Prop, (∃ m, W 0 m (upd H1 D (.dK []))) ∧ ∀ i m H, W i m H →
      ((Itl K a).stop i H ∧ Qd H) ∨ ((Itl K a).go i H ∧ ∃ Nx : Hp → Prop, (∀ H', Nx H' → ∃ m', m' < m ∧ W (i + 1) m' H') ∧ ∀ x H', (Itl K a).yld i H x H' → g x (wipe σ vs) H' fun σ2 H2 => wipe σ2 vs = wipe σ vs ∧ tt σ2 H2 fun b H3 =>
        if b = true then tk σ2 H3 fun y H4 => tv σ2 H4 fun z H5 => ∃ kvs k, y = kV k ∧ H5 D = some (.dK kvs) ∧ kvs.length < sizeLine ∧ Nx (upd H5 D (.dK (putK kvs k z))) else Nx H3) := by
  refine ⟨fun i m H => m = xs.length - i ∧ i ≤ xs.length ∧ Pv i H, ⟨xs.length, by simp, Nat.zero_le _, h0⟩, ?_⟩
  rintro i m H ⟨rfl, hi, p⟩
  have q := hl i H hi p
  by_cases hlt : i < xs.length
  · refine .inr ⟨⟨xs, xs[i], q, by simp [hlt]⟩, Pv (i + 1), fun H' p' => ⟨xs.length - (i + 1), by omega, rfl, hlt, p'⟩, fun x H' y => ?_⟩
    obtain ⟨e, y⟩ := y
    subst e
    exact hs i x _ (y xs q) p
  · have e : i = xs.length := by omega
    subst e
    exact .inl ⟨⟨xs, q, Nat.le_refl _⟩, hd H p⟩
theorem rowsB_os {H : Hp} : ∀ {os : List (Addr × List Int)}, (∀ b ∈ os, H b.1 = some (.lst (b.2.map V.int))) → RowsB true K H (os.map fun b => V.ref b.1) (os.map fun b => b.2)
  | [], _ => .nil
  | b :: os, h => .cons (SqL.of (h b List.mem_cons_self)) (rowsB_os fun c hc => h c (List.mem_cons_of_mem _ hc))
def spGroups (K : PySem.W.Frag) : Sp := fun vs H Q _ => ∃ (rv : V) (rows : List (List Int)), vs = [rv] ∧ RowsQ true K H rv rows ∧ rows.length ≤ 40 ∧ (∀ r ∈ rows, r.length ≤ 40) ∧
  ∀ (G : List (List Nat)) l H', Mt.Groups rows G → (G.map natI).Pairwise (· ≤ ·) → Same H H' → H l = none → RowsQ true K H' (.ref l) (G.map natI) → Q (.ref l) H'
theorem ok_groups (A : At K mg "groups" s_groups ["rows"]) (T : Tx mg) (Tan : mg "any" = none) : Dfn P w K mg base "groups" ["rows"] 1 (spGroups K) := by
  refine A.ok sc_groups (fun vs H Q E h => ?_) (fun f cdv A outer s H vs Q E hr h => ?_)
  · obtain ⟨rv, rows, rfl, _⟩ := h
    rfl
  · obtain ⟨rv, rows, rfl, ⟨ra, rvs, rfl, hra, hrb⟩, hn, hl, k⟩ := h
    have rvl := hrb.len
    refine ⟨_, (pss_cons (ps_set (i := 1) sc_groups.nd rfl (Or.inl rfl) (pe_lst pa_nil))
      (pss_cons (ps_for PassesOwn.never rfl (pi_enum (by rfl) T.enumerate (pa_cons (pv 0) pa_nil)) (pg_tup rfl (pgs_cons (pg_name (i := 2) sc_groups.nd rfl (Or.inl rfl)) (pgs_cons (pg_name (i := 3) sc_groups.nd rfl (Or.inl rfl)) pgs_nil)))
      (pss_cons (ps_set (i := 4) sc_groups.nd rfl (Or.inl rfl) (pe_lst (pa_cons (pv 2) pa_nil)))
      (pss_cons (ps_setDc (i := 5) (own := [("thing", 9)]) (g := (gName 9)) (tt := tYes) (tk := (tVar 9)) (tv := (tC (V.bl true))) (by rfl) sc_groups.nd rfl rfl (swD_true rfl rfl rfl (by decide +kernel)) (pi_list (pv 3)) (blkOk_by (own := [("thing", 9)]) (N := n_groups) (sc := (defScope s_groups)) (by decide +kernel)) (fun _ _ _ _ _ => (pg_name (i := 9) sc_groups.nd rfl (Or.inl rfl))) (fun _ _ _ _ _ => pts_nil) (fun _ _ _ _ _ => (pv 9)) (fun _ _ _ _ _ => pe_bl))
      (pss_cons (ps_set (i := 6) sc_groups.nd rfl (Or.inl rfl) (pe_lst pa_nil))
      (pss_cons (ps_for PassesOwn.never rfl (pi_list (pv 1)) (pg_tup rfl (pgs_cons (pg_name (i := 7) sc_groups.nd rfl (Or.inl rfl)) (pgs_cons (pg_name (i := 8) sc_groups.nd rfl (Or.inr rfl)) pgs_nil)))
      (pss_one (ps_if (pt_val (pe_callB (cr_any rfl) (by rfl) Tan (by decide +kernel) (pa_cons (pe_lc (own := [("thing", 9)]) (g := (gName 9)) (tt := tYes) (te := (tDIn (tVar 9) (tVar 8))) (by rfl) sc_groups.nd (pi_list (pv 3)) (blkOk_by (own := [("thing", 9)]) (N := n_groups) (sc := (defScope s_groups)) (by decide +kernel)) (fun _ _ _ _ _ => (pg_name (i := 9) sc_groups.nd rfl (Or.inl rfl))) (fun _ _ _ _ _ => pts_nil) (fun _ _ _ _ _ => (pe_cmp (pc_din (hu_of hr) (pv 9) (pv 8))))) pa_nil))) (pss_cons (ps_expr (pe_bm PySem.F.plainAttrs_list PySem.F.slot_list_extend PySem.F.type_list_extend mt_extend (pv 4) (pa_cons (pv 7) pa_nil)))
      (pss_one (ps_expr (pe_dupdate (pv 5) (pa_cons (pv 8) pa_nil))))) (pss_one (ps_expr (pe_bm PySem.F.plainAttrs_list PySem.F.slot_list_append PySem.F.type_list_append mt_append (pv 6) (pa_cons (pe_tup (pa_cons (pv 7) (pa_cons (pv 8) pa_nil))) pa_nil)))))))
      (pss_cons (ps_expr (pe_bm PySem.F.plainAttrs_list PySem.F.slot_list_append PySem.F.type_list_append mt_append (pv 6) (pa_cons (pe_tup (pa_cons (pv 4) (pa_cons (pv 5) pa_nil))) pa_nil)))
      (pss_one (ps_set (i := 1) sc_groups.nd rfl (Or.inl rfl) (pv 6)))))))))
      (pss_one (ps_ret (pe_callB (cr_sortedLL hr.units) (by rfl) T.sorted (by decide +kernel) (pa_cons (pe_lc (own := [("lot", 10), ("_", 11)]) (g := (gTup K 2 (gCons (gName 10) (gCons (gName 11) gNil)))) (tt := tYes) (te := (tCB (rSortedI K) (tCons (tVar 10) tNil))) (by rfl) sc_groups.nd (pi_list (pv 1)) (blkOk_by (own := [("lot", 10), ("_", 11)]) (N := n_groups) (sc := (defScope s_groups)) (by decide +kernel)) (fun _ _ _ _ _ => (pg_tup rfl (pgs_cons (pg_name (i := 10) sc_groups.nd rfl (Or.inl rfl)) (pgs_cons (pg_name (i := 11) sc_groups.nd rfl (Or.inl rfl)) pgs_nil)))) (fun _ _ _ _ _ => pts_nil) (fun _ _ _ _ _ => (pe_callB cr_sortedI (by rfl) T.sorted (by decide +kernel) (pa_cons (pv 10) pa_nil)))) pa_nil)))))), ?_⟩
    refine ⟨by show 0 ≤ sizeLine; decide, fun f0 hf0 => ?_⟩
    refine ⟨_, rfl, ra, rvs, rfl, Sq.same (b := true) hra (same_new hf0), for_enumL (xs := rvs) (fun i σ' H' => ∃ x2 x3 x4 x5 x6 x7 x8 x9 x10 x11 f us F, σ' = [some (.ref ra), some (.ref f), x2, x3, x4, x5, x6, x7, x8, x9, x10, x11] ∧ H' f = some (.lst us) ∧ H f = none ∧ FR rows H' H' us F ∧ Mt.Parts rows i F ∧ Same H H') ⟨_, _, _, _, _, _, _, _, _, _, f0, [], [], rfl, upd_same, hf0, .nil, .init, same_new hf0⟩ (fun i σ' H' _ hp => by obtain ⟨_, _, _, _, _, _, _, _, _, _, _, _, _, _, _, _, _, _, s1⟩ := hp; exact Sq.same (b := true) hra s1) ?_ ?_⟩
    · rintro i x σ' H1 T' hx ⟨x2, x3, x4, x5, x6, x7, x8, x9, x10, x11, f, us, F, rfl, hf, ff, hFR, hP, s1⟩ hT
      obtain ⟨a, r, rfl, hri, hqa⟩ := hrb.get hx
      have ir : i < rows.length := (List.getElem?_eq_some_iff.mp hri).1
      have rl := hl r (List.mem_of_getElem? hri)
      have er := Mt.row_get hri
      have F0 : H1 T' = none := hT
      refine ⟨T', _, rfl, SqT.of upd_same, rfl, _, _, rfl, _, _, rfl, rfl, ?_⟩
      refine ⟨_, rfl, by show 1 ≤ sizeLine; decide, fun L0 hL0 => ?_⟩
      have sT : Same H1 (upd H1 T' (.tup [.int (i : Nat), .ref a])) := same_new hT
      have sL : Same H1 (upd (upd H1 T' (.tup [.int (i : Nat), .ref a])) L0 (.lst [.int (i : Nat)])) := sT.trans (same_new hL0)
      have fL0 : H1 L0 = none := sT.free hL0
      refine ⟨_, rfl, a, rfl, ⟨_, Sq.same (b := true) hqa (s1.trans sL)⟩, fun D0 hD0 => ?_⟩
      have fD0 : H1 D0 = none := sL.free hD0
      refine dc_list (xs := r.map V.int) (fun j H' => ∃ kvs, H' D0 = some (.dK kvs) ∧ SD kvs (fun t => t ∈ r.take j) ∧ kvs.length ≤ j ∧ Same (upd (upd H1 T' (.tup [.int (i : Nat), .ref a])) L0 (.lst [.int (i : Nat)])) H') ⟨[], upd_same, SD.nil.congr fun t => ⟨False.elim, fun h => (by cases h)⟩, Nat.le_refl _, same_new hD0⟩ (fun j H' _ hp => by obtain ⟨_, _, _, _, s2⟩ := hp; exact Sq.same (b := true) hqa ((s1.trans sL).trans s2)) ?_ ?_
      · rintro j y H2 hy ⟨kvs, h2, sd, kl, s2⟩
        obtain ⟨t, ht, rfl⟩ : ∃ t, r[j]? = some t ∧ y = V.int t := by
          rw [List.getElem?_map] at hy
          cases e : r[j]? with
          | none => rw [e] at hy; cases hy
          | some u => rw [e] at hy; exact ⟨u, rfl, (Option.some.inj hy).symm⟩
        have jl : j < r.length := (List.getElem?_eq_some_iff.mp ht).1
        refine ⟨rfl, _, rfl, kvs, .inl t, rfl, h2, small_lt (by omega), _, upd_same, (sd.put t _).congr fun u => ?_, ?_, same_mut s2 hD0⟩
        · rw [List.take_add_one, ht, List.mem_append]
          exact or_congr_right List.mem_singleton.symm
        · have := length_putK kvs (.inl t) (.bl true)
          omega
      · rintro H2 ⟨kvs0, h2, sd0, kl0, s2⟩
        rw [List.length_map] at kl0
        rw [List.length_map, List.take_length] at sd0
        have s12 : Same H1 H2 := sL.trans s2
        have hL2 : H2 L0 = some (.lst [.int (i : Nat)]) := s2 _ _ upd_same
        refine ⟨by show 0 ≤ sizeLine; decide, fun A0 hA0 => ?_⟩
        have fA0 : H1 A0 = none := s12.free hA0
        have nLA : L0 ≠ A0 := ne_of_none hL2 hA0
        have nDA : D0 ≠ A0 := ne_of_none h2 hA0
        have nLD : L0 ≠ D0 := fun e => by rw [e, h2] at hL2; cases hL2
        have s13 : Same H1 (upd H2 A0 (.lst [])) := s12.trans (same_new hA0)
        have ul := hFR.len
        have num := part_num hP
        refine ⟨_, rfl, f, rfl, ⟨us, SqL.of (s13 _ _ hf)⟩, ?_⟩
        refine for_list (xs := us) (fun j σ' H' => ∃ x7 x8 kvs ws, σ' = [some (.ref ra), some (.ref f), some (.int (i : Nat)), some (.ref a), some (.ref L0), some (.ref D0), some (.ref A0), x7, x8, x9, x10, x11] ∧ H' L0 = some (.lst ((i :: ((F.take j).filter (hitC rows i)).flatten).map nV)) ∧ H' D0 = some (.dK kvs) ∧ SD kvs (GetsP rows (i :: ((F.take j).filter (hitC rows i)).flatten)) ∧ kvs.length ≤ 40 * (i :: ((F.take j).filter (hitC rows i)).flatten).length ∧ H' A0 = some (.lst ws) ∧ FR rows H' H1 ws ((F.take j).filter fun g => !hitC rows i g) ∧ Same H1 H')
          ⟨_, _, kvs0, [], rfl, by rw [upd_ne nLA]; exact hL2, by rw [upd_ne nDA]; exact h2, sd0.congr fun t => ?_, by show _ ≤ 40 * 1; omega, upd_same, .nil, s13⟩ (fun j σ' H' _ hp => by obtain ⟨_, _, _, _, _, _, _, _, _, _, _, s4⟩ := hp; exact SqL.of (s4 _ _ hf)) ?_ ?_
        · unfold GetsP
          rw [← er]
          exact ⟨fun h => ⟨i, List.mem_cons_self, h⟩, fun ⟨p, hp, h⟩ => by rw [List.mem_singleton.mp hp] at h; exact h⟩
        · rintro j y σ' H3 hy ⟨x7, x8, kvs, ws, rfl, hL3, hD3, sd, kl, hA3, hW, s3⟩
          have jl : j < F.length := by have := (List.getElem?_eq_some_iff.mp hy).1; omega
          have hgj := List.getElem?_eq_getElem jl
          obtain ⟨g, eg⟩ : ∃ g, g = F[j] := ⟨_, rfl⟩
          rw [← eg] at hgj
          obtain ⟨c, L, D, kvs', hc1, hc2, hc3, hc4, sd', kl'⟩ := hFR.get hgj
          rw [hy] at hc1
          have ey : y = .ref c := Option.some.inj hc1
          subst ey
          have pl := part_len hP j (hitC rows i)
          have pl1 := part_len hP (j + 1) (hitC rows i)
          have gl : g.length ≤ i := by
            have h1 : [g].Sublist F := List.singleton_sublist.mpr (List.mem_of_getElem? hgj)
            have := sub_flat h1
            rw [List.flatten_singleton, hP.perm.length_eq, List.length_range] at this
            exact this
          refine ⟨c, _, rfl, SqT.of (s3 _ _ hc2), rfl, _, _, rfl, _, _, rfl, rfl, ?_⟩
          refine ⟨_, rfl, a, rfl, ⟨_, Sq.same (b := true) hqa (s1.trans s3)⟩, fun E hE => ?_⟩
          refine lc_list (xs := r.map V.int) (fun l H' => H' E = some (.lst ((r.take l).map fun t => V.bl (valV kvs' (.inl t)).isSome)) ∧ Same H3 H') ⟨upd_same, same_new hE⟩ (fun l H' _ hp => Sq.same (b := true) hqa ((s1.trans s3).trans hp.2)) ?_ ?_
          · rintro l y H4 hy ⟨h4, s4⟩
            obtain ⟨t, ht, rfl⟩ : ∃ t, r[l]? = some t ∧ y = V.int t := by
              rw [List.getElem?_map] at hy
              cases e : r[l]? with
              | none => rw [e] at hy; cases hy
              | some u => rw [e] at hy; exact ⟨u, rfl, (Option.some.inj hy).symm⟩
            have ll : l < r.length := (List.getElem?_eq_some_iff.mp ht).1
            refine ⟨rfl, _, rfl, _, rfl, D, _, rfl, DGet.k (k := .inl t) ((s3.trans s4) _ _ hc4), _, h4, small_lt (by rw [List.length_map, List.length_take]; omega), ?_, same_mut s4 hE⟩
            rw [upd_same, List.take_add_one, ht, List.map_append]
            rfl
          · rintro H4 ⟨h4, s4⟩
            rw [List.length_map, List.take_length] at h4
            have hbl : (r.map fun t => V.bl (valV kvs' (.inl t)).isSome) = (r.map fun t : Int => (valV kvs' (.inl t)).isSome).map V.bl := by rw [List.map_map]; rfl
            rw [hbl] at h4
            refine ⟨E, _, rfl, SqL.of h4, _, rfl, ?_⟩
            rw [any_hit hri sd']
            have hL4 := s4 _ _ hL3
            have hD4 := s4 _ _ hD3
            have hA4 := s4 _ _ hA3
            have s14 := s3.trans s4
            cases hh : hitC rows i g with
            | true =>
              have e1 : (F.take (j + 1)).filter (hitC rows i) = (F.take j).filter (hitC rows i) ++ [g] := by rw [filt_hit (rows := rows) (i := i) hgj, if_pos hh]
              have e2 : ((F.take (j + 1)).filter fun g => !hitC rows i g) = (F.take j).filter fun g => !hitC rows i g := by rw [filt_hit (rows := rows) (i := i) hgj, if_neg (by rw [hh]; decide), List.append_nil]
              have nLD2 : L0 ≠ D := fun e => by rw [e, hc4] at fL0; cases fL0
              have nDD : D0 ≠ D := fun e => by rw [e, hc4] at fD0; cases fD0
              refine ⟨_, rfl, .inl ⟨rfl, _, SqL.of hL4⟩, _, rfl, L0, L, _, _, rfl, rfl, hL4, s14 _ _ hc3, by rw [List.length_map, List.length_map, List.length_cons]; exact small_le (by omega), ?_⟩
              refine ⟨_, rfl, .inr (.inr (.inl ⟨rfl, .inl ⟨_, by rw [upd_ne nLD.symm]; exact hD4⟩⟩)), _, rfl, D0, D, kvs, kvs', rfl, rfl, nDD, by rw [upd_ne nLD.symm]; exact hD4, by rw [upd_ne nLD2.symm]; exact s14 _ _ hc4, small_le (by rw [List.length_cons] at kl; omega), ?_⟩
              refine ⟨_, _, _, ws, rfl, ?_, upd_same, ?_, ?_, ?_, ?_, same_mut (same_mut s14 fL0) fD0⟩
              · rw [upd_ne nLD, upd_same, e1, List.flatten_append, List.flatten_singleton, ← List.map_append, List.cons_append]
              · rw [e1]
                refine (sd.merge sd').congr fun t => ?_
                unfold GetsP
                rw [List.flatten_append, List.flatten_singleton]
                constructor
                · rintro (⟨p, hp, h⟩ | ⟨p, hp, h⟩)
                  · rcases List.mem_cons.mp hp with rfl | hp
                    · exact ⟨p, List.mem_cons_self, h⟩
                    · exact ⟨p, List.mem_cons_of_mem _ (List.mem_append_left _ hp), h⟩
                  · exact ⟨p, List.mem_cons_of_mem _ (List.mem_append_right _ hp), h⟩
                · rintro ⟨p, hp, h⟩
                  rcases List.mem_cons.mp hp with rfl | hp
                  · exact .inl ⟨p, List.mem_cons_self, h⟩
                  · rcases List.mem_append.mp hp with hp | hp
                    · exact .inl ⟨p, List.mem_cons_of_mem _ hp, h⟩
                    · exact .inr ⟨p, hp, h⟩
              · have := length_mergeK kvs' kvs
                rw [e1, List.flatten_append, List.flatten_singleton, List.length_cons, List.length_append]
                rw [List.length_cons] at kl
                omega
              · rw [upd_ne nDA.symm, upd_ne nLA.symm]
                exact hA4
              · rw [e2]
                exact ((hW.same s4 (Same.refl _)).put hL4 (fun xs z => by cases z)).put (by rw [upd_ne nLD.symm]; exact hD4) (fun xs z => by cases z)
            | false =>
              have e1 : (F.take (j + 1)).filter (hitC rows i) = (F.take j).filter (hitC rows i) := by rw [filt_hit (rows := rows) (i := i) hgj, if_neg (by rw [hh]; decide), List.append_nil]
              have e2 : ((F.take (j + 1)).filter fun g => !hitC rows i g) = ((F.take j).filter fun g => !hitC rows i g) ++ [g] := by rw [filt_hit (rows := rows) (i := i) hgj, if_pos (by rw [hh]; rfl)]
              refine ⟨_, rfl, .inl ⟨rfl, _, SqL.of hA4⟩, _, rfl, _, rfl, by show 2 ≤ sizeLine; decide, fun c2 hc2' => ?_⟩
              have s5 := same_new (o := .tup [V.ref L, V.ref D]) hc2'
              have hW4 := hW.same s4 (Same.refl H1)
              have wl := hW.len
              have wl2 : ((F.take j).filter fun g => !hitC rows i g).length ≤ F.length := Nat.le_trans (List.length_filter_le _ _) (by rw [List.length_take]; omega)
              refine ⟨A0, ws, _, rfl, rfl, s5 _ _ hA4, small_lt (by omega), ?_⟩
              have nAL : L0 ≠ A0 := nLA
              refine ⟨_, _, kvs, _, rfl, ?_, ?_, ?_, ?_, upd_same, ?_, same_mut (s14.trans s5) fA0⟩
              · rw [upd_ne nLA, e1]
                exact s5 _ _ hL4
              · rw [upd_ne nDA]
                exact s5 _ _ hD4
              · rw [e1]
                exact sd
              · rw [e1]
                exact kl
              · rw [e2]
                refine FR.snoc ?_ hc3 hc4 sd' kl' ((hW4.same s5 (Same.refl _)).put (s5 _ _ hA4) (fun xs z => by cases z))
                have nc : c2 ≠ A0 := fun e => by rw [e, hA4] at hc2'; cases hc2'
                rw [upd_ne nc]
                exact upd_same
        · rintro σ' H3 ⟨x7, x8, kvs, ws, rfl, hL3, hD3, sd, kl, hA3, hW, s3⟩
          rw [ul, List.take_length] at hL3 sd kl hW
          refine ⟨_, rfl, .inl ⟨rfl, _, SqL.of hA3⟩, _, rfl, _, rfl, by show 2 ≤ sizeLine; decide, fun c2 hc2 => ?_⟩
          have s5 := same_new (o := .tup [V.ref L0, V.ref D0]) hc2
          have wl := hW.len
          have wl2 : (F.filter fun g => !hitC rows i g).length ≤ F.length := List.length_filter_le _ _
          refine ⟨A0, ws, _, rfl, rfl, s5 _ _ hA3, small_lt (by omega), ?_⟩
          have s6 : Same H1 (upd (upd H3 c2 (.tup [V.ref L0, V.ref D0])) A0 (.lst (ws ++ [.ref c2]))) := same_mut (s3.trans s5) fA0
          have nc : c2 ≠ A0 := fun e => by rw [e, hA3] at hc2; cases hc2
          refine ⟨_, rfl, _, _, _, _, _, _, _, _, _, _, A0, _, _, rfl, upd_same, s1.free fA0, ?_, hP.step (hit := hitC rows i) fun g _ => hitC_iff, s1.trans s6⟩
          refine FR.snoc (kvs := kvs) (L := L0) (D := D0) ?_ ?_ ?_ sd kl (((hW.same s5 (Same.refl _)).put (s5 _ _ hA3) (fun xs z => by cases z)).same (Same.refl _) s6)
          · rw [upd_ne nc]
            exact upd_same
          · rw [upd_ne nLA]
            exact s5 _ _ hL3
          · rw [upd_ne nDA]
            exact s5 _ _ hD3
    · rintro σ' H1 ⟨x2, x3, x4, x5, x6, x7, x8, x9, x10, x11, f, us, F, rfl, hf, ff, hFR, hP, s1⟩
      rw [rvl] at hP
      have ul := hFR.len
      have num := part_num hP
      have nd : F.flatten.Nodup := hP.perm.symm.nodup List.nodup_range
      have gnd : ∀ g ∈ F, g.Nodup := fun g hg => List.Nodup.sublist (List.sublist_flatten_of_mem hg) nd
      have glt : ∀ g ∈ F, ∀ p ∈ g, p < rows.length := fun g hg p hp => List.mem_range.mp (hP.perm.mem_iff.mp (List.mem_flatten.mpr ⟨g, hg, hp⟩))
      refine ⟨_, rfl, f, rfl, ⟨us, SqL.of hf⟩, fun D hD => ?_⟩
      refine lc_list (xs := us) (fun j H' => ∃ bs : List (Addr × List Int), H' D = some (.lst (bs.map fun b => V.ref b.1)) ∧ (∀ b ∈ bs, H' b.1 = some (.lst (b.2.map V.int)) ∧ b.1 ≠ D) ∧ (bs.map fun b => b.2) = (F.take j).map (fun g => natI (srtG rows.length g)) ∧ Same H1 H') ⟨[], upd_same, fun b hb => (by cases hb), rfl, same_new hD⟩ (fun j H' _ hp => by obtain ⟨_, _, _, _, s2⟩ := hp; exact SqL.of (s2 _ _ hf)) ?_ ?_
      · rintro j y H2 hy ⟨bs, h2, hb, hm, s2⟩
        have jl : j < F.length := by have := (List.getElem?_eq_some_iff.mp hy).1; omega
        have hgj := List.getElem?_eq_getElem jl
        obtain ⟨g, eg⟩ : ∃ g, g = F[j] := ⟨_, rfl⟩
        rw [← eg] at hgj
        have gF := List.mem_of_getElem? hgj
        obtain ⟨c, L, D', kvs', hc1, hc2, hc3, hc4, sd', kl'⟩ := hFR.get hgj
        rw [hy] at hc1
        have ey : y = .ref c := Option.some.inj hc1
        subst ey
        have bl : bs.length ≤ F.length := by
          have := congrArg List.length hm
          rw [List.length_map, List.length_map, List.length_take] at this
          omega
        have hL2 : H2 L = some (.lst ((natI g).map V.int)) := by
          have := s2 _ _ hc3
          rw [this]
          unfold natI
          rw [List.map_map]
          rfl
        refine ⟨c, _, rfl, SqT.of (s2 _ _ hc2), rfl, _, _, rfl, _, _, rfl, rfl, rfl, _, rfl, L, natI g, rfl, SqL.of hL2, fun ns' p pm up hp => ?_⟩
        have s3 := same_new (o := .lst (ns'.map V.int)) hp
        have npD : p ≠ D := fun e => by rw [e, h2] at hp; cases hp
        have ens := srtG_ints (gnd g gF) (glt g gF) pm up
        refine ⟨_, s3 _ _ h2, small_lt (by rw [List.length_map]; omega), bs ++ [(p, ns')], ?_, fun b hb' => ?_, ?_, same_mut (s2.trans s3) hD⟩
        · rw [upd_same, List.map_append]
          rfl
        · rcases List.mem_append.mp hb' with hb' | hb'
          · obtain ⟨hb1, nbD⟩ := hb b hb'
            exact ⟨by rw [upd_ne nbD]; exact s3 _ _ hb1, nbD⟩
          · rw [List.mem_singleton.mp hb']
            exact ⟨by rw [upd_ne npD]; exact upd_same, npD⟩
        · rw [List.map_append, hm, List.take_add_one, hgj, List.map_append, ens]
          rfl
      · rintro H2 ⟨bs, h2, hb, hm, s2⟩
        rw [ul, List.take_length] at hm
        refine ⟨D, bs, rfl, SqL.of h2, fun b hb' => SqL.of (hb b hb').1, fun os p pm up hp => ?_⟩
        have s3 := same_new (o := .lst (os.map fun b => V.ref b.1)) hp
        obtain ⟨G, eG⟩ : ∃ G, G = os.map fun b => b.2.map Int.toNat := ⟨_, rfl⟩
        have toN : ∀ b ∈ os, natI (b.2.map Int.toNat) = b.2 := fun b hb' => by
          have hm' : b.2 ∈ bs.map fun b => b.2 := List.mem_map.mpr ⟨b, pm.mem_iff.mp hb', rfl⟩
          rw [hm] at hm'
          obtain ⟨g, _, e⟩ := List.mem_map.mp hm'
          rw [← e]
          unfold natI
          rw [List.map_map, List.map_map]
          exact List.map_congr_left fun x _ => rfl
        have eI : G.map natI = os.map fun b => b.2 := by
          rw [eG, List.map_map]
          exact List.map_congr_left toN
        have ePm : G.Perm (F.map (srtG rows.length)) := by
          have h1 : (os.map fun b => b.2.map Int.toNat).Perm (bs.map fun b => b.2.map Int.toNat) := pm.map _
          have h2 : (bs.map fun b => b.2.map Int.toNat) = F.map (srtG rows.length) := by
            have : (bs.map fun b => b.2).map (List.map Int.toNat) = (F.map fun g => natI (srtG rows.length g)).map (List.map Int.toNat) := by rw [hm]
            rw [List.map_map, List.map_map] at this
            refine this.trans (List.map_congr_left fun g _ => ?_)
            show (natI (srtG rows.length g)).map Int.toNat = srtG rows.length g
            unfold natI
            rw [List.map_map]
            exact (List.map_congr_left fun x _ => Int.toNat_natCast x).trans (List.map_id _)
          rw [eG, ← h2]
          exact h1
        have s13 := (s1.trans s2).trans s3
        refine k G p _ (hP.groups (fun g hg => ⟨srtG_perm (gnd g hg) (glt g hg), srtG_asc⟩) ePm) (by rw [eI]; exact up) s13 ((s1.trans s2).free hp) ⟨p, _, rfl, SqL.of upd_same, ?_⟩
        rw [eI]
        exact rowsB_os fun b hb' => s3 _ _ (hb b (pm.mem_iff.mp hb')).1
end
end Fo

set_option maxRecDepth 100000
set_option maxHeartbeats 2000000
namespace Fo
open PySem PySem.Spec PyProof.Rows L2
/-- a set of the ints of a tuple; how many there are is left open but for the bound -/
def rSetI (K : PySem.W.Frag) (w : World) : List V → Hp → VK → Prop := fun xs H Q => ∃ (p : Addr) (ns : List Int), xs = [.ref p] ∧ SqT K H p (ns.map V.int) ∧ ns.length ≤ 1000 ∧ ∀ (a : Addr) (n : Nat), H a = none → n ≤ ns.length → Q (.ref a) (upd H a (SetO w a (fun j => decide (j ∈ ns)) n))
theorem ints_of : ∀ {ns : List Int} {us : List Value}, Vals (ns.map V.int) us → IntsAre us ns
  | [], [], _ => .nil
  | n :: ns, u :: us, .cons r t => by
    obtain ⟨k, rfl⟩ := r
    exact .cons n k (ints_of t)
theorem cr_setI {X : Cx} (hc : X.calm = true) : CallR X (.type "set") (rSetI X.K X.w) := by
  intro pins s σ H xs us Q I r h
  obtain ⟨p, ns, rfl, hS, hl, q⟩ := h
  cases r with
  | cons r0 r1 =>
    cases r1
    cases r0
    obtain ⟨its, rv, hT, hz⟩ := I.tuple hS
    refine call_set_tupI ns (I.ok.hd hc) hT (by simpa using ints_of rv) (by have : (1002 : Nat) < scanBound := by decide
                                                                            omega) fun h' tk c hR hcn hk => ?_
    refine ⟨.ref s.heap.objs.size, _, I.laid (a := s.heap.objs.size) (o := SetO X.w s.heap.objs.size (fun j => decide (j ∈ ns)) c) hk (Nat.le_refl _) ?_, rfl, q _ c (I.hok.fresh (Nat.le_refl _)) hcn⟩
    refine ⟨hR, ?_, fun h1 h2 a b => ?_⟩
    · obtain ⟨o, _, _, _, g, _⟩ := hR
      exact ⟨o, g⟩
    · obtain ⟨o, es, ep, t, g, r⟩ := a
      exact ⟨o, es, ep, t, b o g, r⟩
end Fo

set_option maxRecDepth 100000
set_option maxHeartbeats 2000000
/-! sorted of a set of ints, however many there are -/
namespace Fo
open PySem PySem.Spec PyProof.Rows L2
section
variable {P : Program} {w : World} {A : Around} {E : Value → Shared → Prop} {s : Shared} {a : Addr}
theorem sorted_setA {M : Int → Bool} {many : Nat} {Want : Value → Shared → Prop} (set : SetR w s.heap a M many) (calm : A.handled = none) (small : many ≤ 100000)
    (go : ∀ (s2 : Shared) (L : Addr) (vals : Array Value) (u : Nat) (ks : List Int), (∀ b o, s.heap.get? b = some o → s2.heap.get? b = some o) → s2.gens = s.gens → s2.os = s.os → s.heap.objs.size ≤ L →
      s2.heap.get? L = some (seqObj "list" vals u) → IntsAre vals.toList ks → ks.Pairwise (· < ·) → (∀ k, k ∈ ks ↔ M k = true) → ks.length = many → Want (.ref L) s2) :
    wpAny (model P w) A (call (.builtin "sorted") [.ref a]) Want E s := by
  obtain ⟨ob, ents, ep, tt, at1, ex1, dat1, raws, one1, mem1, bnd1, fil1, cnt1, rr1, ll1⟩ := set
  refine Calls.call_function_entry kind_sorted plain_sorted entry_sorted (args_sorted1 _) ?_
  unfold Builtin.«sorted»
  refine wpAny_bind (m := checkCount "sorted" 1 1 _) (wpAny_pure ?_)
  refine wpAny_bind (collect_set (A := A.in1) calm ⟨ob, at1, ex1.1, dat1⟩ fil1 bnd1 rr1 ll1 fun s3 items kept sz gens3 os3 perm => ?_)
  have count : items.length = many := Eq.trans perm.length_eq (by rw [List.length_map, Array.length_toList]; exact cnt1)
  have lim : items.length ≤ sizeLine := by rw [count]; exact small_le small
  have allInts := L2.ints_of items fun v hv => by
    obtain ⟨en, hen, q⟩ := List.mem_map.mp (perm.mem_iff.mp hv)
    obtain ⟨k, tk, h1, _⟩ := raws en hen
    exact ⟨k, tk, q.symm.trans h1⟩
  have keys : (items.map Builtin.Re.reRawOf).Perm (ents.toList.map keyOf) := by
    have q := perm.map Builtin.Re.reRawOf
    rw [List.map_map] at q
    exact q
  refine wpAny_bind (wpAny_newList ?_ lim)
  have new := Heap.get?_push_size s3.heap (o := seqObj "list" items.toArray 0) rfl
  refine wpAny_bind (wpAny_holding (wpAny_call_entry slot_list_sort ⟨_, new, rfl⟩ entry_list_sort (list_sort_treeAny new allInts lim fun vals ks are pm up => ⟨_, rfl, ?_⟩) (args_list_sort _)))
  obtain ⟨u, hu⟩ := sortedHeap_at (vs := items) (out := vals) new
  have all : ks.Perm (ents.toList.map keyOf) := pm.trans keys
  have less := L2.lt_of_le_nodup ks up (all.nodup_iff.mpr one1)
  refine wpAny_pure ⟨_, rfl, go _ s3.heap.objs.size vals u ks ?_ gens3 os3 sz hu are less (fun k => by rw [mem1 k, all.mem_iff]) ?_⟩
  · intro b o e
    have old := kept b o e
    have lt := Heap.lt_size old
    have ne : b ≠ s3.heap.objs.size := Nat.ne_of_lt lt
    exact (sortedHeap_old ne (by rw [size_push']; exact Nat.lt_succ_of_lt lt)).trans (Heap.get?_push_of_some _ old)
  · exact all.length_eq.trans (by rw [List.length_map, Array.length_toList]; exact cnt1)
end
def rSortSetA (w : World) : List V → Hp → VK → Prop := fun xs H Q => ∃ (a : Addr) (M : Int → Bool) (many : Nat), xs = [.ref a] ∧ H a = some (SetO w a M many) ∧ many ≤ 100000 ∧
  ∀ (ks : List Int) (L : Addr), ks.Pairwise (· < ·) → (∀ k : Int, k ∈ ks ↔ M k = true) → ks.length = many → H L = none → Q (.ref L) (upd H L (.lst (ks.map V.int)))
theorem cr_sortSetA {X : Cx} (calm : X.calm = true) : CallR X (.builtin "sorted") (rSortSetA X.w) := by
  intro pins s σ H xs us Q I r h
  obtain ⟨a, M, many, rfl, at1, small, q⟩ := h
  have R := setO_get I at1
  rw [Vals.ref1 r]
  refine sorted_setA R (I.ok.hd calm) small fun s2 L vals u ks kept gens2 os2 sz at2 are up mem len => ?_
  have fit : (ks.map V.int).length ≤ sizeLine := by rw [List.length_map, len]; exact small_le small
  have free : H L = none := I.hok.fresh sz
  have J : Inv X pins σ (upd H L (.lst (ks.map V.int))) { s with heap := s2.heap, gens := s2.gens, drawn := s2.drawn, toks := s2.toks } :=
    I.call (ch := []) (Un.laid kept sz free) (I.hok.laid kept sz ⟨fit, vals.toList, u, vals_of_ints are, at2⟩) (by rw [gens2]; exact I.bare) (fun _ z => nomatch z)
  have same : s2 = { s with heap := s2.heap, gens := s2.gens, drawn := s2.drawn, toks := s2.toks } := by
    cases s2
    cases s
    cases os2
    rfl
  rw [same]
  exact ⟨.ref L, _, J, rfl, q ks L up mem len free⟩
end Fo

set_option maxRecDepth 100000
set_option maxHeartbeats 4000000
/-! a set made of a list of ints -/
namespace Fo
open PySem PySem.Spec PyProof.Rows L2
abbrev emptyS (w : World) : Obj := { cls := .type "set", dict := none, data := .set #[] 0 (.fresh 0 0 (!w.params.followText "set-order")) }
section
variable {P : Program} {w : World} {A : Around} {E : Value → Shared → Prop} {s : Shared}
theorem call_set_listI {l : Addr} {items : Array Value} (ns : List Int) {Q : Value → Shared → Prop} (calm : A.handled = none) (hl : s.heap.IsList l items) (areI : IntsAre items.toList ns) (room : ns.length + 1 < scanBound)
    (go : ∀ (h' : Heap) (tk c : Nat), SetR w h' s.heap.objs.size (fun j => decide (j ∈ ns)) c → c ≤ ns.length → (∀ b o, s.heap.get? b = some o → h'.get? b = some o) → Q (.ref s.heap.objs.size) { s with heap := h', toks := tk }) :
    wpAny (model P w) A (call (.type "set") [.ref l]) Q E s := by
  have many : items.size = ns.length := (Array.length_toList (xs := items)).symm.trans (IntsAre.length areI)
  obtain ⟨c, tl, hmro⟩ := F.called_set.mro
  have f1 := F.called_set.made
  have f2 := F.called_set.sub
  refine wpAny_call (codeAny_of_tree ?_)
  show wpAny _ _ (callAny (.type "set") _) _ _ _
  refine wpAny_pure ⟨Code.quiet_builtin _ (by decide +kernel), codeAny_builtin F.entry_type_call ?_⟩
  rw [Around.under_plain (weight_type_call_type "set" [.ref l] []) rfl]
  have f3 := F.called_set.notType
  have f4 := F.called_set.canCreate
  have f5 := F.typeCall_set_1 (.ref l)
  repeat (any_goals (first | assumption | wp_step))
  refine codeAny_mono (code_set_led1 (.ref l) (E := E) (Q₁ := fun obj s₁ => obj = .ref s.heap.objs.size ∧ s₁ = { s with heap := s.heap.push (emptyS w) }) ⟨rfl, rfl⟩) fun r s₁ hr => ?_
  cases r with
  | error e => exact hr
  | ok fl =>
    cases fl with
    | ret obj =>
      obtain ⟨rfl, rfl⟩ := hr
      have at0 : (s.heap.push (emptyS w)).get? s.heap.objs.size = some (emptyS w) := Heap.get?_push_size _ rfl
      have ty0 : Shared.TypeIs { s with heap := s.heap.push (emptyS w) } (.ref s.heap.objs.size) "set" := ⟨_, at0, rfl⟩
      have f6 := F.called_set.init.lookup
      have f7 := F.called_set.init.bind (.ref s.heap.objs.size)
      repeat (any_goals (first | assumption | wp_step))
      refine codeAny_mono (codeAny_call_builtin (R := wants (fun r s₂ => r = .none ∧ ∃ h' tk c, s₂ = { s with heap := h', toks := tk } ∧ SetR w h' s.heap.objs.size (fun j => decide (j ∈ ns)) c ∧ c ≤ ns.length ∧
          (∀ b o, s.heap.get? b = some o → h'.get? b = some o)) E) F.called_set.init.plain F.entry_set_init (check_set_init_1 ty0 ?_)) fun r₂ s₂ hr₂ => ?_
      · obtain ⟨⟨ocls, odict, odata, oslots⟩, old, hcl, nl, hdl⟩ := hl
        dsimp only at hcl hdl
        subst hcl; subst hdl
        have old' : (s.heap.push (emptyS w)).get? l = some { cls := .type "list", dict := odict, data := .seq items nl, slots := oslots } := Heap.get?_push_of_some _ old
        have f8 := F.sub_list_set
        have f9 := F.sub_list_frozenset
        have f10 : (Value.type "list" == Value.type "dict") = false := by decide
        have isl : (s.heap.push (emptyS w)).IsList l items := ⟨_, old', rfl, nl, rfl⟩
        unfold Builtin.«set.__init__» noKeywords Builtin.Frozenset.updateFrom
        generalize hPI : pyIter = PI
        wp_walk
        subst hPI
        refine wpAny_pyIter_list isl ?_
        refine wpAny_bind (wpAny_runValue ?_)
        have lt : l < s.heap.objs.size := Heap.lt_size old
        have calm3 : A.in1.in1.in1.handled = none := by simp [calm]
        have sz : (s.heap.push (emptyS w)).objs.size = s.heap.objs.size + 1 := Heap.size_push ..
        have ne1 : l ≠ (s.heap.push (emptyS w)).objs.size := by
          rw [sz]; exact Nat.ne_of_lt (Nat.lt_succ_of_lt lt)
        have apart : s.heap.objs.size ∉ [(s.heap.push (emptyS w)).objs.size, l] := by
          rw [sz]; simp only [List.mem_cons, List.not_mem_nil, or_false, not_or]
          exact ⟨Nat.ne_of_lt (Nat.lt_succ_self _), Nat.ne_of_gt lt⟩
        have each : ∀ (i : Nat) (v : Value), items[i]? = some v → ∃ k t, ns[i]? = some k ∧ v = .int k t := fun i v hv => by
          have hi : i < ns.length := by rw [← many]; exact (Array.getElem?_eq_some_iff.mp hv).1
          obtain ⟨t, e⟩ := PyProof.Rows.IntsAre.int_at areI i v (by rw [Array.getElem?_toList]; exact hv)
          refine ⟨ns[i], t, List.getElem?_eq_getElem hi, ?_⟩
          rw [e, List.getD_eq_getElem?_getD, List.getElem?_eq_getElem hi] <;> rfl
        refine set_update_ints ((Walks.list calm3 _ l ne1 items).toS) s.heap.objs.size
          apart ns many room each (items.size - 0) 0 _ (by omega) (Nat.zero_le _)
          ⟨⟨_, Heap.get?_push_size _ rfl, rfl, rfl⟩, (isl.push _)⟩ ?start ?fin
        case start =>
          exact ⟨0, Nat.le_refl 0, setR_new_at (Heap.get?_push_of_some _ at0)⟩
        case fin =>
          intro s' c' moved cl R
          obtain ⟨h', g2, d', tk', os'⟩ := s'
          have eg : g2 = s.gens := moved.gens
          have ed : d' = s.drawn := moved.drawn
          have eo : os' = s.os := moved.os
          subst eg; subst ed; subst eo
          show wpAny _ _ _ _ _ _
          refine wpAny_pure ?_
          show wpAny _ _ (ret Value.none) _ _ _
          rw [many] at cl
          refine wpAny_pure ⟨rfl, h', tk', c', rfl, R, cl, fun b o e => ?_⟩
          have b0 : b < s.heap.objs.size := Heap.lt_size e
          refine moved.heap b o ?_ (Heap.get?_push_of_some _ (Heap.get?_push_of_some _ e))
          simp only [sz, List.mem_cons, List.not_mem_nil, or_false, not_or]
          exact ⟨Nat.ne_of_lt b0, Nat.ne_of_lt (Nat.lt_succ_of_lt b0)⟩
      · cases r₂ with
        | error e => exact hr₂
        | ok fl₂ =>
          cases fl₂ with
          | ret r =>
            obtain ⟨rfl, h', tk, c', rfl, R, cl, kept⟩ := hr₂
            repeat (any_goals (first | assumption | wp_step))
            exact go _ _ _ R cl kept
          | _ => exact hr₂.elim
    | _ => exact hr.elim
end
theorem setR_len {w : World} {h : Heap} {a : Addr} {ns : List Int} {c : Nat} (R : SetR w h a (fun j => decide (j ∈ ns)) c) : ∀ ks : List Int, ks.Nodup → (∀ k, k ∈ ks ↔ k ∈ ns) → ks.length = c := by
  intro ks nd mem
  obtain ⟨o, es, ep, t, _, _, _, _, one, m, _, _, n, _⟩ := R
  have p : ks.Perm (es.toList.map keyOf) := by
    refine (List.perm_ext_iff_of_nodup nd one).mpr fun k => ?_
    rw [mem k, ← m k, decide_eq_true_iff]
  rw [p.length_eq, List.length_map, Array.length_toList]
  exact n
def rLenO (w : World) : List V → Hp → VK → Prop := fun xs H Q => ∃ (a : Addr) (M : Int → Bool) (n : Nat), xs = [.ref a] ∧ H a = some (SetO w a M n) ∧ Q (.int n) H
theorem cr_lenO {X : Cx} : CallR X (.builtin "len") (rLenO X.w) := by
  intro pins s σ H xs us Q I r h
  obtain ⟨a, M, n, rfl, at1, q⟩ := h
  rw [Vals.ref1 r]
  obtain ⟨o, es, ep, t, ho, hex, hd, _, _, _, bnd, hf, hn, _⟩ := setO_get I at1
  refine call_len_set ho hex hd hf (by have : (scanBound : Int) < 2 ^ 63 := by decide
                                       omega) ⟨.int n, H, I.tok _, ⟨_, by rw [hn]⟩, q⟩
/-- a set of the ints of a list; how many there are is left open but for the bound -/
def rSetL (K : PySem.W.Frag) (w : World) : List V → Hp → VK → Prop := fun xs H Q => ∃ (p : Addr) (ns : List Int), xs = [.ref p] ∧ SqL K H p (ns.map V.int) ∧ ns.length ≤ 4000 ∧ ∀ (a : Addr) (n : Nat), H a = none → n ≤ ns.length → (∀ ks : List Int, ks.Nodup → (∀ k, k ∈ ks ↔ k ∈ ns) → ks.length = n) → Q (.ref a) (upd H a (SetO w a (fun j => decide (j ∈ ns)) n))
theorem cr_setL {X : Cx} (hc : X.calm = true) : CallR X (.type "set") (rSetL X.K X.w) := by
  intro pins s σ H xs us Q I r h
  obtain ⟨p, ns, rfl, hS, hl, q⟩ := h
  cases r with
  | cons r0 r1 =>
    cases r1
    cases r0
    obtain ⟨its, rv, hT, hz⟩ := I.list hS
    refine call_set_listI ns (I.ok.hd hc) hT.isList (by simpa using Fo.ints_of rv) (by
      have : (4002 : Nat) < scanBound := by decide
      omega) fun h' tk c hR hcn hk => ?_
    refine ⟨.ref s.heap.objs.size, _, I.laid (a := s.heap.objs.size) (o := SetO X.w s.heap.objs.size (fun j => decide (j ∈ ns)) c) hk (Nat.le_refl _) ?_, rfl, q _ c (I.hok.fresh (Nat.le_refl _)) hcn (setR_len hR)⟩
    refine ⟨hR, ?_, fun h1 h2 a b => ?_⟩
    · obtain ⟨o, _, _, _, g, _⟩ := hR
      exact ⟨o, g⟩
    · obtain ⟨o, es, ep, t, g, r⟩ := a
      exact ⟨o, es, ep, t, b o g, r⟩
end Fo

set_option maxRecDepth 100000
set_option maxHeartbeats 2000000
/-! walking a list or a tuple, whatever is done with each -/
namespace Fo
open PySem PySem.Spec PyProof.Rows L2
theorem walk_sq {K : PySem.W.Frag} {b : Bool} {a : Addr} {xs : List V} {H0 : Hp} {B : V → Hp → (Hp → Prop) → Prop} {Qd : Hp → Prop} (Pv : Nat → Hp → Prop) (h0 : Pv 0 H0) (hl : ∀ i H, i ≤ xs.length → Pv i H → Sq b K H a xs)
    (hs : ∀ i x H, xs[i]? = some x → Pv i H → B x H (Pv (i + 1))) (hd : ∀ H, Pv xs.length H → Qd H) :
    ∃ W : Nat → Nat → Hp → Prop, (∃ m, W 0 m H0) ∧ ∀ i m H, W i m H →
      ((ItS b K a).stop i H ∧ Qd H) ∨ ((ItS b K a).go i H ∧ ∃ Nx : Hp → Prop, (∀ H', Nx H' → ∃ m', m' < m ∧ W (i + 1) m' H') ∧ ∀ x H', (ItS b K a).yld i H x H' → B x H' Nx) := by
  refine ⟨fun i m H => m = xs.length - i ∧ i ≤ xs.length ∧ Pv i H, ⟨xs.length, by simp, Nat.zero_le _, h0⟩, ?_⟩
  rintro i m H ⟨rfl, hi, p⟩
  have q := hl i H hi p
  by_cases hlt : i < xs.length
  · have hx : xs[i]? = some xs[i] := List.getElem?_eq_getElem hlt
    have step : ∀ x H', H' = H → xs[i]? = some x → B x H' (Pv (i + 1)) := fun x H' e y => by
      subst e
      exact hs i x _ y p
    refine .inr ⟨?_, Pv (i + 1), fun H' p' => ⟨xs.length - (i + 1), by omega, rfl, hlt, p'⟩, fun x H' y => ?_⟩
    · cases b with
      | true => exact ⟨xs, xs[i], q, hx⟩
      | false => exact ⟨xs, xs[i], q, hx⟩
    · cases b with
      | true => exact step x H' y.1 (y.2 xs q)
      | false => exact step x H' y.1 (y.2 xs q)
  · have e : i = xs.length := by omega
    subst e
    refine .inl ⟨?_, hd H p⟩
    cases b with
    | true => exact ⟨xs, q, Nat.le_refl _⟩
    | false => exact ⟨xs, q, Nat.le_refl _⟩
end Fo

set_option maxRecDepth 100000
set_option maxHeartbeats 2000000
/-! a tuple put behind a list -/
namespace Fo
open PySem PySem.Spec PyProof.Rows L2 PyProof
theorem ext_tup (l : Addr) (items : Array Value) (n : Nat) (b : Addr) (items2 : Array Value) (n2 : Nat) (od : Option Addr) (sl : Array (Option Value)) (hs0 : ¬(!items.isEmpty && Builtin.List.listTooLong (items.size + items2.size)) = true) (hs1 : items.size ≤ sizeLine) (hs2 : items.size + items2.size ≤ sizeLine + 1) :
    Meets (Builtin.«list.extend» ⟨[.ref l, .ref b], []⟩) (fun _ R s => s.heap.get? l = some { cls := .type "list", dict := none, data := .seq items n, slots := #[] } ∧ s.heap.get? b = some { cls := .type "tuple", dict := od, data := .seq items2 n2, slots := sl } ∧ R (.ok (.ret Value.none)) { s with heap := s.heap.update l (Obj.mapSeq fun x => x ++ items2), toks := s.toks }) :=
  .of_wp fun prog w A R s h => by
    obtain ⟨hp, g, d, tk, os⟩ := s
    obtain ⟨hl, hb, h⟩ := h
    have f1 := AutoSeq1.idx_int; have f2 := AutoSeq1.sub_tuple_tuple; have f3 := AutoSeq1.sub_list_list; have f4 := AutoSeq1.sub_tuple_list; have f5 := AutoSeq1.sub_list_tuple
    have hz' : (items ++ items2).size ≤ sizeLine + 1 := by rw [Array.size_append]; exact hs2
    wp_walk using (wpAny_updateSeq hl rfl (hz := hs1) (_hz' := hz')), AutoSeq1.wpAny_loadPart' hl, AutoSeq1.wpAny_loadPart' hb
    exact ⟨_, rfl, h⟩
section
variable {X : Cx}
def rExtT (K : PySem.W.Frag) : V → List V → Hp → VK → Prop := fun x vs H Q => ∃ l b xs zs, x = .ref l ∧ vs = [.ref b] ∧ H l = some (.lst xs) ∧ SqT K H b zs ∧ xs.length + zs.length ≤ 100000 ∧ Q .non (upd H l (.lst (xs ++ zs)))
theorem mt_extT : MtM X "list.extend" (rExtT X.K) := by
  intro pins s σ H x vs v us Q I rx rv h
  obtain ⟨l, b, xs, zs, rfl, rfl, hH, hB, hz, q⟩ := h
  have hz := small_le hz
  cases rx
  obtain ⟨u, rfl, ru⟩ := rv.one
  cases ru
  obtain ⟨z, its, n, r, hl, e⟩ := I.lstM hH
  obtain ⟨its2, r2, ⟨⟨oc, od, dd, sl⟩, e2, ec, n2, ed⟩, hz2⟩ := I.tuple hB
  dsimp only at ec ed
  subst ec; subst ed
  have hl2 : zs.length = its2.length := r2.length
  have hsz : its.toArray.size + its2.toArray.size ≤ sizeLine := by rw [List.size_toArray, List.size_toArray]; omega
  have hlong : ¬ (!its.toArray.isEmpty && Builtin.List.listTooLong (its.toArray.size + its2.toArray.size)) = true := by
    rw [notLongL hsz, Bool.and_false]
    exact Bool.false_ne_true
  refine call_meets F.slot_list_extend ⟨_, e, rfl⟩ F.entry_list_extend (F.args_list_extend_2 _ _)
    (ext_tup l its.toArray n b its2.toArray n2 od sl hlong (by rw [List.size_toArray]; omega) (by omega)) ⟨e, e2, ?_⟩
  refine ⟨.non, _, I.lset (its' := its ++ its2) hH e (by simp) (r.append r2) ?_, rfl, q⟩
  rw [List.length_append]
  omega
end
end Fo

set_option maxRecDepth 100000
set_option maxHeartbeats 1000000
/-! the short lot that is told -/
namespace Fo
open PySem PySem.Spec PyProof.Rows L2
theorem least_of {Pr : Nat → Prop} : ∀ {p : Nat}, Pr p → ∃ q, Pr q ∧ q ≤ p ∧ ∀ j, j < q → ¬ Pr j := by
  intro p
  induction p using Nat.strongRecOn with
  | ind p ih =>
    intro h
    by_cases c : ∃ j, j < p ∧ Pr j
    · obtain ⟨j, hj, hP⟩ := c
      obtain ⟨q, a, b, d⟩ := ih j hj hP
      exact ⟨q, a, by omega, d⟩
    · exact ⟨p, h, Nat.le_refl _, fun j hj hP => c ⟨j, hj, hP⟩⟩
structure ShortOf (rows : List (List Int)) (L : List Nat) : Prop where
  is : ∃ (m : Mt.MS) (p N : Nat), Mt.Upto rows rows.length m ∧ p < rows.length ∧ m.h p = none ∧ (∀ j, j < p → m.h j ≠ none) ∧ Mt.Bits N (Mt.Reach rows m.o p) ∧ L = Mt.reached (Builtin.Int.intBits (N : Int)) N
theorem bits_lt' {N q : Nat} (h : N.testBit q = true) : q < Builtin.Int.intBits (N : Int) := by
  have h2 : 2 ^ q ≤ N := Nat.ge_two_pow_of_testBit h
  have hN : N ≠ 0 := fun z => by rw [z] at h2; have := Nat.two_pow_pos q; omega
  have h3 : q ≤ N.log2 := (Nat.le_log2 hN).mpr h2
  unfold Builtin.Int.intBits
  have e : ((N : Int)).natAbs = N := Int.natAbs_natCast N
  simp [e, hN]
  omega
theorem bits_top {N n : Nat} (h : ∀ q, N.testBit q = true → q < n) : Builtin.Int.intBits (N : Int) ≤ n := by
  unfold Builtin.Int.intBits
  have e : ((N : Int)).natAbs = N := Int.natAbs_natCast N
  by_cases hN : N = 0
  · simp [e, hN]
  · have := h N.log2 (Nat.testBit_log2 hN)
    simp [e, hN]
    omega
theorem reach_lt {rows : List (List Int)} {m : Mt.MS} (v : Mt.Valid rows m) {p q : Nat} (hp : p < rows.length) (h : Mt.Reach rows m.o p q) : q < rows.length := by
  cases h with
  | refl => exact hp
  | @step _ _ s _ h1 h2 => exact Mt.row_lt (v.tie _ s ((v.inv _ s).mpr h2))
theorem ShortOf.one {rows : List (List Int)} {A B : List Nat} (a : ShortOf rows A) (b : ShortOf rows B) : A = B := by
  obtain ⟨m, p, N, u, h1, h2, h3, h4, rfl⟩ := a.is
  obtain ⟨m', p', N', u', g1, g2, g3, g4, rfl⟩ := b.is
  have em := Mt.upto_one u u'
  subst em
  have ep : p = p' := by
    rcases Nat.lt_trichotomy p p' with z | z | z
    · exact absurd h2 (g3 p z)
    · exact z
    · exact absurd g2 (h3 p' z)
  subst ep
  have en : N = N' := Nat.eq_of_testBit_eq fun q => by
    have := (h4 q).trans (g4 q).symm
    cases x : N.testBit q <;> cases y : N'.testBit q <;> simp_all
  subst en
  rfl
theorem ShortOf.short {rows : List (List Int)} {L : List Nat} (a : ShortOf rows L) : Mt.Short rows L := by
  obtain ⟨m, p, N, u, h1, h2, h3, h4, rfl⟩ := a.is
  exact Mt.short_of (Mt.upto_ok u) h1 h2 h4 fun q h => bits_lt' h
theorem bits_le {rows : List (List Int)} {m : Mt.MS} (v : Mt.Valid rows m) {p N : Nat} (hp : p < rows.length) (h : Mt.Bits N (Mt.Reach rows m.o p)) : Builtin.Int.intBits (N : Int) ≤ rows.length :=
  bits_top fun q hq => reach_lt v hp ((h q).mp hq)
end Fo

namespace Mt
/-- a lot of people who may get, all together, just as many things as they are, this thing among them -/
structure Lot (rows : Rows) (t : Int) (L : List Nat) : Prop where
  asc : L.Pairwise (· < ·)
  lt : ∀ p ∈ L, p < rows.length
  hold : ∃ U : List Int, U.Nodup ∧ U.length = L.length ∧ (∀ u, u ∈ U ↔ ∃ x ∈ L, u ∈ row rows x) ∧ t ∈ U
theorem Lot.nd {rows : Rows} {t : Int} {L : List Nat} (h : Lot rows t L) : L.Nodup := h.asc.imp fun {a b} z => Nat.ne_of_lt z
theorem lot_of {rows : Rows} {m : MS} {q N n : Nat} {t : Int} (v : Valid rows m) (f : Full rows m) (few : Few rows) (ho : m.o t = some q) (hN : Bits N (Reach rows m.o q)) (hn : ∀ z, N.testBit z = true → z < n) : Lot rows t (reached n N) := by
  have hq : q < rows.length := row_lt (v.tie q t ((v.inv q t).mpr ho))
  have lt : ∀ x, Reach rows m.o q x → x < rows.length := fun x hx => by
    cases hx with
    | refl => exact hq
    | @step _ _ s _ h1 h2 => exact row_lt (v.tie _ s ((v.inv _ s).mpr h2))
  have mem : ∀ x, x ∈ reached n N ↔ Reach rows m.o q x := fun x => by
    rw [mem_reached]
    exact ⟨fun h => (hN x).mp h.2, fun h => ⟨hn x ((hN x).mpr h), (hN x).mpr h⟩⟩
  have asc : (reached n N).Pairwise (· < ·) := by
    unfold reached
    exact List.Pairwise.filter _ List.pairwise_lt_range
  have has : ∀ x, x < rows.length → ∃ u, m.h x = some u := fun x hx => by
    cases e : m.h x with
    | none => exact absurd e (f x hx)
    | some u => exact ⟨u, rfl⟩
  refine ⟨asc, fun x hx => lt x ((mem x).mp hx), (reached n N).map fun x => (m.h x).getD 0, ?_, List.length_map _, fun u => ⟨fun h => ?_, fun ⟨x, hx, hu⟩ => ?_⟩, ?_⟩
  · refine nodup_map (asc.imp fun {a b} z => Nat.ne_of_lt z) fun x hx y hy e => ?_
    obtain ⟨u, hu⟩ := has x (lt x ((mem x).mp hx))
    obtain ⟨z, hz⟩ := has y (lt y ((mem y).mp hy))
    rw [hu, hz] at e
    have e' : u = z := e
    rw [e'] at hu
    exact v.inj hu hz
  · obtain ⟨x, hx, rfl⟩ := List.mem_map.mp h
    obtain ⟨u, hu⟩ := has x (lt x ((mem x).mp hx))
    exact ⟨x, hx, by rw [hu]; exact v.tie x u hu⟩
  · obtain ⟨y, hy⟩ := owned v f few hu
    refine List.mem_map.mpr ⟨y, (mem y).mpr (.step ((mem x).mp hx) hu hy), ?_⟩
    rw [(v.inv y u).mpr hy]
    rfl
  · refine List.mem_map.mpr ⟨q, (mem q).mpr .refl, ?_⟩
    rw [(v.inv q t).mpr ho]
    rfl
theorem Lot.deal {rows : Rows} {t : Int} {L : List Nat} (h : Lot rows t L) {D : List Int} (d : Ds rows D) : ∃ x ∈ L, D[x]? = some t := by
  obtain ⟨U, nd, hl, hU, ht⟩ := h.hold
  have n2 : (L.map fun p => D[p]?.getD 0).Nodup := nodup_map h.nd fun x hx y hy e => by
    obtain ⟨t, e1, _⟩ := d.get (h.lt x hx)
    obtain ⟨u, e2, _⟩ := d.get (h.lt y hy)
    rw [e1, e2] at e
    have e' : t = u := e
    rw [e'] at e1
    exact nodup_get d.nd e1 e2
  have := all_in n2 (l2 := U) (fun z hz => by
    obtain ⟨p, hp, rfl⟩ := List.mem_map.mp hz
    obtain ⟨u, e1, hu⟩ := d.get (h.lt p hp)
    rw [e1]
    exact (hU u).mpr ⟨p, hp, hu⟩) (by rw [List.length_map]; omega) t ht
  obtain ⟨x, hx, e⟩ := List.mem_map.mp this
  obtain ⟨u, e1, _⟩ := d.get (h.lt x hx)
  rw [e1] at e
  have e' : u = t := e
  exact ⟨x, hx, by rw [e1, e']⟩
theorem Lot.full {rows : Rows} {t : Int} {L : List Nat} (h : Lot rows t L) {ks : List Int} (nd : ks.Nodup) (mem : ∀ u, u ∈ ks ↔ ∃ x ∈ L, u ∈ row rows x) : ks.length = L.length ∧ t ∈ ks := by
  obtain ⟨U, nU, hl, hU, ht⟩ := h.hold
  have a := len_le nd (l2 := U) fun x hx => (hU x).mpr ((mem x).mp hx)
  have b := len_le nU (l2 := ks) fun x hx => (mem x).mpr ((hU x).mp hx)
  exact ⟨by omega, (mem t).mpr ((hU t).mp ht)⟩
/-- if the tie is in a dealing, no lot of others is filled for it -/
theorem rest_no {rows : Rows} {p : Nat} {t : Int} {L : List Nat} {ks : List Int} (live : Live rows p t) (nd : L.Nodup) (lt : ∀ x ∈ L, x < rows.length) (hp : p ∉ L) (nk : ks.Nodup) (mem : ∀ u, u ∈ ks ↔ ∃ x ∈ L, u ∈ row rows x) (hl : ks.length = L.length) (ht : t ∈ ks) : False := by
  obtain ⟨D, d, hD⟩ := live
  have n2 : (L.map fun p => D[p]?.getD 0).Nodup := nodup_map nd fun x hx y hy e => by
    obtain ⟨t, e1, _⟩ := d.get (lt x hx)
    obtain ⟨u, e2, _⟩ := d.get (lt y hy)
    rw [e1, e2] at e
    have e' : t = u := e
    rw [e'] at e1
    exact nodup_get d.nd e1 e2
  have := all_in n2 (l2 := ks) (fun z hz => by
    obtain ⟨x, hx, rfl⟩ := List.mem_map.mp hz
    obtain ⟨u, e1, hu⟩ := d.get (lt x hx)
    rw [e1]
    exact (mem u).mpr ⟨x, hx, hu⟩) (by rw [List.length_map]; omega) t ht
  obtain ⟨x, hx, e⟩ := List.mem_map.mp this
  obtain ⟨u, e1, _⟩ := d.get (lt x hx)
  rw [e1] at e
  have e' : u = t := e
  rw [e'] at e1
  exact hp (nodup_get d.nd hD e1 ▸ hx)
end Mt

set_option maxRecDepth 100000
set_option maxHeartbeats 4000000
namespace Fo
open PySem PySem.Spec PyProof.Rows L2
theorem un65 {B : Nat} {A : Around} (hr : Room B A) : A.units + 65 < cLine := by have := hr.un; omega
def natV : V → Nat
  | .int i => i.toNat
  | _ => 0
/-- the things that people may get, ascending -/
def gotL (rows : List (List Int)) (ps : List Nat) : List Int := (rangeI rows.length).filter fun t => decide (t ∈ Mt.things (ps.map (Mt.row rows)))
theorem gotL_asc {rows : List (List Int)} {ps : List Nat} : (gotL rows ps).Pairwise (· < ·) := by
  unfold gotL
  refine List.Pairwise.filter _ ?_
  unfold rangeI
  rw [List.pairwise_map]
  exact List.pairwise_lt_range.imp fun h => by omega
theorem Good.mem_got {rows : List (List Int)} (G : Good rows) {ps : List Nat} {t : Int} : t ∈ gotL rows ps ↔ t ∈ Mt.things (ps.map (Mt.row rows)) := by
  unfold gotL
  rw [List.mem_filter, decide_eq_true_iff]
  refine ⟨fun h => h.2, fun h => ⟨?_, h⟩⟩
  obtain ⟨r, hr, ht⟩ := List.mem_flatten.mp h
  obtain ⟨p, _, rfl⟩ := List.mem_map.mp hr
  exact mem_rangeI.mpr (G.row_rng ht)
theorem nat_back {ns : List Int} (h : ∀ x ∈ ns, 0 ≤ x) : ns.map V.int = ((ns.map V.int).map natV).map nV := by
  rw [List.map_map, List.map_map]
  refine List.map_congr_left fun x hx => ?_
  show V.int x = V.int ((x.toNat : Nat) : Int)
  rw [Int.toNat_of_nonneg (h x hx)]
theorem Good.row_all {rows : List (List Int)} (G : Good rows) (p : Nat) : (Mt.row rows p).length ≤ rows.length := asc_len (G.row_asc p) fun _ h => G.row_rng h

section
variable {P : Program} {w : World} {K : PySem.W.Frag} {mg : Str → Option Value} {base : Heap} {C : Addr}
/-- rows of one kind in a list or a tuple -/
def RowsX (c b : Bool) (K : PySem.W.Frag) (H : Hp) (v : V) (rows : List (List Int)) : Prop := ∃ a vs, v = .ref a ∧ Sq c K H a vs ∧ RowsB b K H vs rows
theorem RowsQ.x {b : Bool} {K : PySem.W.Frag} {H : Hp} {v : V} {rows : List (List Int)} (h : RowsQ b K H v rows) : RowsX b b K H v rows := h
def spThings (K : PySem.W.Frag) : Sp := fun vs H Q _ => ∃ (c b : Bool) (rv : V) (rows : List (List Int)), vs = [rv] ∧ RowsX c b K H rv rows ∧ (Mt.things rows).length ≤ 4000 ∧
  ∀ (ks : List Int) p H', Same H H' → ks.Pairwise (· < ·) → (∀ k : Int, k ∈ ks ↔ k ∈ Mt.things rows) → SqL K H' p (ks.map V.int) → Q (.ref p) H'
def spRowsOf (K : PySem.W.Frag) : Sp := fun vs H Q _ => ∃ (b : Bool) (rv : V) (rows : List (List Int)) (pa : Addr) (ps : List Nat), vs = [rv, .ref pa] ∧ RowsQ b K H rv rows ∧ (∃ c, Sq c K H pa (ps.map nV)) ∧ ps.length ≤ 4000 ∧ (∀ p ∈ ps, p < rows.length) ∧
  ∀ l H', Same H H' → RowsX true b K H' (.ref l) (ps.map (Mt.row rows)) → Q (.ref l) H'
end
end Fo

set_option maxRecDepth 100000
set_option maxHeartbeats 4000000
/-! sorted(a list of tuples of ints). -/
namespace Fo
open PySem PySem.Spec PyProof.Rows L2
section
variable {X : Cx}
def rSortedTT (K : PySem.W.Frag) : List V → Hp → VK → Prop := fun vs H Q => ∃ (a : Addr) (bs : List (Addr × List Int)), vs = [V.ref a] ∧ SqL K H a (bs.map fun b => V.ref b.1) ∧ (∀ b ∈ bs, SqT K H b.1 (b.2.map V.int) ∧ b.2 ≠ []) ∧
  ∀ (os : List (Addr × List Int)) p, os.Perm bs → (os.map fun b => b.2).Pairwise (· ≤ ·) → H p = none → Q (.ref p) (upd H p (.lst (os.map fun b => V.ref b.1)))
theorem cr_sortedTT (hu : X.A.units + 64 < cLine) : CallR X (.builtin "sorted") (rSortedTT X.K) := by
  intro pins s σ H vs us Q I r h
  obtain ⟨a, bs, rfl, hs, hb, q⟩ := h
  obtain ⟨its, rv, hl, hz⟩ := I.list hs
  obtain ⟨u, rfl, ru⟩ := r.one
  obtain rfl : u = Value.ref a := ru
  have ei := refs_of rv
  subst ei
  have bl : bs.length ≤ sizeLine := by
    have := hz
    simpa using this
  refine PySem.W.sorted_data (R := fun v (b : Addr × List Int) => v = Value.ref b.1) (enc := fun b => .tuple (b.2.map .int)) hl.isList (each_refs bs) (each_of fun b hm => ?_) (PySem.W.AllAlike.of fun b b' => ?_) (.inl fun d hd => ?_) bl (fun b _ => ?_) fun out ho eo => ?_
  · exact Dp.reads I (.tuple (b.2.map .int)) (V.ref b.1) (Value.ref b.1) (.tup (hb b hm).1 (dpAll_ints _)) rfl
  · exact PySem.W.alike_ints _ _
  · obtain ⟨b, hm, rfl⟩ := List.mem_map.mp hd
    have ne := (hb b hm).2
    cases e : b.2 with
    | nil => exact absurd e ne
    | cons y r => exact ⟨_, _, rfl⟩
  · show X.A.units + 2 + (PyData.tuple (b.2.map .int)).depth < cLine
    rw [PyData.depth, PySem.W.depth_ints]
    omega
  · obtain ⟨n, hn⟩ := sortedAll_at s.heap (bs.map fun b => Value.ref b.1) out.toArray
    have el : PySem.W.dataLe false (fun b : Addr × List Int => PyData.tuple (b.2.map .int)) = PySem.W.dataLe false (fun b : Addr × List Int => PyData.list (b.2.map .int)) := rfl
    rw [el, PySem.W.dataLe_rows] at eo
    have eo' := each_back eo
    have pm := List.mergeSort_perm bs fun p q => decide (p.2 ≤ q.2)
    have hf := I.hok.fresh (Nat.le_succ s.heap.objs.size)
    refine ⟨.ref (s.heap.objs.size + 1), _, I.laid (t' := s.toks) (o := .lst ((bs.mergeSort fun p q => decide (p.2 ≤ q.2)).map fun b => V.ref b.1)) (fun b o e => sortedAll_old e) (Nat.le_succ _) ⟨?_, out, n, ?_, hn⟩, rfl, q (bs.mergeSort fun p q => decide (p.2 ≤ q.2)) _ pm ?_ hf⟩
    · rw [List.length_map, pm.length_eq]; exact bl
    · rw [eo']
      exact refs_to _
    · rw [List.pairwise_map]
      refine (List.pairwise_mergeSort (fun a b c h1 h2 => ?_) (fun a b => ?_) bs).imp fun h => of_decide_eq_true h
      · exact decide_eq_true (List.le_trans (of_decide_eq_true h1) (of_decide_eq_true h2))
      · by_cases h : a.2 ≤ b.2
        · rw [decide_eq_true h]; rfl
        · rw [decide_eq_true (List.le_of_lt (List.not_le.mp h)), Bool.or_true]
end
/-- the scope of the list comprehension that the i-th statement of a def sets a name to -/
def lcAt (s : Stmt) (i : Nat) : Scope := match (defBody s)[i]? with
  | some (.Assign [_] (.ListComp _ _ sc _) ..) => sc
  | _ => defScope s
/-- an environment of a scope alone -/
def envA (sc : Scope) : Env := { scope := sc, locals := 0, globals := 0, cells := [], qual := "", func := none, code := .none, frame := none, builtins := 0 }
/-- the scopes of the list comprehensions of an expression, the outer ones -/
def exLcs : Nat → Expr → List Scope
  | 0, _ => []
  | n + 1, e => match e with
    | .ListComp _ _ sc _ => [sc]
    | .DictComp _ _ _ sc _ => [sc]
    | .Call _ as _ _ => as.flatMap (exLcs n)
    | .Compare l _ rs _ => exLcs n l ++ rs.flatMap (exLcs n)
    | .BoolOp _ vs _ => vs.flatMap (exLcs n)
    | .BinOp l _ r _ => exLcs n l ++ exLcs n r
    | .UnaryOp _ x _ => exLcs n x
    | .IfExp t a b _ => exLcs n t ++ exLcs n a ++ exLcs n b
    | .Subscript o x _ => exLcs n o ++ exLcs n x
    | .List es _ => es.flatMap (exLcs n)
    | .Tuple es _ _ => es.flatMap (exLcs n)
    | _ => []
def stLcs (s : Stmt) : List Scope := match s with
  | .Assign _ e .. => exLcs 12 e
  | .Return (some e) _ => exLcs 12 e
  | .If t _ _ _ => exLcs 12 t
  | .Expr e _ => exLcs 12 e
  | .AugAssign _ _ e _ => exLcs 12 e
  | .For _ e _ _ _ => exLcs 12 e
  | _ => []
/-- the statement at a path; of an if: 2 k in the body, 2 k + 1 in the else -/
def stAt : Stmt → List Nat → Stmt
  | s, [] => s
  | s, k :: r => match s with
    | .For _ _ b _ _ => stAt (b[k]?.getD s) r
    | .While _ b _ _ => stAt (b[k]?.getD s) r
    | .If _ b e _ => stAt (((if k % 2 = 0 then b else e)[k / 2]?).getD s) r
    | .FunctionDef _ _ b .. => stAt (b[k]?.getD s) r
    | _ => s
/-- the scope of the j-th comprehension of the statement at a path -/
def lcIn (s : Stmt) (p : List Nat) (j : Nat) : Scope := ((stLcs (stAt s p))[j]?).getD (defScope s)
end Fo

set_option maxRecDepth 100000
set_option maxHeartbeats 2000000
namespace Fo
open PySem PySem.Spec PyProof.Rows L2
/-! ### defs that are run where no built-in loop waits: repr of lists and tuples -/
structure FnG (P : Program) (w : World) (K : PySem.W.Frag) (mg : Str → Option Value) (base : Heap) (k : Nat) (f : Addr) (fd : FuncData) (ps : List Str) (sp : Sp) : Prop where
  len : ∀ (vs : List V) (H : Hp) (Q : VK) (E : XK), sp vs H Q E → vs.length = ps.length
  run : ∀ (A : Around) (outer : List Env) (s : Shared) (H : Hp) (args : Args) (us : List Value) (vs : List V) (Q : VK) (E : XK), Room k A → A.guards = some [] → Env0 P w K mg base A outer s H →
    BindsTo s fd args (ps.zip us) → Vals vs us → sp vs H Q E → codeAny (model P w) A (Code.call (.ref f) args) (CR CX0 outer P w H s Q E) s
section
variable {P : Program} {w : World} {K : PySem.W.Frag} {mg : Str → Option Value} {base : Heap}
theorem fun_okG {x qual : Str} {st : Stmt} {f : Addr} {fd : FuncData} {N ps : List Str} {k : Nat} {sp : Sp} (F : Fun K x qual st f fd) (S : FnScope N ps (defScope st)) (len : ∀ vs H Q E, sp vs H Q E → vs.length = ps.length)
    (hbody : ∀ (cdv : Value) (A : Around) (outer : List Env) (s : Shared) (H : Hp) (vs : List V) (Q : VK) (E : XK), Room k (A.deeper (envOfC qual (defScope st) s.heap.objs.size f cdv)) → A.guards = some [] → sp vs H Q E →
      ∃ t, PSs (cxOf CX0 P w K mg base N qual (defScope st) f cdv A outer s H E).nox (defBody st) t ∧ t { nx := fun _ H' => Q .non H', rt := Q } (start N vs) H) : FnG P w K mg base (k + 1) f fd ps sp := by
  obtain ⟨oc, od, kV, doc, pm, an, cdv, ct, osl, rfl, lk, hcd⟩ := F.ex
  refine ⟨len, fun A outer s H args us vs Q E hr hg e0 hb r hsp => ?_⟩
  have hl := len vs H Q E hsp
  have KX : K.In s.heap := e0.mod.kin.keeps fun b o e => (e0.bs b o e).1
  have lim : s.heap.NoLimit := e0.mod.nolimit.keeps fun b o e => (e0.bs b o e).1
  refine codeAny_call_function hr.depth (KX f _ lk) rfl S.co S.gen rfl (PySem.W.codeRec_of KX hcd) ?_
  refine hb (model P w) A.in1 _ _ ?_
  refine wpAny_newFunctionEnv_cells S.kind (fun z hz => ?_) fun env he s1 hx => ?_
  · obtain ⟨n, v⟩ := z
    rcases S.par n (List.of_mem_zip hz).1 with q | q
    · exact .inl q
    · exact .inr ⟨q, PySem.W.cellsFrom_some _ _ _ (.inl q)⟩
  · subst he
    refine ⟨lim.keeps hx.toInCall.keep, codeAny_func ?_⟩
    obtain ⟨t, ht, hq⟩ := hbody cdv A outer s H vs Q E (hr.deeper _) hg hsp
    have I := inv_start (CX := CX0) (P := P) (w := w) (K := K) (mg := mg) (base := base) (E := E) S hr.hd e0 hl r hx
    refine wpAny_mono ((PSs.nox ht).run [] s1 (start N vs) H { nx := fun _ H' => Q .non H', rt := Q } I hq) (fun fl s' hs => ?_) fun e s' hs => hs
    cases fl with
    | next =>
      obtain ⟨σ', H', J, q⟩ := hs
      exact ⟨.non, H', J.os, J.bare, J.base, J.hok, rfl, q⟩
    | brk =>
      obtain ⟨σ', H', J, q⟩ := hs
      exact False.elim q
    | cont =>
      obtain ⟨σ', H', J, q⟩ := hs
      exact False.elim q
    | ret u =>
      obtain ⟨v, σ', H', J, rv, q⟩ := hs
      exact ⟨v, H', J.os, J.bare, J.base, J.hok, rv, q⟩
end
theorem law_callG {P : Program} {w : World} {K : PySem.W.Frag} {mg mb : Str → Option Value} {k : Nat} {fa a : Addr} {fd : FuncData} {x : Str} {sp : Sp} {s₁ : Shared} {vs : List Value} {ns : List Int} (KX : K.In s₁.heap) (hns : s₁.heap.Ns mainGlobals mg) (hb : s₁.heap.Ns builtinsNs mb)
    (hbb : ∀ x : Str, x ≠ Str.ofString "__name__" → mb x = bootBuiltins x) (hlim : s₁.heap.NoLimit) (hg : s₁.gens = #[]) (ha : s₁.heap.get? a = some { cls := .type "list", data := .seq vs.toArray }) (hi : IntsAre vs ns) (hl : ns.length ≤ sizeLine) (hr : Room k callerA)
    (F : ∀ base : Heap, K.In base → base.Ns mainGlobals mg → FnG P w K mg base k fa fd [x] sp) (hbind : ∀ (s : Shared) (u : Value), BindsTo s fd ⟨[u], []⟩ [(x, u)])
    (hsp : ∀ H : Hp, Only H → SqL K H a (ns.map V.int) → sp [.ref a] H (fun v _ => v = .bl true) fun _ _ _ => False) :
    codeAny (model P w) callerA (Code.call (.ref fa) ⟨[.ref a], []⟩) (fun r s' => r = .ok (.ret (.bool true)) ∧ OldK s₁.heap s'.heap ∧ s'.os = s₁.os ∧ AllBare s'.gens) s₁ := by
  have rv := vals_ints hi
  have core : ∀ H : Hp, Only H → SqL K H a (ns.map V.int) → HOk P w H s₁.heap → (∀ b, H b ≠ none → b = a) → (H a ≠ none → List.lookup a K = none) →
      codeAny (model P w) callerA (Code.call (.ref fa) ⟨[.ref a], []⟩) (fun r s' => r = .ok (.ret (.bool true)) ∧ OldK s₁.heap s'.heap ∧ s'.os = s₁.os ∧ AllBare s'.gens) s₁ := by
    intro H hO hS hok hA hK
    have noA : ∀ {b : Addr} {o : Obj} {es : Array DictEntry} {ep : Nat}, s₁.heap.get? b = some o → o.data = .dict es ep → H b = none := fun {b o es ep} e d => by
      cases q : H b with
      | none => rfl
      | some u =>
        have e' := hA b (by rw [q]; simp)
        subst e'
        rw [ha] at e
        cases e
        cases d
    have nsK : ∀ {b : Addr} {m : Str → Option Value}, s₁.heap.Ns b m → (hidT s₁.heap H).Ns b m := fun {b m} z => by
      obtain ⟨o, es, ep, e, d, r⟩ := z
      exact ⟨o, es, ep, hidT_get e (noA e d), d, r⟩
    have hKb : K.In (hidT s₁.heap H) := fun b o e => hidT_get (KX b o e) (by
      cases q : H b with
      | none => rfl
      | some u =>
        have e' := hA b (by rw [q]; simp)
        subst e'
        rw [hK (by rw [q]; simp)] at e
        cases e)
    have hM : L2.Mod K mg (hidT s₁.heap H) := { kin := hKb, glob := nsK hns, blt := ⟨mb, nsK hb, hbb⟩, nolimit := by obtain ⟨mc, h1, h2⟩ := hlim; exact ⟨mc, nsK h1, h2⟩ }
    have e0 : Env0 P w K mg (hidT s₁.heap H) callerA [] s₁ H := { frames := rfl, mod := hM, bs := fun b o e => of_hidT e, bsz := Nat.le_of_eq (hidT_size s₁.heap H), funs := trivial, frf := fun b hb => absurd hb (by intro z; cases z), hok := hok, bare := AllBare.of_eq hg }
    refine codeAny_mono ((F (hidT s₁.heap H) hKb (nsK hns)).run callerA [] s₁ H ⟨[.ref a], []⟩ [.ref a] [.ref a] (fun v _ => v = .bl true) (fun _ _ _ => False) hr rfl e0 (hbind s₁ (.ref a)) (.cons rfl .nil) (hsp H hO hS)) fun r s' h => ?_
    cases r with
    | error e => exact False.elim h
    | ok fl =>
      cases fl with
      | next => exact False.elim h
      | brk => exact False.elim h
      | cont => exact False.elim h
      | ret u =>
        obtain ⟨v, H', os, bare, un, hok', r', q⟩ := h
        subst q
        cases r'
        refine ⟨rfl, OldK.of_keep fun b o e => ?_, os, bare⟩
        cases q : H b with
        | none => exact un.keep b o e q (by intro z; cases z) (by intro z; cases z)
        | some u =>
          rcases hO b with z | ⟨ob, xs, z⟩
          · rw [z] at q; cases q
          · have z2 := un.frzs b ob _ z
            have e1 := (hok b _ z).1
            have e2 := (hok' b _ z2).1
            rw [e] at e1
            cases e1
            exact e2
  cases hk : List.lookup a K with
  | none =>
    refine core (fun b => if b = a then some (.frz { cls := .type "list", data := .seq vs.toArray } (.lst (ns.map V.int))) else none) (fun b => ?_) (.inl (.inr ⟨_, if_pos rfl⟩)) (fun b u z => ?_) (fun b z => ?_) fun _ => hk
    · by_cases e : b = a
      · exact .inr ⟨_, _, if_pos e⟩
      · exact .inl (if_neg e)
    · by_cases e : b = a
      · have z' := (if_pos e).symm.trans z
        cases z'
        subst e
        exact ⟨ha, by rw [List.length_map]; exact hl, vs, 0, rv, ha⟩
      · have z' := (if_neg e).symm.trans z
        cases z'
    · by_cases e : b = a
      · exact e
      · exact absurd (if_neg e) z
  | some o =>
    have e := KX a o hk
    rw [ha] at e
    cases e
    refine core (fun _ => none) (fun _ => .inl rfl) (.inr ⟨_, vs.toArray, 0, hk, rfl, rfl, rfl, ?_, rv⟩) (fun b u z => (by cases z)) (fun b z => absurd rfl z) fun z => absurd rfl z
    have := IntsAre.length hi
    rw [List.size_toArray, this]
    exact hl
theorem walk_ofG {l : PySem.W.OpenLaw} {n k : Nat} {q : Program} {loose : List Str} {XP : (Str → Option Value) → Heap → Prop} {YP : World → Heap → Prop} {d : DefRec} {K : Params → PySem.W.Frag} {sp : World → Sp} {x : Str} (hn : l.most = some n) (hn2 : n ≤ sizeLine) (hdf : d.params.defaults = []) (hr : Room k callerA)
    (hY : ∀ (w : World) (h : Heap), YP w h → (K w.params).In h)
    (F : ∀ (w : World) (mg : Str → Option Value) (fa : Addr) (h : Heap), (K w.params).In h → h.Ns mainGlobals mg → mg d.name = some (.ref fa) →
      ∃ fd : FuncData, (∀ (s : Shared) (u : Value), BindsTo s fd ⟨[u], []⟩ [(x, u)]) ∧ ∀ base : Heap, (K w.params).In base → base.Ns mainGlobals mg → FnG l.prog w (K w.params) mg base k fa fd [x] (sp w))
    (hsp : ∀ (w : World) (H : Hp) (a : Addr) (ns : List Int), ns.length ≤ n → Only H → SqL (K w.params) H a (ns.map V.int) → sp w [.ref a] H (fun v _ => v = .bl true) fun _ _ _ => False) :
    PySem.W.WalkO q loose XP YP l.row.toRowW d [] (fun f vs => PySem.call f vs) :=
  Att.attach_call hn hdf fun w s₀ s₁ mg mb fa o pm cd doc a vs ns G Y ho hd hcd hmg hobj hints hlen hg => by
    have KX := hY w s₁.heap Y
    obtain ⟨fd, hb, hF⟩ := F w mg fa s₁.heap KX G.T.g hmg
    exact law_callG KX G.T.g G.T.b G.T.builtins G.T.nolimit hg hobj hints (Nat.le_trans hlen hn2) hr hF hb fun H hO hS => hsp w H a ns hlen hO hS
end Fo

set_option maxRecDepth 100000
set_option maxHeartbeats 2000000
namespace Fo
open PySem PySem.Spec PyProof.Rows L2
theorem ns_one {h : Heap} {a : Addr} {m m' : Str → Option Value} (x : h.Ns a m) (y : h.Ns a m') : m = m' := by
  obtain ⟨o, es, ep, e, d, _, r⟩ := x
  obtain ⟨o', es', ep', e', d', _, r'⟩ := y
  rw [e] at e'
  cases e'
  rw [d] at d'
  cases d'
  funext n
  rw [← r n, ← r' n]
theorem get_lt {h : Heap} {b : Addr} {o : Obj} (e : h.get? b = some o) : b < h.objs.size := by
  by_cases c : b < h.objs.size
  · exact c
  · unfold Heap.get? at e
    rw [Array.getElem?_eq_none (Nat.le_of_not_lt c)] at e
    cases e
/-- all that stands in h, but what stands at L or was there at first -/
def allNews (base : Heap) (L : Addr) (h : Heap) : List (Addr × Obj) :=
  (List.range h.objs.size).filterMap fun b => if b ≠ L ∧ base.get? b = none then (h.get? b).map fun o => (b, o) else none
theorem mem_allNews {base : Heap} {L : Addr} {h : Heap} {b : Addr} {o : Obj} (e : h.get? b = some o) (n : b ≠ L) (z : base.get? b = none) : (b, o) ∈ allNews base L h :=
  List.mem_filterMap.mpr ⟨b, List.mem_range.mpr (get_lt e), by rw [if_pos ⟨n, z⟩, e]; rfl⟩
theorem news_all (base : Heap) (L : Addr) (h : Heap) : News base L h (allNews base L h) := by
  rintro ⟨b, o⟩ hp
  obtain ⟨c, _, q⟩ := List.mem_filterMap.mp hp
  by_cases e : c ≠ L ∧ base.get? c = none
  · rw [if_pos e] at q
    cases g : h.get? c with
    | none => rw [g] at q; cases q
    | some u =>
      rw [g] at q
      cases q
      exact ⟨g, e.1, e.2⟩
  · rw [if_neg e] at q
    cases q
/-- what stands is kept by all that keeps the frame and the news -/
theorem Inv.framed {X : Cx} {pins : List (Addr × Obj)} {σ : L2.St} {H : Hp} {s : Shared} {m : Str → Option Value} {h' : Heap} {tk : Nat} (I : L2.Inv X pins σ H s) (F : Fr X.base X.env.locals s.heap m) (F' : Fr X.base X.env.locals h' m) (N : News X.base X.env.locals h' (allNews X.base X.env.locals s.heap)) :
    L2.Inv X pins σ H { heap := h', gens := s.gens, drawn := s.drawn, toks := tk, os := s.os } := by
  have keep : ∀ b o, b ≠ X.env.locals → s.heap.get? b = some o → h'.get? b = some o := fun b o n e => by
    cases z : X.base.get? b with
    | none => exact (N _ (mem_allNews e n z)).1
    | some u =>
      have e1 := F.keep b u z
      rw [e] at e1
      cases e1
      exact F'.keep b o z
  refine I.step (ch := []) (fun b z => by cases z) (fun b o n _ _ e _ => keep b o n e) (fun b o n _ _ e _ => ⟨o.slots, keep b o n e⟩) (fun b o _ _ e => e) (fun b o _ e => ?_) (fun _ _ e => e) (fun _ _ _ e => e) (fun b ps e => ⟨#[], by rw [e]; simp⟩) (fun m' q => ?_) ?_ I.bare
  · by_cases n : b = X.env.locals
    · subst n
      obtain ⟨o', _, _, q, _⟩ := F'.ns
      exact ⟨o', q⟩
    · exact ⟨o, keep b o n e⟩
  · rw [ns_one q F.ns]
    exact F'.ns
  · intro a o ha
    have na : a ≠ X.env.locals := fun e => by rw [e, I.free] at ha; cases ha
    refine ObjOk.stay (I.hok a o ha) (fun b u q e => keep b u ?_ e) (fun _ e => e) (fun _ _ e => e)
    rcases q with q | q
    · rw [q]; exact na
    · intro e
      rw [e, I.free] at q
      cases q
/-- repr of a list or a tuple -/
def rRepr (K : PySem.W.Frag) (B : Nat) : List V → Hp → VK → Prop := fun xs H Q => ∃ (a : Addr) (d : PyData), xs = [.ref a] ∧ Dp K H (.ref a) d ∧ d.hasDict = false ∧ d.showable = true ∧ d.depth ≤ B ∧ d.shown.length ≤ sizeLine ∧ Q (.str d.shown) H
theorem cr_repr {X : Cx} {B : Nat} (hg : X.A.guards = some []) (hu : X.A.units + (B + 1) < cLine) : CallR X (.builtin "repr") (rRepr X.K B) := by
  intro pins s σ H xs us Q I r h
  obtain ⟨a, d, rfl, hd, h1, h2, h3, h4, q⟩ := h
  cases r with
  | cons r0 r1 =>
    cases r1
    cases r0
    obtain ⟨as, R⟩ := Dp.reads I d _ _ hd rfl
    obtain ⟨m, hF⟩ := I.fr
    refine repr_HN hF (news_all _ _ _) R h1 h2 hg (Nat.lt_of_le_of_lt (Nat.add_le_add_left (Nat.add_le_add_right h3 1) _) hu) (fun h' u tk F' N => ?_) h4
    exact ⟨.str d.shown, H, Inv.framed I hF F' N, ⟨u, rfl⟩, q⟩
end Fo

set_option maxRecDepth 100000
set_option maxHeartbeats 2000000
namespace Fo
open PySem PySem.Spec PyProof.Rows L2
/-! ### lists of rows of small numbers have a text -/
theorem small_int : ∀ m : Fin 100, (PyData.int (m.val : Int)).shown.length ≤ 13 ∧ (PyData.int (m.val : Int)).weight ≤ 7 ∧ (PyData.int (m.val : Int)).showable = true := by decide +kernel
theorem small_of {n : Int} (h : 0 ≤ n ∧ n < 100) : (PyData.int n).shown.length ≤ 13 ∧ (PyData.int n).weight ≤ 7 ∧ (PyData.int n).showable = true := by
  have := small_int ⟨n.toNat, by omega⟩
  have e : ((n.toNat : Nat) : Int) = n := by omega
  rw [e] at this
  exact this
structure Lay (w : Nat) (d : PyData) : Prop where
  hd : d.hasDict = false
  sh : d.showable = true
  dp : d.depth ≤ w
  can : d.canLay0 = true
  ish : PyData.intsShort 13 d = true
structure LayAll (w : Nat) (ds : List PyData) : Prop where
  hd : PyData.hasDictAll ds = false
  sh : PyData.showableAll ds = true
  dp : PyData.depthAll ds ≤ w
  can : PyData.canLayAll0 ds = true
  ish : PyData.intsShortAll 13 ds = true
theorem LayAll.nil {w : Nat} : LayAll w [] := ⟨rfl, rfl, Nat.zero_le _, rfl, rfl⟩
theorem LayAll.cons {w : Nat} {d : PyData} {ds : List PyData} (a : Lay w d) (b : LayAll w ds) : LayAll w (d :: ds) := by
  refine ⟨?_, ?_, ?_, ?_, ?_⟩
  · show (d.hasDict || PyData.hasDictAll ds) = false
    rw [a.hd, b.hd]; rfl
  · show (d.showable && PyData.showableAll ds) = true
    rw [a.sh, b.sh]; rfl
  · show max d.depth (PyData.depthAll ds) ≤ w
    have := a.dp; have := b.dp; omega
  · show (d.canLay0 && PyData.canLayAll0 ds) = true
    rw [a.can, b.can]; rfl
  · show (PyData.intsShort 13 d && PyData.intsShortAll 13 ds) = true
    rw [a.ish, b.ish]; rfl
theorem LayAll.tup {w : Nat} {ds : List PyData} (a : LayAll w ds) : Lay (w + 1) (.tuple ds) := ⟨a.hd, a.sh, Nat.succ_le_succ a.dp, a.can, a.ish⟩
theorem LayAll.lst {w : Nat} {ds : List PyData} (a : LayAll w ds) : Lay (w + 1) (.list ds) := ⟨a.hd, a.sh, Nat.succ_le_succ a.dp, a.can, a.ish⟩
theorem lay_int {n : Int} (h : 0 ≤ n ∧ n < 100) : Lay 0 (.int n) := ⟨rfl, (small_of h).2.2, Nat.le_refl _, rfl, decide_eq_true (small_of h).1⟩
theorem layAll_ints : ∀ {r : List Int}, (∀ x ∈ r, 0 ≤ x ∧ x < 100) → LayAll 0 (r.map PyData.int)
  | [], _ => .nil
  | x :: r, h => .cons (lay_int (h x List.mem_cons_self)) (layAll_ints fun y hy => h y (List.mem_cons_of_mem _ hy))
theorem weight_ints : ∀ {r : List Int}, (∀ x ∈ r, 0 ≤ x ∧ x < 100) → PyData.weightAll (r.map PyData.int) ≤ 8 * r.length
  | [], _ => Nat.le_refl _
  | x :: r, h => by
    show (PyData.int x).weight + 1 + PyData.weightAll (r.map PyData.int) ≤ 8 * (r.length + 1)
    have a := (small_of (h x List.mem_cons_self)).2.1
    have b := weight_ints (r := r) fun y hy => h y (List.mem_cons_of_mem _ hy)
    omega
theorem layR_rows : ∀ {rs : List (List Int)}, (∀ r ∈ rs, ∀ x ∈ r, 0 ≤ x ∧ x < 100) → LayAll 1 (rs.map dI)
  | [], _ => .nil
  | r :: rs, h => .cons (layAll_ints (h r List.mem_cons_self)).tup (layR_rows fun q hq => h q (List.mem_cons_of_mem _ hq))
theorem weight_rows {b : Nat} : ∀ {rs : List (List Int)}, (∀ r ∈ rs, r.length ≤ b ∧ ∀ x ∈ r, 0 ≤ x ∧ x < 100) → PyData.weightAll (rs.map dI) ≤ (8 * b + 1) * rs.length
  | [], _ => Nat.le_refl _
  | r :: rs, h => by
    show PyData.weightAll (r.map PyData.int) + 1 + PyData.weightAll (rs.map dI) ≤ (8 * b + 1) * (rs.length + 1)
    have h1 := h r List.mem_cons_self
    have a := weight_ints (r := r) h1.2
    have c := weight_rows (rs := rs) fun q hq => h q (List.mem_cons_of_mem _ hq)
    rw [Nat.mul_add, Nat.mul_one]
    have := Nat.mul_le_mul_left 8 h1.1
    omega
theorem Lay.shown {w : Nat} {d : PyData} (a : Lay w d) (hw : w ≤ 64) (hg : d.weight ≤ 2 ^ 20) : d.shown.length ≤ sizeLine := by
  refine Nat.le_trans (shown_le13 ?_ a.ish) (by decide)
  show (d.canLay0 && decide (d.depth ≤ 64) && decide (d.weight ≤ 2 ^ 20)) = true
  rw [a.can, decide_eq_true (Nat.le_trans a.dp hw), decide_eq_true hg]
  rfl
theorem shown_ties {rs : List (List Int)} (h : ∀ r ∈ rs, r.length ≤ 2 ∧ ∀ x ∈ r, 0 ≤ x ∧ x < 100) (hl : rs.length ≤ 10000) : (PyData.list (rs.map dI)).hasDict = false ∧ (PyData.list (rs.map dI)).showable = true ∧ (PyData.list (rs.map dI)).depth ≤ 8 ∧ (PyData.list (rs.map dI)).shown.length ≤ sizeLine := by
  have L : Lay 2 (.list (rs.map dI)) := (layR_rows fun r hr => (h r hr).2).lst
  refine ⟨L.hd, L.sh, Nat.le_trans L.dp (by decide), L.shown (by decide) ?_⟩
  have w := weight_rows (b := 2) h
  show PyData.weightAll (rs.map dI) ≤ 2 ^ 20
  have e : (2 : Nat) ^ 20 = 1048576 := by decide
  omega
theorem room_repr {k : Nat} {A : Around} (hr : Room k A) : A.units + (8 + 1) < cLine := by
  have := hr.un
  omega
end Fo

set_option maxRecDepth 100000
set_option maxHeartbeats 4000000
/-! lists of tuples of tuples of ints: kept, compared, sorted, shown -/
namespace Fo
open PySem PySem.Spec PyProof.Rows L2
inductive PrsT (K : PySem.W.Frag) (H : Hp) : List V → List (List (List Int)) → Prop where
  | nil : PrsT K H [] []
  | cons {v : V} {vs : List V} {R : List (List Int)} {Rs : List (List (List Int))} (h : RowsAt K H v R) (t : PrsT K H vs Rs) : PrsT K H (v :: vs) (R :: Rs)
section
variable {K : PySem.W.Frag} {H H' : Hp}
theorem PrsT.len : ∀ {vs : List V} {Rs : List (List (List Int))}, PrsT K H vs Rs → vs.length = Rs.length
  | _, _, .nil => rfl
  | _, _, .cons _ t => congrArg (· + 1) t.len
theorem PrsT.same (e : Same H H') : ∀ {vs : List V} {Rs : List (List (List Int))}, PrsT K H vs Rs → PrsT K H' vs Rs
  | _, _, .nil => .nil
  | _, _, .cons h t => .cons (h.same e) (t.same e)
theorem PrsT.snoc {v : V} {R : List (List Int)} (h : RowsAt K H v R) : ∀ {vs : List V} {Rs : List (List (List Int))}, PrsT K H vs Rs → PrsT K H (vs ++ [v]) (Rs ++ [R])
  | _, _, .nil => .cons h .nil
  | _, _, .cons a t => .cons a (t.snoc h)
theorem RowsAt.put {f : Addr} {us ws : List V} (e : H f = some (.lst us)) {v : V} {R : List (List Int)} (h : RowsAt K H v R) : RowsAt K (upd H f (.lst ws)) v R := by
  obtain ⟨a, vs, rfl, ha, hr⟩ := h
  exact ⟨a, vs, rfl, sqT_put ha e, hr.put e⟩
theorem PrsT.put {f : Addr} {us ws : List V} (e : H f = some (.lst us)) : ∀ {vs : List V} {Rs : List (List (List Int))}, PrsT K H vs Rs → PrsT K (upd H f (.lst ws)) vs Rs
  | _, _, .nil => .nil
  | _, _, .cons h t => .cons (RowsAt.put e h) (t.put e)
theorem PrsT.get : ∀ {vs : List V} {Rs : List (List (List Int))} {i : Nat} {v : V}, PrsT K H vs Rs → vs[i]? = some v → ∃ R, Rs[i]? = some R ∧ RowsAt K H v R
  | _, _, 0, _, .cons h _, e => ⟨_, rfl, by cases e; exact h⟩
  | _, _, _ + 1, _, .cons _ t, e => t.get e
theorem PrsT.dp : ∀ {vs : List V} {Rs : List (List (List Int))}, PrsT K H vs Rs → DpAll K H vs (Rs.map dR)
  | _, _, .nil => .nil
  | _, _, .cons h t => .cons h.dp t.dp
theorem dp_P {p : Addr} {vs : List V} {Rs : List (List (List Int))} (h : SqL K H p vs) (r : PrsT K H vs Rs) : Dp K H (.ref p) (.list (Rs.map dR)) := .lst h r.dp
end
theorem eqvAll_P : ∀ r : List (List (List Int)), PyData.eqvAll (r.map dR) (r.map dR) = true
  | [] => by simp [PyData.eqvAll]
  | x :: xs => by
    rw [List.map_cons, PyData.eqvAll, eqv_R, eqvAll_P xs, decide_eq_true rfl]
    rfl
theorem eqv_P (r : List (List (List Int))) : PyData.eqv (.list (r.map dR)) (.list (r.map dR)) = true := by
  rw [PyData.eqv]
  exact eqvAll_P r
theorem lay_P : ∀ rs : List (List (List Int)), PyData.canLayAll0 (rs.map dR) = true ∧ PyData.depthAll (rs.map dR) ≤ 3
  | [] => ⟨by rw [List.map_nil, PyData.canLayAll0], by rw [List.map_nil, PyData.depthAll]; omega⟩
  | n :: r => by
    obtain ⟨h1, h2⟩ := lay_P r
    have hd := dep_rows n
    constructor
    · rw [List.map_cons, PyData.canLayAll0, h1]
      show (PyData.canLay0 (.tuple _) && true) = true
      rw [PyData.canLay0, lay_rows]
      rfl
    · rw [List.map_cons, PyData.depthAll]
      have e : PyData.depth (dR n) = PyData.depthAll (n.map dI) + 1 := by
        show PyData.depth (.tuple _) = _
        rw [PyData.depth]
      omega
theorem sh_P (rs : List (List (List Int))) : SeqAt.shaped (.list (rs.map dR)) = true := by
  unfold SeqAt.shaped
  obtain ⟨h1, h2⟩ := lay_P rs
  rw [PyData.canLay0, PyData.depth, h1, Bool.true_and]
  exact decide_eq_true (by omega)
theorem shown_P {Rs : List (List (List Int))} (h : ∀ R ∈ Rs, R.length ≤ 2 ∧ ∀ r ∈ R, r.length ≤ 40 ∧ ∀ x ∈ r, 0 ≤ x ∧ x < 100) (hl : Rs.length ≤ 40) : (PyData.list (Rs.map dR)).hasDict = false ∧ (PyData.list (Rs.map dR)).showable = true ∧ (PyData.list (Rs.map dR)).depth ≤ 8 ∧ (PyData.list (Rs.map dR)).shown.length ≤ sizeLine := by
  have all : ∀ Rs : List (List (List Int)), (∀ R ∈ Rs, R.length ≤ 2 ∧ ∀ r ∈ R, r.length ≤ 40 ∧ ∀ x ∈ r, 0 ≤ x ∧ x < 100) → LayAll 2 (Rs.map dR) ∧ PyData.weightAll (Rs.map dR) ≤ 1000 * Rs.length := fun Rs => by
    induction Rs with
    | nil => exact fun _ => ⟨.nil, Nat.le_refl _⟩
    | cons R Rs ih =>
      intro h
      obtain ⟨a, b⟩ := ih fun q hq => h q (List.mem_cons_of_mem _ hq)
      obtain ⟨h1, h2⟩ := h R List.mem_cons_self
      refine ⟨.cons (layR_rows fun r hr => (h2 r hr).2).tup a, ?_⟩
      show PyData.weightAll (R.map dI) + 1 + PyData.weightAll (Rs.map dR) ≤ 1000 * (Rs.length + 1)
      have w := weight_rows (b := 40) h2
      omega
  obtain ⟨a, b⟩ := all Rs h
  have L : Lay 3 (.list (Rs.map dR)) := a.lst
  refine ⟨L.hd, L.sh, Nat.le_trans L.dp (by decide), L.shown (by decide) ?_⟩
  show PyData.weightAll (Rs.map dR) ≤ 2 ^ 20
  have e : (2 : Nat) ^ 20 = 1048576 := by decide
  omega
/-! ### sorted -/
section
variable {X : Cx}
theorem alike_rows : ∀ xs ys : List (List Int), PySem.W.alikeAll (xs.map dI) (ys.map dI) = true
  | [], _ => by simp [PySem.W.alikeAll]
  | _ :: _, [] => by simp [PySem.W.alikeAll]
  | x :: xs, y :: ys => by
    rw [List.map_cons, List.map_cons, PySem.W.alikeAll, alike_rows xs ys, Bool.and_true]
    show PySem.W.alike (.tuple _) (.tuple _) = true
    rw [PySem.W.alike]
    exact PySem.W.alike_ints x y
theorem lt_I (a b : List Int) : PySem.W.dataLt (dI a) (dI b) = decide (a < b) := by
  show PySem.W.dataLt (.tuple _) (.tuple _) = _
  rw [PySem.W.dataLt_tuple]
  exact PySem.W.dataLt_ints a b
/-- the first parts of two pairs of rows decide, where they differ -/
theorem lt_P {a b c d : List Int} (h : PySem.W.dataLt (dR [c, d]) (dR [a, b]) = false) : a ≤ c := by
  have e : PySem.W.dataLt (dR [c, d]) (dR [a, b]) = if PyData.eqv (dI c) (dI a) = true then (if PyData.eqv (dI d) (dI b) = true then false else PySem.W.dataLt (dI d) (dI b)) else PySem.W.dataLt (dI c) (dI a) := PySem.W.dataLt_pair (by have := alike_rows [c] [a]; simpa [PySem.W.alikeAll] using this) (by have := alike_rows [d] [b]; simpa [PySem.W.alikeAll] using this)
  rw [e, eqv_I, lt_I c a] at h
  by_cases q : c = a
  · rw [q]
    exact List.le_refl _
  · rw [if_neg (by rw [decide_eq_true_iff]; exact q)] at h
    exact List.not_lt.mp (of_decide_eq_false h)
def rSortedPP (K : PySem.W.Frag) : List V → Hp → VK → Prop := fun vs H Q => ∃ (a : Addr) (bs : List (Addr × (List Int × List Int))), vs = [V.ref a] ∧ SqL K H a (bs.map fun b => V.ref b.1) ∧ (∀ b ∈ bs, RowsAt K H (.ref b.1) [b.2.1, b.2.2]) ∧
  ∀ (os : List (Addr × (List Int × List Int))) p, os.Perm bs → (os.map fun b => b.2.1).Pairwise (· ≤ ·) → H p = none → Q (.ref p) (upd H p (.lst (os.map fun b => V.ref b.1)))
theorem refsP_of {bs : List (Addr × (List Int × List Int))} {its : List Value} (h : Vals (bs.map fun b => V.ref b.1) its) : its = bs.map fun b => Value.ref b.1 := by
  induction bs generalizing its with
  | nil => cases h; rfl
  | cons b bs ih =>
    cases h with
    | cons r t =>
      rw [ih t, show _ = Value.ref b.1 from r]
      rfl
theorem refsP_to : ∀ bs : List (Addr × (List Int × List Int)), Vals (bs.map fun b => V.ref b.1) (bs.map fun b => Value.ref b.1)
  | [] => .nil
  | b :: bs => .cons rfl (refsP_to bs)
theorem eachP_refs : ∀ bs : List (Addr × (List Int × List Int)), PySem.W.EachIs (fun v (b : Addr × (List Int × List Int)) => v = Value.ref b.1) (bs.map fun b => Value.ref b.1) bs
  | [] => .nil
  | b :: bs => .cons rfl (eachP_refs bs)
theorem eachP_back {bs : List (Addr × (List Int × List Int))} {out : List Value} (h : PySem.W.EachIs (fun v (b : Addr × (List Int × List Int)) => v = Value.ref b.1) out bs) : out = bs.map fun b => Value.ref b.1 := by
  induction h with
  | nil => rfl
  | cons h _ ih => rw [ih, h]; rfl
theorem eachP_of {R : Value → (Addr × (List Int × List Int)) → Prop} : ∀ {bs : List (Addr × (List Int × List Int))}, (∀ b ∈ bs, R (Value.ref b.1) b) → PySem.W.EachIs R (bs.map fun b => Value.ref b.1) bs
  | [], _ => .nil
  | b :: bs, h => .cons (h b List.mem_cons_self) (eachP_of fun c hc => h c (List.mem_cons_of_mem _ hc))
def encP (b : Addr × (List Int × List Int)) : PyData := dR [b.2.1, b.2.2]
theorem cr_sortedPP (hu : X.A.units + 64 < cLine) : CallR X (.builtin "sorted") (rSortedPP X.K) := by
  intro pins s σ H vs us Q I r h
  obtain ⟨a, bs, rfl, hs, hb, q⟩ := h
  obtain ⟨its, rv, hl, hz⟩ := I.list hs
  obtain ⟨u, rfl, ru⟩ := r.one
  obtain rfl : u = Value.ref a := ru
  have ei := refsP_of rv
  subst ei
  have bl : bs.length ≤ sizeLine := by
    have := hz
    simpa using this
  refine PySem.W.sorted_data (R := fun v (b : Addr × (List Int × List Int)) => v = Value.ref b.1) (enc := encP) hl.isList (eachP_refs bs) (eachP_of fun b hm => ?_) (PySem.W.AllAlike.of fun b b' => ?_) (PySem.W.Sortable.tuples fun b => ⟨_, _, rfl⟩) bl (fun b _ => ?_) fun out ho eo => ?_
  · exact Dp.reads I (dR [b.2.1, b.2.2]) (V.ref b.1) (Value.ref b.1) (hb b hm).dp rfl
  · show PySem.W.alike (.tuple _) (.tuple _) = true
    rw [PySem.W.alike]
    exact alike_rows _ _
  · have hd := dep_rows [b.2.1, b.2.2]
    show X.A.units + 2 + (PyData.tuple _).depth < cLine
    rw [PyData.depth]
    omega
  · obtain ⟨n, hn⟩ := sortedAll_at s.heap (bs.map fun b => Value.ref b.1) out.toArray
    have eo' := eachP_back eo
    have tot := PySem.W.sortLe_total (listOrd itemOrd) false fun b : Addr × (List Int × List Int) => PySem.W.keyToks (encP b)
    obtain ⟨le, ele⟩ : ∃ le, le = PySem.W.dataLe false encP := ⟨_, rfl⟩
    rw [← ele] at eo'
    have pm := List.mergeSort_perm bs le
    have hf := I.hok.fresh (Nat.le_succ s.heap.objs.size)
    refine ⟨.ref (s.heap.objs.size + 1), _, I.laid (t' := s.toks) (o := .lst ((bs.mergeSort le).map fun b => V.ref b.1)) (fun b o e => sortedAll_old e) (Nat.le_succ _) ⟨?_, out, n, ?_, hn⟩, rfl, q (bs.mergeSort le) _ pm ?_ hf⟩
    · rw [List.length_map, pm.length_eq]; exact bl
    · rw [eo']
      exact refsP_to _
    · rw [List.pairwise_map, ele]
      refine (List.pairwise_mergeSort tot.trans (fun a b => by rw [Bool.or_eq_true]; exact tot.total a b) bs).imp fun {x y} h => ?_
      have h : (!PySem.W.dataLt (encP y) (encP x)) = true := h
      exact lt_P (by rwa [Bool.not_eq_true'] at h)
end
end Fo

namespace Mt
theorem row_set {rows : Rows} {p q : Nat} {r : List Int} (hp : p < rows.length) : row (rows.set p r) q = if q = p then r else row rows q := by
  unfold row
  by_cases e : q = p
  · subst e
    rw [if_pos rfl, List.getElem?_set_self hp]
    rfl
  · rw [if_neg e, List.getElem?_set_ne (fun z => e z.symm)]
/-- a tie struck -/
theorem ds_without {rows : Rows} {p : Nat} {t : Int} {r : List Int} (hr : rows[p]? = some r) {D : List Int} : Ds (rows.set p (r.filter fun z => !decide (z = t))) D ↔ Ds rows D ∧ D[p]? ≠ some t := by
  have hp : p < rows.length := (List.getElem?_eq_some_iff.mp hr).1
  have er : row rows p = r := row_get hr
  constructor
  · intro d
    refine ⟨⟨by rw [d.len, List.length_set], fun q u h => ?_, d.nd⟩, fun h => ?_⟩
    · have := d.tie q u h
      rw [row_set hp] at this
      by_cases e : q = p
      · rw [if_pos e] at this
        rw [e, er]
        exact (List.mem_filter.mp this).1
      · rwa [if_neg e] at this
    · have := d.tie p t h
      rw [row_set hp, if_pos rfl] at this
      have := (List.mem_filter.mp this).2
      simp at this
  · rintro ⟨d, n⟩
    refine ⟨by rw [d.len, List.length_set], fun q u h => ?_, d.nd⟩
    rw [row_set hp]
    by_cases e : q = p
    · rw [if_pos e]
      rw [e] at h
      have := d.tie p u h
      rw [er] at this
      exact List.mem_filter.mpr ⟨this, by
        have : u ≠ t := fun z => n (by rw [h, z])
        simpa using this⟩
    · rw [if_neg e]
      exact d.tie q u h
theorem set_asc {rows : Rows} {p : Nat} {r : List Int} (asc : ∀ r ∈ rows, r.Pairwise (· < ·)) (hr : r.Pairwise (· < ·)) : ∀ q ∈ rows.set p r, q.Pairwise (· < ·) := fun q hq => by
  rcases List.mem_or_eq_of_mem_set hq with h | h
  · exact asc q h
  · rw [h]; exact hr
/-- fewer dealings exactly if it was in one -/
theorem cnt_without {rows : Rows} {p : Nat} {t : Int} {r : List Int} (asc : ∀ r ∈ rows, r.Pairwise (· < ·)) (hr : rows[p]? = some r) : cnt [] (rows.set p (r.filter fun z => !decide (z = t))) = cnt [] rows ↔ ¬ Live rows p t := by
  have ra := asc r (List.mem_of_getElem? hr)
  have a2 := set_asc (p := p) asc (ra.filter fun z => !decide (z = t))
  constructor
  · rintro h ⟨D, hD, e⟩
    rw [← deals_cnt, ← deals_cnt] at h
    have n1 := deals_nd a2
    have h1 := len_le (l2 := (deals rows).erase D) n1 fun x hx => by
      obtain ⟨d1, d2⟩ := (ds_without hr).mp ((mem_deals x).mp hx)
      have ne : x ≠ D := fun z => d2 (by rw [z, e])
      exact (List.mem_erase_of_ne ne).mpr ((mem_deals x).mpr d1)
    have hm := (mem_deals D).mpr hD
    rw [List.length_erase_of_mem hm] at h1
    have := List.length_pos_of_mem hm
    omega
  · intro h
    refine cnt_same a2 asc fun D => (ds_without hr).trans ⟨fun z => z.1, fun d => ⟨d, fun e => h ⟨D, d, e⟩⟩⟩
end Mt

namespace Mt
/-- all pairs of a lot are in a dealing -/
def hasAll (lot : List (Nat × Int)) (D : List Int) : Bool := lot.all fun q => decide (D[q.1]? = some q.2)
theorem hasAll_snoc {lot : List (Nat × Int)} {q : Nat × Int} {D : List Int} : hasAll (lot ++ [q]) D = (hasAll lot D && decide (D[q.1]? = some q.2)) := by
  unfold hasAll
  rw [List.all_append]
  simp
theorem hasAll_mem {lot : List (Nat × Int)} {D : List Int} (h : hasAll lot D = true) {q : Nat × Int} (hq : q ∈ lot) : D[q.1]? = some q.2 := of_decide_eq_true (List.all_eq_true.mp h q hq)
theorem hasAll_sub {a b : List (Nat × Int)} {D : List Int} (h : ∀ q ∈ a, q ∈ b) (hb : hasAll b D = true) : hasAll a D = true := List.all_eq_true.mpr fun q hq => decide_eq_true (hasAll_mem hb (h q hq))
theorem hasAll_iff {a b : List (Nat × Int)} (h : ∀ q, q ∈ a ↔ q ∈ b) (D : List Int) : hasAll a D = hasAll b D := by
  cases e : hasAll b D with
  | true => exact hasAll_sub (fun q hq => (h q).mp hq) e
  | false =>
    cases e2 : hasAll a D with
    | true => rw [hasAll_sub (fun q hq => (h q).mpr hq) e2] at e; cases e
    | false => rfl
/-- how many dealings have all pairs of a lot -/
def cntW (rows : Rows) (lot : List (Nat × Int)) : Nat := ((deals rows).filter (hasAll lot)).length
theorem cnt_lot {rows R : Rows} {lot : List (Nat × Int)} (a1 : ∀ r ∈ rows, r.Pairwise (· < ·)) (a2 : ∀ r ∈ R, r.Pairwise (· < ·)) (h : ∀ D, Ds R D ↔ Ds rows D ∧ hasAll lot D = true) : cnt [] R = cntW rows lot := by
  rw [← deals_cnt]
  exact ((List.perm_ext_iff_of_nodup (deals_nd a2) ((deals_nd a1).filter _)).mpr fun x => by
    rw [mem_deals, h, List.mem_filter, mem_deals]).length_eq
theorem cntW_zero {rows : Rows} {lot : List (Nat × Int)} (h : ∀ D, Ds rows D → hasAll lot D = true → False) : cntW rows lot = 0 := by
  unfold cntW
  rw [List.length_eq_zero_iff, List.filter_eq_nil_iff]
  exact fun D hD hl => h D ((mem_deals D).mp hD) hl
theorem cntW_nil {rows : Rows} : cntW rows [] = cnt [] rows := by
  unfold cntW
  rw [← deals_cnt]
  congr 1
  exact List.filter_eq_self.mpr fun _ _ => rfl
theorem cntW_iff {rows : Rows} {a b : List (Nat × Int)} (h : ∀ q, q ∈ a ↔ q ∈ b) : cntW rows a = cntW rows b := by
  unfold cntW
  congr 1
  exact List.filter_congr fun D _ => hasAll_iff h D
/-- a thing for a person: the numbers add up -/
theorem cntW_sum {rows : Rows} {p n : Nat} (hp : p < rows.length) (hr : ∀ t ∈ row rows p, 0 ≤ t ∧ t < (n : Int)) : ((List.range n).map fun (t : Nat) => cntW rows [(p, (t : Int))]).sum = (deals rows).length := by
  have h1 : ∀ t : Nat, cntW rows [(p, (t : Int))] = ((deals rows).map fun D => if D[p]? = some (t : Int) then 1 else 0).sum := fun t => by
    unfold cntW
    have := sum_if (p := hasAll [(p, (t : Int))]) (f := fun _ => 1) (deals rows)
    rw [sum_const (c := 1) (fun _ _ => rfl), Nat.mul_one] at this
    rw [this]
    refine sum_congr fun D _ => ?_
    have e : (hasAll [(p, (t : Int))] D = true) ↔ D[p]? = some (t : Int) := by
      unfold hasAll
      simp
    by_cases c : D[p]? = some (t : Int)
    · rw [if_pos c, if_pos (e.mpr c)]
    · rw [if_neg c, if_neg (fun z => c (e.mp z))]
  rw [List.map_congr_left fun t _ => h1 t, sum_swap]
  rw [sum_const (c := 1) fun D hD => ?_, Nat.mul_one]
  have d := (mem_deals D).mp hD
  obtain ⟨u, hu, hm⟩ := d.get hp
  have hb := hr u hm
  have e : ∀ t ∈ List.range n, (if D[p]? = some (t : Int) then 1 else 0) = if t = u.toNat then 1 else 0 := fun t _ => by
    rw [hu]
    by_cases c : t = u.toNat
    · rw [if_pos c, if_pos (by rw [c]; congr 1; omega)]
    · rw [if_neg c, if_neg (fun z => c (by have := Option.some.inj z; omega))]
  rw [sum_congr e]
  have := sum_one (f := fun t : Nat => t) (k := u.toNat) (X := 1) (l := List.range n) (by rw [List.map_id']; exact List.nodup_range) ⟨u.toNat, List.mem_range.mpr (by omega), rfl⟩
  exact this
end Mt

namespace Mt
theorem cnt_pred {rows R : Rows} {p : List Int → Bool} (a1 : ∀ r ∈ rows, r.Pairwise (· < ·)) (a2 : ∀ r ∈ R, r.Pairwise (· < ·)) (h : ∀ D, Ds R D ↔ Ds rows D ∧ p D = true) : cnt [] R = ((deals rows).filter p).length := by
  rw [← deals_cnt]
  exact ((List.perm_ext_iff_of_nodup (deals_nd a2) ((deals_nd a1).filter _)).mpr fun x => by
    rw [mem_deals, h, List.mem_filter, mem_deals]).length_eq
theorem lx_asym {a b : List Int} (h : Lx a b) (h2 : Lx b a) : False := by
  obtain ⟨q, x, y, e1, e2, e3, e4⟩ := h
  obtain ⟨r, u, v, f1, f2, f3, f4⟩ := h2
  rcases Nat.lt_trichotomy q r with c | c | c
  · have := f1 q c
    rw [e2, e3] at this
    have := Option.some.inj this
    omega
  · subst c
    rw [e2] at f3
    rw [e3] at f2
    have := Option.some.inj f2
    have := Option.some.inj f3
    omega
  · have := e1 r c
    rw [f2, f3] at this
    have := Option.some.inj this
    omega
/-- a dealing begins so -/
def preB (pre D : List Int) : Bool := decide (D.take pre.length = pre)
theorem preB_snoc {pre D : List Int} {t : Int} : preB (pre ++ [t]) D = true ↔ preB pre D = true ∧ D[pre.length]? = some t := by
  unfold preB
  rw [decide_eq_true_eq, decide_eq_true_eq, List.length_append, List.length_singleton, List.take_add_one]
  constructor
  · intro h
    cases e : D[pre.length]? with
    | none =>
      rw [e] at h
      have h1 : (D.take pre.length).length = (pre ++ [t]).length := by rw [← h]; simp
      rw [List.length_append, List.length_take] at h1
      simp at h1
      omega
    | some u =>
      rw [e] at h
      have h' : D.take pre.length ++ [u] = pre ++ [t] := h
      have h2 := List.append_inj' h' rfl
      refine ⟨h2.1, ?_⟩
      have := (List.cons.inj h2.2).1
      rw [this]
  · rintro ⟨h1, h2⟩
    rw [h1, h2]
    rfl
theorem pre_get {pre D : List Int} (h : preB pre D = true) {i : Nat} (hi : i < pre.length) : D[i]? = pre[i]? := by
  have := of_decide_eq_true h
  have e : (D.take pre.length)[i]? = D[i]? := by rw [List.getElem?_take, if_pos hi]
  rw [← e, this]
theorem pre_lx {pre a b : List Int} {t u : Int} (ha : preB (pre ++ [t]) a = true) (hb : preB (pre ++ [u]) b = true) (h : t < u) : Lx a b := by
  obtain ⟨a1, a2⟩ := preB_snoc.mp ha
  obtain ⟨b1, b2⟩ := preB_snoc.mp hb
  exact ⟨pre.length, t, u, fun j hj => by rw [pre_get a1 hj, pre_get b1 hj], a2, b2, h⟩
/-- the dealings that begin so, by the next thing -/
theorem pre_split {L : List (List Int)} (hL : L.Pairwise Lx) {pre r : List Int} (hr : r.Pairwise (· < ·)) (h : ∀ D ∈ L, preB pre D = true → ∃ t ∈ r, D[pre.length]? = some t) :
    L.filter (preB pre) = r.flatMap fun t => L.filter (preB (pre ++ [t])) := by
  have nd : ∀ {l : List (List Int)}, l.Pairwise Lx → l.Nodup := fun p => p.imp fun {a b} z e => by subst e; exact lx_irr z
  have p1 := hL.filter (preB pre)
  have p2 : (r.flatMap fun t => L.filter (preB (pre ++ [t]))).Pairwise Lx := by
    rw [List.pairwise_flatMap]
    refine ⟨fun t _ => hL.filter _, hr.imp fun {t u} z x hx y hy => ?_⟩
    exact pre_lx (List.mem_filter.mp hx).2 (List.mem_filter.mp hy).2 z
  refine ((List.perm_ext_iff_of_nodup (nd p1) (nd p2)).mpr fun x => ?_).eq_of_pairwise (fun a b _ _ h1 h2 => (lx_asym h1 h2).elim) p1 p2
  rw [List.mem_filter, List.mem_flatMap]
  constructor
  · rintro ⟨h1, h2⟩
    obtain ⟨t, ht, e⟩ := h x h1 h2
    exact ⟨t, ht, List.mem_filter.mpr ⟨h1, preB_snoc.mpr ⟨h2, e⟩⟩⟩
  · rintro ⟨t, ht, hx⟩
    obtain ⟨h1, h2⟩ := List.mem_filter.mp hx
    exact ⟨h1, (preB_snoc.mp h2).1⟩
/-- rows behind the first ones' things -/
structure Blk (rows R : Rows) (pre : List Int) : Prop where
  len : R.length = rows.length
  asc : ∀ r ∈ R, r.Pairwise (· < ·)
  ds : ∀ D, Ds R D ↔ Ds rows D ∧ preB pre D = true
theorem Blk.init {rows : Rows} (asc : ∀ r ∈ rows, r.Pairwise (· < ·)) : Blk rows rows [] := ⟨rfl, asc, fun D => ⟨fun h => ⟨h, rfl⟩, fun h => h.1⟩⟩
theorem Blk.step {rows R : Rows} {pre : List Int} (b : Blk rows R pre) (hp : pre.length < rows.length) {t : Int} (ht : t ∈ row R pre.length) (asc : ∀ r ∈ narrow R pre.length t, r.Pairwise (· < ·)) : Blk rows (narrow R pre.length t) (pre ++ [t]) where
  len := by rw [narrow_len, b.len]
  asc := asc
  ds := fun D => by
    rw [ds_narrow (by rw [b.len]; exact hp) ht, b.ds, preB_snoc]
    exact and_assoc
theorem Blk.cnt {rows R : Rows} {pre : List Int} (b : Blk rows R pre) (asc : ∀ r ∈ rows, r.Pairwise (· < ·)) : cnt [] R = ((deals rows).filter (preB pre)).length := cnt_pred asc b.asc b.ds
theorem Blk.split {rows R : Rows} {pre : List Int} (b : Blk rows R pre) (asc : ∀ r ∈ rows, r.Pairwise (· < ·)) (hp : pre.length < rows.length) : (deals rows).filter (preB pre) = (row R pre.length).flatMap fun t => (deals rows).filter (preB (pre ++ [t])) := by
  refine pre_split (deals_lx asc) ?_ fun D hD hpre => ?_
  · have : row R pre.length = R[pre.length]'(by rw [b.len]; exact hp) := row_get (List.getElem?_eq_getElem (by rw [b.len]; exact hp))
    rw [this]
    exact b.asc _ (List.getElem_mem _)
  · have d := (b.ds D).mpr ⟨(mem_deals D).mp hD, hpre⟩
    obtain ⟨t, h1, h2⟩ := d.get (p := pre.length) (by rw [b.len]; exact hp)
    exact ⟨t, h2, h1⟩
/-- where a list stands in another, as a block from a place on -/
def At (L B : List (List Int)) (n : Nat) : Prop := ∃ A C, L = A ++ B ++ C ∧ A.length = n
theorem At.part {L B1 B2 B3 : List (List Int)} {n : Nat} (h : At L (B1 ++ B2 ++ B3) n) : At L B2 (n + B1.length) := by
  obtain ⟨A, C, e, l⟩ := h
  refine ⟨A ++ B1, B3 ++ C, ?_, by rw [List.length_append, l]⟩
  rw [e]
  simp
theorem At.get {L B : List (List Int)} {n i : Nat} (h : At L B n) (hi : i < B.length) : L[n + i]? = B[i]? := by
  obtain ⟨A, C, e, l⟩ := h
  rw [e, List.append_assoc, List.getElem?_append_right (by omega), l, Nat.add_sub_cancel_left, List.getElem?_append_left hi]
theorem At.self (L : List (List Int)) : At L L 0 := ⟨[], [], by simp, rfl⟩
theorem preB_all {rows : Rows} {pre : List Int} (hl : pre.length = rows.length) : ∀ D ∈ (deals rows).filter (preB pre), D = pre := fun D hD => by
  obtain ⟨h1, h2⟩ := List.mem_filter.mp hD
  have d := (mem_deals D).mp h1
  have := of_decide_eq_true h2
  rwa [List.take_of_length_le (by rw [d.len, hl]; exact Nat.le_refl _)] at this
theorem Blk.part {rows R : Rows} {pre : List Int} (b : Blk rows R pre) (asc : ∀ r ∈ rows, r.Pairwise (· < ·)) (hp : pre.length < rows.length) (ascN : ∀ t ∈ row R pre.length, ∀ r ∈ narrow R pre.length t, r.Pairwise (· < ·)) {l : List Int} (hl : ∀ t ∈ l, t ∈ row R pre.length) :
    (l.flatMap fun t => (deals rows).filter (preB (pre ++ [t]))).length = (l.map fun t => Mt.cnt [] (narrow R pre.length t)).sum := by
  rw [List.length_flatMap]
  exact sum_congr fun t ht => ((b.step hp (hl t ht) (ascN t (hl t ht))).cnt asc).symm
theorem Blk.sum {rows R : Rows} {pre : List Int} (b : Blk rows R pre) (asc : ∀ r ∈ rows, r.Pairwise (· < ·)) (hp : pre.length < rows.length) (ascN : ∀ t ∈ row R pre.length, ∀ r ∈ narrow R pre.length t, r.Pairwise (· < ·)) : ((deals rows).filter (preB pre)).length = ((row R pre.length).map fun t => Mt.cnt [] (narrow R pre.length t)).sum := by
  rw [b.split asc hp]
  exact b.part asc hp ascN fun t ht => ht
theorem Blk.at_ {rows R : Rows} {pre : List Int} (b : Blk rows R pre) (asc : ∀ r ∈ rows, r.Pairwise (· < ·)) (hp : pre.length < rows.length) (ascN : ∀ t ∈ row R pre.length, ∀ r ∈ narrow R pre.length t, r.Pairwise (· < ·)) {n : Nat} (h : At (deals rows) ((deals rows).filter (preB pre)) n) {r1 r2 : List Int} {t : Int} (e : row R pre.length = r1 ++ t :: r2) :
    At (deals rows) ((deals rows).filter (preB (pre ++ [t]))) (n + (r1.map fun t => Mt.cnt [] (narrow R pre.length t)).sum) := by
  rw [← b.part asc hp ascN (l := r1) fun s hs => by rw [e]; exact List.mem_append_left _ hs]
  rw [b.split asc hp, e, List.flatMap_append, List.flatMap_cons, ← List.append_assoc] at h
  exact h.part
theorem filter_nil_pre {rows : Rows} : (deals rows).filter (preB []) = deals rows := List.filter_eq_self.mpr fun D _ => by
  unfold preB
  simp
end Mt

namespace Mt
/-- in how many orders so many stand -/
def fac : Nat → Nat
  | 0 => 1
  | n + 1 => (n + 1) * fac n
theorem heads_le : ∀ (S : List Int) (L : List (List Int)), (∀ D ∈ L, ∃ s ∈ S, D.head? = some s) → L.length ≤ (S.map fun s => (L.filter fun D => decide (D.head? = some s)).length).sum
  | [], [], _ => Nat.le_refl _
  | [], D :: L, h => by
    obtain ⟨s, hs, _⟩ := h D List.mem_cons_self
    cases hs
  | s :: S, L, h => by
    have ih := heads_le S (L.filter fun D => !decide (D.head? = some s)) fun D hD => by
      obtain ⟨h1, h2⟩ := List.mem_filter.mp hD
      obtain ⟨u, hu, e⟩ := h D h1
      rcases List.mem_cons.mp hu with q | q
      · rw [e, q, decide_eq_true rfl] at h2
        cases h2
      · exact ⟨u, q, e⟩
    have le : (S.map fun u => ((L.filter fun D => !decide (D.head? = some s)).filter fun D => decide (D.head? = some u)).length).sum ≤ (S.map fun u => (L.filter fun D => decide (D.head? = some u)).length).sum := by
      clear ih h
      induction S with
      | nil => exact Nat.le_refl _
      | cons u S ih =>
        rw [List.map_cons, List.map_cons, List.sum_cons, List.sum_cons]
        exact Nat.add_le_add (((List.filter_sublist).filter _).length_le) ih
    have sp : (L.filter fun D => decide (D.head? = some s)).length + (L.filter fun D => !decide (D.head? = some s)).length = L.length := by
      clear ih le h
      induction L with
      | nil => rfl
      | cons D L ih =>
        by_cases e : D.head? = some s
        · rw [List.filter_cons_of_pos (by rw [decide_eq_true e]), List.filter_cons_of_neg (by rw [decide_eq_true e]; decide), List.length_cons, List.length_cons]
          omega
        · rw [List.filter_cons_of_neg (by rw [decide_eq_false e]; decide), List.filter_cons_of_pos (by rw [decide_eq_false e]; rfl), List.length_cons, List.length_cons]
          omega
    rw [List.map_cons, List.sum_cons]
    omega
theorem orders_le : ∀ (k : Nat) (S : List Int) (L : List (List Int)), S.Nodup → S.length = k → L.Nodup → (∀ D ∈ L, D.Nodup ∧ D.length = k ∧ ∀ x ∈ D, x ∈ S) → L.length ≤ fac k
  | 0, S, L, hS, hk, hL, h => by
    match L, hL, h with
    | [], _, _ => exact Nat.zero_le _
    | [D], _, _ => exact Nat.le_refl _
    | D :: E :: L, hL, h =>
      have h1 := List.length_eq_zero_iff.mp (h D List.mem_cons_self).2.1
      have h2 := List.length_eq_zero_iff.mp (h E (List.mem_cons_of_mem _ List.mem_cons_self)).2.1
      have := (List.nodup_cons.mp hL).1
      rw [h1, h2] at this
      exact absurd List.mem_cons_self this
  | k + 1, S, L, hS, hk, hL, h => by
    refine Nat.le_trans (heads_le S L fun D hD => ?_) ?_
    · obtain ⟨_, h2, h3⟩ := h D hD
      cases D with
      | nil => cases h2
      | cons x D => exact ⟨x, h3 x List.mem_cons_self, rfl⟩
    · have each : ∀ s ∈ S, (L.filter fun D => decide (D.head? = some s)).length ≤ fac k := fun s hs => by
        have e := orders_le k (S.erase s) ((L.filter fun D => decide (D.head? = some s)).map List.tail) (hS.erase s) (by rw [List.length_erase_of_mem hs, hk]; rfl) ?_ ?_
        · rwa [List.length_map] at e
        · refine Mt.nodup_map (hL.filter _) fun a ha b hb e => ?_
          have h1 := of_decide_eq_true (List.mem_filter.mp ha).2
          have h2 := of_decide_eq_true (List.mem_filter.mp hb).2
          cases a with
          | nil => cases h1
          | cons x a =>
            cases b with
            | nil => cases h2
            | cons y b =>
              have e1 := Option.some.inj h1
              have e2 := Option.some.inj h2
              rw [e1, e2]
              exact congrArg _ e
        · intro D hD
          obtain ⟨E, hE, rfl⟩ := List.mem_map.mp hD
          obtain ⟨g1, g2⟩ := List.mem_filter.mp hE
          obtain ⟨h1, h2, h3⟩ := h E g1
          have g2 := of_decide_eq_true g2
          cases E with
          | nil => cases g2
          | cons x E =>
            have ex : x = s := Option.some.inj g2
            obtain ⟨n1, n2⟩ := List.nodup_cons.mp h1
            refine ⟨n2, Nat.succ.inj h2, fun y hy => (List.mem_erase_of_ne fun z => n1 (by rw [ex, ← z]; exact hy)).mpr (h3 y (List.mem_cons_of_mem _ hy))⟩
      have all : ∀ S' : List Int, (∀ s ∈ S', s ∈ S) → (S'.map fun s => (L.filter fun D => decide (D.head? = some s)).length).sum ≤ S'.length * fac k := fun S' hS' => by
        induction S' with
        | nil => exact Nat.zero_le _
        | cons s S' ih =>
          have h1 := each s (hS' s List.mem_cons_self)
          have h2 := ih fun u hu => hS' u (List.mem_cons_of_mem _ hu)
          rw [List.map_cons, List.sum_cons, List.length_cons, Nat.succ_mul]
          omega
      have := all S fun s hs => hs
      rw [hk] at this
      exact this
theorem fac_12 : ∀ n, n ≤ 12 → fac n ≤ 479001600 := fun n h => (by decide : ∀ n, n < 13 → fac n ≤ 479001600) n (by omega)
end Mt

namespace Mt
/-- rows beside rows, whose things begin at a number -/
def shift (n : Int) (B : Rows) : Rows := B.map fun r => r.map fun t => n + t
theorem deals_beside {A : Rows} {n : Int} (ha : ∀ r ∈ A, ∀ t ∈ r, t < n) (B : Rows) (hb : ∀ r ∈ B, ∀ t ∈ r, 0 ≤ t) :
    deals (A ++ shift n B) = (deals A).flatMap fun d => (deals B).map fun e => d ++ e.map fun t => n + t := by
  have low : ∀ d ∈ deals A, ∀ t ∈ d, t < n := fun d hd t ht => by
    have dd := (mem_deals d).mp hd
    obtain ⟨p, hp⟩ := List.getElem?_of_mem ht
    have hm := dd.tie p t hp
    unfold row at hm
    cases e : A[p]? with
    | none => rw [e] at hm; cases hm
    | some r => rw [e] at hm; exact ha r (List.mem_of_getElem? e) t hm
  revert hb
  refine rev_ind (P := fun B => (∀ r ∈ B, ∀ t ∈ r, 0 ≤ t) → deals (A ++ shift n B) = (deals A).flatMap fun d => (deals B).map fun e => d ++ e.map fun t => n + t) ?_ ?_ B
  · intro _
    show deals (A ++ []) = (deals A).flatMap fun d => [d ++ []]
    rw [List.append_nil]
    generalize deals A = L
    induction L with
    | nil => rfl
    | cons d L ih => rw [List.flatMap_cons, ← ih, List.append_nil]; rfl
  · intro B r ih hb
    have e1 : A ++ shift n (B ++ [r]) = (A ++ shift n B) ++ [r.map fun t => n + t] := by
      unfold shift
      rw [List.map_append, List.append_assoc]
      rfl
    rw [e1, deals_snoc, ih fun q hq => hb q (List.mem_append_left _ hq), deals_snoc]
    have hr := hb r (List.mem_append_right _ List.mem_cons_self)
    unfold ext
    rw [List.flatMap_assoc]
    refine flatMap_congr' fun d hd => ?_
    rw [List.flatMap_map, List.map_flatMap]
    refine flatMap_congr' fun e _ => ?_
    rw [List.filter_map, List.map_map, List.map_map]
    have ef : (r.filter ((fun t => decide (t ∉ d ++ e.map fun t => n + t)) ∘ fun t => n + t)) = r.filter fun t => decide (t ∉ e) := by
      refine List.filter_congr fun t ht => ?_
      refine decide_eq_decide.mpr (not_congr ?_)
      rw [List.mem_append, List.mem_map]
      constructor
      · rintro (h | ⟨u, hu, e⟩)
        · have h1 : n + t < n := low d hd _ h
          have := hr t ht
          omega
        · have e : n + u = n + t := e
          have : u = t := by omega
          rw [← this]
          exact hu
      · exact fun h => .inr ⟨t, h, rfl⟩
    rw [ef]
    refine List.map_congr_left fun t _ => ?_
    show d ++ (e.map fun t => n + t) ++ [n + t] = d ++ (e ++ [t]).map fun t => n + t
    rw [List.map_append, List.append_assoc]
    rfl
where
  flatMap_congr' {α β : Type} {f g : α → List β} : ∀ {l : List α}, (∀ x ∈ l, f x = g x) → l.flatMap f = l.flatMap g
    | [], _ => rfl
    | x :: l, h => by rw [List.flatMap_cons, List.flatMap_cons, h x List.mem_cons_self, flatMap_congr' fun y hy => h y (List.mem_cons_of_mem _ hy)]
theorem cnt_beside {A : Rows} {n : Int} (ha : ∀ r ∈ A, ∀ t ∈ r, t < n) {B : Rows} (hb : ∀ r ∈ B, ∀ t ∈ r, 0 ≤ t) : cnt [] (A ++ shift n B) = cnt [] A * cnt [] B := by
  rw [← deals_cnt, ← deals_cnt, ← deals_cnt, deals_beside ha B hb]
  generalize deals A = L
  induction L with
  | nil => rw [List.flatMap_nil]; show 0 = 0 * _; rw [Nat.zero_mul]
  | cons d L ih => rw [List.flatMap_cons, List.length_append, ih, List.length_map, List.length_cons, Nat.succ_mul, Nat.add_comm]
/-- no more dealings than there are where they go, one for one -/
theorem cnt_inj {rows R : Rows} (a1 : ∀ r ∈ rows, r.Pairwise (· < ·)) (f : List Int → List Int) (hf : ∀ D, Ds rows D → Ds R (f D)) (inj : ∀ D E, Ds rows D → Ds rows E → f D = f E → D = E) : cnt [] rows ≤ cnt [] R := by
  rw [← deals_cnt, ← deals_cnt]
  have nd : ((deals rows).map f).Nodup := nodup_map (deals_nd a1) fun a ha b hb e => inj a b ((mem_deals a).mp ha) ((mem_deals b).mp hb) e
  have sub : ∀ x ∈ (deals rows).map f, x ∈ deals R := fun x hx => by
    obtain ⟨D, hD, rfl⟩ := List.mem_map.mp hx
    exact (mem_deals _).mpr (hf D ((mem_deals D).mp hD))
  rcases Nat.lt_or_ge (deals R).length (deals rows).length with h | h
  · exfalso
    match e : (deals rows).map f with
    | [] =>
      have : ((deals rows).map f).length = 0 := by rw [e]; rfl
      rw [List.length_map] at this
      omega
    | y :: l =>
      have ln : l.length + 1 = (deals rows).length := by have := congrArg List.length e; rw [List.length_map] at this; exact this.symm
      rw [e] at nd sub
      obtain ⟨n1, n2⟩ := List.nodup_cons.mp nd
      exact n1 (all_in n2 (fun x hx => sub x (List.mem_cons_of_mem _ hx)) (by omega) y (sub y List.mem_cons_self))
  · exact h
end Mt

namespace Mt
/-! the number of dealings by the things that are left -/
def cntL : List Int → Rows → Nat
  | _, [] => 1
  | L, r :: rs => ((r.filter fun t => decide (t ∈ L)).map fun t => cntL (L.filter fun u => decide (u ≠ t)) rs).sum
theorem cntL_cnt : ∀ {rows : Rows} {L S : List Int}, (∀ r ∈ rows, ∀ t ∈ r, t ∈ L ↔ t ∉ S) → cntL L rows = cnt S rows
  | [], _, _, _ => rfl
  | r :: rs, L, S, h => by
    unfold cntL cnt
    have e : (r.filter fun t => decide (t ∈ L)) = r.filter fun t => decide (t ∉ S) := List.filter_congr fun t ht => decide_eq_decide.mpr (h r List.mem_cons_self t ht)
    rw [e]
    refine sum_congr fun t _ => cntL_cnt fun q hq u hu => ?_
    rw [List.mem_filter, List.mem_cons, h q (List.mem_cons_of_mem _ hq) u hu]
    constructor
    · rintro ⟨h1, h2⟩ h3
      have h2' : u ≠ t := of_decide_eq_true h2
      exact h3.elim h2' h1
    · intro h1
      exact ⟨fun z => h1 (.inr z), by simpa using fun z => h1 (.inl z)⟩
def stepT (acc : List (List Int × Nat)) (L : List Int) (w : Nat) : List Int → List (List Int × Nat)
  | [] => acc
  | t :: r => stepT (if t ∈ L then bump acc (L.filter fun u => decide (u ≠ t)) w else acc) L w r
def stepL (acc : List (List Int × Nat)) (row : List Int) : List (List Int × Nat) → List (List Int × Nat)
  | [] => acc
  | (L, w) :: st => stepL (stepT acc L w row) row st
def foundL (n : Int → List Int) (k : Int) : Rows → List (List Int × Nat)
  | [] => [(n k, 1)]
  | _ => []
theorem stepT_snoc {acc : List (List Int × Nat)} {L : List Int} {w : Nat} {t : Int} : ∀ {r : List Int}, stepT acc L w (r ++ [t]) = if t ∈ L then bump (stepT acc L w r) (L.filter fun u => decide (u ≠ t)) w else stepT acc L w r := fun {r} => by
  induction r generalizing acc with
  | nil => rfl
  | cons u r ih => exact ih
theorem stepL_snoc {acc : List (List Int × Nat)} {row : List Int} {q : List Int × Nat} : ∀ {st : List (List Int × Nat)}, stepL acc row (st ++ [q]) = stepT (stepL acc row st) q.1 q.2 row := fun {st} => by
  induction st generalizing acc with
  | nil => rfl
  | cons x st ih => exact ih
theorem wt_stepT {F : List Int → Nat} (L : List Int) (w : Nat) : ∀ (row : List Int) (acc : List (List Int × Nat)), wt F (stepT acc L w row) = wt F acc + w * ((row.filter fun t => decide (t ∈ L)).map fun t => F (L.filter fun u => decide (u ≠ t))).sum
  | [], acc => by
    show wt F acc = _ + w * 0
    rw [Nat.mul_zero, Nat.add_zero]
  | t :: r, acc => by
    show wt F (stepT _ L w r) = _
    rw [wt_stepT L w r]
    by_cases h : t ∈ L
    · rw [if_pos h, wt_bump, List.filter_cons_of_pos (by simpa using h), List.map_cons, List.sum_cons, Nat.mul_add, Nat.add_assoc]
    · rw [if_neg h, List.filter_cons_of_neg (by simpa using h)]
theorem wt_stepL {F : List Int → Nat} (row : List Int) : ∀ (st acc : List (List Int × Nat)), wt F (stepL acc row st) = wt F acc + wt (fun L => ((row.filter fun t => decide (t ∈ L)).map fun t => F (L.filter fun u => decide (u ≠ t))).sum) st
  | [], acc => rfl
  | (L, w) :: st, acc => by
    show wt F (stepL (stepT acc L w row) row st) = _
    rw [wt_stepL row st, wt_stepT, Nat.add_assoc]
    unfold wt
    rw [List.map_cons, List.sum_cons]
/-- the states behind some rows -/
def stF (n : Nat) (rows : Rows) : List (List Int × Nat) := rows.foldl (fun st r => stepL [] r st) [((List.range n).map fun (i : Nat) => (i : Int), 1)]
theorem stF_snoc {n : Nat} {rows : Rows} {r : List Int} : stF n (rows ++ [r]) = stepL [] r (stF n rows) := by
  unfold stF
  rw [List.foldl_append]
  rfl
theorem wt_fold (rows : Rows) : ∀ (rs : Rows) (st : List (List Int × Nat)), wt (fun L => cntL L rs) (rows.foldl (fun st r => stepL [] r st) st) = wt (fun L => cntL L (rows ++ rs)) st := by
  induction rows with
  | nil => exact fun _ _ => rfl
  | cons r rows ih =>
    intro rs st
    show wt _ (rows.foldl _ (stepL [] r st)) = _
    rw [ih rs, wt_stepL]
    show 0 + wt _ st = _
    rw [Nat.zero_add]
    rfl
theorem wt_stF {n : Nat} {rows : Rows} (hr : ∀ r ∈ rows, ∀ t ∈ r, 0 ≤ t ∧ t < (n : Int)) : wt (fun _ => 1) (stF n rows) = cnt [] rows := by
  have h := wt_fold rows [] [((List.range n).map fun (i : Nat) => (i : Int), 1)]
  rw [List.append_nil] at h
  have h2 : wt (fun L => cntL L rows) [((List.range n).map fun (i : Nat) => (i : Int), 1)] = cntL ((List.range n).map fun (i : Nat) => (i : Int)) rows := by
    show 1 * _ + 0 = _
    rw [Nat.one_mul, Nat.add_zero]
  rw [h2] at h
  refine (show wt (fun _ => 1) (stF n rows) = _ from h).trans (cntL_cnt fun r hr' t ht => ?_)
  have := hr r hr' t ht
  exact ⟨fun _ z => (by cases z), fun _ => List.mem_map.mpr ⟨t.toNat, List.mem_range.mpr (by omega), by omega⟩⟩
/-! how long the keys are, and how many there are -/
structure Keyed (n k : Nat) (st : List (List Int × Nat)) : Prop where
  nd : (st.map (·.1)).Nodup
  sub : ∀ q ∈ st.map (·.1), q.Sublist ((List.range n).map fun (i : Nat) => (i : Int))
  len : ∀ q ∈ st.map (·.1), q.length + k = n
theorem Keyed.bump {n k : Nat} {st : List (List Int × Nat)} (h : Keyed n k st) {L : List Int} {w : Nat} (hs : L.Sublist ((List.range n).map fun (i : Nat) => (i : Int))) (hl : L.length + k = n) : Keyed n k (Mt.bump st L w) where
  nd := bump_nd h.nd
  sub := fun q hq => (bump_mem.mp hq).elim (h.sub q) fun e => e ▸ hs
  len := fun q hq => (bump_mem.mp hq).elim (h.len q) fun e => e ▸ hl
theorem nd_rangeI (n : Nat) : ((List.range n).map fun (i : Nat) => (i : Int)).Nodup := nodup_map List.nodup_range fun x _ y _ e => by omega
theorem filter_ne_len {t : Int} : ∀ {L : List Int}, L.Nodup → t ∈ L → (L.filter fun u => decide (u ≠ t)).length + 1 = L.length
  | x :: L, nd, h => by
    have hc := List.nodup_cons.mp nd
    by_cases e : x = t
    · rw [List.filter_cons_of_neg (by simp [e]), List.length_cons]
      have : (L.filter fun u => decide (u ≠ t)) = L := List.filter_eq_self.mpr fun u hu => decide_eq_true fun z => hc.1 (by rw [e, ← z]; exact hu)
      rw [this]
    · rw [List.filter_cons_of_pos (by simp [e]), List.length_cons, List.length_cons, filter_ne_len hc.2 ((List.mem_cons.mp h).elim (fun z => absurd z.symm e) id)]
theorem Keyed.stepT {n k : Nat} {L : List Int} {w : Nat} (hs : L.Sublist ((List.range n).map fun (i : Nat) => (i : Int))) (hl : L.length + k = n) : ∀ (row : List Int) {acc : List (List Int × Nat)}, Keyed n (k + 1) acc → Keyed n (k + 1) (Mt.stepT acc L w row)
  | [], _, h => h
  | t :: r, acc, h => by
    refine Keyed.stepT hs hl r ?_
    by_cases e : t ∈ L
    · rw [if_pos e]
      have := filter_ne_len (hs.nodup (nd_rangeI n)) e
      exact h.bump (List.filter_sublist.trans hs) (by omega)
    · rw [if_neg e]
      exact h
theorem Keyed.stepL {n k : Nat} (row : List Int) : ∀ {st acc : List (List Int × Nat)}, (∀ q ∈ st, q.1.Sublist ((List.range n).map fun (i : Nat) => (i : Int)) ∧ q.1.length + k = n) → Keyed n (k + 1) acc → Keyed n (k + 1) (Mt.stepL acc row st)
  | [], _, _, h => h
  | (L, w) :: st, acc, hq, h => Keyed.stepL (st := st) row (fun q h2 => hq q (List.mem_cons_of_mem _ h2)) (Keyed.stepT (hq (L, w) List.mem_cons_self).1 (hq (L, w) List.mem_cons_self).2 row h)
theorem Keyed.nil {n k : Nat} : Keyed n k [] := ⟨List.nodup_nil, fun q h => (nomatch h), fun q h => (nomatch h)⟩
theorem Keyed.of {n k : Nat} {st : List (List Int × Nat)} (h : Keyed n k st) : ∀ q ∈ st, q.1.Sublist ((List.range n).map fun (i : Nat) => (i : Int)) ∧ q.1.length + k = n := fun q hq =>
  ⟨h.sub _ (List.mem_map.mpr ⟨q, hq, rfl⟩), h.len _ (List.mem_map.mpr ⟨q, hq, rfl⟩)⟩
theorem keyed_stF {n : Nat} {rows : Rows} : Keyed n rows.length (stF n rows) := by
  refine rev_ind (P := fun rows => Keyed n rows.length (stF n rows)) ⟨List.nodup_cons.mpr ⟨fun z => (nomatch z), List.nodup_nil⟩, fun q hq => ?_, fun q hq => ?_⟩ (fun rows r ih => ?_) rows
  · rw [List.mem_singleton.mp hq]
    exact List.Sublist.refl _
  · rw [List.mem_singleton.mp hq]
    show ((List.range n).map _).length + 0 = n
    rw [List.length_map, List.length_range, Nat.add_zero]
  · rw [stF_snoc, List.length_append]
    exact Keyed.stepL r ih.of .nil
/-- all parts of a list -/
def subsI : List Int → List (List Int)
  | [] => [[]]
  | x :: l => subsI l ++ (subsI l).map (x :: ·)
theorem subsI_len : ∀ l : List Int, (subsI l).length = 2 ^ l.length
  | [] => rfl
  | x :: l => by
    show (subsI l ++ _).length = 2 ^ (l.length + 1)
    rw [List.length_append, List.length_map, subsI_len l, Nat.pow_succ]
    omega
theorem mem_subsI {q l : List Int} (h : q.Sublist l) : q ∈ subsI l := by
  induction h with
  | slnil => exact List.mem_singleton.mpr rfl
  | cons a _ ih => exact List.mem_append_left _ ih
  | cons_cons a _ ih => exact List.mem_append_right _ (List.mem_map.mpr ⟨_, ih, rfl⟩)
theorem Keyed.num {n k : Nat} {st : List (List Int × Nat)} (h : Keyed n k st) : st.length ≤ 2 ^ n := by
  have := len_le h.nd fun q hq => mem_subsI (h.sub q hq)
  rw [List.length_map, subsI_len, List.length_map, List.length_range] at this
  exact this
theorem Keyed.last {n : Nat} {st : List (List Int × Nat)} (h : Keyed n n st) : getN st [] = wt (fun _ => 1) st := by
  have k0 : ∀ q ∈ st.map (·.1), q = [] := fun q hq => List.length_eq_zero_iff.mp (by have := h.len q hq; omega)
  match st, h.nd, k0 with
  | [], _, _ => rfl
  | [(L, w)], _, k0 =>
    have : L = [] := k0 L List.mem_cons_self
    subst this
    show (if ([] : List Int) = [] then w else getN [] []) = w * 1 + 0
    rw [if_pos rfl, Nat.mul_one, Nat.add_zero]
  | (L, w) :: (M, v) :: st, nd, k0 =>
    have h1 : L = [] := k0 L List.mem_cons_self
    have h2 : M = [] := k0 M (List.mem_cons_of_mem _ List.mem_cons_self)
    subst h1
    subst h2
    exact absurd List.mem_cons_self (List.nodup_cons.mp nd).1
/-! the rest of the rows, without one person and one thing -/
theorem cnt_filt {t : Int} : ∀ {R : Rows} {S : List Int}, cnt (t :: S) R = cnt S (R.map fun r => r.filter fun u => decide (u ≠ t))
  | [], _ => rfl
  | r :: R, S => by
    show ((r.filter fun u => decide (u ∉ t :: S)).map fun u => cnt (u :: t :: S) R).sum = (((r.filter fun u => decide (u ≠ t)).filter fun u => decide (u ∉ S)).map fun u => cnt (u :: S) (R.map _)).sum
    have e : (r.filter fun u => decide (u ∉ t :: S)) = (r.filter fun u => decide (u ≠ t)).filter fun u => decide (u ∉ S) := by
      rw [List.filter_filter]
      refine List.filter_congr fun u _ => ?_
      rw [← Bool.decide_and]
      refine decide_eq_decide.mpr ?_
      rw [List.mem_cons]
      exact ⟨fun h => ⟨fun z => h (.inr z), fun z => h (.inl z)⟩, fun h z => z.elim h.2 h.1⟩
    rw [e]
    refine sum_congr fun u _ => ?_
    rw [← cnt_filt]
    refine cnt_congr fun q _ x _ => ?_
    simp only [List.mem_cons]
    constructor <;> rintro (x | x | x) <;> simp [x]
def others (n p : Nat) : List Nat := (List.range n).filter fun q => decide (q ≠ p)
def restR (rows : Rows) (p : Nat) (t : Int) : Rows := (others rows.length p).map fun q => (row rows q).filter fun u => decide (u ≠ t)
theorem others_perm {n p : Nat} (h : p < n) : (List.range n).Perm (p :: others n p) := by
  refine (List.perm_ext_iff_of_nodup List.nodup_range (List.nodup_cons.mpr ⟨fun z => ?_, List.nodup_range.filter _⟩)).mpr fun q => ?_
  · exact of_decide_eq_true (List.mem_filter.mp z).2 rfl
  · rw [List.mem_cons, List.mem_filter, List.mem_range]
    constructor
    · intro hq
      by_cases e : q = p
      · exact .inl e
      · exact .inr ⟨hq, decide_eq_true e⟩
    · rintro (e | ⟨hq, _⟩)
      · rw [e]; exact h
      · exact hq
theorem rows_perm {rows : Rows} {p : Nat} (h : p < rows.length) : rows.Perm (row rows p :: (others rows.length p).map (row rows)) := by
  have := (others_perm h).map (row rows)
  rw [rows_range] at this
  exact this
theorem cnt_rest {rows : Rows} {p : Nat} (h : p < rows.length) : cnt [] rows = ((row rows p).map fun t => cnt [] (restR rows p t)).sum := by
  rw [cnt_perm (rows_perm h)]
  show (((row rows p).filter fun t => decide (t ∉ [])).map fun t => cnt [t] _).sum = _
  rw [show ((row rows p).filter fun t => decide (t ∉ ([] : List Int))) = row rows p from List.filter_eq_self.mpr fun t _ => decide_eq_true fun z => by cases z]
  refine sum_congr fun t _ => ?_
  rw [cnt_filt, List.map_map]
  rfl
theorem cntW_rest {rows : Rows} (asc : ∀ r ∈ rows, r.Pairwise (· < ·)) {p : Nat} {t : Int} (h : p < rows.length) (ht : t ∈ row rows p) : cntW rows [(p, t)] = cnt [] (restR rows p t) := by
  have ascN : ∀ r ∈ narrow rows p t, r.Pairwise (· < ·) := fun r hr => by
    obtain ⟨i, hi⟩ := List.getElem?_of_mem hr
    rw [narrow_get] at hi
    cases e : rows[i]? with
    | none => rw [e] at hi; cases hi
    | some q =>
      rw [e] at hi
      have hi : (if i = p then [t] else q.filter fun s => decide (s ≠ t)) = r := Option.some.inj hi
      by_cases c : i = p
      · rw [if_pos c] at hi
        rw [← hi]
        exact List.pairwise_singleton _ _
      · rw [if_neg c] at hi
        rw [← hi]
        exact (asc q (List.mem_of_getElem? e)).filter _
  rw [← cnt_lot asc ascN fun D => ?_]
  · rw [cnt_perm (rows_perm (rows := narrow rows p t) (by rw [narrow_len]; exact h)), narrow_len, row_narrow h, if_pos rfl]
    have e : ((others rows.length p).map (row (narrow rows p t))) = restR rows p t := List.map_congr_left fun q hq => by
      obtain ⟨h1, h2⟩ := List.mem_filter.mp hq
      rw [row_narrow (List.mem_range.mp h1), if_neg (of_decide_eq_true h2)]
    rw [e]
    show ((([t] : List Int).filter fun u => decide (u ∉ [])).map fun u => cnt [u] _).sum = _
    show cnt [t] _ + 0 = _
    rw [Nat.add_zero]
    refine cnt_congr fun r hr u hu => ⟨fun z => ?_, fun z => by cases z⟩
    obtain ⟨q, _, rfl⟩ := List.mem_map.mp hr
    exact absurd (List.mem_singleton.mp z) (of_decide_eq_true (List.mem_filter.mp hu).2)
  · rw [ds_narrow h ht]
    refine and_congr_right fun _ => ?_
    show _ ↔ (decide (D[p]? = some t) && true) = true
    rw [Bool.and_true]
    exact ⟨fun z => decide_eq_true z, of_decide_eq_true⟩
/-- with a tie: those with it and those without -/
theorem cnt_split {rows : Rows} (asc : ∀ r ∈ rows, r.Pairwise (· < ·)) {p : Nat} {t : Int} {r : List Int} (hr : rows[p]? = some r) : cnt [] rows = cnt [] (rows.set p (r.filter fun z => !decide (z = t))) + cntW rows [(p, t)] := by
  have a2 := set_asc (p := p) asc ((asc r (List.mem_of_getElem? hr)).filter fun z => !decide (z = t))
  rw [cnt_pred (p := fun D => !decide (D[p]? = some t)) asc a2 fun D => ?_]
  · rw [← deals_cnt]
    unfold cntW
    have e : ((deals rows).filter (hasAll [(p, t)])) = (deals rows).filter fun D => decide (D[p]? = some t) := List.filter_congr fun D _ => Bool.and_true _
    rw [e]
    generalize deals rows = l
    induction l with
    | nil => rfl
    | cons D l ih =>
      by_cases c : D[p]? = some t
      · rw [List.filter_cons_of_neg (by simp [c]), List.filter_cons_of_pos (by simp [c]), List.length_cons, List.length_cons, ih]
        omega
      · rw [List.filter_cons_of_pos (by simp [c]), List.filter_cons_of_neg (by simp [c]), List.length_cons, List.length_cons, ih]
        omega
  · rw [ds_without hr]
    refine and_congr_right fun _ => ?_
    rw [Bool.not_eq_true', decide_eq_false_iff_not]
end Mt

namespace Mt
/-! pieces: people who hang together by live ties reach one another -/
theorem tied_reach {rows : Rows} {m : MS} (v : Valid rows m) (f : Full rows m) (few : Few rows) {p q : Nat} (h : Tied (liveR rows) p q) : Reach rows m.o p q := by
  obtain ⟨t, h1, h2⟩ := h
  have l1 := mem_liveR.mp h1
  have l2 := mem_liveR.mp h2
  have r1 : t ∈ row rows p := by obtain ⟨D, d, e⟩ := l1; exact d.tie p t e
  have r2 : t ∈ row rows q := by obtain ⟨D, d, e⟩ := l2; exact d.tie q t e
  obtain ⟨r, ho⟩ := owned v f few r1
  exact (Reach.step .refl r1 ho).trans ((live_iff v f few r2 ho).mp l2)
theorem conn_reach {rows : Rows} {m : MS} (v : Valid rows m) (f : Full rows m) (few : Few rows) {p q : Nat} (h : Conn (liveR rows) p q) : Reach rows m.o p q := by
  induction h with
  | refl => exact .refl
  | step _ h ih => exact ih.trans (tied_reach v f few h)
theorem full_of {rows : Rows} {D : List Int} (d : Ds rows D) : ∃ m, Valid rows m ∧ Full rows m := by
  obtain ⟨m, u⟩ := upto_ex (rows := rows) rows.length
  have o := upto_ok u
  rcases full_or o with f | ⟨p, _, _, no⟩
  · exact ⟨m, o.valid, f⟩
  · exact absurd d (no D)
/-- within a piece each tie is live -/
theorem piece_live {rows : Rows} (few : Few rows) {D : List Int} (d : Ds rows D) {p q : Nat} {t : Int} (hc : Conn (liveR rows) p q) (ht : t ∈ row rows p) (hl : Live rows q t) : Live rows p t := by
  obtain ⟨m, v, f⟩ := full_of d
  obtain ⟨r, ho⟩ := owned v f few ht
  have hq : t ∈ row rows q := by obtain ⟨D, d, e⟩ := hl; exact d.tie q t e
  have h1 := (live_iff v f few hq ho).mp hl
  exact (live_iff v f few ht ho).mpr (h1.trans (conn_reach v f few hc.symm))
/-! people named alike -/
/-- names: alike only where people hang together, and so for all steps that are done -/
structure Named (rows : Rows) (N : List Int) (done : Nat → Nat → Prop) : Prop where
  len : N.length = rows.length
  conn : ∀ p q : Nat, ∀ x : Int, N[p]? = some x → N[q]? = some x → Conn rows p q
  same : ∀ p q : Nat, done p q → N[p]? = N[q]?
theorem Named.init {rows : Rows} : Named rows ((List.range rows.length).map fun (i : Nat) => (i : Int)) (fun _ _ => False) where
  len := by rw [List.length_map, List.length_range]
  conn := fun p q x h1 h2 => by
    rw [List.getElem?_map] at h1 h2
    cases e1 : (List.range rows.length)[p]? with
    | none => rw [e1] at h1; cases h1
    | some a =>
      cases e2 : (List.range rows.length)[q]? with
      | none => rw [e2] at h2; cases h2
      | some b =>
        rw [e1] at h1
        rw [e2] at h2
        have h1 : (a : Int) = x := Option.some.inj h1
        have h2 : (b : Int) = x := Option.some.inj h2
        have a1 := List.getElem?_range (show p < rows.length by have := (List.getElem?_eq_some_iff.mp e1).1; rwa [List.length_range] at this)
        have b1 := List.getElem?_range (show q < rows.length by have := (List.getElem?_eq_some_iff.mp e2).1; rwa [List.length_range] at this)
        rw [a1] at e1
        rw [b1] at e2
        have e1 := Option.some.inj e1
        have e2 := Option.some.inj e2
        have : p = q := by omega
        rw [this]
        exact .refl
  same := fun _ _ h => h.elim
/-- the names with one taken for another -/
def renam (N : List Int) (x y : Int) : List Int := N.map fun z => if z = y then x else z
theorem Named.weaken {rows : Rows} {N : List Int} {d d' : Nat → Nat → Prop} (h : Named rows N d) (hd : ∀ p q, d' p q → d p q ∨ N[p]? = N[q]?) : Named rows N d' :=
  ⟨h.len, h.conn, fun p q z => (hd p q z).elim (h.same p q) id⟩
theorem Named.renam {rows : Rows} {N : List Int} {d d' : Nat → Nat → Prop} (h : Named rows N d) {a b : Nat} {x y : Int} (ha : N[a]? = some x) (hb : N[b]? = some y) (ht : Tied rows a b) (hd : ∀ p q, d' p q → d p q ∨ (p = b ∧ q = a) ∨ (p = a ∧ q = b)) : Named rows (Mt.renam N x y) d' where
  len := by unfold Mt.renam; rw [List.length_map]; exact h.len
  conn := fun p q z h1 h2 => by
    unfold Mt.renam at h1 h2
    rw [List.getElem?_map] at h1 h2
    cases e1 : N[p]? with
    | none => rw [e1] at h1; cases h1
    | some u =>
      cases e2 : N[q]? with
      | none => rw [e2] at h2; cases h2
      | some w =>
        rw [e1] at h1
        rw [e2] at h2
        have h1 : (if u = y then x else u) = z := Option.some.inj h1
        have h2 : (if w = y then x else w) = z := Option.some.inj h2
        have ab := Conn.one ht
        by_cases c1 : u = y
        · rw [if_pos c1] at h1
          have p1 : Conn rows p b := h.conn p b y (by rw [e1, c1]) hb
          by_cases c2 : w = y
          · exact p1.trans (h.conn b q y hb (by rw [e2, c2]))
          · rw [if_neg c2] at h2
            exact (p1.trans ab.symm).trans (h.conn a q x ha (by rw [e2, h2, h1]))
        · rw [if_neg c1] at h1
          by_cases c2 : w = y
          · rw [if_pos c2] at h2
            exact ((h.conn p a x (by rw [e1, h1, h2]) ha).trans ab).trans (h.conn b q y hb (by rw [e2, c2]))
          · rw [if_neg c2] at h2
            exact h.conn p q u e1 (by rw [e2, h2, h1])
  same := fun p q z => by
    unfold Mt.renam
    rw [List.getElem?_map, List.getElem?_map]
    rcases hd p q z with z | ⟨rfl, rfl⟩ | ⟨rfl, rfl⟩
    · rw [h.same p q z]
    · rw [ha, hb]
      show some (if y = y then x else y) = some (if x = y then x else x)
      rw [if_pos rfl]
      by_cases c : x = y
      · rw [if_pos c]
      · rw [if_neg c]
    · rw [ha, hb]
      show some (if x = y then x else x) = some (if y = y then x else y)
      rw [if_pos rfl]
      by_cases c : x = y
      · rw [if_pos c]
      · rw [if_neg c]
theorem Named.iff {rows : Rows} {N : List Int} (h : Named rows N (Tied rows)) {p q : Nat} {x : Int} (hp : N[p]? = some x) : N[q]? = some x ↔ q < rows.length ∧ Conn rows p q := by
  constructor
  · intro hq
    exact ⟨by have := (List.getElem?_eq_some_iff.mp hq).1; rw [h.len] at this; exact this, h.conn p q x hp hq⟩
  · rintro ⟨_, hc⟩
    induction hc with
    | refl => exact hp
    | step _ ht ih => rw [← h.same _ _ ht]; exact ih (by obtain ⟨t, a, _⟩ := ht; exact row_lt a)
/-- all people of one name, ascending -/
def clsN (N : List Int) (x : Int) : List Nat := (List.range N.length).filter fun p => decide (N[p]? = some x)
theorem mem_clsN {N : List Int} {x : Int} {p : Nat} : p ∈ clsN N x ↔ N[p]? = some x := by
  unfold clsN
  rw [List.mem_filter, List.mem_range, decide_eq_true_iff]
  exact ⟨fun h => h.2, fun h => ⟨(List.getElem?_eq_some_iff.mp h).1, h⟩⟩
theorem clsN_asc {N : List Int} {x : Int} : (clsN N x).Pairwise (· < ·) := List.Pairwise.filter _ List.pairwise_lt_range
theorem asc_eqN {a b : List Nat} (ha : a.Pairwise (· < ·)) (hb : b.Pairwise (· < ·)) (h : ∀ x, x ∈ a ↔ x ∈ b) : a = b :=
  ((List.perm_ext_iff_of_nodup (ha.imp fun {_ _} z => Nat.ne_of_lt z) (hb.imp fun {_ _} z => Nat.ne_of_lt z)).mpr h).eq_of_pairwise (fun x y _ _ h1 h2 => by omega) ha hb
theorem asc_eqI {a b : List Int} (ha : a.Pairwise (· < ·)) (hb : b.Pairwise (· < ·)) (h : ∀ x, x ∈ a ↔ x ∈ b) : a = b :=
  ((List.perm_ext_iff_of_nodup (ha.imp fun {_ _} z e => by omega) (hb.imp fun {_ _} z e => by omega)).mpr h).eq_of_pairwise (fun x y _ _ h1 h2 => by omega) ha hb
/-- the classes of the names are the groups -/
theorem Named.groups {rows : Rows} {N : List Int} (h : Named rows N (Tied rows)) {G : List (List Nat)} (hG : Groups rows G) : ∀ g, g ∈ G ↔ ∃ x ∈ N, g = clsN N x := fun g => by
  have cls : ∀ g ∈ G, ∀ p ∈ g, ∀ x, N[p]? = some x → g = clsN N x := fun g hg p hp x hx => asc_eqN (hG.asc g hg) clsN_asc fun q => by
    rw [mem_clsN, h.iff hx]
    constructor
    · exact fun hq => ⟨hG.lt hg hq, hG.conn g hg p hp q hq⟩
    · rintro ⟨hq, hc⟩
      induction hc with
      | refl => exact hp
      | step _ ht ih =>
        have hb : ∃ t, t ∈ row rows _ := let ⟨t, a, _⟩ := ht; ⟨t, a⟩
        obtain ⟨t, a, b⟩ := ht
        exact hG.tied hg (ih (row_lt a)) hq ⟨t, a, b⟩
  constructor
  · intro hg
    obtain ⟨p, hp⟩ := List.exists_mem_of_ne_nil g (hG.ne g hg)
    have pl : p < N.length := by rw [h.len]; exact hG.lt hg hp
    exact ⟨N[p], List.getElem_mem pl, cls g hg p hp _ (List.getElem?_eq_getElem pl)⟩
  · rintro ⟨x, hx, rfl⟩
    obtain ⟨p, hp⟩ := List.getElem?_of_mem hx
    have pl : p < rows.length := by rw [← h.len]; exact (List.getElem?_eq_some_iff.mp hp).1
    obtain ⟨c, hc, hpc⟩ := List.mem_flatten.mp (hG.perm.mem_iff.mpr (List.mem_range.mpr pl))
    rw [← cls c hc p hpc x hp]
    exact hc
end Mt

namespace Mt
/-! rows that have all of some things but one each, and rows that have all of them -/
def butR (T xs : List Int) (m : Nat) : Rows := (xs.map fun x => T.filter fun u => decide (u ≠ x)) ++ List.replicate m T
theorem cnt_cons0 {r : List Int} {R : Rows} : cnt [] (r :: R) = (r.map fun t => cnt [] (R.map fun q => q.filter fun u => decide (u ≠ t))).sum := by
  show ((r.filter fun t => decide (t ∉ ([] : List Int))).map fun t => cnt [t] R).sum = _
  rw [show (r.filter fun t => decide (t ∉ ([] : List Int))) = r from List.filter_eq_self.mpr fun t _ => decide_eq_true fun z => by cases z]
  exact sum_congr fun t _ => cnt_filt
theorem sum_pull {f : Int → Nat} {x : Int} : ∀ {T : List Int}, T.Nodup → x ∈ T → (T.map f).sum = f x + ((T.filter fun u => decide (u ≠ x)).map f).sum
  | y :: T, nd, h => by
    have hc := List.nodup_cons.mp nd
    by_cases e : y = x
    · rw [List.filter_cons_of_neg (by simp [e]), List.map_cons, List.sum_cons, e]
      rw [show (T.filter fun u => decide (u ≠ x)) = T from List.filter_eq_self.mpr fun u hu => decide_eq_true fun z => hc.1 (by rw [e, ← z]; exact hu)]
    · rw [List.filter_cons_of_pos (by simp [e]), List.map_cons, List.map_cons, List.sum_cons, List.sum_cons, sum_pull hc.2 ((List.mem_cons.mp h).elim (fun z => absurd z.symm e) id)]
      omega
theorem filter_comm {T : List Int} {x y : Int} : (T.filter fun u => decide (u ≠ y)).filter (fun u => decide (u ≠ x)) = (T.filter fun u => decide (u ≠ x)).filter fun u => decide (u ≠ y) := by
  rw [List.filter_filter, List.filter_filter]
  exact List.filter_congr fun u _ => Bool.and_comm _ _
theorem but_filt {T xs : List Int} {m : Nat} {x : Int} : (butR T xs m).map (fun q => q.filter fun u => decide (u ≠ x)) = butR (T.filter fun u => decide (u ≠ x)) xs m := by
  unfold butR
  rw [List.map_append, List.map_replicate, List.map_map]
  congr 1
  exact List.map_congr_left fun y _ => filter_comm
/-- one more that may get all: with the thing that another row lacks, or without it -/
theorem cnt_but {T : List Int} (nd : T.Nodup) {x : Int} (hx : x ∈ T) (xs : List Int) (m : Nat) : cnt [] (butR T xs (m + 1)) = cnt [] (butR (T.filter fun u => decide (u ≠ x)) xs m) + cnt [] (butR T (x :: xs) m) := by
  have pm : (butR T xs (m + 1)).Perm (T :: butR T xs m) := by
    unfold butR
    rw [List.replicate_succ]
    exact List.perm_middle
  rw [cnt_perm pm, cnt_cons0, sum_pull nd hx, but_filt]
  congr 1
  show _ = cnt [] ((T.filter fun u => decide (u ≠ x)) :: butR T xs m)
  rw [cnt_cons0]
theorem cnt_all : ∀ (m : Nat) (T : List Int), T.Nodup → T.length = m → cnt [] (List.replicate m T) = fac m
  | 0, _, _, _ => rfl
  | m + 1, T, nd, hl => by
    rw [List.replicate_succ, cnt_cons0]
    have e : ∀ t ∈ T, cnt [] ((List.replicate m T).map fun q => q.filter fun u => decide (u ≠ t)) = fac m := fun t ht => by
      rw [List.map_replicate]
      have := filter_ne_len nd ht
      exact cnt_all m _ (nd.filter _) (by omega)
    rw [sum_const e, hl]
    rfl
/-- j rows that lack one, of n -/
def gapN : Nat → Nat → Nat
  | n, 0 => fac n
  | n, j + 1 => gapN n j - gapN (n - 1) j
theorem cnt_gap : ∀ (xs : List Int) (T : List Int) (m : Nat), T.Nodup → xs.Nodup → (∀ x ∈ xs, x ∈ T) → T.length = xs.length + m → cnt [] (butR T xs m) = gapN T.length xs.length
  | [], T, m, nd, _, _, hl => by
    show cnt [] ([] ++ List.replicate m T) = fac T.length
    have hl : T.length = m := by
      have : T.length = 0 + m := hl
      omega
    rw [List.nil_append, cnt_all m T nd hl, hl]
  | x :: xs, T, m, nd, nx, hs, hl => by
    have hx := hs x List.mem_cons_self
    have hc := List.nodup_cons.mp nx
    have hl : T.length = (xs.length + 1) + m := hl
    have h := cnt_but nd hx xs m
    have hf := filter_ne_len nd hx
    have a := cnt_gap xs T (m + 1) nd hc.2 (fun y hy => hs y (List.mem_cons_of_mem _ hy)) (by omega)
    have b := cnt_gap xs (T.filter fun u => decide (u ≠ x)) m (nd.filter _) hc.2 (fun y hy => List.mem_filter.mpr ⟨hs y (List.mem_cons_of_mem _ hy), decide_eq_true fun e => hc.1 (e ▸ hy)⟩) (by omega)
    rw [a, b] at h
    show _ = gapN T.length xs.length - gapN (T.length - 1) xs.length
    rw [show T.length - 1 = (T.filter fun u => decide (u ≠ x)).length by omega]
    omega
/-! names, full tables, rings -/
def rangeZ (n : Nat) : List Int := (List.range n).map fun (i : Nat) => (i : Int)
def namesR (n : Nat) : Rows := (List.range n).map fun (p : Nat) => (rangeZ n).filter fun u => decide (u ≠ (p : Int))
def fullR (n : Nat) : Rows := List.replicate n (rangeZ n)
theorem cnt_full (n : Nat) : cnt [] (fullR n) = fac n := cnt_all n _ (nd_rangeI n) (by unfold rangeZ; rw [List.length_map, List.length_range])
theorem cnt_names (n : Nat) : cnt [] (namesR n) = gapN n n := by
  have h := cnt_gap (rangeZ n) (rangeZ n) 0 (nd_rangeI n) (nd_rangeI n) (fun _ h => h) rfl
  have e : butR (rangeZ n) (rangeZ n) 0 = namesR n := by
    unfold butR namesR
    rw [List.replicate_zero, List.append_nil]
    unfold rangeZ
    rw [List.map_map]
    rfl
  rw [e] at h
  rw [h]
  unfold rangeZ
  rw [List.length_map, List.length_range]
/-- own and next -/
def ringR (n : Nat) : Rows := (List.range n).map fun (p : Nat) => if n = 1 then [0] else if p + 1 = n then [0, (p : Int)] else [(p : Int), (p : Int) + 1]
theorem cnt_ring : ∀ n : Fin 13, 1 ≤ n.val → cnt [] (ringR n.val) = min 2 n.val := by decide +kernel
theorem gap_step : ∀ k : Fin 12, (gapN (k.val + 1) (k.val + 1) : Int) = (gapN k.val k.val : Int) * ((k.val : Int) + 1) + 1 - 2 * (((k.val : Int) + 1) % 2) := by decide +kernel
end Mt

set_option maxRecDepth 100000
set_option maxHeartbeats 4000000
namespace Fo
open PySem PySem.Spec PyProof.Rows L2

section
variable {P : Program} {w : World} {K : PySem.W.Frag} {mg : Str → Option Value} {base : Heap} {C : Addr}
/-- the things of a piece -/
noncomputable def thgR (rows : List (List Int)) (g : List Nat) : List Int := (Mt.rangeZ rows.length).filter fun t => @decide (∃ p ∈ g, t ∈ Mt.row (Mt.liveR rows) p) (Classical.propDecidable _)
theorem thgR_asc {rows : List (List Int)} {g : List Nat} : (thgR rows g).Pairwise (· < ·) := by
  unfold thgR Mt.rangeZ
  exact (List.pairwise_map.mpr (List.pairwise_lt_range.imp fun h => by omega)).filter _
theorem mem_thgR {rows : List (List Int)} (G : Good rows) {g : List Nat} {t : Int} : t ∈ thgR rows g ↔ ∃ p ∈ g, t ∈ Mt.row (Mt.liveR rows) p := by
  unfold thgR
  rw [List.mem_filter]
  constructor
  · exact fun h => @of_decide_eq_true _ (Classical.propDecidable _) h.2
  · intro h
    refine ⟨?_, @decide_eq_true _ (Classical.propDecidable _) h⟩
    obtain ⟨p, _, ht⟩ := h
    rw [Mt.row_liveR] at ht
    have := G.row_rng (List.mem_filter.mp ht).1
    exact List.mem_map.mpr ⟨t.toNat, List.mem_range.mpr (by omega), by omega⟩
noncomputable def pieceR (rows : List (List Int)) (g : List Nat) : List (List Int) := [natI g, thgR rows g]
def spPieces (K : PySem.W.Frag) (C : Addr) : Sp := fun vs H Q _ => ∃ (x : V) (rows : List (List Int)), vs = [x] ∧ TableAt K C H x rows ∧ Good rows ∧ rows.length ≤ 40 ∧ (∃ D, Mt.Ds rows D) ∧
  ∀ (G : List (List Nat)) l ws H', Mt.Groups (Mt.liveR rows) G → (G.map natI).Pairwise (· ≤ ·) → Same H H' → H l = none → H' l = some (.lst ws) → PrsT K H' ws (G.map (pieceR rows)) → Q (.ref l) H'
end
end Fo

set_option maxRecDepth 100000
set_option maxHeartbeats 4000000
/-! Going round a ring. -/
namespace Mt
/-- the first other person who may get the thing -/
def opP (L : Rows) (p : Nat) (t : Int) : Nat := (((List.range L.length).filter fun q => decide (q ≠ p) && decide (t ∈ row L q))[0]?).getD 0
/-- the first other thing of the person -/
def otT (L : Rows) (q : Nat) (t : Int) : Int := (((row L q).filter fun u => decide (u ≠ t))[0]?).getD 0
structure RingG (L : Rows) (g : List Nat) : Prop where
  two : ∀ p ∈ g, ∃ a b, a ≠ b ∧ row L p = [a, b]
  thing : ∀ p ∈ g, ∀ t ∈ row L p, ∃ q, q ≠ p ∧ q ∈ g ∧ t ∈ row L q ∧ ∀ r, t ∈ row L r → r = p ∨ r = q
theorem head_of {α : Type} {l : List α} {f : α → Bool} {x d : α} (hx : x ∈ l) (fx : f x = true) (one : ∀ y ∈ l, f y = true → y = x) : (l.filter f)[0]? = some x := by
  have hm : x ∈ l.filter f := List.mem_filter.mpr ⟨hx, fx⟩
  have p0 := List.length_pos_of_mem hm
  have e := List.getElem?_eq_getElem p0
  have := List.mem_filter.mp (List.mem_of_getElem? e)
  rw [e, one _ this.1 this.2]
section
variable {L : Rows} {g : List Nat}
theorem RingG.op (h : RingG L g) {p : Nat} {t : Int} (hp : p ∈ g) (ht : t ∈ row L p) : opP L p t ≠ p ∧ opP L p t ∈ g ∧ t ∈ row L (opP L p t) ∧ (∀ r, t ∈ row L r → r = p ∨ r = opP L p t) ∧ ((List.range L.length).filter fun q => decide (q ≠ p) && decide (t ∈ row L q))[0]? = some (opP L p t) := by
  obtain ⟨q, h1, h2, h3, h4⟩ := h.thing p hp t ht
  have e : ((List.range L.length).filter fun q => decide (q ≠ p) && decide (t ∈ row L q))[0]? = some q := head_of (d := 0) (List.mem_range.mpr (row_lt h3)) (by rw [decide_eq_true h1, decide_eq_true h3]; rfl) fun y hy fy => by
    rw [Bool.and_eq_true] at fy
    exact (h4 y (of_decide_eq_true fy.2)).resolve_left (of_decide_eq_true fy.1)
  have eq : opP L p t = q := by unfold opP; rw [e]; rfl
  rw [eq]
  exact ⟨h1, h2, h3, h4, e⟩
theorem RingG.ot (h : RingG L g) {q : Nat} {t : Int} (hq : q ∈ g) (ht : t ∈ row L q) : otT L q t ≠ t ∧ otT L q t ∈ row L q ∧ (∀ u ∈ row L q, u = t ∨ u = otT L q t) ∧ ((row L q).filter fun u => decide (u ≠ t))[0]? = some (otT L q t) := by
  obtain ⟨a, b, ab, e⟩ := h.two q hq
  have go : ∀ x y : Int, x ≠ y → (∀ u, u ∈ row L q ↔ u = x ∨ u = y) → t = x → otT L q t ≠ t ∧ otT L q t ∈ row L q ∧ (∀ u ∈ row L q, u = t ∨ u = otT L q t) ∧ ((row L q).filter fun u => decide (u ≠ t))[0]? = some (otT L q t) := fun x y xy m tx => by
    have e : ((row L q).filter fun u => decide (u ≠ t))[0]? = some y := head_of (d := 0) ((m y).mpr (.inr rfl)) (decide_eq_true fun z => xy (by rw [← tx, z])) fun u hu fu => ((m u).mp hu).resolve_left fun z => of_decide_eq_true fu (by rw [z, tx])
    have eq : otT L q t = y := by unfold otT; rw [e]; rfl
    rw [eq]
    exact ⟨fun z => xy (by rw [← tx, z]), (m y).mpr (.inr rfl), fun u hu => ((m u).mp hu).imp (fun z => by rw [z, tx]) id, e⟩
  have m1 : ∀ u, u ∈ row L q ↔ u = a ∨ u = b := fun u => by rw [e]; simp
  rcases (m1 t).mp ht with ta | tb
  · exact go a b ab m1 ta
  · exact go b a (fun z => ab z.symm) (fun u => (m1 u).trans or_comm) tb
/-- the way round -/
def wkR (L : Rows) (s : Nat) : Nat → Nat × Int
  | 0 => (s, ((row L s)[0]?).getD 0)
  | k + 1 => (opP L (wkR L s k).1 (wkR L s k).2, otT L (opP L (wkR L s k).1 (wkR L s k).2) (wkR L s k).2)
theorem wkR_fst (s k : Nat) : (wkR L s (k + 1)).1 = opP L (wkR L s k).1 (wkR L s k).2 := rfl
theorem wkR_snd (s k : Nat) : (wkR L s (k + 1)).2 = otT L (wkR L s (k + 1)).1 (wkR L s k).2 := rfl
theorem RingG.in_ (h : RingG L g) {s : Nat} (hs : s ∈ g) : ∀ k, (wkR L s k).1 ∈ g ∧ (wkR L s k).2 ∈ row L (wkR L s k).1
  | 0 => by
    obtain ⟨a, b, _, e⟩ := h.two s hs
    refine ⟨hs, ?_⟩
    show ((row L s)[0]?).getD 0 ∈ row L s
    rw [e]
    exact List.mem_cons_self
  | k + 1 => by
    obtain ⟨h1, h2⟩ := h.in_ hs k
    obtain ⟨_, o2, o3, _⟩ := h.op h1 h2
    obtain ⟨_, t2, _⟩ := h.ot o2 o3
    exact ⟨o2, t2⟩
theorem RingG.step (h : RingG L g) {s : Nat} (hs : s ∈ g) (k : Nat) : (wkR L s (k + 1)).1 ≠ (wkR L s k).1 ∧ (wkR L s k).2 ∈ row L (wkR L s (k + 1)).1 ∧ (∀ r, (wkR L s k).2 ∈ row L r → r = (wkR L s k).1 ∨ r = (wkR L s (k + 1)).1) ∧ (wkR L s (k + 1)).2 ≠ (wkR L s k).2 ∧ ∀ u ∈ row L (wkR L s (k + 1)).1, u = (wkR L s k).2 ∨ u = (wkR L s (k + 1)).2 := by
  obtain ⟨h1, h2⟩ := h.in_ hs k
  obtain ⟨o1, o2, o3, o4, _⟩ := h.op h1 h2
  obtain ⟨t1, _, t3, _⟩ := h.ot o2 o3
  exact ⟨o1, o3, o4, t1, t3⟩
theorem RingG.apart (h : RingG L g) {s : Nat} (hs : s ∈ g) : ∀ j, (∀ k, 1 ≤ k → k ≤ j → (wkR L s k).1 ≠ s) → ∀ i, i < j → (wkR L s i).1 ≠ (wkR L s j).1 := by
  intro j
  induction j using Nat.strongRecOn with
  | ind j ih =>
    intro nr i ij e
    match i, j, ij with
    | 0, j + 1, _ => exact nr (j + 1) (by omega) (Nat.le_refl _) e.symm
    | i + 1, j + 1, ij =>
      obtain ⟨a1, a2, a3, a4, a5⟩ := h.step hs i
      obtain ⟨b1, b2, b3, b4, b5⟩ := h.step hs j
      obtain ⟨c1, c2, c3, c4, c5⟩ := h.step hs (i + 1)
      have pj := h.in_ hs j
      have dis : ∀ m, m < j → (wkR L s m).1 ≠ (wkR L s j).1 := ih j (by omega) (fun k h1 h2 => nr k h1 (by omega))
      have hu : (wkR L s j).2 ∈ row L (wkR L s (i + 1)).1 := by rw [e]; exact b2
      rcases a5 _ hu with q | q
      · -- the same thing as the one ahead
        have hm : (wkR L s i).2 ∈ row L (wkR L s j).1 := by rw [← q]; exact pj.2
        rcases a3 _ hm with z | z
        · exact dis i (by omega) z.symm
        · exact b1 (e.symm.trans z.symm)
      · have hm : (wkR L s (i + 1)).2 ∈ row L (wkR L s j).1 := by rw [← q]; exact pj.2
        rcases c3 _ hm with z | z
        · exact b1 (e.symm.trans z.symm)
        · rcases Nat.lt_trichotomy (i + 2) j with c | c | c
          · exact dis (i + 2) c z.symm
          · subst c
            exact c4 q
          · have : j = i + 1 := by omega
            subst this
            exact b1 e.symm
theorem RingG.back (h : RingG L g) {s : Nat} (hs : s ∈ g) : ∃ r, 1 ≤ r ∧ r ≤ g.length ∧ (wkR L s r).1 = s ∧ ∀ k, 1 ≤ k → k < r → (wkR L s k).1 ≠ s := by
  have ex : ∃ r, 1 ≤ r ∧ r ≤ g.length ∧ (wkR L s r).1 = s := by
    refine Classical.byContradiction fun no => ?_
    have nr : ∀ k, 1 ≤ k → k ≤ g.length → (wkR L s k).1 ≠ s := fun k h1 h2 e => no ⟨k, h1, h2, e⟩
    have nd : ((List.range (g.length + 1)).map fun k => (wkR L s k).1).Nodup := by
      refine List.pairwise_iff_getElem.mpr fun i j hi hj hij => ?_
      rw [List.length_map, List.length_range] at hi hj
      rw [List.getElem_map, List.getElem_map, List.getElem_range, List.getElem_range]
      exact h.apart hs j (fun k h1 h2 => nr k h1 (by omega)) i hij
    have := len_le nd (l2 := g) fun x hx => by
      obtain ⟨k, _, rfl⟩ := List.mem_map.mp hx
      exact (h.in_ hs k).1
    rw [List.length_map, List.length_range] at this
    omega
  obtain ⟨r, h1, h2, h3⟩ := ex
  induction r using Nat.strongRecOn with
  | ind r ih =>
    by_cases c : ∃ k, 1 ≤ k ∧ k < r ∧ (wkR L s k).1 = s
    · obtain ⟨k, k1, k2, k3⟩ := c
      exact ih k k2 k1 (by omega) k3
    · exact ⟨r, h1, h2, h3, fun k k1 k2 k3 => c ⟨k, k1, k2, k3⟩⟩
/-- one comes to the first person again just behind as many steps as people -/
theorem RingG.round (h : RingG L g) (nd : g.Nodup) (conn : ∀ p ∈ g, ∀ q ∈ g, Conn L p q) {s : Nat} (hs : s ∈ g) : (wkR L s g.length).1 = s ∧ ∀ k, 1 ≤ k → k < g.length → (wkR L s k).1 ≠ s := by
  obtain ⟨r, r1, r2, r3, r4⟩ := h.back hs
  have dist : ∀ i j, i < j → j < r → (wkR L s i).1 ≠ (wkR L s j).1 := fun i j hij hj => h.apart hs j (fun k h1 h2 => r4 k h1 (by omega)) i hij
  have inS : ∀ i, i ≤ r → (wkR L s i).1 ∈ (List.range r).map fun k => (wkR L s k).1 := fun i hi => by
    by_cases c : i < r
    · exact List.mem_map.mpr ⟨i, List.mem_range.mpr c, rfl⟩
    · have : i = r := by omega
      subst this
      rw [r3]
      exact List.mem_map.mpr ⟨0, List.mem_range.mpr (by omega), rfl⟩
  have ends : (wkR L s (r - 1)).2 ≠ (wkR L s 0).2 := fun e => by
    obtain ⟨a1, a2, a3, a4, a5⟩ := h.step hs 0
    have hm : (wkR L s 0).2 ∈ row L (wkR L s (r - 1)).1 := by rw [← e]; exact (h.in_ hs (r - 1)).2
    rcases a3 _ hm with z | z
    · by_cases c : r = 1
      · subst c
        exact a1 r3
      · exact dist 0 (r - 1) (by omega) (by omega) z.symm
    · by_cases c : r = 1
      · subst c
        exact a1 r3
      · by_cases c2 : r = 2
        · subst c2
          exact a4 e
        · exact dist 1 (r - 1) (by omega) (by omega) z.symm
  have cl : ∀ i, i < r → ∀ u ∈ row L (wkR L s i).1, ∀ q, u ∈ row L q → q ∈ (List.range r).map fun k => (wkR L s k).1 := fun i hi u hu q hq => by
    have nb : ∀ j, j < r → u = (wkR L s j).2 → q ∈ (List.range r).map fun k => (wkR L s k).1 := fun j hj e => by
      rw [e] at hq
      rcases (h.step hs j).2.2.1 q hq with z | z
      · rw [z]; exact inS j (by omega)
      · rw [z]; exact inS (j + 1) (by omega)
    match i, hi, hu with
    | i + 1, hi, hu =>
      rcases (h.step hs i).2.2.2.2 u hu with z | z
      · exact nb i (by omega) z
      · exact nb (i + 1) hi z
    | 0, _, hu =>
      have h0 := (h.in_ hs 0).2
      have hr : (wkR L s (r - 1)).2 ∈ row L s := by
        have := (h.step hs (r - 1)).2.1
        rw [show r - 1 + 1 = r by omega, r3] at this
        exact this
      have h0 : (wkR L s 0).2 ∈ row L s := h0
      have hu : u ∈ row L s := hu
      obtain ⟨a, b, ab, e⟩ := h.two s hs
      rw [e] at h0 hr hu
      simp only [List.mem_cons, List.not_mem_nil, or_false] at h0 hr hu
      have : u = (wkR L s 0).2 ∨ u = (wkR L s (r - 1)).2 := by
        rcases h0 with x | x <;> rcases hr with y | y
        · exact absurd (y.trans x.symm) ends
        · rw [x, y]; exact hu
        · rw [x, y]; exact hu.symm
        · exact absurd (y.trans x.symm) ends
      rcases this with z | z
      · exact nb 0 (by omega) z
      · exact nb (r - 1) (by omega) z
  have all : ∀ q, Conn L s q → q ∈ (List.range r).map fun k => (wkR L s k).1 := fun q c => by
    induction c with
    | refl => exact inS 0 (by omega)
    | step _ t ih =>
      obtain ⟨i, hi, e⟩ := List.mem_map.mp ih
      obtain ⟨u, u1, u2⟩ := t
      rw [← e] at u1
      exact cl i (List.mem_range.mp hi) u u1 _ u2
  have ge : g.length ≤ r := by
    have := len_le nd (l2 := (List.range r).map fun k => (wkR L s k).1) fun q hq => all q (conn s hs q hq)
    rw [List.length_map, List.length_range] at this
    exact this
  have : r = g.length := by omega
  rw [← this]
  exact ⟨r3, r4⟩
end
end Mt

set_option maxRecDepth 100000
set_option maxHeartbeats 2000000
namespace Fo
open PySem PySem.Spec PyProof.Rows L2
theorem isi_exact {prog : Program} {w : World} {A : Around} {E : Value → Shared → Prop} {s : Shared} {a : Addr} {o : Obj} {Q : Value → Shared → Prop} (ho : s.heap.get? a = some o) (h : Q (.bool true) s) :
    wpAny (model prog w) A (call (.builtin "isinstance") [.ref a, o.cls]) Q E s := by
  refine call_isinstance (S := fun _ R s' => s'.heap.get? a = some o ∧ R (.ok (.ret (.bool true))) s') (fun prog w A R s hs => isinstance_outer ?_) ⟨ho, h⟩
  obtain ⟨h1, h2⟩ := hs
  unfold Builtin.«isinstance.nested»
  refine wpAny_bind (wpAny_typeOf_ref h1 ?_)
  refine wpAny_ite_true (by simp) ?_
  refine wpAny_bind ?_
  wp_step
  exact wpAny_pure h2
/-- isinstance of a caught error and its own class -/
def rIsX (cls : Value) (a : Addr) : List V → Hp → VK → Prop := fun xs H Q => ∃ D : Addr, cls = .ref D ∧ xs = [.ref a, .ref D] ∧ Q (.bl true) H
theorem call_isX {X : Cx} {a : Addr} {oe : Obj} {pn : List (Addr × Obj)} {cls : Value} {d : Option Addr} (hz : Zc cls d oe) : CallR (X.suite a ((a, oe) :: pn)) (.builtin "isinstance") (rIsX cls a) := by
  intro pins s σ H xs us Q I r h
  obtain ⟨D, rfl, rfl, q⟩ := h
  cases r with
  | cons r0 r1 =>
    cases r1 with
    | cons r2 r3 =>
      cases r3
      cases r0
      cases r2
      have hp := (I.pin (a, oe) (by simp)).1
      have e := isi_exact (prog := X.prog) (w := X.w) (A := (X.suite a ((a, oe) :: pn)).A) (E := (X.suite a ((a, oe) :: pn)).xe) (Q := EP (X.suite a ((a, oe) :: pn)) pins σ Q) hp ⟨.bl true, H, I, rfl, q⟩
      rw [hz.1] at e
      exact e
end Fo

set_option maxRecDepth 100000
set_option maxHeartbeats 2000000
/-! isinstance of a caught error that has a dict of its own, true or false. -/
namespace Fo
open PySem PySem.Spec PyProof.Rows L2
structure XcC (K : PySem.W.Frag) (D : Addr) : Prop where
  hc : (PySem.W.clsIn K D).isSome = true
  hg : PySem.W.findIn K (.ref D) "__getattribute__" = some (some (.builtin "BaseException.__getattribute__"))
  hk : PySem.W.findIn K (.ref D) "__getattr__" = some none
  hs : PySem.W.subIn K (.ref D) (.type "BaseException") = some true
  ha : PySem.W.findIn K (.ref D) "__class__" = some (some (.builtin "object.__class__"))
  hn : PySem.W.specialIn K (.builtin "object.__class__") "__get__" = some (some (.builtin "getset_descriptor.__get__"))
  ht : PySem.W.takesIn K (.builtin "object.__class__") = some true
  hm : PySem.W.mroIn K D (.type "object") = some true
def rIsX2 (K : PySem.W.Frag) (cls : Value) (d : Option Addr) (a : Addr) : List V → Hp → VK → Prop := fun xs H Q => ∃ (D D2 dd : Addr) (b : Bool) (fs : List (Str × V)), cls = .ref D ∧ xs = [.ref a, .ref D2] ∧ d = some dd ∧ H dd = some (.xd fs) ∧ XcC K D ∧ PySem.W.kitOne K (.ref D) (.ref D2) = some b ∧ Q (.bl b) H
theorem call_isX2 {X : Cx} {a : Addr} {oe : Obj} {pn : List (Addr × Obj)} {cls : Value} {d : Option Addr} (hz : Zc cls d oe) (hf : ∃ vs, oe.data = .fields vs) : CallR (X.suite a ((a, oe) :: pn)) (.builtin "isinstance") (rIsX2 X.K cls d a) := by
  intro pins s σ H xs us Q I r h
  obtain ⟨D, D2, dd, b, fs, rfl, rfl, rfl, ed, C, e, q⟩ := h
  cases r with
  | cons r0 r1 =>
    cases r1 with
    | cons r2 r3 =>
      cases r3
      cases r0
      cases r2
      obtain ⟨hget, _⟩ := I.pin (a, oe) (List.mem_append.mpr (.inl List.mem_cons_self))
      obtain ⟨vs, hv⟩ := hf
      have hx : ObjOk X.prog X.w H s.heap dd (.xd fs) := I.hok dd _ ed
      obtain ⟨mA, hns, hr⟩ := hx
      obtain ⟨od, ho, hl⟩ := lookIn_ns hns
      have J : PySem.W.InstAt s.heap a oe D (some od) := ⟨hget, hz.1, by unfold PySem.W.notCls; rw [hv] <;> rfl, by rw [hz.2]; exact ho⟩
      exact PySem.W.kia_one (PySem.W.kitx_exc C.hc C.hg C.hk C.hs C.ha C.hn C.ht C.hm) I.kIn J e (fun z => nomatch z) fun tk => ⟨.bl b, H, I.kept (t' := tk) fun _ _ z => z, rfl, q⟩
theorem kit_same {K : PySem.W.Frag} {D : Addr} : PySem.W.kitOne K (.ref D) (.ref D) = some true := by
  unfold PySem.W.kitOne
  rw [if_pos (beq_self_eq_true _)]
theorem kit_other {K : PySem.W.Frag} {D D2 : Addr} (h1 : (PySem.W.clsIn K D2).isSome = true) (h2 : PySem.W.typeIn K (.ref D2) = some (.type "type")) (h3 : PySem.W.subIn K (.ref D) (.ref D2) = some false) (h4 : PySem.W.subIn K (.ref D2) (.ref D2) = some true) : PySem.W.kitOne K (.ref D) (.ref D2) = some false := by
  have ne : (Value.ref D == Value.ref D2) = false := by
    rw [beq_eq_false_iff_ne]
    intro q
    cases q
    rw [h3] at h4
    cases h4
  have e2 : ((PySem.W.clsIn K D2).isSome && PySem.W.typeIn K (.ref D2) == some (.type "type")) = true := by rw [h1, h2] <;> rfl
  unfold PySem.W.kitOne
  rw [ne, if_neg (by decide)]
  show (if ((PySem.W.clsIn K D2).isSome && PySem.W.typeIn K (.ref D2) == some (.type "type")) = true then PySem.W.subIn K (.ref D) (.ref D2) else none) = some false
  rw [if_pos e2]
  exact h3
end Fo

set_option maxRecDepth 100000
set_option maxHeartbeats 4000000
/-! errors without fields: their making, isinstance of such a caught one. -/
namespace Fo
open PySem PySem.Spec PyProof.Rows L2
/-- the promise of an __init__ that does nothing -/
def spPass : Sp := fun vs H Q _ => ∃ a : Addr, vs = [.ref a] ∧ Q .non H
section
variable {X : Cx}
theorem mk_endN {pins : List (Addr × Obj)} {σ : L2.St} {H1 : Hp} {Q : XK} {hp hp2 h2 : Heap} {g1 g2 : Array GenState} {d1 d2 : Drawn} {t1 t2 : Nat} {os1 os2 : OsState} {a C : Addr} (T : Raises X (.ref C)) (I1 : Inv X pins σ H1 ⟨hp, g1, d1, t1, os1⟩)
    (ha : hp.objs.size ≤ a) (k : ∀ b o, hp.get? b = some o → hp2.get? b = some o) (un : Un (frs X.stack) [] (upd H1 a (exo a C none)) (upd H1 a (exo a C none)) hp2 h2) (hok : HOk X.prog X.w (upd H1 a (exo a C none)) h2) (ho : os2 = os1) (hb : AllBare g2)
    (q : Q (.ref C) none H1) : MkP X pins σ Q (.ref a) ⟨h2, g2, d2, t2, os2⟩ := by
  have ea : upd H1 a (exo a C none) a = some (exo a C none) := upd_same
  obtain ⟨t0, hoe⟩ := exo_at hok ea
  have hn : H1 a = none := I1.hok.fresh ha
  obtain ⟨G, g1', g2'⟩ := restrict h2 fun b => decide (b ≠ a)
  have gk : ∀ b, b ≠ a → G.get? b = h2.get? b := fun b hb => g1' b (decide_eq_true hb)
  have ge : G.get? a = none := g2' a (by simp)
  have nha : ∀ {b : Addr} {o : Obj}, hp.get? b = some o → b ≠ a := fun {b o} z => Nat.ne_of_lt (Nat.lt_of_lt_of_le (Heap.lt_size z) ha)
  have up : ∀ {b : Addr}, b ≠ a → H1 b = none → upd H1 a (exo a C none) b = none := fun {b} hb n => by rw [upd_ne hb]; exact n
  have U : Un (frs X.stack) [] H1 H1 hp G := {
    keep := fun b o z n hf hx => by
      rw [gk b (nha z)]
      exact un.keep b o (k b o z) (up (nha z) n) hf hx
    slot := fun b o z n hf hx => by
      rw [gk b (nha z)]
      exact un.slot b o (k b o z) (up (nha z) n) hf hx
    free := fun b o z n hx => n
    there := fun b o z hx => by
      rw [gk b (nha z)]
      exact un.there b o (k b o z) hx
    tups := fun b xs z => z
    frzs := fun b o v z => z
    tbls := fun b ps z => ⟨#[], by rw [Array.append_empty]; exact z⟩ }
  have hok3 : HOk X.prog X.w H1 G := fun b o z => by
    have hba : b ≠ a := ne_of_none z hn
    have z2 : upd H1 a (exo a C none) b = some o := by rw [upd_ne hba]; exact z
    have noa : ∀ {c : Addr}, upd H1 a (exo a C none) c = some (.own b) → c ≠ a := fun {c} hc => at_ne ea hc exo_own
    exact (hok b o z2).stay (fun c v hc y => by
        have hca : c ≠ a := by
          rcases hc with hc | hc
          · rw [hc]
            exact hba
          · exact noa hc
        rw [gk c hca]
        exact y)
      (fun c hc => by
        have := noa hc
        rw [upd_ne this] at hc
        exact hc) (fun c xs hc => by
        have := at_ne ea hc exo_tup
        rw [upd_ne this] at hc
        exact hc)
  have J : Inv X pins σ H1 ⟨G, g2, d2, t2, os2⟩ := I1.call' (ch := []) ho U hok3 hb (fun b z => absurd z (by simp))
  refine ⟨a, _, _, ⟨G, g2, d2, t2, os2⟩, _, .ref C, none, rfl, J, fun b o z => ?_, ge, hoe, ⟨rfl, rfl⟩, rfl, rfl, hn, rfl, hb, T, q⟩
  by_cases hba : b = a
  · rw [hba, ge] at z
    cases z
  · exact (gk b hba).symm.trans z
theorem pmk_oex0 {x : Str} {C fI : Addr} {k : Nat} {fd : FuncData} {p pos : Pos} (T : OexC X.K C) (iC : PySem.W.findIn X.K (.ref C) "__init__" = some (some (.ref fI))) (tI : PySem.W.typeIn X.K (.ref fI) = some (.type "function"))
    (F1 : FnOk X.prog X.w X.K X.mg X.base CX0 k fI fd ["self"] spPass) (hr : Room (k + 1) X.A) (hb : Binds X.K fd ["self"] []) (hg : Gl X x) (hm : X.mg x = some (.ref C))
    (hdb : (x == ("__debug__" : Str)) = false := by decide) : PMk X (.Call (.Name x p) [] [] pos) (fun _ H Q => Q (.ref C) none H) := by
  intro pins s σ H Q I h
  obtain ⟨nm, q, N, bs, bm, sn, sub, ab, col, dd, k0, k1, k2, k3, k5, hC, hbm⟩ := T.cls
  refine wpAny_Call_Name_kw (ld_glob I hg hm ?_ hdb)
  refine PySem.W.callWith_K0 I.kIn T.kC ?_
  show wpAny _ _ (call (.ref C) []) _ _ _
  obtain ⟨hp, g, dr, tk, os⟩ := s
  have hsz : hp.objs.size ≤ hp.objs.size + 1 := Nat.le_succ _
  have hn : H (hp.objs.size + 1) = none := I.hok.fresh hsz
  have kk : ∀ b o, hp.get? b = some o → ((hp.push (PySem.W.kdv_tup [])).push (PySem.HandSPX.excO C hp.objs.size)).get? b = some o := fun b o e => Heap.get?_push_of_some _ (Heap.get?_push_of_some _ e)
  have hget : ((hp.push (PySem.W.kdv_tup [])).push (PySem.HandSPX.excO C hp.objs.size)).get? (hp.objs.size + 1) = some (PySem.HandSPX.excO C hp.objs.size) := by heap_get
  have I2 : Inv X pins σ (upd H (hp.objs.size + 1) (exo (hp.objs.size + 1) C none)) ⟨(hp.push (PySem.W.kdv_tup [])).push (PySem.HandSPX.excO C hp.objs.size), g, dr, tk, os⟩ :=
    I.laid (t' := tk) (a := hp.objs.size + 1) (o := exo (hp.objs.size + 1) C none) (h' := (hp.push (PySem.W.kdv_tup [])).push (PySem.HandSPX.excO C hp.objs.size)) kk hsz (exo_ok hget)
  have r2 : Vals [V.ref (hp.objs.size + 1)] [Value.ref (hp.objs.size + 1)] := .cons rfl .nil
  refine wpAny_call (PySem.HandSPX.call_own F.excBase_ValueError (fun Y => PySem.HandSPX.refsVE_contains Y bm hbm) (I.kIn _ _ hC) (PySem.W.looks_findIn I.kIn iC) (fun self => PySem.W.bind_fn I.kIn self tI) (by show 0 ≤ sizeLine; decide)
    (codeAny_mono (F1.run _ X.stack _ (upd H (hp.objs.size + 1) (exo (hp.objs.size + 1) C none)) ⟨[Value.ref (hp.objs.size + 1)], []⟩ [Value.ref (hp.objs.size + 1)] _ (fun v H2 => v = .non ∧ H2 = upd H (hp.objs.size + 1) (exo (hp.objs.size + 1) C none) ∧ Q (.ref C) none H) (fun _ _ _ => False) (hr.make C [] []) (I2.env0.make C [] []) (hb _ [Value.ref (hp.objs.size + 1)] I2.kIn rfl) r2 ⟨_, rfl, rfl, rfl, h⟩) fun r s' hq' => ?_))
  cases r with
  | error er => exact pass0 pins σ _ _ er s' I2 hq'
  | ok fl =>
    cases fl with
    | ret u =>
      obtain ⟨v, H2, os2, bare2, un2, hok2, rv, ev, eH, q2⟩ := hq'
      subst ev
      subst eH
      obtain ⟨h2, g2, d2, t2, os'⟩ := s'
      exact ⟨rv, mk_endN (raises_own T.exC T.tyC) I hsz kk un2 hok2 os2 bare2 q2⟩
    | next => exact False.elim hq'
    | brk => exact False.elim hq'
    | cont => exact False.elim hq'
end
/-- isinstance of a caught error without a dict of its own -/
def rIsX0 (K : PySem.W.Frag) (cls : Value) (d : Option Addr) (a : Addr) : List V → Hp → VK → Prop := fun xs H Q => ∃ (D : Addr) (y : V) (u : Value) (b : Bool), cls = .ref D ∧ xs = [.ref a, y] ∧ (∀ z, RelV y z → z = u) ∧ d = none ∧ XcC K D ∧ PySem.W.kitOne K (.ref D) u = some b ∧ Q (.bl b) H
theorem call_isX0 {X : Cx} {a : Addr} {oe : Obj} {pn : List (Addr × Obj)} {cls : Value} {d : Option Addr} (hz : Zc cls d oe) (hf : ∃ vs, oe.data = .fields vs) : CallR (X.suite a ((a, oe) :: pn)) (.builtin "isinstance") (rIsX0 X.K cls d a) := by
  intro pins s σ H xs us Q I r h
  obtain ⟨D, y, u, b, rfl, rfl, hy, rfl, C, e, q⟩ := h
  cases r with
  | cons r0 r1 =>
    cases r1 with
    | cons r2 r3 =>
      cases r3
      cases r0
      have := hy _ r2
      subst this
      obtain ⟨hget, _⟩ := I.pin (a, oe) (List.mem_append.mpr (.inl List.mem_cons_self))
      obtain ⟨vs, hv⟩ := hf
      have J : PySem.W.InstAt s.heap a oe D none := ⟨hget, hz.1, by unfold PySem.W.notCls; rw [hv] <;> rfl, by rw [hz.2]; trivial⟩
      exact PySem.W.kia_one (PySem.W.kitx_exc C.hc C.hg C.hk C.hs C.ha C.hn C.ht C.hm) I.kIn J e (fun z => nomatch z) fun tk => ⟨.bl b, H, I.kept (t' := tk) fun _ _ z => z, rfl, q⟩
/-! ### defs that raise, called by name -/
structure DfnX (P : Program) (w : World) (K : PySem.W.Frag) (mg : Str → Option Value) (base : Heap) (x : Str) (ps : List Str) (k : Nat) (sp : Sp) : Prop where
  ex : ∃ f fd, mg x = some (.ref f) ∧ PySem.W.keepIn K (.ref f) = true ∧ FnOk P w K mg base (CX P w) k f fd ps sp ∧ Binds K fd ps []
theorem pe_dX {X : Cx} {x : Str} {ps : List Str} {k : Nat} {sp : Sp} {E : XK} {e : Expr} {es : List Expr} {t : TA} {p pos : Pos} (G : DfnX X.prog X.w X.K X.mg X.base x ps k sp) (hr : Room k X.A) (hx : Passes (CX X.prog X.w) X E) (ha : PA X (e :: es) t) (hg : Gl X x := by rfl)
    (hdb : (x == ("__debug__" : Str)) = false := by decide) (he : starEach (e :: es) X.env = (false, eval e X.env) :: starEach es X.env := by rfl) (hpl : (backTo pos (starEach es X.env)).any (·.1) = false := by rfl) :
    PE X (.Call (.Name x p) (e :: es) [] pos) (tCall sp [] E t) := by
  obtain ⟨f, fd, hm, kp, F, b⟩ := G.ex
  exact pe_call F hr hg hm kp b .nil hx ha hdb he hpl
theorem At.okX {P : Program} {w : World} {K : PySem.W.Frag} {mg : Str → Option Value} {base : Heap} {x : Str} {st : Stmt} {N ps : List Str} {k : Nat} {sp : Sp} (a : At K mg x st ps) (S : FnScope N ps (defScope st)) (len : ∀ vs H Q E, sp vs H Q E → vs.length = ps.length)
    (hbody : ∀ (f : Addr) (cdv : Value) (A : Around) (outer : List Env) (s : Shared) (H : Hp) (vs : List V) (Q : VK) (E : XK), Room k (A.deeper (envOfC x (defScope st) s.heap.objs.size f cdv)) → sp vs H Q E →
      ∃ t, PSs (cxOf (L2.CX P w) P w K mg base N x (defScope st) f cdv A outer s H E) (defBody st) t ∧ t { nx := fun _ H' => Q .non H', rt := Q } (start N vs) H) : DfnX P w K mg base x ps (k + 1) sp := by
  obtain ⟨f, fd, hm, F, b⟩ := a.ex
  exact ⟨f, fd, hm, F.kp, F.okX S len (hbody f), b⟩
/-- what is known of an error's class, without fields -/
structure Er0 (P : Program) (w : World) (K : PySem.W.Frag) (mg : Str → Option Value) (base : Heap) (x : Str) (D : Addr) : Prop where
  oex : OexC K D
  gC : mg x = some (.ref D)
  ini : ∃ fI fd, PySem.W.findIn K (.ref D) "__init__" = some (some (.ref fI)) ∧ PySem.W.typeIn K (.ref fI) = some (.type "function") ∧ FnOk P w K mg base CX0 1 fI fd ["self"] spPass ∧ Binds K fd ["self"] []
theorem pmk_er0 {X : Cx} {x : Str} {D : Addr} {p pos : Pos} (T : Er0 X.prog X.w X.K X.mg X.base x D) (hr : Room 2 X.A) (hg : Gl X x) (hdb : (x == ("__debug__" : Str)) = false := by decide) : PMk X (.Call (.Name x p) [] [] pos) (fun _ H Q => Q (.ref D) none H) := by
  obtain ⟨fI, fd, iC, tI, F1, hb⟩ := T.ini
  exact pmk_oex0 T.oex iC tI F1 hr hb hg T.gC hdb
theorem cxMono {P : Program} {w : World} {outer : List Env} {H : Hp} {s : Shared} {E E' : XK} {e : Value} {s' : Shared} (h : CX P w outer H s E e s') (m : ∀ cls d H, E cls d H → E' cls d H) : CX P w outer H s E' e s' := by
  obtain ⟨a, B, H', cls, d, h1, h2, h3, h4, h5, h6, h7, h8⟩ := h
  exact ⟨a, B, H', cls, d, h1, h2, h3, h4, h5, h6, h7, m _ _ _ h8⟩
/-! ### list.count of flat things -/
theorem cnt_vals {y : V} : ∀ {ys : List V} {its : List Value}, Vals ys its → ys.all flatV = true → its.countP (eqU y) = ys.countP fun z => eqV z y
  | _, _, .nil, _ => rfl
  | _, _, .cons r t, h => by
    rw [List.all_cons, Bool.and_eq_true] at h
    rw [List.countP_cons, List.countP_cons, cnt_vals t h.2, eqU_of r h.1]
def rCntV (K : PySem.W.Frag) : V → List V → Hp → VK → Prop := fun x xs H Q => ∃ (p : Addr) (ys : List V) (y : V), x = .ref p ∧ xs = [y] ∧ SqL K H p ys ∧ flatV y = true ∧ ys.all flatV = true ∧ Q (.int ((ys.countP fun z => eqV z y : Nat) : Int)) H
theorem mt_countV {X : Cx} : MtR X "list.count" (rCntV X.K) := by
  intro pins s σ H x xs v us Q I rx rxs h
  obtain ⟨p, ys, y, rfl, rfl, hs, fy, fys, q⟩ := h
  cases rx
  cases rxs with
  | cons ry rt =>
    rename_i uy ut
    cases rt
    obtain ⟨its, rv, ⟨⟨cls, dd, data, sl⟩, n, ho, hc, hdn, hd⟩, hlen⟩ := I.list hs
    simp only at hc hd
    subst hc hd
    refine call_meets PySem.F.slot_list_count ⟨_, ho, rfl⟩ PySem.F.entry_list_count (PySem.F.args_list_count_2 _ _)
      (SeqAt.list_countAt p its.toArray n dd sl uy (eqU y)) ⟨ho, fun u' hu' => mem_eqAt ry fy rv fys u' (by simpa using hu'), ?_⟩
    have ec : its.toArray.toList.countP (eqU y) = ys.countP fun z => eqV z y := cnt_vals rv fys
    refine ⟨.int ((ys.countP fun z => eqV z y : Nat) : Int), H, I.tok _, ⟨s.toks, ?_⟩, q⟩
    show Value.int ((its.toArray.toList.countP (eqU y) : Nat) : Int) s.toks = _
    rw [ec]
end Fo

set_option maxRecDepth 100000
set_option maxHeartbeats 4000000
namespace Fo
open PySem PySem.Spec PyProof.Rows L2
abbrev s_piece_kinds : Stmt := top 26
abbrev n_piece_kinds : List Str := ["table", "live", "people"]
theorem sc_piece_kinds : FnScope n_piece_kinds ["table"] (defScope s_piece_kinds) := ⟨rfl, rfl, rfl, by decide +kernel, rfl, by decide +kernel, by decide +kernel⟩
abbrev s_kind_of : Stmt := top 27
abbrev n_kind_of : List Str := ["live", "people", "person"]
theorem sc_kind_of : FnScope n_kind_of ["live", "people"] (defScope s_kind_of) := ⟨rfl, rfl, rfl, by decide +kernel, rfl, by decide +kernel, by decide +kernel⟩
abbrev s_is_ring : Stmt := top 28
abbrev n_is_ring : List Str := ["live", "people", "given", "person", "thing"]
theorem sc_is_ring : FnScope n_is_ring ["live", "people"] (defScope s_is_ring) := ⟨rfl, rfl, rfl, by decide +kernel, rfl, by decide +kernel, by decide +kernel⟩
def givenL (L : List (List Int)) (g : List Nat) : List Int := (g.map (Mt.row L)).flatten
def fullG (L : List (List Int)) (g : List Nat) : Bool := g.all fun p => decide ((Mt.row L p).length = g.length)
def ringB (L : List (List Int)) (g : List Nat) : Bool := (g.all fun p => decide ((Mt.row L p).length = 2)) && ((givenL L g).all fun t => decide ((givenL L g).count t = 2))
def kindS (L : List (List Int)) (g : List Nat) : Str := if fullG L g = true then "full" else if ringB L g = true then "ring" else "other"
theorem nat_atK {g : List Nat} {j : Nat} {y : V} (h : ((natI g).map V.int)[j]? = some y) : ∃ p, g[j]? = some p ∧ y = .int (p : Int) := by
  unfold natI at h
  rw [List.getElem?_map, List.getElem?_map] at h
  cases e : g[j]? with
  | none => rw [e] at h; cases h
  | some p => rw [e] at h; exact ⟨p, rfl, (Option.some.inj h).symm⟩
theorem cnt_eqV (ns : List Int) (u : Int) : ((ns.map V.int).countP fun z => eqV z (V.int u)) = ns.count u := by
  rw [List.countP_map]
  unfold List.count
  refine List.countP_congr fun x _ => ?_
  show decide (x = u) = true ↔ (x == u) = true
  rw [decide_eq_true_iff, beq_iff_eq]
theorem intn_dec (m n : Nat) : decide (V.int (m : Int) = V.int (n : Int)) = decide (m = n) := decide_eq_decide.mpr ⟨fun h => by injection h with h; omega, fun h => by rw [h]⟩
theorem row_in {L : List (List Int)} {p : Nat} (h : p < L.length) : Mt.row L p = L[p] := Mt.row_get (List.getElem?_eq_getElem h)
section
variable {P : Program} {w : World} {K : PySem.W.Frag} {mg : Str → Option Value} {base : Heap} {C : Addr}
def spRingE (K : PySem.W.Frag) : Sp := fun vs H Q _ => ∃ (a b : Addr) (rows : List (List Int)) (g : List Nat), vs = [.ref a, .ref b] ∧ RowsQ true K H (.ref a) rows ∧ SqL K H b ((natI g).map V.int) ∧ (∀ p ∈ g, p < rows.length) ∧ (∀ r ∈ rows, r.length ≤ 40) ∧ g.length ≤ 40 ∧ ∀ H', Same H H' → Q (.bl (ringB rows g)) H'
def spKindE (K : PySem.W.Frag) : Sp := fun vs H Q _ => ∃ (a b : Addr) (rows : List (List Int)) (g : List Nat), vs = [.ref a, .ref b] ∧ RowsQ true K H (.ref a) rows ∧ SqL K H b ((natI g).map V.int) ∧ (∀ p ∈ g, p < rows.length) ∧ (∀ r ∈ rows, r.length ≤ 40) ∧ g.length ≤ 40 ∧ ∀ H', Same H H' → Q (.str (kindS rows g)) H'
theorem ok_ringE (A : At K mg "_is_ring" s_is_ring ["live", "people"]) (T : Tx mg) : Dfn P w K mg base "_is_ring" ["live", "people"] 1 (spRingE K) := by
  refine A.ok sc_is_ring (fun vs H Q E h => ?_) (fun f cdv A outer s H vs Q E hr h => ?_)
  · obtain ⟨_, _, _, _, rfl, _⟩ := h
    rfl
  · obtain ⟨a, b, rows, g, rfl, hR, hb, hg, hr40, hl, k⟩ := h
    obtain ⟨la, lvs, e, hla, hlb⟩ := id hR
    cases e
    have gl : (natI g).length = g.length := by unfold natI; rw [List.length_map]
    have ln : ∀ i, (((g.take i).map (Mt.row rows)).flatten).length ≤ 1600 := fun i => by
      refine Nat.le_trans (flat_len (n := 40) fun r hr => ?_) (Nat.le_trans (Nat.mul_le_mul (by rw [List.length_map, List.length_take]; omega : _ ≤ 40) (Nat.le_refl 40)) (by decide))
      obtain ⟨p, hp, rfl⟩ := List.mem_map.mp hr
      have := hg p (List.mem_of_mem_take hp)
      rw [row_in this]
      exact hr40 _ (List.getElem_mem _)
    refine ⟨_, (pss_cons (ps_set (i := 2) sc_is_ring.nd rfl (Or.inr rfl) (pe_lc2 (own := [("person", 3), ("thing", 4)]) (vs1 := [4]) (g := (gName 3)) (tt := tYes) (wi1 := (iList K (tOp (rIxL K) (tVar 0) (tVar 3)))) (g1 := (gName 4)) (tt1 := tYes) (te := (tVar 4)) (by rfl) sc_is_ring.nd (pi_list (pv 1)) (blkOk_by (own := [("person", 3), ("thing", 4)]) (N := n_is_ring) (sc := (defScope s_is_ring)) (by decide +kernel)) (by decide) (fun _ _ _ _ _ => (pg_name (i := 3) sc_is_ring.nd rfl (Or.inl rfl))) (fun _ _ _ _ _ => pts_nil) (fun _ _ _ _ _ => (pi_list (pe_ix ix_list (pv 0) (pv 3) (fun _ _ => rfl)))) (fun _ _ _ _ _ => (pg_name (i := 4) sc_is_ring.nd rfl (Or.inl rfl))) (fun _ _ _ _ _ => pts_nil) (fun _ _ _ _ _ => (pv 4))))
      (pss_one (ps_ret (pe_and (pe_callB (cr_all rfl) (by rfl) T.all (by decide +kernel) (pa_cons (pe_lc (own := [("person", 3)]) (g := (gName 3)) (tt := tYes) (te := (tOp rEq (tCB (rLenS K) (tCons (tOp (rIxL K) (tVar 0) (tVar 3)) tNil)) (tC (V.int 2)))) (by rfl) sc_is_ring.nd (pi_list (pv 1)) (blkOk_by (own := [("person", 3)]) (N := n_is_ring) (sc := (defScope s_is_ring)) (by decide +kernel)) (fun _ _ _ _ _ => (pg_name (i := 3) sc_is_ring.nd rfl (Or.inl rfl))) (fun _ _ _ _ _ => pts_nil) (fun _ _ _ _ _ => (pe_cmpR op_eq (pe_callB c_len (by rfl) T.len (by decide +kernel) (pa_cons (pe_ix ix_list (pv 0) (pv 3) (fun _ _ => rfl)) pa_nil)) pe_int (nomark _)))) pa_nil)) (pe_one (pe_callB (cr_all rfl) (by rfl) T.all (by decide +kernel) (pa_cons (pe_lc (own := [("thing", 4)]) (g := (gName 4)) (tt := tYes) (te := (tOp rEq (tBM K "list" (rCntV K) (tVar 2) (tCons (tVar 4) tNil)) (tC (V.int 2)))) (by rfl) sc_is_ring.nd (pi_list (pv 2)) (blkOk_by (own := [("thing", 4)]) (N := n_is_ring) (sc := (defScope s_is_ring)) (by decide +kernel)) (fun _ _ _ _ _ => (pg_name (i := 4) sc_is_ring.nd rfl (Or.inl rfl))) (fun _ _ _ _ _ => pts_nil) (fun _ _ _ _ _ => (pe_cmpR op_eq (pe_bm PySem.F.plainAttrs_list PySem.F.slot_list_count PySem.F.type_list_count mt_countV (pv 2) (pa_cons (pv 4) pa_nil)) pe_int (nomark _)))) pa_nil))))))), ?_⟩
    refine ⟨_, rfl, b, rfl, ⟨_, hb⟩, fun D hD => ?_⟩
    refine walk_sq (b := true) (xs := (natI g).map V.int) (fun i H' => H' D = some (.lst ((((g.take i).map (Mt.row rows)).flatten).map V.int)) ∧ Same H H') ⟨upd_same, same_new hD⟩ (fun i H' _ hp => Sq.same (b := true) hb hp.2) ?_ ?_
    · rintro i y H1 hy ⟨h1, s1⟩
      obtain ⟨p, hp, rfl⟩ := nat_atK hy
      have pl := hg p (List.mem_of_getElem? hp)
      obtain ⟨q, hq1, hq2⟩ := hlb.at_ (List.getElem?_eq_getElem pl)
      obtain ⟨r, er⟩ : ∃ r, r = rows[p] := ⟨_, rfl⟩
      rw [← er] at hq2
      have rl : r.length ≤ 40 := hr40 r (by rw [er]; exact List.getElem_mem _)
      have il : i < g.length := (List.getElem?_eq_some_iff.mp hp).1
      have li := ln i
      refine ⟨rfl, _, rfl, _, rfl, a, lvs, (p : Int), .ref q, rfl, rfl, hla.same s1, at_nat hq1, q, rfl, ⟨_, Sq.same (b := true) hq2 s1⟩, ?_⟩
      refine walk_sq (b := true) (xs := r.map V.int) (fun j H' => H' D = some (.lst ((((g.take i).map (Mt.row rows)).flatten ++ r.take j).map V.int)) ∧ Same H H') ⟨by rw [List.take_zero, List.append_nil]; exact h1, s1⟩ (fun i H' _ hp => hq2.same hp.2) ?_ ?_
      · rintro j z H2 hz ⟨h2, s2⟩
        obtain ⟨u, hu, rfl⟩ : ∃ u, r[j]? = some u ∧ z = V.int u := by
          rw [List.getElem?_map] at hz
          cases e : r[j]? with
          | none => rw [e] at hz; cases hz
          | some u => rw [e] at hz; exact ⟨u, rfl, (Option.some.inj hz).symm⟩
        have jl := (List.getElem?_eq_some_iff.mp hu).1
        refine ⟨rfl, _, rfl, _, h2, by rw [List.length_map, List.length_append, List.length_take]; exact small_lt (by omega), ?_, same_mut s2 hD⟩
        rw [upd_same, show r.take (j + 1) = r.take j ++ [u] from by rw [List.take_add_one, hu]; rfl, ← List.append_assoc, List.map_append (l₂ := [u])]
        rfl
      · rintro H2 ⟨h2, s2⟩
        rw [List.length_map, List.take_length] at h2
        refine ⟨?_, s2⟩
        have e1 : ((g.take (i + 1)).map (Mt.row rows)).flatten = ((g.take i).map (Mt.row rows)).flatten ++ r := by
          rw [show g.take (i + 1) = g.take i ++ [p] from by rw [List.take_add_one, hp]; rfl, List.map_append, List.flatten_append, List.map_singleton, List.flatten_singleton, row_in pl, er]
        rw [h2, e1]
    · rintro H1 ⟨h1, s1⟩
      rw [List.length_map, gl, List.take_length] at h1
      have nl2 : (givenL rows g).length ≤ 1600 := by have := ln g.length; rwa [List.take_length] at this
      have h1 : H1 D = some (.lst ((givenL rows g).map V.int)) := h1
      have hb1 : SqL K H1 b ((natI g).map V.int) := Sq.same (b := true) hb s1
      have hla1 : SqL K H1 a lvs := hla.same s1
      refine ⟨_, rfl, b, rfl, ⟨_, hb1⟩, fun D2 hD2 => ?_⟩
      refine lc_list (xs := (natI g).map V.int) (fun i H' => H' D2 = some (.lst (((g.take i).map fun p => decide ((Mt.row rows p).length = 2)).map V.bl)) ∧ Same H1 H') ⟨upd_same, same_new hD2⟩ (fun i H' _ hp => hp.2.seq hb1) ?_ ?_
      · rintro i y H2 hy ⟨h2, s2⟩
        obtain ⟨p, hp, rfl⟩ := nat_atK hy
        have pl := hg p (List.mem_of_getElem? hp)
        have il : i < g.length := (List.getElem?_eq_some_iff.mp hp).1
        obtain ⟨q, hq1, hq2⟩ := hlb.at_ (List.getElem?_eq_getElem pl)
        refine ⟨rfl, _, rfl, _, rfl, a, lvs, (p : Int), .ref q, rfl, rfl, Sq.same (b := true) hla1 s2, at_nat hq1, q, _, rfl, .inl (Sq.same (b := true) hq2 (s1.trans s2)), rfl, ?_⟩
        refine ⟨_, h2, small_lt (by rw [List.length_map, List.length_map, List.length_take]; omega), ?_, same_mut s2 hD2⟩
        rw [upd_same, show g.take (i + 1) = g.take i ++ [p] from by rw [List.take_add_one, hp]; rfl, List.map_append, List.map_append]
        show some (HO.lst (_ ++ [V.bl (decide (V.int ((((rows[p]).map V.int).length : Nat) : Int) = V.int ((2 : Nat) : Int)))])) = some (HO.lst (_ ++ [V.bl (decide ((Mt.row rows p).length = 2))]))
        rw [intn_dec, List.length_map, row_in pl]
      · rintro H2 ⟨h2, s2⟩
        rw [List.length_map, gl, List.take_length] at h2
        have h12 : SqL K H2 D ((givenL rows g).map V.int) := SqL.of (s2 _ _ h1)
        refine ⟨D2, _, rfl, SqL.of h2, _, rfl, ?_⟩
        have e2 : ((g.map fun p => decide ((Mt.row rows p).length = 2)).all id) = g.all fun p => decide ((Mt.row rows p).length = 2) := by rw [List.all_map]; rfl
        refine ite2 (fun hc => ?_) (fun hc => ?_)
        · rw [e2] at hc
          refine ⟨_, rfl, D, rfl, ⟨_, h12⟩, fun D3 hD3 => ?_⟩
          refine lc_list (xs := (givenL rows g).map V.int) (fun i H' => H' D3 = some (.lst ((((givenL rows g).take i).map fun t => decide ((givenL rows g).count t = 2)).map V.bl)) ∧ Same H2 H') ⟨upd_same, same_new hD3⟩ (fun i H' _ hp => hp.2.seq h12) ?_ ?_
          · rintro i y H3 hy ⟨h3, s3⟩
            obtain ⟨u, hu, rfl⟩ : ∃ u, (givenL rows g)[i]? = some u ∧ y = V.int u := by
              rw [List.getElem?_map] at hy
              cases e : (givenL rows g)[i]? with
              | none => rw [e] at hy; cases hy
              | some u => rw [e] at hy; exact ⟨u, rfl, (Option.some.inj hy).symm⟩
            have il := (List.getElem?_eq_some_iff.mp hu).1
            refine ⟨rfl, _, rfl, .inl ⟨rfl, _, Sq.same (b := true) h12 s3⟩, _, rfl, D, (givenL rows g).map V.int, .int u, rfl, rfl, Sq.same (b := true) h12 s3, rfl, all_flat_ints _, rfl, ?_⟩
            refine ⟨_, h3, small_lt (by rw [List.length_map, List.length_map, List.length_take]; omega), ?_, same_mut s3 hD3⟩
            rw [upd_same, show (givenL rows g).take (i + 1) = (givenL rows g).take i ++ [u] from by rw [List.take_add_one, hu]; rfl, List.map_append, List.map_append]
            show some (HO.lst (_ ++ [V.bl (decide (V.int (((((givenL rows g).map V.int).countP fun z => eqV z (V.int u)) : Nat) : Int) = V.int ((2 : Nat) : Int)))])) = some (HO.lst (_ ++ [V.bl (decide ((givenL rows g).count u = 2))]))
            rw [intn_dec, cnt_eqV]
          · rintro H3 ⟨h3, s3⟩
            rw [List.length_map, List.take_length] at h3
            refine ⟨D3, _, rfl, SqL.of h3, ?_⟩
            have := k H3 ((s1.trans s2).trans s3)
            unfold ringB at this
            rw [hc, Bool.true_and, show ((givenL rows g).all fun t => decide ((givenL rows g).count t = 2)) = (((givenL rows g).map fun t => decide ((givenL rows g).count t = 2)).all id) from by rw [List.all_map]; rfl] at this
            exact this
        · rw [e2] at hc
          have := k H2 (s1.trans s2)
          unfold ringB at this
          rw [Bool.eq_false_iff.mpr hc, Bool.false_and] at this
          exact this
theorem ok_kindE (A : At K mg "_kind_of" s_kind_of ["live", "people"]) (T : Tx mg) (G_is_ring : Dfn P w K mg base "_is_ring" ["live", "people"] 1 (spRingE K)) : Dfn P w K mg base "_kind_of" ["live", "people"] 2 (spKindE K) := by
  refine A.ok sc_kind_of (fun vs H Q E h => ?_) (fun f cdv A outer s H vs Q E hr h => ?_)
  · obtain ⟨_, _, _, _, rfl, _⟩ := h
    rfl
  · obtain ⟨a, b, rows, g, rfl, hR, hb, hg, hr40, hl, k⟩ := h
    obtain ⟨la, lvs, e, hla, hlb⟩ := id hR
    cases e
    have gl : (natI g).length = g.length := by unfold natI; rw [List.length_map]
    refine ⟨_, (pss_cons (ps_if (pt_val (pe_callB (cr_all rfl) (by rfl) T.all (by decide +kernel) (pa_cons (pe_lc (own := [("person", 2)]) (g := (gName 2)) (tt := tYes) (te := (tOp rEq (tCB (rLenS K) (tCons (tOp (rIxL K) (tVar 0) (tVar 2)) tNil)) (tCB (rLenS K) (tCons (tVar 1) tNil)))) (by rfl) sc_kind_of.nd (pi_list (pv 1)) (blkOk_by (own := [("person", 2)]) (N := n_kind_of) (sc := (defScope s_kind_of)) (by decide +kernel)) (fun _ _ _ _ _ => (pg_name (i := 2) sc_kind_of.nd rfl (Or.inl rfl))) (fun _ _ _ _ _ => pts_nil) (fun _ _ _ _ _ => (pe_cmpR op_eq (pe_callB c_len (by rfl) T.len (by decide +kernel) (pa_cons (pe_ix ix_list (pv 0) (pv 2) (fun _ _ => rfl)) pa_nil)) (pe_callB c_len (by rfl) T.len (by decide +kernel) (pa_cons (pv 1) pa_nil)) (nomark _)))) pa_nil))) (pss_one (ps_ret pe_str)) pss_nil)
      (pss_one (ps_ret (pe_ifExp (pt_val (pe_d G_is_ring (hr.mono (by decide)) (pa_cons (pv 0) (pa_cons (pv 1) pa_nil)))) pe_str pe_str)))), ?_⟩
    refine ⟨_, rfl, b, rfl, ⟨_, hb⟩, fun D hD => ?_⟩
    refine lc_list (xs := (natI g).map V.int) (fun i H' => H' D = some (.lst (((g.take i).map fun p => decide ((Mt.row rows p).length = g.length)).map V.bl)) ∧ Same H H') ⟨upd_same, same_new hD⟩ (fun i H' _ hp => hp.2.seq hb) ?_ ?_
    · rintro i y H1 hy ⟨h1, s1⟩
      obtain ⟨p, hp, rfl⟩ := nat_atK hy
      have pl := hg p (List.mem_of_getElem? hp)
      have il : i < g.length := (List.getElem?_eq_some_iff.mp hp).1
      obtain ⟨q, hq1, hq2⟩ := hlb.at_ (List.getElem?_eq_getElem pl)
      refine ⟨rfl, _, rfl, _, rfl, a, lvs, (p : Int), .ref q, rfl, rfl, Sq.same (b := true) hla s1, at_nat hq1, q, _, rfl, .inl (Sq.same (b := true) hq2 s1), _, rfl, b, _, rfl, .inl (Sq.same (b := true) hb s1), rfl, ?_⟩
      refine ⟨_, h1, small_lt (by rw [List.length_map, List.length_map, List.length_take]; omega), ?_, same_mut s1 hD⟩
      rw [upd_same, show g.take (i + 1) = g.take i ++ [p] from by rw [List.take_add_one, hp]; rfl, List.map_append, List.map_append]
      show some (HO.lst (_ ++ [V.bl (decide (V.int ((((rows[p]).map V.int).length : Nat) : Int) = V.int ((((natI g).map V.int).length : Nat) : Int)))])) = some (HO.lst (_ ++ [V.bl (decide ((Mt.row rows p).length = g.length))]))
      rw [intn_dec, List.length_map, List.length_map, gl, row_in pl]
    · rintro H1 ⟨h1, s1⟩
      rw [List.length_map, gl, List.take_length] at h1
      refine ⟨D, _, rfl, SqL.of h1, _, rfl, ?_⟩
      have e2 : ((g.map fun p => decide ((Mt.row rows p).length = g.length)).all id) = fullG rows g := by unfold fullG; rw [List.all_map]; rfl
      rw [e2]
      refine ite2 (fun hc => ?_) (fun hc => ?_)
      · have := k H1 s1
        unfold kindS at this
        rw [if_pos hc] at this
        exact this
      · unfold kindS at k
        rw [if_neg hc] at k
        refine ⟨_, rfl, _, rfl, a, b, rows, g, rfl, hR.same s1, Sq.same (b := true) hb s1, hg, hr40, hl, fun H2 s2 => ⟨_, rfl, ?_⟩⟩
        refine ite2 (fun hc2 => ?_) (fun hc2 => ?_)
        · rw [if_pos hc2] at k
          exact k H2 (s1.trans s2)
        · rw [if_neg hc2] at k
          exact k H2 (s1.trans s2)
def spPkE (K : PySem.W.Frag) (C : Addr) : Sp := fun vs H Q _ => ∃ (x : V) (rows : List (List Int)), vs = [x] ∧ TableAt K C H x rows ∧ Good rows ∧ rows.length ≤ 40 ∧ (∃ D, Mt.Ds rows D) ∧
  ∀ (F : List (List Nat)) l H', Mt.Groups (Mt.liveR rows) F → (F.map natI).Pairwise (· ≤ ·) → Same H H' → H l = none → H' l = some (.lst ((F.map (kindS (Mt.liveR rows))).map V.str)) → Q (.ref l) H'
theorem ok_pkE (A : At K mg "piece_kinds" s_piece_kinds ["table"]) (T : Tx mg) (G_live_of : Dfn P w K mg base "live_of" ["table"] 5 (spLiveOf K C)) (G_groups : Dfn P w K mg base "groups" ["rows"] 1 (spGroups K)) (G_kind_of : Dfn P w K mg base "_kind_of" ["live", "people"] 2 (spKindE K)) : Dfn P w K mg base "piece_kinds" ["table"] 6 (spPkE K C) := by
  refine A.ok sc_piece_kinds (fun vs H Q E h => ?_) (fun f cdv A outer s H vs Q E hr h => ?_)
  · obtain ⟨_, _, rfl, _⟩ := h
    rfl
  · obtain ⟨x, rows, rfl, tb, G, hn, yes, k⟩ := h
    refine ⟨_, (pss_cons (ps_set (i := 1) sc_piece_kinds.nd rfl (Or.inr rfl) (pe_d G_live_of (hr.mono (by decide)) (pa_cons (pv 0) pa_nil)))
      (pss_one (ps_ret (pe_lc (own := [("people", 2)]) (g := (gName 2)) (tt := tYes) (te := (tCall (spKindE K) [] E0 (tCons (tVar 1) (tCons (tVar 2) tNil)))) (by rfl) sc_piece_kinds.nd (pi_list (pe_d G_groups (hr.mono (by decide)) (pa_cons (pv 1) pa_nil))) (blkOk_by (own := [("people", 2)]) (N := n_piece_kinds) (sc := (defScope s_piece_kinds)) (by decide +kernel)) (fun _ _ _ _ _ => (pg_name (i := 2) sc_piece_kinds.nd rfl (Or.inl rfl))) (fun _ _ _ _ _ => pts_nil) (fun _ _ _ _ _ => (pe_d G_kind_of (hr.mono (by decide)) (pa_cons (pv 1) (pa_cons (pv 2) pa_nil)))))))), ?_⟩
    refine ⟨_, rfl, x, rows, rfl, tb, G, hn, yes, fun l H1 s1 fl hl => ?_⟩
    have lr40 : ∀ r ∈ Mt.liveR rows, r.length ≤ 40 := fun r hr => Nat.le_trans (G.live.row_len r hr) (by rw [Mt.liveR_len]; exact hn)
    refine ⟨_, rfl, .ref l, _, rfl, hl, by rw [Mt.liveR_len]; exact hn, lr40, fun F gl H2 hF up s2 fgl hgl => ?_⟩
    obtain ⟨ga, gvs, e, hga, hgb⟩ := id hgl
    cases e
    have gvl := hgb.len
    rw [List.length_map] at gvl
    have gnum := hF.num
    rw [Mt.liveR_len] at gnum
    have s12 := s1.trans s2
    refine ⟨gl, rfl, ⟨_, hga⟩, fun D hD => ?_⟩
    refine lc_list (xs := gvs) (fun i H' => H' D = some (.lst (((F.take i).map (kindS (Mt.liveR rows))).map V.str)) ∧ Same H2 H') ⟨upd_same, same_new hD⟩ (fun i H' _ hp => hp.2.seq hga) ?_ ?_
    · rintro i y H3 hy ⟨h3, s3⟩
      obtain ⟨pa, gi, ex, hgi, hpa⟩ := hgb.get hy
      subst ex
      have iF : i < F.length := by have := (List.getElem?_eq_some_iff.mp hy).1; omega
      obtain ⟨g, hg, eg⟩ : ∃ g, F[i]? = some g ∧ gi = natI g := by
        rw [List.getElem?_map, List.getElem?_eq_getElem iF] at hgi
        exact ⟨_, List.getElem?_eq_getElem iF, (Option.some.inj hgi).symm⟩
      subst eg
      have gm := List.mem_of_getElem? hg
      refine ⟨rfl, _, rfl, _, rfl, l, pa, _, g, rfl, (hl.same s2).same s3, Sq.same (b := true) hpa s3, fun p hp => hF.lt gm hp, lr40, ?_, fun H4 s4 => ?_⟩
      · have := hF.len gm
        rw [Mt.liveR_len] at this
        omega
      · refine ⟨_, s4 _ _ h3, small_lt (by rw [List.length_map, List.length_map, List.length_take]; omega), ?_, same_mut (s3.trans s4) hD⟩
        rw [upd_same, show F.take (i + 1) = F.take i ++ [g] from by rw [List.take_add_one, hg]; rfl, List.map_append, List.map_append]
        rfl
    · rintro H3 ⟨h3, s3⟩
      rw [gvl, List.take_length] at h3
      exact k F D H3 hF up (s12.trans s3) (s12.free hD) h3
end
end Fo

set_option maxRecDepth 100000
set_option maxHeartbeats 4000000
namespace Fo
open PySem PySem.Spec PyProof.Rows L2
abbrev s_other_person : Stmt := top 31
abbrev n_other_person : List Str := ["live", "person", "thing", "one", "row"]
theorem sc_other_person : FnScope n_other_person ["live", "person", "thing"] (defScope s_other_person) := ⟨rfl, rfl, rfl, by decide +kernel, rfl, by decide +kernel, by decide +kernel⟩
abbrev s_other_thing : Stmt := top 32
abbrev n_other_thing : List Str := ["live", "person", "thing", "one"]
theorem sc_other_thing : FnScope n_other_thing ["live", "person", "thing"] (defScope s_other_thing) := ⟨rfl, rfl, rfl, by decide +kernel, rfl, by decide +kernel, by decide +kernel⟩
abbrev s_round_from : Stmt := top 30
abbrev n_round_from : List Str := ["live", "start", "found", "person", "thing"]
theorem sc_round_from : FnScope n_round_from ["live", "start"] (defScope s_round_from) := ⟨rfl, rfl, rfl, by decide +kernel, rfl, by decide +kernel, by decide +kernel⟩
theorem cnt_flat {L : List (List Int)} (nd : ∀ p, (Mt.row L p).Nodup) (t : Int) : ∀ g : List Nat, (givenL L g).count t = (g.filter fun p => decide (t ∈ Mt.row L p)).length
  | [] => rfl
  | p :: g => by
    have ih := cnt_flat nd t g
    unfold givenL at ih ⊢
    rw [List.map_cons, List.flatten_cons, List.count_append, ih]
    by_cases h : t ∈ Mt.row L p
    · rw [List.filter_cons_of_pos (by rw [decide_eq_true h]), List.length_cons]
      have : (Mt.row L p).count t = 1 := Nat.le_antisymm (List.nodup_iff_count.mp (nd p) t) (List.count_pos_iff.mpr h)
      omega
    · rw [List.filter_cons_of_neg (by rw [decide_eq_false h]; decide), List.count_eq_zero_of_not_mem h, Nat.zero_add]
theorem two_of {α : Type} {l : List α} (h : l.length = 2) (nd : l.Nodup) : ∃ a b, a ≠ b ∧ l = [a, b] := by
  match l, h, nd with
  | [a, b], _, nd => exact ⟨a, b, fun e => (List.nodup_cons.mp nd).1 (by rw [e]; exact List.mem_cons_self), rfl⟩
theorem ring_is {L : List (List Int)} {F : List (List Nat)} {g : List Nat} (nd : ∀ p, (Mt.row L p).Nodup) (hF : Mt.Groups L F) (hg : g ∈ F) (h : ringB L g = true) : Mt.RingG L g := by
  unfold ringB at h
  rw [Bool.and_eq_true] at h
  have h1 := List.all_eq_true.mp h.1
  have h2 := List.all_eq_true.mp h.2
  refine ⟨fun p hp => two_of (of_decide_eq_true (h1 p hp)) (nd p), fun p hp t ht => ?_⟩
  have tg : t ∈ givenL L g := List.mem_flatten.mpr ⟨_, List.mem_map.mpr ⟨p, hp, rfl⟩, ht⟩
  have c2 := of_decide_eq_true (h2 t tg)
  rw [cnt_flat nd] at c2
  obtain ⟨a, b, ab, e⟩ := two_of c2 ((hF.nd hg).sublist List.filter_sublist)
  have m : ∀ q, (q ∈ g ∧ t ∈ Mt.row L q) ↔ q = a ∨ q = b := fun q => by
    have : q ∈ g.filter (fun p => decide (t ∈ Mt.row L p)) ↔ q ∈ [a, b] := by rw [e]
    rw [List.mem_filter, decide_eq_true_iff] at this
    rw [this]
    simp
  have tied : ∀ r, t ∈ Mt.row L r → r ∈ g := fun r hr => hF.tied hg hp (Mt.row_lt hr) ⟨t, ht, hr⟩
  rcases (m p).mp ⟨hp, ht⟩ with e1 | e1
  · have hb := (m b).mpr (.inr rfl)
    exact ⟨b, fun z => ab (by rw [← e1, z]), hb.1, hb.2, fun r hr => ((m r).mp ⟨tied r hr, hr⟩).imp (fun z => by rw [z, e1]) id⟩
  · have ha := (m a).mpr (.inl rfl)
    exact ⟨a, fun z => ab (by rw [← e1, z]), ha.1, ha.2, fun r hr => ((m r).mp ⟨tied r hr, hr⟩).symm.imp (fun z => by rw [z, e1]) id⟩
/-- what is found behind some steps -/
def rndI (L : List (List Int)) (s : Nat) (k : Nat) : List Int := ((List.range k).map fun i => [((Mt.wkR L s i).1 : Int), (Mt.wkR L s i).2]).flatten
theorem rndI_succ {L : List (List Int)} {s k : Nat} : rndI L s (k + 1) = rndI L s k ++ [((Mt.wkR L s k).1 : Int), (Mt.wkR L s k).2] := by
  unfold rndI
  rw [List.range_succ, List.map_append, List.flatten_append, List.map_singleton, List.flatten_singleton]
theorem rndI_len {L : List (List Int)} {s : Nat} : ∀ k, (rndI L s k).length = 2 * k
  | 0 => rfl
  | k + 1 => by
    rw [rndI_succ, List.length_append, rndI_len k]
    rfl
section
variable {P : Program} {w : World} {K : PySem.W.Frag} {mg : Str → Option Value} {base : Heap} {C : Addr}
def spOp (K : PySem.W.Frag) : Sp := fun vs H Q _ => ∃ (a : Addr) (L : List (List Int)) (p q : Nat) (t : Int), vs = [.ref a, nV p, .int t] ∧ RowsQ true K H (.ref a) L ∧ L.length ≤ 100 ∧ ((List.range L.length).filter fun q => decide (q ≠ p) && decide (t ∈ Mt.row L q))[0]? = some q ∧ ∀ H', Same H H' → Q (nV q) H'
theorem ok_op (A : At K mg "_other_person" s_other_person ["live", "person", "thing"]) (T : Tx mg) : Dfn P w K mg base "_other_person" ["live", "person", "thing"] 1 (spOp K) := by
  refine A.ok sc_other_person (fun vs H Q E h => ?_) (fun f cdv A outer s H vs Q E hr h => ?_)
  · obtain ⟨_, _, _, _, _, rfl, _⟩ := h
    rfl
  · obtain ⟨a, L, p, q, t, rfl, hR, hn, hq, k⟩ := h
    obtain ⟨la, lvs, e, hla, hlb⟩ := id hR
    cases e
    have hla : SqL K H a lvs := hla
    have lvl := hlb.len
    refine ⟨_, (pss_one (ps_ret (pe_ix ix_list (pe_lc (own := [("one", 3), ("row", 4)]) (g := (gTup K 2 (gCons (gName 3) (gCons (gName 4) gNil)))) (tt := (tAnd (tTest (tOp rNe (tVar 3) (tVar 1))) (tTest (tOp (rIn K false) (tVar 2) (tVar 4))))) (te := (tVar 3)) (by rfl) sc_other_person.nd (pi_enum (by rfl) T.enumerate (pa_cons (pv 0) pa_nil)) (blkOk_by (own := [("one", 3), ("row", 4)]) (N := n_other_person) (sc := (defScope s_other_person)) (by decide +kernel)) (fun _ _ _ _ _ => (pg_tup rfl (pgs_cons (pg_name (i := 3) sc_other_person.nd rfl (Or.inl rfl)) (pgs_cons (pg_name (i := 4) sc_other_person.nd rfl (Or.inl rfl)) pgs_nil)))) (fun _ _ _ _ _ => (pts_one (PW.pt (pw_and (pt_cmpR op_ne (pv 3) (pv 1) (nomark _)) (pw_and1 (pt_cmpR op_in_seq (pv 2) (pv 4) rfl)))))) (fun _ _ _ _ _ => (pv 3))) pe_int (fun _ _ => rfl)))), ?_⟩
    refine ⟨_, rfl, a, lvs, rfl, hla, fun D hD => ?_⟩
    refine lc_enumL (xs := lvs) (fun j H' => H' D = some (.lst (((List.range j).filter fun q => decide (q ≠ p) && decide (t ∈ Mt.row L q)).map nV)) ∧ Same H H') ⟨upd_same, same_new hD⟩ (fun j H' _ hp => hp.2.seq hla) ?_ ?_
    · rintro j y H3 T' hy ⟨h3, s3⟩ hT
      obtain ⟨b, r, rfl, hri, hqa⟩ := hlb.get hy
      have hqa : SqL K H b (r.map V.int) := hqa
      have jl : j < L.length := (List.getElem?_eq_some_iff.mp hri).1
      have sT : Same H3 (upd H3 T' (.tup [.int (j : Nat), .ref b])) := same_new hT
      refine ⟨T', _, rfl, SqT.of upd_same, rfl, _, _, rfl, _, _, rfl, rfl, ?_⟩
      refine ⟨rfl, _, rfl, _, rfl, rfl, ?_⟩
      rw [show (!decide (V.int ((j : Nat) : Int) = nV p)) = decide (j ≠ p) from by rw [intn_dec]; by_cases e : j = p <;> simp [e]]
      rw [List.range_succ, List.filter_append]
      have er : Mt.row L j = r := Mt.row_get hri
      have no : ¬ (decide (j ≠ p) && decide (t ∈ Mt.row L j)) = true → upd H3 T' (.tup [.int (j : Nat), .ref b]) D = some (.lst (((List.range j).filter (fun q => decide (q ≠ p) && decide (t ∈ Mt.row L q)) ++ [j].filter (fun q => decide (q ≠ p) && decide (t ∈ Mt.row L q))).map nV)) ∧ Same H (upd H3 T' (.tup [.int (j : Nat), .ref b])) := fun hb => by
        rw [List.filter_cons_of_neg (p := fun q => decide (q ≠ p) && decide (t ∈ Mt.row L q)) hb, List.filter_nil, List.append_nil]
        exact ⟨sT _ _ h3, s3.trans sT⟩
      by_cases jp : j ≠ p
      · rw [decide_eq_true jp]
        refine ⟨_, rfl, _, rfl, _, rfl, b, _, rfl, .inl ((s3.trans sT).seq hqa), rfl, all_flat_ints _, _, rfl, ?_⟩
        rw [show (if false = true then !inV (V.int t) (r.map V.int) else inV (V.int t) (r.map V.int)) = decide (t ∈ Mt.row L j) from by rw [if_neg (by decide), inV_ints, er]]
        by_cases tj : t ∈ Mt.row L j
        · have hb : (decide (j ≠ p) && decide (t ∈ Mt.row L j)) = true := by rw [decide_eq_true jp, decide_eq_true tj]; rfl
          rw [decide_eq_true tj]
          refine ⟨_, rfl, _, sT _ _ h3, by rw [List.length_map]; exact small_lt (Nat.le_trans (List.length_filter_le _ _) (by rw [List.length_range]; omega)), ?_, same_mut (s3.trans sT) hD⟩
          rw [upd_same, List.filter_cons_of_pos (p := fun q => decide (q ≠ p) && decide (t ∈ Mt.row L q)) hb, List.filter_nil, List.map_append]
          rfl
        · rw [decide_eq_false tj]
          exact no (by rw [decide_eq_false tj, Bool.and_false]; decide)
      · rw [decide_eq_false jp]
        exact ⟨_, rfl, no (by rw [decide_eq_false jp, Bool.false_and]; decide)⟩
    · rintro H3 ⟨h3, s3⟩
      rw [lvl] at h3
      refine ⟨D, _, _, nV q, rfl, rfl, SqL.of h3, atI_nat (j := 0) (by rw [List.getElem?_map, hq]; rfl), k H3 s3⟩
def spOt (K : PySem.W.Frag) : Sp := fun vs H Q _ => ∃ (a : Addr) (L : List (List Int)) (p : Nat) (t u : Int), vs = [.ref a, nV p, .int t] ∧ RowsQ true K H (.ref a) L ∧ p < L.length ∧ (Mt.row L p).length ≤ 100 ∧ ((Mt.row L p).filter fun u => decide (u ≠ t))[0]? = some u ∧ ∀ H', Same H H' → Q (.int u) H'
theorem ok_ot (A : At K mg "_other_thing" s_other_thing ["live", "person", "thing"]) (T : Tx mg) : Dfn P w K mg base "_other_thing" ["live", "person", "thing"] 1 (spOt K) := by
  refine A.ok sc_other_thing (fun vs H Q E h => ?_) (fun f cdv A outer s H vs Q E hr h => ?_)
  · obtain ⟨_, _, _, _, _, rfl, _⟩ := h
    rfl
  · obtain ⟨a, L, p, t, u0, rfl, hR, hp, hl, hq, k⟩ := h
    obtain ⟨la, lvs, e, hla, hlb⟩ := id hR
    cases e
    have hla : SqL K H a lvs := hla
    refine ⟨_, (pss_one (ps_ret (pe_ix ix_list (pe_lc (own := [("one", 3)]) (g := (gName 3)) (tt := (tTest (tOp rNe (tVar 3) (tVar 2)))) (te := (tVar 3)) (by rfl) sc_other_thing.nd (pi_list (pe_ix ix_list (pv 0) (pv 1) (fun _ _ => rfl))) (blkOk_by (own := [("one", 3)]) (N := n_other_thing) (sc := (defScope s_other_thing)) (by decide +kernel)) (fun _ _ _ _ _ => (pg_name (i := 3) sc_other_thing.nd rfl (Or.inl rfl))) (fun _ _ _ _ _ => (pts_one (pt_cmpR op_ne (pv 3) (pv 2) (nomark _)))) (fun _ _ _ _ _ => (pv 3))) pe_int (fun _ _ => rfl)))), ?_⟩
    obtain ⟨b, hb1, hb2⟩ := hlb.at_ (List.getElem?_eq_getElem hp)
    have er := row_in hp
    obtain ⟨r, err⟩ : ∃ r, r = Mt.row L p := ⟨_, rfl⟩
    rw [← er, ← err] at hb2
    rw [← err] at hl hq
    have hb2 : SqL K H b (r.map V.int) := hb2
    refine ⟨_, rfl, _, rfl, a, lvs, _, .ref b, rfl, rfl, hla, atI_nat hb1, b, rfl, ⟨_, hb2⟩, fun D hD => ?_⟩
    refine lc_list (xs := r.map V.int) (fun j H' => H' D = some (.lst (((r.take j).filter fun u => decide (u ≠ t)).map V.int)) ∧ Same H H') ⟨upd_same, same_new hD⟩ (fun j H' _ hp => hp.2.seq hb2) ?_ ?_
    · rintro j y H1 hy ⟨h1, s1⟩
      obtain ⟨u, hu, rfl⟩ : ∃ u, r[j]? = some u ∧ y = V.int u := by
        rw [List.getElem?_map] at hy
        cases e : r[j]? with
        | none => rw [e] at hy; cases hy
        | some u => rw [e] at hy; exact ⟨u, rfl, (Option.some.inj hy).symm⟩
      have fs : (r.take (j + 1)).filter (fun u => decide (u ≠ t)) = (r.take j).filter (fun u => decide (u ≠ t)) ++ if decide (u ≠ t) = true then [u] else [] := by
        rw [show r.take (j + 1) = r.take j ++ [u] from by rw [List.take_add_one, hu]; rfl, List.filter_append]
        congr 1
        by_cases hb : decide (u ≠ t) = true
        · rw [if_pos hb, List.filter_cons_of_pos (p := fun u => decide (u ≠ t)) hb]; rfl
        · rw [if_neg hb, List.filter_cons_of_neg (p := fun u => decide (u ≠ t)) hb]; rfl
      refine ⟨rfl, _, rfl, _, rfl, rfl, _, rfl, ?_⟩
      rw [show (!decide (V.int u = V.int t)) = decide (u ≠ t) from by rw [show decide (V.int u = V.int t) = decide (u = t) from decide_eq_decide.mpr ⟨fun h => by injection h, fun h => by rw [h]⟩]; by_cases e : u = t <;> simp [e]]
      rw [fs]
      refine ite2 (fun hc => ?_) (fun hc => ?_)
      · rw [if_pos hc]
        refine ⟨_, rfl, _, h1, small_lt (by rw [List.length_map]; exact Nat.le_trans (List.length_filter_le _ _) (by rw [List.length_take]; omega)), ?_, same_mut s1 hD⟩
        rw [upd_same, List.map_append]
        rfl
      · rw [if_neg hc, List.append_nil]
        exact ⟨h1, s1⟩
    · rintro H1 ⟨h1, s1⟩
      rw [List.length_map, List.take_length] at h1
      exact ⟨D, _, _, .int u0, rfl, rfl, SqL.of h1, atI_nat (j := 0) (by rw [List.getElem?_map, hq]; rfl), k H1 s1⟩
def spRnd (K : PySem.W.Frag) : Sp := fun vs H Q _ => ∃ (a : Addr) (L : List (List Int)) (g : List Nat) (s : Nat), vs = [.ref a, nV s] ∧ RowsQ true K H (.ref a) L ∧ L.length ≤ 40 ∧ Mt.RingG L g ∧ g.Nodup ∧ (∀ p ∈ g, p < L.length) ∧ (∀ p ∈ g, ∀ q ∈ g, Mt.Conn L p q) ∧ s ∈ g ∧ ∀ p H', Same H H' → SqT K H' p ((rndI L s g.length).map V.int) → Q (.ref p) H'
theorem ok_round_fromE (A : At K mg "_round_from" s_round_from ["live", "start"]) (T : Tx mg) (G_other_person : Dfn P w K mg base "_other_person" ["live", "person", "thing"] 1 (spOp K)) (G_other_thing : Dfn P w K mg base "_other_thing" ["live", "person", "thing"] 1 (spOt K)) : Dfn P w K mg base "_round_from" ["live", "start"] 2 (spRnd K) := by
  refine A.ok sc_round_from (fun vs H Q E h => ?_) (fun f cdv A outer s H vs Q E hr h => ?_)
  · obtain ⟨_, _, _, _, rfl, _⟩ := h
    rfl
  · obtain ⟨a, L, g, st, rfl, hR, hn, rg, nd, lt, conn, hs, k⟩ := h
    obtain ⟨la, lvs, e, hla, hlb⟩ := id hR
    cases e
    have hla : SqL K H a lvs := hla
    refine ⟨_, (pss_cons (ps_set (i := 2) sc_round_from.nd rfl (Or.inl rfl) (pe_lst pa_nil))
      (pss_cons (ps_set (i := 3) sc_round_from.nd rfl (Or.inl rfl) (pv 1))
      (pss_cons (ps_set (i := 4) sc_round_from.nd rfl (Or.inl rfl) (pe_ix ix_list (pe_ix ix_list (pv 0) (pv 1) (fun _ _ => rfl)) pe_int (fun _ _ => rfl)))
      (pss_cons (ps_while PassesOwn.never (PW.pt (pw_or (pt_cmpR op_eq (pe_callB c_len (by rfl) T.len (by decide +kernel) (pa_cons (pv 2) pa_nil)) pe_int (nomark _)) (pw_or1 (pt_cmpR op_ne (pv 3) (pv 1) (nomark _))))) (pss_cons (ps_expr (pe_bm PySem.F.plainAttrs_list PySem.F.slot_list_extend PySem.F.type_list_extend mt_extend (pv 2) (pa_cons (pe_lst (pa_cons (pv 3) (pa_cons (pv 4) pa_nil))) pa_nil)))
      (pss_cons (ps_set (i := 3) sc_round_from.nd rfl (Or.inl rfl) (pe_d G_other_person (hr.mono (by decide)) (pa_cons (pv 0) (pa_cons (pv 3) (pa_cons (pv 4) pa_nil)))))
      (pss_one (ps_set (i := 4) sc_round_from.nd rfl (Or.inl rfl) (pe_d G_other_thing (hr.mono (by decide)) (pa_cons (pv 0) (pa_cons (pv 3) (pa_cons (pv 4) pa_nil)))))))))
      (pss_one (ps_ret (pe_callTy c_tuple (by rfl) T.tuple (by decide +kernel) (pa_cons (pv 2) pa_nil)))))))), ?_⟩
    have gl : g.length ≤ L.length := by
      have := Mt.len_le nd (l2 := List.range L.length) fun p hp => List.mem_range.mpr (lt p hp)
      rwa [List.length_range] at this
    have g0 := List.length_pos_of_mem hs
    obtain ⟨r1, r2⟩ := rg.round nd conn hs
    refine ⟨by show 0 ≤ sizeLine; decide, fun fa hf => ?_⟩
    have s0 := same_new (o := .lst []) hf
    obtain ⟨b, hb1, hb2⟩ := hlb.at_ (List.getElem?_eq_getElem (lt st hs))
    obtain ⟨x, y, _, exy⟩ := rg.two st hs
    rw [← row_in (lt st hs), exy] at hb2
    have hb2 : SqL K H b [V.int x, V.int y] := hb2
    have w0 : (Mt.wkR L st 0).2 = x := by
      show ((Mt.row L st)[0]?).getD 0 = x
      rw [exy]
      rfl
    refine ⟨_, rfl, _, rfl, _, rfl, a, lvs, _, .ref b, rfl, rfl, s0.seq hla, atI_nat hb1, b, _, _, V.int x, rfl, rfl, s0.seq hb2, rfl, ?_⟩
    dsimp only [gName]
    refine while_m (fun m σ' H' => ∃ i, m = g.length - i ∧ i ≤ g.length ∧ σ' = [some (.ref a), some (nV st), some (.ref fa), some (nV (Mt.wkR L st i).1), some (.int (Mt.wkR L st i).2)] ∧ H' fa = some (.lst ((rndI L st i).map V.int)) ∧ Same H H') ⟨g.length, 0, by omega, by omega, by rw [w0]; rfl, upd_same, s0⟩ ?_ ?_
    · rintro m σ' H1 ⟨i, rfl, il, rfl, h1, s1⟩
      have ge : SqL K H1 fa ((rndI L st i).map V.int) := SqL.of h1
      refine ⟨_, rfl, fa, _, rfl, .inl ge, rfl, _, rfl, ?_⟩
      rw [show decide (V.int ((((rndI L st i).map V.int).length : Nat) : Int) = V.int 0) = decide (i = 0) from by
        rw [List.length_map, rndI_len]
        exact decide_eq_decide.mpr ⟨fun h => by injection h with h; omega, fun h => by rw [h]; rfl⟩]
      have hi := rg.in_ hs i
      by_cases i0 : i = 0
      · rw [decide_eq_true i0]
        refine ⟨_, rfl, .inl ⟨rfl, _, ge⟩, _, rfl, _, rfl, by show 2 ≤ sizeLine; decide, fun z kz => ?_⟩
        have sz := same_new (o := .lst [nV (Mt.wkR L st i).1, V.int (Mt.wkR L st i).2]) kz
        refine ⟨fa, z, _, _, rfl, rfl, sz _ _ h1, upd_same, Nat.le_of_lt (small_lt (by rw [List.length_map, rndI_len]; show 2 * i + 2 ≤ 100000; omega)), ?_⟩
        have s2 := same_mut (o := .lst ((rndI L st i).map V.int ++ [nV (Mt.wkR L st i).1, V.int (Mt.wkR L st i).2])) (s1.trans sz) hf
        obtain ⟨o1, o2, o3, o4, o5⟩ := rg.op hi.1 hi.2
        refine ⟨_, rfl, _, rfl, _, rfl, a, L, (Mt.wkR L st i).1, _, (Mt.wkR L st i).2, rfl, hR.same s2, by omega, o5, fun H2 s3 => ?_⟩
        obtain ⟨t1, t2, t3, t4⟩ := rg.ot o2 o3
        obtain ⟨x', y', _, e'⟩ := rg.two _ o2
        refine ⟨_, rfl, _, rfl, _, rfl, a, L, _, (Mt.wkR L st i).2, _, rfl, hR.same (s2.trans s3), lt _ o2, by rw [e']; show 2 ≤ 100; decide, t4, fun H3 s4 => ?_⟩
        refine ⟨g.length - (i + 1), by omega, i + 1, rfl, by omega, rfl, ?_, (s2.trans s3).trans s4⟩
        rw [(s3.trans s4) _ _ (upd_same (a := fa)), rndI_succ, List.map_append]
        rfl
      · rw [decide_eq_false i0]
        refine ⟨_, rfl, _, rfl, rfl, _, rfl, ?_⟩
        rw [show (!decide (nV (Mt.wkR L st i).1 = nV st)) = decide ((Mt.wkR L st i).1 ≠ st) from by rw [intn_dec]; by_cases e : (Mt.wkR L st i).1 = st <;> simp [e]]
        by_cases im : i < g.length
        · rw [decide_eq_true (r2 i (by omega) im)]
          refine ⟨_, rfl, .inl ⟨rfl, _, ge⟩, _, rfl, _, rfl, by show 2 ≤ sizeLine; decide, fun z kz => ?_⟩
          have sz := same_new (o := .lst [nV (Mt.wkR L st i).1, V.int (Mt.wkR L st i).2]) kz
          refine ⟨fa, z, _, _, rfl, rfl, sz _ _ h1, upd_same, Nat.le_of_lt (small_lt (by rw [List.length_map, rndI_len]; show 2 * i + 2 ≤ 100000; omega)), ?_⟩
          have s2 := same_mut (o := .lst ((rndI L st i).map V.int ++ [nV (Mt.wkR L st i).1, V.int (Mt.wkR L st i).2])) (s1.trans sz) hf
          obtain ⟨o1, o2, o3, o4, o5⟩ := rg.op hi.1 hi.2
          refine ⟨_, rfl, _, rfl, _, rfl, a, L, (Mt.wkR L st i).1, _, (Mt.wkR L st i).2, rfl, hR.same s2, by omega, o5, fun H2 s3 => ?_⟩
          obtain ⟨t1, t2, t3, t4⟩ := rg.ot o2 o3
          obtain ⟨x', y', _, e'⟩ := rg.two _ o2
          refine ⟨_, rfl, _, rfl, _, rfl, a, L, _, (Mt.wkR L st i).2, _, rfl, hR.same (s2.trans s3), lt _ o2, by rw [e']; show 2 ≤ 100; decide, t4, fun H3 s4 => ?_⟩
          refine ⟨g.length - (i + 1), by omega, i + 1, rfl, by omega, rfl, ?_, (s2.trans s3).trans s4⟩
          rw [(s3.trans s4) _ _ (upd_same (a := fa)), rndI_succ, List.map_append]
          rfl
        · have ie : i = g.length := by omega
          rw [ie, decide_eq_false (fun h => h r1)]
          rw [ie] at ge
          refine ⟨_, rfl, fa, _, rfl, .inl ⟨ge, fun q hq => ?_⟩⟩
          exact k q _ (s1.trans (same_new hq)) (SqT.of upd_same)
    · rintro σ' H1 Q1 Q2 hQ ⟨x1, e1, a1, xs1, e2, h1, e3, k1, e4, f⟩
      refine ⟨x1, e1, a1, xs1, e2, h1, e3, k1, e4, ?_⟩
      cases k1 with
      | true => exact hQ _ _ f
      | false =>
        obtain ⟨y1, z1, y2, z2, sc1, k2, z3, f⟩ := f
        exact ⟨y1, z1, y2, z2, sc1, k2, z3, hQ _ _ f⟩
end
end Fo

namespace Mt
theorem Named.groupsOf {rows : Rows} {N : List Int} (h : Named rows N (Tied rows)) {xs : List Int} (nd : xs.Nodup) (mem : ∀ x, x ∈ xs ↔ x ∈ N) : Groups rows (xs.map (clsN N)) where
  asc := fun g hg => by
    obtain ⟨x, _, rfl⟩ := List.mem_map.mp hg
    exact clsN_asc
  perm := by
    refine (List.perm_ext_iff_of_nodup ?_ List.nodup_range).mpr fun p => ?_
    · refine List.pairwise_flatten.mpr ⟨fun g hg => ?_, ?_⟩
      · obtain ⟨x, _, rfl⟩ := List.mem_map.mp hg
        exact clsN_asc.imp fun {a b} z => Nat.ne_of_lt z
      · rw [List.pairwise_map]
        refine nd.imp fun {x y} hxy p hp q hq e => hxy ?_
        rw [mem_clsN] at hp hq
        rw [e, hq] at hp
        exact (Option.some.inj hp).symm
    · rw [List.mem_flatten, List.mem_range]
      constructor
      · rintro ⟨g, hg, hp⟩
        obtain ⟨x, _, rfl⟩ := List.mem_map.mp hg
        have := (List.getElem?_eq_some_iff.mp (mem_clsN.mp hp)).1
        rw [← h.len]
        exact this
      · intro hp
        rw [← h.len] at hp
        exact ⟨_, List.mem_map.mpr ⟨N[p], (mem _).mpr (List.getElem_mem hp), rfl⟩, mem_clsN.mpr (List.getElem?_eq_getElem hp)⟩
  ne := fun g hg => by
    obtain ⟨x, hx, rfl⟩ := List.mem_map.mp hg
    obtain ⟨p, hp⟩ := List.getElem?_of_mem ((mem x).mp hx)
    exact List.ne_nil_of_mem (mem_clsN.mpr hp)
  apart := by
    rw [List.pairwise_map]
    refine nd.imp fun {x y} hxy p hp q hq ht => hxy ?_
    rw [mem_clsN] at hp hq
    rw [h.same p q ht, hq] at hp
    exact (Option.some.inj hp).symm
  conn := fun g hg p hp q hq => by
    obtain ⟨x, _, rfl⟩ := List.mem_map.mp hg
    exact h.conn p q x (mem_clsN.mp hp) (mem_clsN.mp hq)
theorem Groups.cls {rows : Rows} {G : List (List Nat)} (h : Groups rows G) {g : List Nat} (hg : g ∈ G) {p : Nat} (hp : p ∈ g) (q : Nat) : q ∈ g ↔ q < rows.length ∧ Conn rows p q := by
  constructor
  · exact fun hq => ⟨h.lt hg hq, h.conn g hg p hp q hq⟩
  · rintro ⟨hq, hc⟩
    induction hc with
    | refl => exact hp
    | step _ ht ih =>
      have ht' := ht
      obtain ⟨t, a, _⟩ := ht'
      exact h.tied hg (ih (row_lt a)) hq ht
theorem Groups.has {rows : Rows} {G F : List (List Nat)} (h : Groups rows G) (hF : Groups rows F) {g : List Nat} (hg : g ∈ G) : g ∈ F := by
  obtain ⟨p, hp⟩ := List.exists_mem_of_ne_nil g (h.ne g hg)
  obtain ⟨c, hc, hpc⟩ := List.mem_flatten.mp (hF.perm.mem_iff.mpr (List.mem_range.mpr (h.lt hg hp)))
  have : g = c := asc_eqN (h.asc g hg) (hF.asc c hc) fun q => (h.cls hg hp q).trans (hF.cls hc hpc q).symm
  rw [this]
  exact hc
theorem Groups.nodup {rows : Rows} {G : List (List Nat)} (h : Groups rows G) : G.Nodup := by
  have := h.perm.nodup_iff.mpr List.nodup_range
  have := (List.pairwise_flatten.mp this).2
  refine (List.Pairwise.and_mem.mp this).imp fun {a b} ⟨ha, _, hab⟩ e => ?_
  obtain ⟨p, hp⟩ := List.exists_mem_of_ne_nil a (h.ne a ha)
  exact hab p hp p (e ▸ hp) rfl
theorem natZ_inj : ∀ {a b : List Nat}, a.map (fun (p : Nat) => (p : Int)) = b.map (fun (p : Nat) => (p : Int)) → a = b
  | [], [], _ => rfl
  | [], _ :: _, h => by cases h
  | _ :: _, [], h => by cases h
  | x :: a, y :: b, h => by
    have h1 : (x : Int) = (y : Int) := (List.cons.inj h).1
    rw [natZ_inj (List.cons.inj h).2, show x = y by omega]
/-- put in order there is one list of groups -/
theorem Groups.one {rows : Rows} {G F : List (List Nat)} (h : Groups rows G) (hF : Groups rows F) (s1 : (G.map fun g => g.map fun (p : Nat) => (p : Int)).Pairwise (· ≤ ·)) (s2 : (F.map fun g => g.map fun (p : Nat) => (p : Int)).Pairwise (· ≤ ·)) : G = F := by
  have pm : G.Perm F := (List.perm_ext_iff_of_nodup h.nodup hF.nodup).mpr fun g => ⟨h.has hF, hF.has h⟩
  have e := (pm.map fun g => g.map fun (p : Nat) => (p : Int)).eq_of_pairwise (fun a b _ _ h1 h2 => List.le_antisymm h1 h2) s1 s2
  have : ∀ {A B : List (List Nat)}, (A.map fun g => g.map fun (p : Nat) => (p : Int)) = (B.map fun g => g.map fun (p : Nat) => (p : Int)) → A = B := fun {A} => by
    induction A with
    | nil => intro B h; cases B with
      | nil => rfl
      | cons b B => cases h
    | cons a A ih =>
      intro B h
      cases B with
      | nil => cases h
      | cons b B => rw [natZ_inj (List.cons.inj h).1, ih (List.cons.inj h).2]
  exact this e
end Mt

set_option maxRecDepth 100000
set_option maxHeartbeats 4000000
namespace Fo
open PySem PySem.Spec PyProof.Rows L2
abbrev s_round_of : Stmt := top 29
abbrev n_round_of : List Str := ["table", "number", "live", "found"]
theorem sc_round_of : FnScope n_round_of ["table", "number"] (defScope s_round_of) := ⟨rfl, rfl, rfl, by decide +kernel, rfl, by decide +kernel, by decide +kernel⟩
abbrev s_NoNumber___init : Stmt := inClass (top 4) 0
abbrev n_NoNumber___init : List Str := ["self"]
theorem sc_NoNumber___init : FnScope n_NoNumber___init ["self"] (defScope s_NoNumber___init) := ⟨rfl, rfl, rfl, by decide +kernel, rfl, by decide +kernel, by decide +kernel⟩
abbrev s_NoRing___init : Stmt := inClass (top 6) 0
abbrev n_NoRing___init : List Str := ["self"]
theorem sc_NoRing___init : FnScope n_NoRing___init ["self"] (defScope s_NoRing___init) := ⟨rfl, rfl, rfl, by decide +kernel, rfl, by decide +kernel, by decide +kernel⟩
theorem pass_NoNumber {P : Program} {w : World} {K : PySem.W.Frag} {mg : Str → Option Value} {base : Heap} {f : Addr} {fd : FuncData} (F : Fun K "__init__" "NoNumber.__init__" s_NoNumber___init f fd) : FnOk P w K mg base CX0 1 f fd ["self"] spPass := by
  refine F.ok sc_NoNumber___init (fun vs H Q E h => ?_) (fun cdv A outer s H vs Q E hr h => ?_)
  · obtain ⟨a, rfl, _⟩ := h
    rfl
  · obtain ⟨a, rfl, k⟩ := h
    exact ⟨_, pss_one ps_pass, k⟩
theorem pass_NoRing {P : Program} {w : World} {K : PySem.W.Frag} {mg : Str → Option Value} {base : Heap} {f : Addr} {fd : FuncData} (F : Fun K "__init__" "NoRing.__init__" s_NoRing___init f fd) : FnOk P w K mg base CX0 1 f fd ["self"] spPass := by
  refine F.ok sc_NoRing___init (fun vs H Q E h => ?_) (fun cdv A outer s H vs Q E hr h => ?_)
  · obtain ⟨a, rfl, _⟩ := h
    rfl
  · obtain ⟨a, rfl, k⟩ := h
    exact ⟨_, pss_one ps_pass, k⟩
theorem str_dec (u v : Str) : decide (V.str u = V.str v) = decide (u = v) := decide_eq_decide.mpr ⟨fun h => by injection h, fun h => by rw [h]⟩
theorem num_isR {b : Int} {x : V} (h : numV b x = true) : ∃ i : Nat, x = .int (i : Int) ∧ (i : Int) < b := by
  cases x with
  | int i =>
    have h' : (decide (0 ≤ i) && decide (i < b)) = true := h
    rw [Bool.and_eq_true] at h'
    have h0 := of_decide_eq_true h'.1
    exact ⟨i.toNat, congrArg V.int (by omega), by have := of_decide_eq_true h'.2; omega⟩
  | _ => cases h
theorem kind_ring {L : List (List Int)} {g : List Nat} (h : kindS L g = "ring") : ringB L g = true := by
  unfold kindS at h
  by_cases a : fullG L g = true
  · rw [if_pos a] at h
    exact absurd h (by decide)
  · rw [if_neg a] at h
    by_cases b : ringB L g = true
    · exact b
    · rw [if_neg b] at h
      exact absurd h (by decide)
theorem _root_.Mt.nd_liveG {rows : List (List Int)} (G : Good rows) (p : Nat) : (Mt.row (Mt.liveR rows) p).Nodup := by
  rw [Mt.row_liveR]
  refine List.Nodup.sublist List.filter_sublist ?_
  unfold Mt.row
  cases e : rows[p]? with
  | none => exact List.nodup_nil
  | some r => exact (G.asc r (List.mem_of_getElem? e)).imp fun {a b} h => by omega
section
variable {P : Program} {w : World} {K : PySem.W.Frag} {mg : Str → Option Value} {base : Heap} {C D_NoNumber D_NoRing : Addr}
def spRof (K : PySem.W.Frag) (C DN DR : Addr) : Sp := fun vs H Q E => ∃ (x y : V) (rows : List (List Int)) (F : List (List Nat)), vs = [x, y] ∧ TableAt K C H x rows ∧ Good rows ∧ rows.length ≤ 40 ∧ (∃ D, Mt.Ds rows D) ∧ Th K C H y ∧ Mt.Groups (Mt.liveR rows) F ∧ (F.map natI).Pairwise (· ≤ ·) ∧
  (∀ i g, y = nV i → F[i]? = some g → kindS (Mt.liveR rows) g = "ring" → ∀ p s H', g[0]? = some s → Same H H' → SqT K H' p ((rndI (Mt.liveR rows) s g.length).map V.int) → Q (.ref p) H') ∧
  (numV F.length y = false → ∀ H', Same H H' → E (.ref DN) none H') ∧ (∀ i g, y = nV i → F[i]? = some g → kindS (Mt.liveR rows) g ≠ "ring" → ∀ H', Same H H' → E (.ref DR) none H')
theorem ok_rof (A : At K mg "round_of" s_round_of ["table", "number"]) (T : Tx mg) (er_NoNumber : Er0 P w K mg base "NoNumber" D_NoNumber) (er_NoRing : Er0 P w K mg base "NoRing" D_NoRing) (G_is_number : Dfn P w K mg base "is_number" ["bound", "thing"] 2 (spNumber K C)) (G_live_of : Dfn P w K mg base "live_of" ["table"] 5 (spLiveOf K C)) (G_groups : Dfn P w K mg base "groups" ["rows"] 1 (spGroups K)) (G_kind_of : Dfn P w K mg base "_kind_of" ["live", "people"] 2 (spKindE K)) (G_round_from : Dfn P w K mg base "_round_from" ["live", "start"] 2 (spRnd K)) : DfnX P w K mg base "round_of" ["table", "number"] 6 (spRof K C D_NoNumber D_NoRing) := by
  refine A.okX sc_round_of (fun vs H Q E h => ?_) (fun f cdv A outer s H vs Q E hr h => ?_)
  · obtain ⟨_, _, _, _, rfl, _⟩ := h
    rfl
  · obtain ⟨x, y, rows, F, rfl, tb, G, hn, yes, hy, hF, up, k1, k2, k3⟩ := h
    refine ⟨_, (pss_cons (ps_set (i := 2) sc_round_of.nd rfl (Or.inl rfl) (pe_d G_live_of (hr.mono (by decide)) (pa_cons (pv 0) pa_nil)))
      (pss_cons (ps_set (i := 3) sc_round_of.nd rfl (Or.inl rfl) (pe_d G_groups (hr.mono (by decide)) (pa_cons (pv 2) pa_nil)))
      (pss_cons (ps_if (pt_not (pt_val (pe_d G_is_number (hr.mono (by decide)) (pa_cons (pe_callB c_len (by rfl) T.len (by decide +kernel) (pa_cons (pv 3) pa_nil)) (pa_cons (pv 1) pa_nil))))) (pss_one (ps_raise rfl (takes_of rfl rfl rfl rfl) (pmk_er0 er_NoNumber (hr.mono (by decide)) rfl))) pss_nil)
      (pss_cons (ps_if (pt_cmpR op_ne (pe_d G_kind_of (hr.mono (by decide)) (pa_cons (pv 2) (pa_cons (pe_ix ix_list (pv 3) (pv 1) (fun _ _ => rfl)) pa_nil))) pe_str (nomark _)) (pss_one (ps_raise rfl (takes_of rfl rfl rfl rfl) (pmk_er0 er_NoRing (hr.mono (by decide)) rfl))) pss_nil)
      (pss_one (ps_ret (pe_d G_round_from (hr.mono (by decide)) (pa_cons (pv 2) (pa_cons (pe_ix ix_list (pe_ix ix_list (pv 3) (pv 1) (fun _ _ => rfl)) pe_int (fun _ _ => rfl)) pa_nil))))))))), ?_⟩
    have lr40 : ∀ r ∈ Mt.liveR rows, r.length ≤ 40 := fun r hr => Nat.le_trans (G.live.row_len r hr) (by rw [Mt.liveR_len]; exact hn)
    refine ⟨_, rfl, x, rows, rfl, tb, G, hn, yes, fun l H1 s1 fl hl => ?_⟩
    refine ⟨_, rfl, .ref l, _, rfl, hl, by rw [Mt.liveR_len]; exact hn, lr40, fun F2 gl H2 hF2 up2 s2 fgl hgl => ?_⟩
    have eF : F2 = F := hF2.one hF up2 up
    subst eF
    obtain ⟨ga, gvs, e, hga, hgb⟩ := id hgl
    cases e
    have hga : SqL K H2 gl gvs := hga
    have gvl := hgb.len
    rw [List.length_map] at gvl
    have gnum := hF.num
    rw [Mt.liveR_len] at gnum
    have s12 := s1.trans s2
    refine ⟨_, rfl, gl, _, rfl, .inl hga, _, rfl, _, y, rfl, hy.same s12, _, rfl, ?_⟩
    rw [gvl]
    cases ny : numV ((F2.length : Nat) : Int) y with
    | false => exact k2 ny H2 s12
    | true =>
      obtain ⟨i, rfl, il⟩ := num_isR ny
      obtain ⟨g, hg⟩ : ∃ g, F2[i]? = some g := ⟨_, List.getElem?_eq_getElem (by omega)⟩
      have gm := List.mem_of_getElem? hg
      obtain ⟨pa, hp1, hp2⟩ := hgb.at_ (r := natI g) (by rw [List.getElem?_map, hg]; rfl)
      have hp2 : SqL K H2 pa ((natI g).map V.int) := hp2
      have gln := hF.len gm
      rw [Mt.liveR_len] at gln
      have glt : ∀ p ∈ g, p < (Mt.liveR rows).length := fun p hp => hF.lt gm hp
      refine ⟨_, rfl, _, rfl, _, rfl, gl, gvs, _, .ref pa, rfl, rfl, hga, atI_nat hp1, l, pa, _, g, rfl, hl.same s2, hp2, glt, lr40, by omega, fun H3 s3 => ?_⟩
      refine ⟨rfl, _, rfl, ?_⟩
      rw [str_dec]
      by_cases kr : kindS (Mt.liveR rows) g = "ring"
      · rw [decide_eq_true kr]
        obtain ⟨st, hst⟩ : ∃ st, g[0]? = some st := ⟨_, List.getElem?_eq_getElem (List.length_pos_iff.mpr (hF.ne g gm))⟩
        have ndr : ∀ p, (Mt.row (Mt.liveR rows) p).Nodup := fun p => Mt.nd_liveG G p
        have s13 := s12.trans s3
        refine ⟨_, rfl, _, rfl, _, rfl, gl, gvs, _, .ref pa, rfl, rfl, s3.seq hga, atI_nat hp1, pa, _, _, nV st, rfl, rfl, s3.seq hp2, atI_nat (j := 0) (by unfold natI; rw [List.map_map, List.getElem?_map, hst]; rfl), ?_⟩
        refine ⟨l, _, g, st, rfl, (hl.same s2).same s3, by rw [Mt.liveR_len]; exact hn, ring_is ndr hF gm (kind_ring kr), hF.nd gm, glt, hF.conn g gm, List.mem_of_getElem? hst, fun p H4 s4 hp => ?_⟩
        exact k1 i g rfl hg kr p st H4 hst (s13.trans s4) hp
      · rw [decide_eq_false kr]
        exact k3 i g rfl hg kr H3 (s12.trans s3)
end
end Fo

set_option maxRecDepth 100000
set_option maxHeartbeats 4000000
/-! errors with one field: raise X(e), where X's __init__ stores e in the field. -/
namespace Fo
open PySem PySem.Spec PyProof.Rows L2
def spFld1 (D : Addr) (x : Str) : Sp := fun vs H Q _ => ∃ (a : Addr) (u : V), vs = [.ref a, u] ∧ H a = some (exo a D none) ∧ ∀ (d : Addr) (H' : Hp), (∀ b o, b ≠ a → H b = some o → H' b = some o) → H d = none → d ≠ a → H' a = some (exo a D (some d)) → H' d = some (exd d [(x, u)]) → Q .non H'
structure Er1 (P : Program) (w : World) (K : PySem.W.Frag) (mg : Str → Option Value) (base : Heap) (x fld : Str) (D : Addr) : Prop where
  oex : OexC K D
  gC : mg x = some (.ref D)
  ini : ∃ fI fd, PySem.W.findIn K (.ref D) "__init__" = some (some (.ref fI)) ∧ PySem.W.typeIn K (.ref fI) = some (.type "function") ∧ FnOk P w K mg base CX0 1 fI fd ["self", fld] (spFld1 D fld) ∧ Binds K fd ["self", fld] []
def MonoA (ta : TA) : Prop := ∀ σ H (A B : List V → Hp → Prop), (∀ vs H1, A vs H1 → B vs H1) → ta σ H A → ta σ H B
theorem pmk_er1 {X : Cx} {x fld : Str} {D : Addr} {e : Expr} {ta : TA} {p pos : Pos} (T : Er1 X.prog X.w X.K X.mg X.base x fld D) (hr : Room 2 X.A) (hg : Gl X x) (ha : PA X [e] ta) (hmo : MonoA ta) (hdb : (x == ("__debug__" : Str)) = false := by decide) (he : starEach [e] X.env = (false, eval e X.env) :: starEach [] X.env := by rfl) (hpl : (backTo pos (starEach [] X.env)).any (·.1) = false := by rfl) :
    PMk X (.Call (.Name x p) [e] [] pos) (fun σ H Q => ta σ H fun vs H1 => ∃ u, vs = [u] ∧ ∀ d H', Same H1 H' → H1 d = none → H' d = some (.xd [(fld, u)]) → Q (.ref D) (some d) H') := by
  obtain ⟨fI, fd, iC, tI, F1, hb⟩ := T.ini
  intro pins s σ H Q I h
  refine pmk_oex T.oex iC tI F1 hr hb .nil pass0 hg T.gC ha hdb he hpl pins s σ H Q I ?_
  refine hmo σ H _ _ (fun vs H1 h2 => ?_) h
  obtain ⟨u, rfl, k2⟩ := h2
  refine ⟨by show 1 ≤ 1000; decide, fun a ha => ⟨a, _, rfl, upd_same, fun d H' hk hdn hne h1 h2 => ⟨rfl, d, _, h1, h2, ?_, ?_⟩⟩⟩
  · rw [upd_ne hne] at hdn
    exact hdn
  · have hdn' : H1 d = none := by rw [upd_ne hne] at hdn; exact hdn
    refine k2 d _ (fun b o e1 => ?_) hdn' upd_same
    have hba : b ≠ a := ne_of_none e1 ha
    have hbd : b ≠ d := ne_of_none e1 hdn'
    rw [upd_ne hbd, del_ne hba]
    exact hk b o hba (by rw [upd_ne hba]; exact e1)
end Fo

set_option maxRecDepth 100000
set_option maxHeartbeats 4000000
/-! f(e, ..) where f is an expression that gives one of some defs; what is known of errors that are caught. -/
namespace Fo
open PySem PySem.Spec PyProof.Rows L2
section
variable {X : Cx}
def tCallE (S : Addr → Sp → Prop) (E : XK) (tf : TE) (t : TA) : TE := fun σ H Q => tf σ H fun y H1 => ∃ f sp, y = V.ref f ∧ S f sp ∧ t σ H1 fun vs H2 => sp vs H2 Q E
theorem pe_callE {S : Addr → Sp → Prop} {CX : CXT} {k : Nat} {E : XK} {fe e : Expr} {es : List Expr} {tf : TE} {t : TA} {pos : Pos} (A : ∀ f sp, S f sp → ∃ fd ps, FnOk X.prog X.w X.K X.mg X.base CX k f fd ps sp ∧ PySem.W.keepIn X.K (.ref f) = true ∧ Binds X.K fd ps []) (hr : Room k X.A) (hf : PE X fe tf) (hx : Passes CX X E) (ha : PA X (e :: es) t)
    (ht : eval (.Call fe (e :: es) [] pos) X.env = (do callWith pos (← eval fe X.env) [] (backTo pos (starEach (e :: es) X.env)) (backToKw pos (keywordEach [] X.env))) := by rfl)
    (he : starEach (e :: es) X.env = (false, eval e X.env) :: starEach es X.env := by rfl) (hpl : (backTo pos (starEach es X.env)).any (·.1) = false := by rfl) : PE X (.Call fe (e :: es) [] pos) (tCallE S E tf t) := by
  refine ⟨fun pins s σ H Q I h => ?_⟩
  refine Call_ (thn (hf.run pins s σ H _ I h) fun u s1 ⟨y, H1, I1, ry, f, sp, ey, hS, q⟩ => ?_) ht
  subst ey
  obtain rfl : u = Value.ref f := ry
  obtain ⟨fd, ps, F, hk, hb⟩ := A f sp hS
  refine PySem.W.callWith_K (h₀ := X.base) I1.ok.mod.kin hk (thn (ha.run pos pins s1 σ H1 _ I1 q) fun us s2 ⟨vs, H2, I2, r, q2⟩ => ⟨I2.kIn, ?_⟩) he hpl
  exact run_fn F hr hb .nil hx I2 r (by rw [List.append_nil]; exact q2)
end
/-- what is known of the errors that a law asks of -/
structure ErK (K : PySem.W.Frag) (mg : Str → Option Value) (DE : Addr) (cs : List (Str × Addr)) : Prop where
  gDE : mg "DrawError" = some (.ref DE)
  gVE : mg "ValueError" = none
  g : ∀ c ∈ cs, mg c.1 = some (.ref c.2)
  xm : ∀ c ∈ cs, PySem.W.exmOne K (.ref c.2) (.ref DE) = some true
  xc : ∀ c ∈ cs, XcC K c.2
  kk : ∀ c ∈ cs, ∀ d ∈ cs, PySem.W.kitOne K (.ref c.2) (.ref d.2) = some (decide (c.1 = d.1))
  kv : ∀ c ∈ cs, PySem.W.kitOne K (.ref c.2) (.type "ValueError") = some true
theorem exm_own {K : PySem.W.Frag} {DE B : Addr} (h1 : PySem.W.subIn K (.ref DE) (.type "BaseException") = some true) (h2 : PySem.W.isClsIn K DE = true) (h3 : PySem.W.typeIn K (.ref DE) = some (.type "type")) (h4 : PySem.W.subIn K (.ref B) (.ref DE) = some true) : PySem.W.exmOne K (.ref B) (.ref DE) = some true := by
  have e1 : (PySem.W.subIn K (.ref DE) (.type "BaseException") == some true) = true := by rw [h1] <;> rfl
  have e2 : ((PySem.W.clsIn K DE).isSome && PySem.W.typeIn K (.ref DE) == some (.type "type")) = true := by
    have h2' : (PySem.W.clsIn K DE).isSome = true := h2
    rw [h2', h3] <;> rfl
  show (if (PySem.W.subIn K (.ref DE) (.type "BaseException") == some true) = true then (if ((PySem.W.clsIn K DE).isSome && PySem.W.typeIn K (.ref DE) == some (.type "type")) = true then PySem.W.subIn K (.ref B) (.ref DE) else none) else none) = some true
  rw [if_pos e1, if_pos e2]
  exact h4
theorem kit_self {K : PySem.W.Frag} {D : Addr} : PySem.W.kitOne K (.ref D) (.ref D) = some true := by
  show (if (Value.ref D == Value.ref D) = true then some true else _) = some true
  rw [if_pos (beq_self_eq_true _)]
theorem all_nil {α : Type} {p : α → Prop} : ∀ c ∈ ([] : List α), p c := fun c h => by cases h
theorem all_cons {α : Type} {p : α → Prop} {a : α} {l : List α} (h : p a) (t : ∀ c ∈ l, p c) : ∀ c ∈ a :: l, p c := fun c hc => by
  rcases List.mem_cons.mp hc with rfl | hc
  · exact h
  · exact t c hc
end Fo

set_option maxRecDepth 100000
set_option maxHeartbeats 4000000
/-! isinstance of a caught error, with or without a dict of its own. -/
namespace Fo
open PySem PySem.Spec PyProof.Rows L2
def Dxd (H : Hp) (d : Option Addr) : Prop := d = none ∨ ∃ dd fs, d = some dd ∧ H dd = some (.xd fs)
theorem Dxd.same {H H' : Hp} {d : Option Addr} (s : Same H H') (h : Dxd H d) : Dxd H' d := by
  rcases h with h | ⟨dd, fs, h1, h2⟩
  · exact .inl h
  · exact .inr ⟨dd, fs, h1, s _ _ h2⟩
def rIsXU (K : PySem.W.Frag) (cls : Value) (d : Option Addr) (a : Addr) : List V → Hp → VK → Prop := fun xs H Q => ∃ (D : Addr) (y : V) (u : Value) (b : Bool), cls = .ref D ∧ xs = [.ref a, y] ∧ (∀ z, RelV y z → z = u) ∧ Dxd H d ∧ XcC K D ∧ PySem.W.kitOne K (.ref D) u = some b ∧ Q (.bl b) H
theorem call_isXU {X : Cx} {a : Addr} {oe : Obj} {pn : List (Addr × Obj)} {cls : Value} {d : Option Addr} (hz : Zc cls d oe) (hf : ∃ vs, oe.data = .fields vs) : CallR (X.suite a ((a, oe) :: pn)) (.builtin "isinstance") (rIsXU X.K cls d a) := by
  intro pins s σ H xs us Q I r h
  obtain ⟨D, y, u, b, rfl, rfl, hy, dx, C, e, q⟩ := h
  cases r with
  | cons r0 r1 =>
    cases r1 with
    | cons r2 r3 =>
      cases r3
      cases r0
      have := hy _ r2
      subst this
      obtain ⟨hget, _⟩ := I.pin (a, oe) (List.mem_append.mpr (.inl List.mem_cons_self))
      obtain ⟨vs, hv⟩ := hf
      rcases dx with rfl | ⟨dd, fs, rfl, ed⟩
      · have J : PySem.W.InstAt s.heap a oe D none := ⟨hget, hz.1, by unfold PySem.W.notCls; rw [hv] <;> rfl, by rw [hz.2]; trivial⟩
        exact PySem.W.kia_one (PySem.W.kitx_exc C.hc C.hg C.hk C.hs C.ha C.hn C.ht C.hm) I.kIn J e (fun z => nomatch z) fun tk => ⟨.bl b, H, I.kept (t' := tk) fun _ _ z => z, rfl, q⟩
      · have hx : ObjOk X.prog X.w H s.heap dd (.xd fs) := I.hok dd _ ed
        obtain ⟨mA, hns, hr⟩ := hx
        obtain ⟨od, ho, hl⟩ := lookIn_ns hns
        have J : PySem.W.InstAt s.heap a oe D (some od) := ⟨hget, hz.1, by unfold PySem.W.notCls; rw [hv] <;> rfl, by rw [hz.2]; exact ho⟩
        exact PySem.W.kia_one (PySem.W.kitx_exc C.hc C.hg C.hk C.hs C.ha C.hn C.ht C.hm) I.kIn J e (fun z => nomatch z) fun tk => ⟨.bl b, H, I.kept (t' := tk) fun _ _ z => z, rfl, q⟩
end Fo

set_option maxRecDepth 100000
set_option maxHeartbeats 4000000
/-! which except clause takes an error of a class -/
namespace Fo
open PySem PySem.Spec PyProof.Rows L2
theorem exm_gen {K : PySem.W.Frag} {D B : Addr} {b : Bool} (h1 : PySem.W.subIn K (.ref D) (.type "BaseException") = some true) (h2 : PySem.W.isClsIn K D = true) (h3 : PySem.W.typeIn K (.ref D) = some (.type "type")) (h4 : PySem.W.subIn K (.ref B) (.ref D) = some b) : PySem.W.exmOne K (.ref B) (.ref D) = some b := by
  have e1 : (PySem.W.subIn K (.ref D) (.type "BaseException") == some true) = true := by rw [h1] <;> rfl
  have e2 : ((PySem.W.clsIn K D).isSome && PySem.W.typeIn K (.ref D) == some (.type "type")) = true := by
    have h2' : (PySem.W.clsIn K D).isSome = true := h2
    rw [h2', h3] <;> rfl
  show (if (PySem.W.subIn K (.ref D) (.type "BaseException") == some true) = true then (if ((PySem.W.clsIn K D).isSome && PySem.W.typeIn K (.ref D) == some (.type "type")) = true then PySem.W.subIn K (.ref B) (.ref D) else none) else none) = some b
  rw [if_pos e1, if_pos e2, h4]
structure ErX (K : PySem.W.Frag) (cs : List (Str × Addr)) : Prop where
  xx : ∀ c ∈ cs, ∀ d ∈ cs, PySem.W.exmOne K (.ref c.2) (.ref d.2) = some (decide (c.1 = d.1))
end Fo

set_option maxRecDepth 100000
set_option maxHeartbeats 4000000
namespace Fo
open PySem PySem.Spec PyProof.Rows L2
abbrev s_law_told : Stmt := top 49
abbrev n_law_told : List Str := ["table", "number", "found", "e"]
theorem sc_law_told : FnScope n_law_told ["table", "number"] (defScope s_law_told) := ⟨rfl, rfl, rfl, by decide +kernel, rfl, by decide +kernel, by decide +kernel⟩
section
variable {P : Program} {w : World} {K : PySem.W.Frag} {mg : Str → Option Value} {base : Heap} {C DE D_NoNumber D_NoNumbers D_NoRing : Addr}
def spTold20 (K : PySem.W.Frag) (C : Addr) : Sp := fun vs H Q _ => ∃ (x y : V) (rows : List (List Int)) (F : List (List Nat)), vs = [x, y] ∧ TableAt K C H x rows ∧ Good rows ∧ rows.length ≤ 40 ∧ (∃ D, Mt.Ds rows D) ∧ Th K C H y ∧ Mt.Groups (Mt.liveR rows) F ∧ (F.map natI).Pairwise (· ≤ ·) ∧
  (∀ i g, y = nV i → F[i]? = some g → kindS (Mt.liveR rows) g = "ring" → ∀ p s H', g[0]? = some s → Same H H' → SqT K H' p ((rndI (Mt.liveR rows) s g.length).map V.int) → Q (.ref p) H') ∧
  (numV F.length y = false → ∀ H', Same H H' → Q (.str "number") H') ∧ (∀ i g, y = nV i → F[i]? = some g → kindS (Mt.liveR rows) g ≠ "ring" → ∀ H', Same H H' → Q (.str "ring") H')
theorem ok_told20 (A : At K mg "_law_told" s_law_told ["table", "number"]) (T : Tx mg) (EK : ErK K mg DE [("NoNumber", D_NoNumber), ("NoNumbers", D_NoNumbers), ("NoRing", D_NoRing)]) (G_round_of : DfnX P w K mg base "round_of" ["table", "number"] 6 (spRof K C D_NoNumber D_NoRing)) : Dfn P w K mg base "_law_told" ["table", "number"] 7 (spTold20 K C) := by
  have n0 : (("NoNumber", D_NoNumber) : Str × Addr) ∈ [(("NoNumber", D_NoNumber) : Str × Addr), ("NoNumbers", D_NoNumbers), ("NoRing", D_NoRing)] := List.mem_cons_self
  have n1 : (("NoNumbers", D_NoNumbers) : Str × Addr) ∈ [(("NoNumber", D_NoNumber) : Str × Addr), ("NoNumbers", D_NoNumbers), ("NoRing", D_NoRing)] := List.mem_cons_of_mem _ List.mem_cons_self
  have n2 : (("NoRing", D_NoRing) : Str × Addr) ∈ [(("NoNumber", D_NoNumber) : Str × Addr), ("NoNumbers", D_NoNumbers), ("NoRing", D_NoRing)] := List.mem_cons_of_mem _ (List.mem_cons_of_mem _ List.mem_cons_self)
  refine A.ok sc_law_told (fun vs H Q E h => ?_) (fun f cdv A outer s H vs Q E hr h => ?_)
  · obtain ⟨_, _, _, _, rfl, _⟩ := h
    rfl
  · obtain ⟨x, y, rows, F, rfl, tb, G, hn, yes, hy, hF, up, k1, k2, k3⟩ := h
    refine ⟨_, (pss_cons (ps_set (i := 2) sc_law_told.nd rfl (Or.inl rfl) pe_non)
      (pss_cons (ps_try_as (i := 3) rfl rfl sc_law_told.nd rfl rfl ⟨rfl, by decide, .inl EK.gDE⟩ L2.takes0
        (fun W pn xe tk po => pss_one (ps_set (i := 2) sc_law_told.nd rfl (Or.inl rfl) (pe_dX (E := fun cls d H => ∀ σ : L2.St, σ.length = 4 → W cls d σ H) G_round_of (hr.mono (by decide)) (fun pins σ H s e s' I h => passAt tk σ pins H s e s' I (cxMono h fun cls d H q => q σ I.len)) (pa_cons (pv 0) (pa_cons (pv 1) pa_nil)))))
        (fun a oe cls d pn hz hf => pss_cons (ps_set (i := 2) sc_law_told.nd rfl (Or.inl rfl) pe_str)
          (pss_cons (ps_if (PW.pt (pw_and (pt_val (pe_callB (call_isX0 hz hf) (by rfl) T.isinstance (by decide +kernel) (pa_cons (pv 3) (pa_cons (pe_glob (v := V.ref D_NoNumber) (by rfl) (EK.g ("NoNumber", D_NoNumber) n0) rfl) pa_nil)))) (pw_and1 (pt_not (pt_val (pe_callB (call_isX0 hz hf) (by rfl) T.isinstance (by decide +kernel) (pa_cons (pv 3) (pa_cons (pe_glob (v := V.ref D_NoNumbers) (by rfl) (EK.g ("NoNumbers", D_NoNumbers) n1) rfl) pa_nil)))))))) (pss_one (ps_set (i := 2) sc_law_told.nd rfl (Or.inl rfl) pe_str)) pss_nil)
          (pss_one (ps_if (pt_val (pe_callB (call_isX0 hz hf) (by rfl) T.isinstance (by decide +kernel) (pa_cons (pv 3) (pa_cons (pe_glob (v := V.ref D_NoRing) (by rfl) (EK.g ("NoRing", D_NoRing) n2) rfl) pa_nil)))) (pss_one (ps_set (i := 2) sc_law_told.nd rfl (Or.inl rfl) pe_str)) pss_nil)))))
      (pss_one (ps_ret (pv 2))))), ?_⟩
    refine ⟨_, rfl, _, rfl, x, y, rows, F, rfl, tb, G, hn, yes, hy, hF, up, fun i g e1 e2 e3 p st H1 hst s1 hp => ?_, fun e1 H1 s1 σ hσ => ?_, fun i g e1 e2 e3 H1 s1 σ hσ => ?_⟩
    · exact ⟨_, rfl, k1 i g e1 e2 e3 p st H1 hst s1 hp⟩
    · refine ⟨true, EK.xm _ n0, fun _ a ha => ?_, fun q => Bool.noConfusion q⟩
      match σ, hσ with
      | [y0, y1, y2, y3], _ =>
        refine ⟨_, rfl, _, _, _, _, rfl, rfl, fun z h => h, rfl, EK.xc _ n0, (EK.kk _ n0 _ n0).trans (congrArg some (decide_eq_true rfl)), _, rfl, ?_⟩
        refine ⟨_, rfl, _, _, _, _, rfl, rfl, fun z h => h, rfl, EK.xc _ n0, (EK.kk _ n0 _ n1).trans (congrArg some (decide_eq_false (show ¬ (("NoNumber" : Str) = "NoNumbers") by decide +kernel))), _, rfl, ?_⟩
        refine ⟨_, rfl, _, _, _, _, rfl, rfl, fun z h => h, rfl, EK.xc _ n0, (EK.kk _ n0 _ n2).trans (congrArg some (decide_eq_false (show ¬ (("NoNumber" : Str) = "NoRing") by decide +kernel))), _, rfl, ?_⟩
        exact ⟨_, rfl, k2 e1 H1 s1⟩
    · refine ⟨true, EK.xm _ n2, fun _ a ha => ?_, fun q => Bool.noConfusion q⟩
      match σ, hσ with
      | [y0, y1, y2, y3], _ =>
        refine ⟨_, rfl, _, _, _, _, rfl, rfl, fun z h => h, rfl, EK.xc _ n2, (EK.kk _ n2 _ n0).trans (congrArg some (decide_eq_false (show ¬ (("NoRing" : Str) = "NoNumber") by decide +kernel))), _, rfl, ?_⟩
        refine ⟨_, rfl, _, _, _, _, rfl, rfl, fun z h => h, rfl, EK.xc _ n2, (EK.kk _ n2 _ n2).trans (congrArg some (decide_eq_true rfl)), _, rfl, ?_⟩
        exact ⟨_, rfl, k3 i g e1 e2 e3 H1 s1⟩
end
end Fo

set_option maxRecDepth 100000
set_option maxHeartbeats 1000000
/-! how many dealings there can be -/
namespace Fo
open PySem PySem.Spec PyProof.Rows L2
theorem ext_len {r : List Int} {n : Nat} (h : r.length ≤ n) : ∀ found : List (List Int), (Mt.ext found r).length ≤ found.length * n
  | [] => Nat.zero_le _
  | d :: l => by
    have ih := ext_len h l
    unfold Mt.ext at ih ⊢
    rw [List.flatMap_cons, List.length_append, List.length_map, List.length_cons, Nat.succ_mul]
    have := List.length_filter_le (fun t => decide (t ∉ d)) r
    omega
theorem deals_len {n : Nat} : ∀ rows : List (List Int), (∀ r ∈ rows, r.length ≤ n) → (Mt.deals rows).length ≤ n ^ rows.length := by
  refine Mt.rev_ind (P := fun rows => (∀ r ∈ rows, r.length ≤ n) → (Mt.deals rows).length ≤ n ^ rows.length) ?_ ?_
  · intro _
    exact Nat.le_refl 1
  · intro l x ih h
    rw [Mt.deals_snoc, List.length_append]
    have h1 := ih fun r hr => h r (List.mem_append_left _ hr)
    have h2 := ext_len (h x (List.mem_append_right _ List.mem_cons_self)) (Mt.deals l)
    show _ ≤ n ^ (l.length + 1)
    rw [Nat.pow_succ]
    exact Nat.le_trans h2 (Nat.mul_le_mul_right n h1)
def prodL : List Nat → Nat
  | [] => 1
  | a :: l => a * prodL l
theorem prodL_snoc {a : Nat} : ∀ {l : List Nat}, prodL (l ++ [a]) = prodL l * a
  | [] => by show a * 1 = 1 * a; omega
  | b :: l => by
    show b * prodL (l ++ [a]) = b * prodL l * a
    rw [prodL_snoc (l := l), Nat.mul_assoc]
theorem prodL_set {d : List Int} {x : Int} : ∀ {ds : List (List Int)} {i : Nat}, ds[i]? = some d → prodL ((ds.set i (d ++ [x])).map List.length) * d.length = prodL (ds.map List.length) * (d.length + 1)
  | [], i, h => by cases h
  | e :: ds, 0, h => by
    cases h
    show (d ++ [x]).length * prodL (ds.map List.length) * d.length = d.length * prodL (ds.map List.length) * (d.length + 1)
    rw [List.length_append, List.length_singleton, Nat.mul_right_comm, Nat.mul_comm (d.length + 1), Nat.mul_right_comm d.length]
  | e :: ds, i + 1, h => by
    have ih := prodL_set (x := x) (ds := ds) (i := i) h
    show e.length * prodL ((ds.set i (d ++ [x])).map List.length) * d.length = e.length * prodL (ds.map List.length) * (d.length + 1)
    rw [Nat.mul_assoc, ih, Nat.mul_assoc]
theorem deals_prod : ∀ rows : List (List Int), (Mt.deals rows).length ≤ prodL (rows.map List.length) := by
  refine Mt.rev_ind (P := fun rows => (Mt.deals rows).length ≤ prodL (rows.map List.length)) (Nat.le_refl 1) ?_
  intro l x ih
  rw [Mt.deals_snoc, List.map_append]
  show _ ≤ prodL (_ ++ [x.length])
  rw [prodL_snoc]
  exact Nat.le_trans (ext_len (Nat.le_refl _) _) (Nat.mul_le_mul_right _ ih)
theorem ext_len2 {r : List Int} {m : Nat} : ∀ found : List (List Int), (∀ d ∈ found, (r.filter fun t => decide (t ∉ d)).length ≤ m) → (Mt.ext found r).length ≤ found.length * m
  | [], _ => Nat.zero_le _
  | d :: l, h => by
    have ih := ext_len2 l fun e he => h e (List.mem_cons_of_mem _ he)
    have h1 := h d List.mem_cons_self
    unfold Mt.ext at ih ⊢
    rw [List.flatMap_cons, List.length_append, List.length_map, List.length_cons, Nat.succ_mul]
    omega
def descL (n : Nat) : Nat → Nat
  | 0 => 1
  | k + 1 => descL n k * (n - k)
theorem left_len {n : Nat} {r d : List Int} (hr : r.Pairwise (· < ·)) (rr : ∀ x ∈ r, 0 ≤ x ∧ x < (n : Int)) (hd : d.Nodup) (dr : ∀ x ∈ d, 0 ≤ x ∧ x < (n : Int)) : (r.filter fun t => decide (t ∉ d)).length ≤ n - d.length := by
  have nr : (r.filter fun t => decide (t ∉ d)).Nodup := List.Pairwise.filter _ (hr.imp fun {a b} h => by omega)
  have nd : (d ++ r.filter fun t => decide (t ∉ d)).Nodup := List.nodup_append.mpr ⟨hd, nr, fun a ha b hb e => by
    have := of_decide_eq_true (List.mem_filter.mp hb).2
    exact this (e ▸ ha)⟩
  have := Mt.len_le (l2 := rangeI n) nd fun x hx => by
    rcases List.mem_append.mp hx with hx | hx
    · exact mem_rangeI.mpr (dr x hx)
    · exact mem_rangeI.mpr (rr x (List.mem_filter.mp hx).1)
  rw [List.length_append, rangeI_len] at this
  omega
theorem deals_desc {n : Nat} : ∀ rows : List (List Int), (∀ r ∈ rows, r.Pairwise (· < ·) ∧ ∀ x ∈ r, 0 ≤ x ∧ x < (n : Int)) → (Mt.deals rows).length ≤ descL n rows.length := by
  refine Mt.rev_ind (P := fun rows => (∀ r ∈ rows, r.Pairwise (· < ·) ∧ ∀ x ∈ r, 0 ≤ x ∧ x < (n : Int)) → (Mt.deals rows).length ≤ descL n rows.length) ?_ ?_
  · intro _
    exact Nat.le_refl 1
  · intro l x ih h
    have i1 := ih fun r hr => h r (List.mem_append_left _ hr)
    obtain ⟨x1, x2⟩ := h x (List.mem_append_right _ List.mem_cons_self)
    rw [Mt.deals_snoc, List.length_append, List.length_singleton]
    show _ ≤ descL n l.length * (n - l.length)
    refine Nat.le_trans (ext_len2 (m := n - l.length) _ fun d hd => ?_) (Nat.mul_le_mul_right _ i1)
    have dd := (Mt.mem_deals d).mp hd
    rw [← dd.len]
    refine left_len x1 x2 dd.nd fun t ht => ?_
    obtain ⟨i, hi⟩ := List.getElem?_of_mem ht
    obtain ⟨r, hr, htr⟩ := row_mem (dd.tie i t hi)
    exact (h r (List.mem_append_left _ hr)).2 t htr
/-- at most ten people, and not too many dealings on the way -/
structure Fit (rows : List (List Int)) : Prop where
  n : rows.length ≤ 10
  few : ∀ i, (Mt.deals (rows.take i)).length ≤ 1048576
  all : (Mt.deals rows).length ≤ 4000
theorem Fit.few_all {rows : List (List Int)} (h : Fit rows) : (Mt.deals rows).length ≤ 1048576 := Nat.le_trans h.all (by decide)
theorem few_of {rows : List (List Int)} {n m : Nat} (h : rows.length ≤ m) (hr : ∀ r ∈ rows, r.length ≤ n) (n0 : 1 ≤ n) (b : n ^ m ≤ 1048576) (i : Nat) : (Mt.deals (rows.take i)).length ≤ 1048576 := by
  have h1 := deals_len (n := n) (rows.take i) fun r h => hr r (List.mem_of_mem_take h)
  have h2 : n ^ (rows.take i).length ≤ n ^ m := Nat.pow_le_pow_right n0 (by rw [List.length_take]; omega)
  omega
theorem desc6 : ∀ n : Nat, n ≤ 6 → descL n n ≤ 720
  | 0, _ => by decide
  | 1, _ => by decide
  | 2, _ => by decide
  | 3, _ => by decide
  | 4, _ => by decide
  | 5, _ => by decide
  | 6, _ => by decide
  | n + 7, h => by omega
theorem fit6 {rows : List (List Int)} (G : Good rows) (h : rows.length ≤ 6) : Fit rows where
  n := by omega
  few := few_of h (fun r hr => Nat.le_trans (G.row_len r hr) h) (by decide) (by decide)
  all := by
    have h1 := deals_desc (n := rows.length) rows fun r hr => ⟨G.asc r hr, G.rng r hr⟩
    have h2 := desc6 _ h
    omega
theorem fit4 {rows : List (List Int)} (h : rows.length ≤ 10) (hr : ∀ r ∈ rows, r.length ≤ 4) (hp : prodL (rows.map List.length) ≤ 4000) : Fit rows where
  n := h
  few := few_of h hr (by decide) (by decide)
  all := Nat.le_trans (deals_prod rows) hp
end Fo

set_option maxRecDepth 100000
set_option maxHeartbeats 4000000
namespace Fo
open PySem PySem.Spec PyProof.Rows L2
abbrev s_law_dealings : Stmt := top 41
abbrev n_law_dealings : List Str := ["rows", "found", "row", "longer", "told", "thing"]
theorem sc_law_dealings : FnScope n_law_dealings ["rows"] (defScope s_law_dealings) := ⟨rfl, rfl, rfl, by decide +kernel, rfl, by decide +kernel, by decide +kernel⟩
section
variable {P : Program} {w : World} {K : PySem.W.Frag} {mg : Str → Option Value} {base : Heap} {C : Addr}
def spDeals (K : PySem.W.Frag) : Sp := fun vs H Q _ => ∃ (rv : V) (rows : List (List Int)), vs = [rv] ∧ RowsAt K H rv rows ∧ Good rows ∧ Fit rows ∧
  ∀ l ws H', Same H H' → H l = none → H' l = some (.lst ws) → RowsT K H' ws (Mt.deals rows) → Q (.ref l) H'
theorem ok_deals (A : At K mg "_law_dealings" s_law_dealings ["rows"]) (T : Tx mg) : Dfn P w K mg base "_law_dealings" ["rows"] 1 (spDeals K) := by
  refine A.ok sc_law_dealings (fun vs H Q E h => ?_) (fun f cdv A outer s H vs Q E hr h => ?_)
  · obtain ⟨rv, rows, rfl, _⟩ := h
    rfl
  · obtain ⟨rv, rows, rfl, hR, G, hn, k⟩ := h
    obtain ⟨ra, rvs, rfl, hra, hrt⟩ := id hR
    have rvl := hrt.len
    refine ⟨_, (pss_cons (ps_set (i := 1) sc_law_dealings.nd rfl (Or.inl rfl) (pe_lst (pa_cons (pe_tup pa_nil) pa_nil)))
      (pss_cons (ps_for PassesOwn.never rfl (pi_tup (pv 0)) (pg_name (i := 2) sc_law_dealings.nd rfl (Or.inl rfl))
      (pss_cons (ps_set (i := 3) sc_law_dealings.nd rfl (Or.inl rfl) (pe_lst pa_nil))
      (pss_cons (ps_for PassesOwn.never rfl (pi_list (pv 1)) (pg_name (i := 4) sc_law_dealings.nd rfl (Or.inr rfl))
      (pss_one (ps_expr (pe_bm PySem.F.plainAttrs_list PySem.F.slot_list_extend PySem.F.type_list_extend mt_extend (pv 3) (pa_cons (pe_lc (own := [("thing", 5)]) (g := (gName 5)) (tt := (tTest (tOp (rIn K true) (tVar 5) (tVar 4)))) (te := (tOp (rCatA K) (tVar 4) (tTup (tCons (tVar 5) tNil)))) (by rfl) sc_law_dealings.nd (pi_tup (pv 2)) (blkOk_by (own := [("thing", 5)]) (N := n_law_dealings) (sc := (defScope s_law_dealings)) (by decide +kernel)) (fun _ _ _ _ _ => (pg_name (i := 5) sc_law_dealings.nd rfl (Or.inl rfl))) (fun _ _ _ _ _ => (pts_one (pt_cmpR op_notIn_seq (pv 5) (pv 4) rfl))) (fun _ _ _ _ _ => (pe_op op_catA (pv 4) (pe_tup (pa_cons (pv 5) pa_nil))))) pa_nil)))))
      (pss_one (ps_set (i := 1) sc_law_dealings.nd rfl (Or.inl rfl) (pv 3))))))
      (pss_one (ps_ret (pv 1))))), ?_⟩
    have rl : ∀ r ∈ rows, r.length ≤ 10 := fun r hr => Nat.le_trans (G.row_len r hr) hn.n
    have hn10 := hn.n
    have dl : ∀ i, (Mt.deals (rows.take i)).length ≤ 1048576 := hn.few
    refine ⟨by show 0 ≤ sizeLine; decide, fun t0 ht0 => ⟨by show 1 ≤ sizeLine; decide, fun f0 hf0 => ?_⟩⟩
    have s0 : Same H (upd H t0 (.tup [])) := same_new ht0
    have s1 := s0.trans (same_new (o := .lst [V.ref t0]) hf0)
    have r1 : RowsT K (upd (upd H t0 (.tup [])) f0 (.lst [V.ref t0])) [V.ref t0] [[]] := .cons (sqT_same (same_new hf0) (SqT.of upd_same)) .nil
    refine ⟨_, rfl, ra, rfl, ⟨_, sqT_same s1 hra⟩, ?_⟩
    refine for_tup (xs := rvs) (fun i σ' H' => ∃ x2 x3 x4 x5 f ws, σ' = [some (.ref ra), some (.ref f), x2, x3, x4, x5] ∧ H' f = some (.lst ws) ∧ RowsT K H' ws (Mt.deals (rows.take i)) ∧ Same H H' ∧ H f = none) ⟨_, _, _, _, f0, _, rfl, upd_same, r1, s1, s0.free hf0⟩ (fun i σ' H' _ hp => by obtain ⟨_, _, _, _, _, _, _, _, _, s3, _⟩ := hp; exact sqT_same s3 hra) ?_ ?_
    · rintro i x σ' H1 hx ⟨x2, x3, x4, x5, f, ws, rfl, hf, hw, s2, ff⟩
      obtain ⟨q, r, ex, hri, hq2⟩ : ∃ q r, x = .ref q ∧ rows[i]? = some r ∧ SqT K H q (r.map V.int) := by
        have hir : i < rows.length := by have := (List.getElem?_eq_some_iff.mp hx).1; omega
        have hri := List.getElem?_eq_getElem hir
        obtain ⟨q, h1, h2⟩ := hrt.get hri
        rw [hx] at h1
        exact ⟨q, _, Option.some.inj h1, hri, h2⟩
      subst ex
      have rl6 := rl r (List.mem_of_getElem? hri)
      have hir : i < rows.length := (List.getElem?_eq_some_iff.mp hri).1
      refine ⟨by show 0 ≤ sizeLine; decide, fun g hg => ?_⟩
      have nfg : f ≠ g := ne_of_none hf hg
      have s3 := s2.trans (same_new (o := .lst []) hg)
      have fg : H g = none := s2.free hg
      have wl : ws.length = (Mt.deals (rows.take i)).length := hw.len
      have wb := dl i
      refine ⟨_, rfl, f, rfl, ⟨ws, SqL.of (by rw [upd_ne nfg]; exact hf)⟩, ?_⟩
      refine for_list (xs := ws) (fun j σ' H' => ∃ x4 x5 vs, σ' = [some (.ref ra), some (.ref f), some (.ref q), some (.ref g), x4, x5] ∧ H' f = some (.lst ws) ∧ RowsT K H' ws (Mt.deals (rows.take i)) ∧ H' g = some (.lst vs) ∧ RowsT K H' vs (Mt.ext ((Mt.deals (rows.take i)).take j) r) ∧ Same H H') ⟨_, _, [], rfl, by rw [upd_ne nfg]; exact hf, hw.same (same_new hg), upd_same, .nil, s3⟩ (fun j σ' H' _ hp => by obtain ⟨_, _, _, _, h, _⟩ := hp; exact SqL.of h) ?_ ?_
      · rintro j y σ' H2 hy ⟨x4', x5', vs, rfl, hf2, hw2, hg2, hv2, s4⟩
        have jl : j < (Mt.deals (rows.take i)).length := by have := (List.getElem?_eq_some_iff.mp hy).1; omega
        have hdj := List.getElem?_eq_getElem jl
        obtain ⟨d, ed⟩ : ∃ d, d = (Mt.deals (rows.take i))[j] := ⟨_, rfl⟩
        rw [← ed] at hdj
        obtain ⟨b, hb1, hb2⟩ := hw2.get hdj
        rw [hy] at hb1
        have ey : y = .ref b := Option.some.inj hb1
        subst ey
        have dlen : d.length ≤ 10 := by
          have hd := (Mt.mem_deals d).mp (List.mem_of_getElem? hdj)
          have := hd.len
          rw [List.length_take] at this
          omega
        have vb : vs.length ≤ 1048576 * 10 := by
          rw [hv2.len]
          have h1 := ext_len (n := 10) (r := r) rl6 ((Mt.deals (rows.take i)).take j)
          rw [List.length_take] at h1
          have h2 : min j (Mt.deals (rows.take i)).length * 10 ≤ 1048576 * 10 := Nat.mul_le_mul_right 10 (by omega)
          omega
        refine ⟨_, rfl, .inl ⟨rfl, _, SqL.of hg2⟩, _, rfl, q, rfl, ⟨_, sqT_same s4 hq2⟩, fun D hD => ?_⟩
        have nDg : g ≠ D := ne_of_none hg2 hD
        have nDf : f ≠ D := ne_of_none hf2 hD
        refine lc_tup (xs := r.map V.int) (fun l H' => ∃ us, H' D = some (.lst us) ∧ RowsT K H' us (((r.take l).filter fun t => decide (t ∉ d)).map fun t => d ++ [t]) ∧ Same H2 H') ⟨[], upd_same, .nil, same_new hD⟩ (fun l H' _ hp => by obtain ⟨_, _, _, s5⟩ := hp; exact sqT_same (s4.trans s5) hq2) ?_ ?_
        · rintro l z H3 hz ⟨us, hu, hur, s5⟩
          obtain ⟨t, ht, rfl⟩ : ∃ t, r[l]? = some t ∧ z = V.int t := by
            rw [List.getElem?_map] at hz
            cases e : r[l]? with
            | none => rw [e] at hz; cases hz
            | some u => rw [e] at hz; exact ⟨u, rfl, (Option.some.inj hz).symm⟩
          have ub : us.length ≤ 10 := by
            rw [hur.len, List.length_map]
            exact Nat.le_trans (List.length_filter_le _ _) (by rw [List.length_take]; omega)
          refine ⟨rfl, _, rfl, _, rfl, b, _, rfl, .inr (sqT_same s5 hb2), rfl, all_flat_ints _, _, rfl, ?_⟩
          show if (!inV (V.int t) (d.map V.int)) = true then _ else _
          rw [inV_ints]
          by_cases hc : t ∈ d
          · rw [show (!decide (t ∈ d)) = false from by rw [decide_eq_true hc]; rfl]
            refine ⟨us, hu, ?_, s5⟩
            rw [take_snoc ht, List.filter_append, show [t].filter (fun t => decide (t ∉ d)) = [] from by rw [List.filter_cons_of_neg (by simpa using hc)]; rfl, List.append_nil]
            exact hur
          · rw [show (!decide (t ∈ d)) = true from by rw [decide_eq_false hc]; rfl]
            refine ⟨_, rfl, _, rfl, by show 1 ≤ sizeLine; decide, fun o ho => ?_⟩
            have s6 : Same H3 (upd H3 o (.tup [V.int t])) := same_new ho
            refine catA (ys := [V.int t]) (sqT_same (s5.trans s6) hb2) (SqT.of upd_same) (by rw [List.length_map]; show d.length + 1 ≤ 100000; omega) fun c H4 s7 hcq => ?_
            have s67 := s6.trans s7
            refine ⟨us, s67 _ _ hu, small_lt (by omega), us ++ [.ref c], upd_same, ?_, same_mut (s5.trans s67) hD⟩
            rw [take_snoc ht, List.filter_append, show [t].filter (fun t => decide (t ∉ d)) = [t] from by rw [List.filter_cons_of_pos (by simpa using hc)]; rfl, List.map_append]
            have hc2 : SqT K H4 c ((d ++ [t]).map V.int) := by rw [List.map_append]; exact hcq
            exact RowsT.put (s67 _ _ hu) (RowsT.snoc hc2 (hur.same s67))
        · rintro H3 ⟨us, hu, hur, s5⟩
          rw [List.length_map, List.take_length] at hur
          have hg3 := s5 _ _ hg2
          have hf3 := s5 _ _ hf2
          have ub : us.length ≤ 10 := by
            rw [hur.len, List.length_map]
            exact Nat.le_trans (List.length_filter_le _ _) rl6
          have s45 := s4.trans s5
          have bigS : 1048576 * 10 + 10 ≤ sizeLine := by decide
          refine ⟨g, D, vs, us, rfl, rfl, hg3, hu, by omega, ?_⟩
          refine ⟨_, _, vs ++ us, rfl, by rw [upd_ne nfg]; exact hf3, RowsT.put hg3 (hw2.same s5), upd_same, ?_, same_mut s45 fg⟩
          rw [take_snoc hdj]
          have e : Mt.ext ((Mt.deals (rows.take i)).take j ++ [d]) r = Mt.ext ((Mt.deals (rows.take i)).take j) r ++ (r.filter fun t => decide (t ∉ d)).map fun t => d ++ [t] := by
            unfold Mt.ext
            rw [List.flatMap_append, List.flatMap_singleton]
          rw [e]
          exact RowsT.put hg3 ((hv2.same s5).app hur)
      · rintro σ' H2 ⟨x4', x5', vs, rfl, hf2, hw2, hg2, hv2, s4⟩
        rw [List.take_of_length_le (by omega)] at hv2
        refine ⟨_, rfl, _, _, _, _, g, vs, rfl, hg2, ?_, s4, fg⟩
        rw [take_snoc hri, Mt.deals_snoc]
        exact hv2
    · rintro σ' H1 ⟨x2, x3, x4, x5, f, ws, rfl, hf, hw, s2, ff⟩
      rw [List.take_of_length_le (by omega)] at hw
      exact ⟨_, rfl, k f ws H1 s2 ff hf hw⟩
end
end Fo

set_option maxRecDepth 100000
set_option maxHeartbeats 4000000
namespace Fo
open PySem PySem.Spec PyProof.Rows L2
abbrev s_law_live : Stmt := top 42
abbrev n_law_live : List Str := ["rows", "found", "one", "person", "thing"]
theorem sc_law_live : FnScope n_law_live ["rows"] (defScope s_law_live) := ⟨rfl, rfl, rfl, by decide +kernel, rfl, by decide +kernel, by decide +kernel⟩
def prI (q : Nat × Int) : List Int := [(q.1 : Int), q.2]
def prK (q : Nat × Int) : List Key := [.inl (q.1 : Int), .inl q.2]
theorem prK_inj {a b : Nat × Int} (h : prK a = prK b) : a = b := by
  unfold prK at h
  injection h with h1 h2
  injection h2 with h2 _
  injection h1 with h1
  injection h2 with h2
  obtain ⟨a1, a2⟩ := a
  obtain ⟨b1, b2⟩ := b
  have e1 : a1 = b1 := by
    have : (a1 : Int) = (b1 : Int) := h1
    omega
  have e2 : a2 = b2 := h2
  rw [e1, e2]
def PD (kvs : List (List Key × V)) (ps : List (Nat × Int)) : Prop := kvs.map (fun kv => kv.1) = ps.map prK
theorem PD.len {kvs : List (List Key × V)} {ps : List (Nat × Int)} (h : PD kvs ps) : kvs.length = ps.length := by
  have := congrArg List.length h
  rwa [List.length_map, List.length_map] at this
theorem PD.put {kvs : List (List Key × V)} {ps : List (Nat × Int)} (h : PD kvs ps) (q : Nat × Int) (v : V) : ∃ ps', PD (putK kvs (prK q) v) ps' ∧ ps'.length ≤ ps.length + 1 ∧ (ps.Nodup → ps'.Nodup) ∧ ∀ z, z ∈ ps' ↔ z ∈ ps ∨ z = q := by
  unfold putK
  by_cases e0 : (kvs.any fun kv => decide (kv.1 = prK q)) = true
  · rw [if_pos e0]
    refine ⟨ps, ?_, by omega, id, fun z => ⟨.inl, fun y => y.elim id fun y => ?_⟩⟩
    · unfold PD
      rw [List.map_map, ← h]
      refine List.map_congr_left fun kv _ => ?_
      show (if kv.1 = prK q then (kv.1, v) else kv).1 = kv.1
      by_cases c : kv.1 = prK q
      · rw [if_pos c]
      · rw [if_neg c]
    · subst y
      obtain ⟨kv, hkv, he⟩ := List.any_eq_true.mp e0
      have hm : prK z ∈ ps.map prK := by
        rw [← h, ← of_decide_eq_true he]
        exact List.mem_map.mpr ⟨kv, hkv, rfl⟩
      obtain ⟨y, hy, ey⟩ := List.mem_map.mp hm
      exact prK_inj ey ▸ hy
  · rw [if_neg e0]
    refine ⟨ps ++ [q], ?_, by rw [List.length_append]; exact Nat.le_refl _, fun nd => ?_, fun z => by rw [List.mem_append, List.mem_singleton]⟩
    · unfold PD at h ⊢
      rw [List.map_append, List.map_append, h]
      rfl
    · refine List.nodup_append.mpr ⟨nd, List.nodup_cons.mpr ⟨fun z => (by cases z), List.nodup_nil⟩, fun x hx y hy e => e0 ?_⟩
      rw [List.mem_singleton.mp hy] at e
      subst e
      have hm : prK x ∈ kvs.map (fun kv => kv.1) := by rw [h]; exact List.mem_map.mpr ⟨x, hx, rfl⟩
      obtain ⟨kv, hkv, he⟩ := List.mem_map.mp hm
      exact List.any_eq_true.mpr ⟨kv, hkv, decide_eq_true he⟩
section
variable {P : Program} {w : World} {K : PySem.W.Frag} {mg : Str → Option Value} {base : Heap} {C : Addr}
theorem keys_rows {H : Hp} : ∀ {kvs : List (List Key × V)} {bs : List Addr} {ps : List (Nat × Int)}, IsKeys H kvs bs → PD kvs ps → RowsT K H (bs.map V.ref) (ps.map prI)
  | _, _, ps, .nil, h => by
    cases ps with
    | nil => exact .nil
    | cons q ps => cases h
  | kv :: _, b :: _, ps, .cons h t, hp => by
    cases ps with
    | nil => cases hp
    | cons q ps =>
      have e1 : kv.1 = prK q := (List.cons.inj hp).1
      have e2 := (List.cons.inj hp).2
      refine .cons (SqT.of ?_) (keys_rows t e2)
      rw [e1] at h
      exact h
theorem keys_pairs {H : Hp} : ∀ {kvs : List (List Key × V)} {bs : List Addr} {ps : List (Nat × Int)}, IsKeys H kvs bs → PD kvs ps → ∀ x ∈ bs.map V.ref, ∃ t i j, x = V.ref t ∧ H t = some (.tup [.int i, .int j])
  | _, _, _, .nil, _ => fun x hx => by cases hx
  | kv :: _, b :: _, ps, .cons h t, hp => by
    cases ps with
    | nil => cases hp
    | cons q ps =>
      have e1 : kv.1 = prK q := (List.cons.inj hp).1
      have e2 := (List.cons.inj hp).2
      rw [e1] at h
      intro x hx
      rcases List.mem_cons.mp hx with rfl | hx
      · exact ⟨b, _, _, rfl, h⟩
      · exact keys_pairs t e2 x hx
theorem RowsT.perm {H : Hp} {xs ys : List V} (p : xs.Perm ys) : ∀ {ps : List (Nat × Int)}, RowsT K H xs (ps.map prI) → ∃ ps' : List (Nat × Int), ps'.Perm ps ∧ RowsT K H ys (ps'.map prI) := by
  induction p with
  | nil => exact fun {ps} h => ⟨ps, .refl _, h⟩
  | cons x _ ih =>
    intro ps h
    cases ps with
    | nil => cases h
    | cons q ps =>
      cases h with
      | cons a b =>
        obtain ⟨ps', h1, h2⟩ := ih b
        exact ⟨q :: ps', h1.cons q, .cons a h2⟩
  | swap x y l =>
    intro ps h
    cases ps with
    | nil => cases h
    | cons q ps =>
      cases h with
      | cons a b =>
        cases ps with
        | nil => cases b
        | cons q2 ps =>
          cases b with
          | cons c d => exact ⟨q2 :: q :: ps, .swap .., .cons c (.cons a d)⟩
  | trans _ _ ih1 ih2 =>
    intro ps h
    obtain ⟨ps1, h1, h2⟩ := ih1 h
    obtain ⟨ps2, h3, h4⟩ := ih2 h2
    exact ⟨ps2, h3.trans h1, h4⟩
theorem sqT_gr {D : Addr} {H H' : Hp} {kvs : List (List Key × V)} (g : Gr D H H') (h : H D = some (.dT kvs)) {a : Addr} {xs : List V} (q : SqT K H a xs) : SqT K H' a xs := by
  rcases q with (q | ⟨o, q⟩) | q
  · exact .inl (.inl (g _ _ (ne_of q h (by intro z; cases z)) q))
  · exact .inl (.inr ⟨o, g _ _ (ne_of q h (by intro z; cases z)) q⟩)
  · exact .inr q
theorem rowsT_zip {H : Hp} : ∀ {vs : List V} {R : List (List Int)}, RowsT K H vs R → ∃ bs : List (Addr × List Int), vs = bs.map (fun b => V.ref b.1) ∧ R = bs.map (fun b => b.2) ∧ ∀ b ∈ bs, SqT K H b.1 (b.2.map V.int)
  | _, _, .nil => ⟨[], rfl, rfl, fun b h => by cases h⟩
  | _, _, .cons (a := a) (r := r) h t => by
    obtain ⟨bs, e1, e2, e3⟩ := rowsT_zip t
    refine ⟨(a, r) :: bs, by rw [e1]; rfl, by rw [e2]; rfl, fun b hb => ?_⟩
    rcases List.mem_cons.mp hb with rfl | hb
    · exact h
    · exact e3 b hb
theorem rowsT_of {H : Hp} : ∀ {bs : List (Addr × List Int)}, (∀ b ∈ bs, SqT K H b.1 (b.2.map V.int)) → RowsT K H (bs.map fun b => V.ref b.1) (bs.map fun b => b.2)
  | [], _ => .nil
  | b :: bs, h => .cons (h b List.mem_cons_self) (rowsT_of fun c hc => h c (List.mem_cons_of_mem _ hc))
theorem perm_map_ex {α β : Type} {f : α → β} {xs ys : List β} (p : xs.Perm ys) : ∀ {l : List α}, ys = l.map f → ∃ l' : List α, l'.Perm l ∧ l'.map f = xs := by
  induction p with
  | nil => exact fun {l} h => ⟨l, .refl _, h.symm⟩
  | cons x _ ih =>
    intro l h
    cases l with
    | nil => cases h
    | cons q l =>
      obtain ⟨h1, h2⟩ := List.cons.inj h
      obtain ⟨l', p1, p2⟩ := ih h2
      exact ⟨q :: l', p1.cons q, by rw [List.map_cons, p2, h1]⟩
  | swap x y r =>
    intro l h
    match l, h with
    | [], h => cases h
    | [_], h => exact absurd (List.cons.inj h).2 (by intro z; cases z)
    | a :: b :: l, h =>
      obtain ⟨h1, h2⟩ := List.cons.inj h
      obtain ⟨h3, h4⟩ := List.cons.inj h2
      exact ⟨b :: a :: l, .swap .., by rw [List.map_cons, List.map_cons, ← h1, ← h3, ← h4]⟩
  | trans _ _ ih1 ih2 =>
    intro l h
    obtain ⟨l2, p1, p2⟩ := ih2 h
    obtain ⟨l1, p3, p4⟩ := ih1 p2.symm
    exact ⟨l1, p3.trans p1, p4⟩
def spLawLive (K : PySem.W.Frag) : Sp := fun vs H Q _ => ∃ (rv : V) (rows : List (List Int)), vs = [rv] ∧ RowsAt K H rv rows ∧ Good rows ∧ Fit rows ∧
  ∀ (ps : List (Nat × Int)) ws l H', Same H H' → H l = none → H' l = some (.lst ws) → RowsT K H' ws (ps.map prI) → (∀ q, q ∈ ps ↔ Mt.Live rows q.1 q.2) → (ps.map prI).Pairwise (· ≤ ·) → ps.Nodup → ps.length ≤ 40000 → Q (.ref l) H'
theorem ok_lawlive (A : At K mg "_law_live" s_law_live ["rows"]) (T : Tx mg) (G_law_dealings : Dfn P w K mg base "_law_dealings" ["rows"] 1 (spDeals K)) : Dfn P w K mg base "_law_live" ["rows"] 2 (spLawLive K) := by
  refine A.ok sc_law_live (fun vs H Q E h => ?_) (fun f cdv A outer s H vs Q E hr h => ?_)
  · obtain ⟨rv, rows, rfl, _⟩ := h
    rfl
  · obtain ⟨rv, rows, rfl, hR, G, fit, k⟩ := h
    refine ⟨_, (pss_cons (ps_set (i := 1) sc_law_live.nd rfl (Or.inl rfl) pe_dnewT)
      (pss_cons (ps_for PassesOwn.never rfl (pi_list (pe_d G_law_dealings (hr.mono (by decide)) (pa_cons (pv 0) pa_nil))) (pg_name (i := 2) sc_law_live.nd rfl (Or.inl rfl))
      (pss_one (ps_for PassesOwn.never rfl (pi_enumT (by rfl) T.enumerate (pa_cons (pv 2) pa_nil)) (pg_tup rfl (pgs_cons (pg_name (i := 3) sc_law_live.nd rfl (Or.inl rfl)) (pgs_cons (pg_name (i := 4) sc_law_live.nd rfl (Or.inl rfl)) pgs_nil)))
      (pss_one (ps_dput (hu_of hr) (pv 1) (pe_tup (pa_cons (pv 3) (pa_cons (pv 4) pa_nil))) pe_bl rfl)))))
      (pss_one (ps_ret (pe_callB (cr_sortedTT hr.units) (by rfl) T.sorted (by decide +kernel) (pa_cons (pe_callTy (call_list_dT rfl) (by rfl) T.list (by decide +kernel) (pa_cons (pv 1) pa_nil)) pa_nil)))))), ?_⟩
    have n10 := fit.n
    refine fun D hD => ?_
    have s0 : Same H (upd H D (.dT [])) := same_new hD
    refine ⟨_, rfl, rv, rows, rfl, hR.same s0, G, fit, fun ev ws H1 s01 fev hev hw => ?_⟩
    have hD1 : H1 D = some (.dT []) := s01 _ _ upd_same
    have nDe : ev ≠ D := fun e => by rw [e, upd_same] at fev; cases fev
    have s1 := s0.trans s01
    have wl := hw.len
    have df := fit.all
    refine ⟨ev, rfl, ⟨_, SqL.of hev⟩, ?_⟩
    refine for_list (xs := ws) (fun j σ' H' => ∃ x2 x3 x4 kvs ps, σ' = [some rv, some (.ref D), x2, x3, x4] ∧ H' D = some (.dT kvs) ∧ PD kvs ps ∧ ps.Nodup ∧ ps.length ≤ j * 10 ∧ (∀ q, q ∈ ps ↔ ∃ d ∈ (Mt.deals rows).take j, d[q.1]? = some q.2) ∧ Gr D H1 H' ∧ Same H H') ⟨_, _, _, [], [], rfl, hD1, rfl, List.nodup_nil, Nat.zero_le _, fun q => ⟨fun h => (by cases h), fun ⟨d, h, _⟩ => (by cases h)⟩, Gr.refl _, s1⟩ (fun j σ' H' _ hp => by obtain ⟨_, _, _, _, _, _, _, _, _, _, _, g, _⟩ := hp; exact SqL.of (g _ _ nDe hev)) ?_ ?_
    · rintro j y σ' H2 hy ⟨x2, x3, x4, kvs, ps, rfl, h2, hpd, nd0, hpl, hpm, g2, s2⟩
      have jl : j < (Mt.deals rows).length := by have := (List.getElem?_eq_some_iff.mp hy).1; omega
      have hdj := List.getElem?_eq_getElem jl
      obtain ⟨d, ed⟩ : ∃ d, d = (Mt.deals rows)[j] := ⟨_, rfl⟩
      rw [← ed] at hdj
      obtain ⟨b, hb1, hb2⟩ := hw.get hdj
      rw [hy] at hb1
      have ey : y = .ref b := Option.some.inj hb1
      subst ey
      have dd := (Mt.mem_deals d).mp (List.mem_of_getElem? hdj)
      have dl : d.length ≤ 10 := by rw [dd.len]; exact n10
      have hbT : ∀ H', Gr D H1 H' → SqT K H' b (d.map V.int) := fun H' g => sqT_gr g hD1 hb2
      refine ⟨_, rfl, b, _, rfl, hbT H2 g2, ?_⟩
      refine for_enumT (xs := d.map V.int) (fun i σ' H' => ∃ x3 x4 kvs ps, σ' = [some rv, some (.ref D), some (.ref b), x3, x4] ∧ H' D = some (.dT kvs) ∧ PD kvs ps ∧ ps.Nodup ∧ ps.length ≤ j * 10 + i ∧ (∀ q, q ∈ ps ↔ (∃ d ∈ (Mt.deals rows).take j, d[q.1]? = some q.2) ∨ (q.1 < i ∧ d[q.1]? = some q.2)) ∧ Gr D H1 H' ∧ Same H H') ⟨_, _, kvs, ps, rfl, h2, hpd, nd0, hpl, fun q => (hpm q).trans ⟨.inl, fun z => z.elim id fun z => absurd z.1 (by omega)⟩, g2, s2⟩ (fun i σ' H' _ hp => by obtain ⟨_, _, _, _, _, _, _, _, _, _, g, _⟩ := hp; exact hbT _ g) ?_ ?_
      · rintro i x σ' H3 z hx ⟨x3', x4', kvs3, ps3, rfl, h3, hpd3, nd3, hpl3, hpm3, g3, s3⟩ nz
        obtain ⟨u, hu, rfl⟩ : ∃ u, d[i]? = some u ∧ x = V.int u := by
          rw [List.getElem?_map] at hx
          cases e : d[i]? with
          | none => rw [e] at hx; cases hx
          | some u => rw [e] at hx; exact ⟨u, rfl, (Option.some.inj hx).symm⟩
        have il : i < d.length := (List.getElem?_eq_some_iff.mp hu).1
        have nzD : D ≠ z := ne_of_none h3 nz
        refine ⟨z, _, rfl, SqT.of upd_same, rfl, _, _, rfl, _, _, rfl, rfl, ?_⟩
        refine ⟨_, rfl, _, rfl, _, rfl, by show 2 ≤ sizeLine; decide, fun c hc => ?_⟩
        have h4 : upd (upd H3 z (.tup [.int (i : Nat), V.int u])) c (.tup [.int (i : Nat), V.int u]) D = some (.dT kvs3) := by
          rw [upd_ne (ne_of_none (by rw [upd_ne nzD]; exact h3) hc), upd_ne nzD]
          exact h3
        have kl := hpd3.len
        refine ⟨D, _, rfl, DPut.t (k := prK (i, u)) h4 upd_same (small_lt (by omega)), ?_⟩
        obtain ⟨ps', p1, p2, pn, p3⟩ := hpd3.put (i, u) (.bl true)
        have s4 := (s3.trans (same_new (o := .tup [.int (i : Nat), V.int u]) nz)).trans (same_new (o := .tup [.int (i : Nat), V.int u]) hc)
        refine ⟨_, _, _, ps', rfl, upd_same, p1, pn nd3, by omega, fun q => ?_, ((g3.trans (Gr.new nz)).trans (Gr.new hc)).trans Gr.put, same_mut s4 hD⟩
        rw [p3, hpm3]
        refine ⟨fun h => ?_, fun h => ?_⟩
        · rcases h with (h | ⟨h1, h2⟩) | h
          · exact .inl h
          · exact .inr ⟨by omega, h2⟩
          · rw [h]
            exact .inr ⟨by show i < i + 1; omega, hu⟩
        · rcases h with h | ⟨h1, h2⟩
          · exact .inl (.inl h)
          · by_cases e : q.1 = i
            · refine .inr ?_
              rw [e, hu] at h2
              obtain ⟨q1, q2⟩ := q
              have e1 : q1 = i := e
              have e2 : u = q2 := Option.some.inj h2
              rw [e1, e2]
            · exact .inl (.inr ⟨by omega, h2⟩)
      · rintro σ' H3 ⟨x3', x4', kvs3, ps3, rfl, h3, hpd3, nd3, hpl3, hpm3, g3, s3⟩
        rw [List.length_map] at hpl3 hpm3
        refine ⟨_, _, _, kvs3, ps3, rfl, h3, hpd3, nd3, by omega, fun q => (hpm3 q).trans ?_, g3, s3⟩
        rw [take_snoc hdj]
        refine ⟨fun h => ?_, fun ⟨e, he, h⟩ => ?_⟩
        · rcases h with ⟨e, he, h⟩ | ⟨_, h⟩
          · exact ⟨e, List.mem_append_left _ he, h⟩
          · exact ⟨d, List.mem_append_right _ List.mem_cons_self, h⟩
        · rcases List.mem_append.mp he with he | he
          · exact .inl ⟨e, he, h⟩
          · rw [List.mem_singleton.mp he] at h
            exact .inr ⟨(List.getElem?_eq_some_iff.mp h).1, h⟩
    · rintro σ' H2 ⟨x2, x3, x4, kvs, ps, rfl, h2, hpd, nd0, hpl, hpm, g2, s2⟩
      rw [List.take_of_length_le (by omega)] at hpm
      refine ⟨_, rfl, D, kvs, rfl, .inl h2, fun c bs hc hk => ?_⟩
      have hw2 := keys_rows (K := K) hk hpd
      obtain ⟨qs, e1, e2, e3⟩ := rowsT_zip hw2
      have ne : ∀ b ∈ qs, b.2 ≠ [] := fun b hb => by
        have : b.2 ∈ ps.map prI := by rw [e2]; exact List.mem_map.mpr ⟨b, hb, rfl⟩
        obtain ⟨q, _, e⟩ := List.mem_map.mp this
        rw [← e]
        exact fun z => by cases z
      rw [e1]
      refine ⟨c, qs, rfl, SqL.of upd_same, fun b hb => ⟨sqT_same (same_new hc) (e3 b hb), ne b hb⟩, fun os e pm up he => ?_⟩
      have s4 := (s2.trans (same_new (o := .lst (qs.map fun b => V.ref b.1)) hc)).trans (same_new (o := .lst (os.map fun b => V.ref b.1)) he)
      have pm2 : (os.map fun b => b.2).Perm (ps.map prI) := by rw [e2]; exact pm.map _
      obtain ⟨ps', p1, p2⟩ := perm_map_ex (f := prI) (l := ps) pm2 rfl
      refine k ps' _ e _ s4 ((s2.trans (same_new (o := .lst (qs.map fun b => V.ref b.1)) hc)).free he) upd_same ?_ (fun q => (p1.mem_iff.trans (hpm q)).trans ?_) (by rw [p2]; exact up) (p1.symm.nodup nd0) (by rw [p1.length_eq]; omega)
      · rw [p2]
        exact rowsT_of fun b hb => sqT_same ((same_new hc).trans (same_new he)) (e3 b (pm.mem_iff.mp hb))
      · exact ⟨fun ⟨d, hd, h⟩ => ⟨d, (Mt.mem_deals d).mp hd, h⟩, fun ⟨d, hd, h⟩ => ⟨d, (Mt.mem_deals d).mpr hd, h⟩⟩
end
end Fo

set_option maxRecDepth 100000
set_option maxHeartbeats 4000000
namespace Fo
open PySem PySem.Spec PyProof.Rows L2
abbrev s_law_pieces : Stmt := top 43
abbrev n_law_pieces : List Str := ["rows", "live", "names", "person", "thing", "other", "more", "found", "name", "people", "things"]
theorem sc_law_pieces : FnScope n_law_pieces ["rows"] (defScope s_law_pieces) := ⟨rfl, rfl, rfl, by decide +kernel, rfl, by decide +kernel, by decide +kernel⟩
/-- pairs in a list, with where they stand -/
theorem prsT_zip {K : PySem.W.Frag} {H : Hp} {f g : Int → List Int} : ∀ {us : List V} {ks : List Int}, PrsT K H us (ks.map fun x => [f x, g x]) → ∃ bs : List (Addr × (List Int × List Int)), us = bs.map (fun b => V.ref b.1) ∧ bs.map (fun b => b.2) = ks.map (fun x => (f x, g x)) ∧ ∀ b ∈ bs, RowsAt K H (.ref b.1) [b.2.1, b.2.2]
  | _, [], .nil => ⟨[], rfl, rfl, fun b h => by cases h⟩
  | _, x :: ks, .cons h t => by
    obtain ⟨bs, e1, e2, e3⟩ := prsT_zip t
    obtain ⟨a, vs, rfl, ha, hv⟩ := id h
    refine ⟨(a, (f x, g x)) :: bs, by rw [e1]; rfl, by rw [List.map_cons, e2]; rfl, fun b hb => ?_⟩
    rcases List.mem_cons.mp hb with rfl | hb
    · exact h
    · exact e3 b hb
theorem prsT_of {K : PySem.W.Frag} {H : Hp} : ∀ {bs : List (Addr × (List Int × List Int))}, (∀ b ∈ bs, RowsAt K H (.ref b.1) [b.2.1, b.2.2]) → PrsT K H (bs.map fun b => V.ref b.1) (bs.map fun b => [b.2.1, b.2.2])
  | [], _ => .nil
  | b :: bs, h => .cons (h b List.mem_cons_self) (prsT_of fun c hc => h c (List.mem_cons_of_mem _ hc))
theorem pairs_few {n : Nat} {ps : List (Nat × Int)} (nd : ps.Nodup) (h : ∀ q ∈ ps, q.1 < n ∧ 0 ≤ q.2 ∧ q.2 < (n : Int)) : ps.length ≤ n * n := by
  have := Mt.len_le nd (l2 := (List.range n).flatMap fun p => (Mt.rangeZ n).map fun t => (p, t)) fun q hq => by
    obtain ⟨h1, h2, h3⟩ := h q hq
    exact List.mem_flatMap.mpr ⟨q.1, List.mem_range.mpr h1, List.mem_map.mpr ⟨q.2, List.mem_map.mpr ⟨q.2.toNat, List.mem_range.mpr (by omega), by omega⟩, rfl⟩⟩
  refine Nat.le_trans this ?_
  have : ∀ l : List Nat, (l.flatMap fun p => (Mt.rangeZ n).map fun t => (p, t)).length = l.length * n := fun l => by
    induction l with
    | nil => show 0 = 0 * n; rw [Nat.zero_mul]
    | cons a l ih =>
      rw [List.flatMap_cons, List.length_append, ih, List.length_map, List.length_cons, Nat.succ_mul]
      unfold Mt.rangeZ
      rw [List.length_map, List.length_range]
      omega
  rw [this, List.length_range]
  exact Nat.le_refl _
section
variable {P : Program} {w : World} {K : PySem.W.Frag} {mg : Str → Option Value} {base : Heap} {C : Addr}
/-- one name for another -/
theorem pick_name (z x y : Int) : atI [V.int z, V.int x] (if decide (V.int z = V.int y) = true then 1 else 0) = some (V.int (if z = y then x else z)) := by
  by_cases c : z = y
  · rw [c, decide_eq_true rfl, if_pos rfl, if_pos rfl]
    rfl
  · rw [decide_eq_false (fun h => c (by injection h)), if_neg (by decide), if_neg c]
    rfl
theorem names_at {N : List Int} {p : Nat} {x : Int} (h : N[p]? = some x) : atI (N.map V.int) (p : Int) = some (V.int x) := at_nat (by rw [List.getElem?_map, h]; rfl)
/-- the steps that are done: all pairs of the first so many ties, and of one more with some of all -/
def doneN (ps : List (Nat × Int)) (i j : Nat) (p q : Nat) : Prop := ∃ a b t, ps[a]? = some (p, t) ∧ ps[b]? = some (q, t) ∧ (a < i ∨ (a = i ∧ b < j))
def spLawPieces (K : PySem.W.Frag) : Sp := fun vs H Q _ => ∃ (rv : V) (rows : List (List Int)), vs = [rv] ∧ RowsAt K H rv rows ∧ Good rows ∧ Fit rows ∧
  ∀ (G : List (List Nat)) l ws H', Mt.Groups (Mt.liveR rows) G → (G.map natI).Pairwise (· ≤ ·) → Same H H' → H l = none → H' l = some (.lst ws) → PrsT K H' ws (G.map (pieceR rows)) → Q (.ref l) H'
theorem ok_lawpieces (A : At K mg "_law_pieces" s_law_pieces ["rows"]) (T : Tx mg) (G_law_live : Dfn P w K mg base "_law_live" ["rows"] 2 (spLawLive K)) : Dfn P w K mg base "_law_pieces" ["rows"] 3 (spLawPieces K) := by
  refine A.ok sc_law_pieces (fun vs H Q E h => ?_) (fun f cdv A outer s H vs Q E hr h => ?_)
  · obtain ⟨rv, rows, rfl, _⟩ := h
    rfl
  · obtain ⟨rv, rows, rfl, hR, G, fit, k⟩ := h
    refine ⟨_, (pss_cons (ps_set (i := 1) sc_law_pieces.nd rfl (Or.inl rfl) (pe_d G_law_live (hr.mono (by decide)) (pa_cons (pv 0) pa_nil)))
      (pss_cons (ps_set (i := 2) sc_law_pieces.nd rfl (Or.inr rfl) (pe_listRg rfl (by rfl) T.list (prg_1 (by rfl) T.range (pe_callB c_len (by rfl) T.len (by decide +kernel) (pa_cons (pv 0) pa_nil)))))
      (pss_cons (ps_for PassesOwn.never rfl (pi_list (pv 1)) (pg_tup rfl (pgs_cons (pg_name (i := 3) sc_law_pieces.nd rfl (Or.inr rfl)) (pgs_cons (pg_name (i := 4) sc_law_pieces.nd rfl (Or.inl rfl)) pgs_nil)))
      (pss_one (ps_for PassesOwn.never rfl (pi_list (pv 1)) (pg_tup rfl (pgs_cons (pg_name (i := 5) sc_law_pieces.nd rfl (Or.inr rfl)) (pgs_cons (pg_name (i := 6) sc_law_pieces.nd rfl (Or.inl rfl)) pgs_nil)))
      (pss_one (ps_if (PW.pt (pw_and (pt_cmpR op_eq (pv 6) (pv 4) (nomark _)) (pw_and1 (pt_cmpR op_ne (pe_ix ix_list (pv 2) (pv 5) (fun _ _ => rfl)) (pe_ix ix_list (pv 2) (pv 3) (fun _ _ => rfl)) (nomark _))))) (pss_one (ps_set (i := 2) sc_law_pieces.nd rfl (Or.inr rfl) (pe_lc (own := [("name", 8)]) (g := (gName 8)) (tt := tYes) (te := (tOp (rIxL K) (tLst (tCons (tVar 8) (tCons (tOp (rIxL K) (tVar 2) (tVar 3)) tNil))) (tCB rIntOf (tCons (tOp rEq (tVar 8) (tOp (rIxL K) (tVar 2) (tVar 5))) tNil)))) (by rfl) sc_law_pieces.nd (pi_list (pv 2)) (blkOk_by (own := [("name", 8)]) (N := n_law_pieces) (sc := (defScope s_law_pieces)) (by decide +kernel)) (fun _ _ _ _ _ => (pg_name (i := 8) sc_law_pieces.nd rfl (Or.inl rfl))) (fun _ _ _ _ _ => pts_nil) (fun _ _ _ _ _ => (pe_ix ix_list (pe_lst (pa_cons (pv 8) (pa_cons (pe_ix ix_list (pv 2) (pv 3) (fun _ _ => rfl)) pa_nil))) (pe_callTy c_int (by rfl) T.int (by decide +kernel) (pa_cons (pe_cmpR op_eq (pv 8) (pe_ix ix_list (pv 2) (pv 5) (fun _ _ => rfl)) (nomark _)) pa_nil)) (fun _ _ => rfl)))))) pss_nil)))))
      (pss_cons (ps_set (i := 7) sc_law_pieces.nd rfl (Or.inl rfl) (pe_lst pa_nil))
      (pss_cons (ps_for PassesOwn.never rfl (pi_list (pe_callB (cr_sortSetA rfl) (by rfl) T.sorted (by decide +kernel) (pa_cons (pe_callTy (cr_setL rfl) (by rfl) T.set (by decide +kernel) (pa_cons (pv 2) pa_nil)) pa_nil))) (pg_name (i := 8) sc_law_pieces.nd rfl (Or.inr rfl))
      (pss_cons (ps_set (i := 9) sc_law_pieces.nd rfl (Or.inr rfl) (pe_callTy c_tuple (by rfl) T.tuple (by decide +kernel) (pa_cons (pe_lc (own := [("person", 3)]) (g := (gName 3)) (tt := (tTest (tOp rEq (tOp (rIxL K) (tVar 2) (tVar 3)) (tVar 8)))) (te := (tVar 3)) (by rfl) sc_law_pieces.nd (pi_range1 rfl T.range (pa_cons (pe_callB c_len (by rfl) T.len (by decide +kernel) (pa_cons (pv 0) pa_nil)) pa_nil)) (blkOk_by (own := [("person", 3)]) (N := n_law_pieces) (sc := (defScope s_law_pieces)) (by decide +kernel)) (fun _ _ _ _ _ => (pg_name (i := 3) sc_law_pieces.nd rfl (Or.inl rfl))) (fun _ _ _ _ _ => (pts_one (pt_cmpR op_eq (pe_ix ix_list (pv 2) (pv 3) (fun _ _ => rfl)) (pv 8) (nomark _)))) (fun _ _ _ _ _ => (pv 3))) pa_nil)))
      (pss_cons (ps_set (i := 10) sc_law_pieces.nd rfl (Or.inl rfl) (pe_callB (cr_sortSetA rfl) (by rfl) T.sorted (by decide +kernel) (pa_cons (pe_callTy (cr_setL rfl) (by rfl) T.set (by decide +kernel) (pa_cons (pe_lc (own := [("person", 3), ("thing", 4)]) (g := (gTup K 2 (gCons (gName 3) (gCons (gName 4) gNil)))) (tt := (tTest (tOp (rIn K false) (tVar 3) (tVar 9)))) (te := (tVar 4)) (by rfl) sc_law_pieces.nd (pi_list (pv 1)) (blkOk_by (own := [("person", 3), ("thing", 4)]) (N := n_law_pieces) (sc := (defScope s_law_pieces)) (by decide +kernel)) (fun _ _ _ _ _ => (pg_tup rfl (pgs_cons (pg_name (i := 3) sc_law_pieces.nd rfl (Or.inl rfl)) (pgs_cons (pg_name (i := 4) sc_law_pieces.nd rfl (Or.inl rfl)) pgs_nil)))) (fun _ _ _ _ _ => (pts_one (pt_cmpR op_in_seq (pv 3) (pv 9) rfl))) (fun _ _ _ _ _ => (pv 4))) pa_nil)) pa_nil)))
      (pss_one (ps_expr (pe_bm PySem.F.plainAttrs_list PySem.F.slot_list_append PySem.F.type_list_append mt_append (pv 7) (pa_cons (pe_tup (pa_cons (pv 9) (pa_cons (pe_callTy c_tuple (by rfl) T.tuple (by decide +kernel) (pa_cons (pv 10) pa_nil)) pa_nil))) pa_nil)))))))
      (pss_one (ps_ret (pe_callB (cr_sortedPP hr.units) (by rfl) T.sorted (by decide +kernel) (pa_cons (pv 7) pa_nil))))))))), ?_⟩
    have n10 := fit.n
    have gp := G.pos
    obtain ⟨ra, rvs, rfl, hra, hrb⟩ := id hR
    have rvl := hrb.len
    refine ⟨_, rfl, .ref ra, rows, rfl, hR, G, fit, fun ps ws lv H1 s1 flv hlv hlw lmem lsrt lnd lln => ?_⟩
    have wl := hlw.len
    rw [List.length_map] at wl
    refine ⟨_, rfl, ra, _, rfl, .inr (sqT_same s1 hra), ?_⟩
    refine ⟨_, rfl, ⟨by omega, by omega⟩, fun n0 hn0 => ?_⟩
    have lr : (Mt.liveR rows).length = rows.length := Mt.liveR_len
    obtain ⟨H2, e2⟩ : ∃ H2, H2 = upd H1 n0 (.lst (rgV 0 ((rvs.length : Nat) : Int))) := ⟨_, rfl⟩
    have s12 : Same H1 H2 := by rw [e2]; exact same_new hn0
    have h2 : H2 n0 = some (.lst ((Mt.rangeZ rows.length).map V.int)) := by
      rw [e2, upd_same, rgV_rangeI, rvl]
      unfold rangeI
      rw [Int.toNat_natCast]
      rfl
    rw [← e2]
    have fn0 : H n0 = none := s1.free hn0
    have N0 : Mt.Named (Mt.liveR rows) (Mt.rangeZ rows.length) (doneN ps 0 0) := by
      have := Mt.Named.init (rows := Mt.liveR rows)
      rw [lr] at this
      exact this.weaken fun p q h => by
        obtain ⟨a, b, t, _, _, h | ⟨_, h⟩⟩ := h
        · omega
        · omega
    refine ⟨_, rfl, lv, rfl, ⟨_, SqL.of (s12 _ _ hlv)⟩, ?_⟩
    refine for_list (xs := ws) (fun i σ' H' => ∃ N D x3 x4 x5 x6, σ' = [some (.ref ra), some (.ref lv), some (.ref D), x3, x4, x5, x6, none, none, none, none] ∧ H' D = some (.lst (N.map V.int)) ∧ Mt.Named (Mt.liveR rows) N (doneN ps i 0) ∧ Same H1 H' ∧ H1 D = none) ⟨_, n0, _, _, _, _, rfl, h2, N0, s12, hn0⟩ (fun i σ' H' _ hp => by obtain ⟨_, _, _, _, _, _, _, _, _, s, _⟩ := hp; exact SqL.of (s _ _ hlv)) ?_ ?_
    · rintro i y σ' H3 hy ⟨N, D, x3, x4, x5, x6, rfl, h3, hN, s3, fD⟩
      have il : i < ps.length := by have := (List.getElem?_eq_some_iff.mp hy).1; omega
      obtain ⟨q, hq⟩ : ∃ q, ps[i]? = some q := ⟨_, List.getElem?_eq_getElem il⟩
      obtain ⟨b, hb1, hb2⟩ := hlw.get (i := i) (r := prI q) (by rw [List.getElem?_map, hq]; rfl)
      rw [hy] at hb1
      have ey : y = .ref b := Option.some.inj hb1
      subst ey
      obtain ⟨p, t⟩ := q
      refine ⟨b, _, rfl, sqT_same s3 hb2, rfl, _, _, rfl, _, _, rfl, rfl, ?_⟩
      refine ⟨_, rfl, lv, rfl, ⟨_, SqL.of (s3 _ _ hlv)⟩, ?_⟩
      refine for_list (xs := ws) (fun j σ' H' => ∃ N D x5 x6, σ' = [some (.ref ra), some (.ref lv), some (.ref D), some (nV p), some (.int t), x5, x6, none, none, none, none] ∧ H' D = some (.lst (N.map V.int)) ∧ Mt.Named (Mt.liveR rows) N (doneN ps i j) ∧ Same H1 H' ∧ H1 D = none) ⟨N, D, _, _, rfl, h3, hN, s3, fD⟩ (fun j σ' H' _ hp => by obtain ⟨_, _, _, _, _, _, _, s, _⟩ := hp; exact SqL.of (s _ _ hlv)) ?_ ?_
      · rintro j y σ' H4 hy ⟨N, D, x5, x6, rfl, h4, hN, s4, fD⟩
        have jl : j < ps.length := by have := (List.getElem?_eq_some_iff.mp hy).1; omega
        obtain ⟨q2, hq2⟩ : ∃ q2, ps[j]? = some q2 := ⟨_, List.getElem?_eq_getElem jl⟩
        obtain ⟨b2, hb3, hb4⟩ := hlw.get (i := j) (r := prI q2) (by rw [List.getElem?_map, hq2]; rfl)
        rw [hy] at hb3
        have ey : y = .ref b2 := Option.some.inj hb3
        subst ey
        obtain ⟨o, u⟩ := q2
        have lp := (lmem (p, t)).mp (List.mem_of_getElem? hq)
        have lo := (lmem (o, u)).mp (List.mem_of_getElem? hq2)
        have pN : p < N.length := by rw [hN.len, lr]; obtain ⟨E, hE, he⟩ := lp; rw [← hE.len]; exact (List.getElem?_eq_some_iff.mp he).1
        have oN : o < N.length := by rw [hN.len, lr]; obtain ⟨E, hE, he⟩ := lo; rw [← hE.len]; exact (List.getElem?_eq_some_iff.mp he).1
        obtain ⟨np, hnp⟩ : ∃ x, N[p]? = some x := ⟨_, List.getElem?_eq_getElem pN⟩
        obtain ⟨no, hno⟩ : ∃ x, N[o]? = some x := ⟨_, List.getElem?_eq_getElem oN⟩
        have up : ∀ p' q', doneN ps i (j + 1) p' q' → doneN ps i j p' q' ∨ (p' = p ∧ q' = o ∧ u = t) := fun p' q' h => by
          obtain ⟨a, b, t', h1, h2, h | ⟨rfl, h⟩⟩ := h
          · exact .inl ⟨a, b, t', h1, h2, .inl h⟩
          · by_cases c : b = j
            · subst c
              rw [hq] at h1
              rw [hq2] at h2
              cases h1
              cases h2
              exact .inr ⟨rfl, rfl, rfl⟩
            · exact .inl ⟨a, b, t', h1, h2, .inr ⟨rfl, by omega⟩⟩
        refine ⟨b2, _, rfl, sqT_same s4 hb4, rfl, _, _, rfl, _, _, rfl, rfl, ?_⟩
        refine ⟨_, rfl, _, rfl, rfl, _, rfl, ?_⟩
        refine ite2 (fun hc => ?_) (fun hc => ?_)
        · have eut : u = t := by have := of_decide_eq_true hc; injection this
          refine ⟨_, rfl, _, rfl, D, _, (o : Int), _, rfl, rfl, SqL.of h4, names_at hno, _, rfl, _, rfl, D, _, (p : Int), _, rfl, rfl, SqL.of h4, names_at hnp, rfl, _, rfl, ?_⟩
          refine ite2 (fun hd => ?_) (fun hd => ?_)
          · refine ⟨_, rfl, D, rfl, ⟨_, SqL.of h4⟩, fun D2 hD2 => ?_⟩
            refine lc_list (xs := N.map V.int) (fun m H' => H' D2 = some (.lst (((N.take m).map fun z => if z = no then np else z).map V.int)) ∧ Same H4 H') ⟨upd_same, same_new hD2⟩ (fun m H' _ hp => SqL.of (hp.2 _ _ h4)) ?_ ?_
            · rintro m z H5 hz ⟨h5, s5⟩
              obtain ⟨nm, hnm, rfl⟩ : ∃ nm, N[m]? = some nm ∧ z = V.int nm := by
                rw [List.getElem?_map] at hz
                cases e : N[m]? with
                | none => rw [e] at hz; cases hz
                | some u => rw [e] at hz; exact ⟨u, rfl, (Option.some.inj hz).symm⟩
              have h45 := s5 _ _ h4
              refine ⟨rfl, _, rfl, _, rfl, _, rfl, D, _, (p : Int), _, rfl, rfl, SqL.of h45, names_at hnp, by show 2 ≤ sizeLine; decide, fun e he => ?_⟩
              have s6 := same_new (o := .lst [V.int nm, V.int np]) he
              refine ⟨_, rfl, _, rfl, _, rfl, D, _, (o : Int), _, rfl, rfl, SqL.of (s6 _ _ h45), names_at hno, rfl, .inr ⟨_, rfl, ?_⟩⟩
              refine ⟨e, _, _, _, rfl, rfl, SqL.of upd_same, pick_name nm np no, _, s6 _ _ h5, small_lt ?_, ?_, same_mut (s5.trans s6) hD2⟩
              · rw [List.length_map, List.length_map, List.length_take]
                have := hN.len
                omega
              · rw [upd_same, List.take_add_one, hnm, List.map_append, List.map_append]
                rfl
            · rintro H5 ⟨h5, s5⟩
              rw [List.length_map, List.take_length] at h5
              refine ⟨_, D2, _, _, rfl, h5, ?_, s4.trans s5, s4.free hD2⟩
              exact hN.renam hnp hno ⟨t, Mt.mem_liveR.mpr lp, Mt.mem_liveR.mpr (eut ▸ lo)⟩ fun p' q' h => (up p' q' h).elim .inl fun h => .inr (.inr ⟨h.1, h.2.1⟩)
          · refine ⟨N, D, _, _, rfl, h4, hN.weaken fun p' q' h => (up p' q' h).elim .inl fun h => .inr ?_, s4, fD⟩
            rw [h.1, h.2.1, hnp, hno]
            have e : no = np := by
              refine Classical.byContradiction fun c => hd ?_
              rw [decide_eq_false (fun h => c (by injection h))]
              rfl
            rw [e]
        · refine ⟨N, D, _, _, rfl, h4, hN.weaken fun p' q' h => (up p' q' h).elim .inl fun h => absurd (decide_eq_true (show V.int u = V.int t by rw [h.2.2])) hc, s4, fD⟩
      · rintro σ' H4 ⟨N, D, x5, x6, rfl, h4, hN, s4, fD⟩
        refine ⟨N, D, _, _, _, _, rfl, h4, hN.weaken fun p' q' h => .inl ?_, s4, fD⟩
        obtain ⟨a, b, t', h1, h2, h | ⟨_, h⟩⟩ := h
        · refine ⟨a, b, t', h1, h2, ?_⟩
          rcases Nat.lt_or_ge a i with c | c
          · exact .inl c
          · exact .inr ⟨by omega, by have := (List.getElem?_eq_some_iff.mp h2).1; omega⟩
        · omega
    · rintro σ' H3 ⟨N, D, x3, x4, x5, x6, rfl, h3, hN, s3, fD⟩
      rw [wl] at hN
      have hNT : Mt.Named (Mt.liveR rows) N (Mt.Tied (Mt.liveR rows)) := hN.weaken fun p q ⟨t, h1, h2⟩ => .inl (by
        obtain ⟨a, ha⟩ := List.getElem?_of_mem ((lmem (p, t)).mpr (Mt.mem_liveR.mp h1))
        obtain ⟨b, hb⟩ := List.getElem?_of_mem ((lmem (q, t)).mpr (Mt.mem_liveR.mp h2))
        exact ⟨a, b, t, ha, hb, .inl (List.getElem?_eq_some_iff.mp ha).1⟩)
      have Nl : N.length = rows.length := hN.len.trans lr
      have pl100 : ps.length ≤ 100 := by
        have := pairs_few (n := rows.length) lnd fun q hq => by
          have hl := (lmem q).mp hq
          have hm := Mt.mem_liveR.mpr hl
          rw [Mt.row_liveR] at hm
          have hr := (List.mem_filter.mp hm).1
          have := G.row_rng hr
          exact ⟨Mt.row_lt hr, this.1, this.2⟩
        have h2 : rows.length * rows.length ≤ 10 * 10 := Nat.mul_le_mul n10 n10
        omega
      have s03 := s1.trans s3
      refine ⟨by show 0 ≤ sizeLine; decide, fun F0 hF0 => ?_⟩
      obtain ⟨H4, e4⟩ : ∃ H4, H4 = upd H3 F0 (.lst []) := ⟨_, rfl⟩
      have s34 : Same H3 H4 := by rw [e4]; exact same_new hF0
      have h4F : H4 F0 = some (.lst []) := by rw [e4]; exact upd_same
      rw [← e4]
      have h4 := s34 _ _ h3
      refine ⟨_, rfl, D, N, rfl, SqL.of h4, by omega, fun sa n ha hn _ => ?_⟩
      refine ⟨sa, _, n, rfl, upd_same, by omega, fun ks L asc mem _ hL => ?_⟩
      obtain ⟨H5, e5⟩ : ∃ H5, H5 = upd (upd H4 sa (SetO w sa (fun j => decide (j ∈ N)) n)) L (.lst (ks.map V.int)) := ⟨_, rfl⟩
      have s45 : Same H4 H5 := by rw [e5]; exact (same_new ha).trans (same_new hL)
      have h5L : H5 L = some (.lst (ks.map V.int)) := by rw [e5]; exact upd_same
      have kmem : ∀ x, x ∈ ks ↔ x ∈ N := fun x => (mem x).trans decide_eq_true_iff
      have knd : ks.Nodup := asc.imp fun {a b} z e => by omega
      have kl : ks.length ≤ 10 := by
        have := Mt.len_le knd fun x hx => (kmem x).mp hx
        omega
      have s35 := s34.trans s45
      have nFL : F0 ≠ L := fun e => by
        have : H4 L = none := (same_new ha).free hL
        rw [← e, h4F] at this
        cases this
      have keepL : ∀ H' : Hp, Gr F0 H5 H' → H' L = some (.lst (ks.map V.int)) := fun H' g => g _ _ nFL.symm h5L
      have g5 : Gr F0 H5 (upd (upd H4 sa (SetO w sa (fun j => decide (j ∈ N)) n)) L (.lst (ks.map V.int))) := by rw [← e5]; exact Gr.refl _
      have h5F : (upd (upd H4 sa (SetO w sa (fun j => decide (j ∈ N)) n)) L (.lst (ks.map V.int))) F0 = some (.lst []) := by rw [← e5]; exact s45 _ _ h4F
      have s35' : Same H3 (upd (upd H4 sa (SetO w sa (fun j => decide (j ∈ N)) n)) L (.lst (ks.map V.int))) := by rw [← e5]; exact s35
      refine ⟨L, rfl, ⟨_, SqL.of upd_same⟩, ?_⟩
      refine for_list (xs := ks.map V.int) (fun m σ' H' => ∃ x3 x4 x8 x9 x10 us, σ' = [some (.ref ra), some (.ref lv), some (.ref D), x3, x4, x5, x6, some (.ref F0), x8, x9, x10] ∧ H' F0 = some (.lst us) ∧ PrsT K H' us ((ks.take m).map fun x => [natI (Mt.clsN N x), thgR rows (Mt.clsN N x)]) ∧ Gr F0 H5 H' ∧ Same H3 H') ⟨_, _, _, _, _, [], rfl, h5F, .nil, g5, s35'⟩ (fun m σ' H' _ hp => by obtain ⟨_, _, _, _, _, _, _, _, _, g, _⟩ := hp; exact SqL.of (keepL _ g)) ?_ ?_
      · rintro m y σ' H6 hy ⟨x3, x4, x8, x9, x10, us, rfl, h6, hu, g6, s6⟩
        obtain ⟨x, hx, rfl⟩ : ∃ x, ks[m]? = some x ∧ y = V.int x := by
          rw [List.getElem?_map] at hy
          cases e : ks[m]? with
          | none => rw [e] at hy; cases hy
          | some u => rw [e] at hy; exact ⟨u, rfl, (Option.some.inj hy).symm⟩
        have ml : m < ks.length := (List.getElem?_eq_some_iff.mp hx).1
        have h6D := s6 _ _ h3
        have ul := hu.len
        rw [List.length_map, List.length_take] at ul
        refine ⟨_, rfl, ra, _, rfl, .inr (sqT_same (s03.trans s6) hra), _, rfl, by omega, by omega, fun D2 hD2 => ?_⟩
        refine lc_range (lo := 0) (n := ((rvs.length : Nat) : Int).toNat) (fun j H' => H' D2 = some (.lst ((natI ((List.range j).filter fun p => decide (N[p]? = some x))).map V.int)) ∧ Same H6 H') ⟨upd_same, same_new hD2⟩ ?_ ?_
        · rintro j H7 hj ⟨h7, s7⟩
          rw [Int.toNat_natCast, rvl] at hj
          rw [Int.zero_add (j : Int)]
          obtain ⟨nj, hnj⟩ : ∃ nj, N[j]? = some nj := ⟨_, List.getElem?_eq_getElem (by omega)⟩
          refine ⟨rfl, _, rfl, _, rfl, D, _, (j : Int), _, rfl, rfl, SqL.of (s7 _ _ h6D), names_at hnj, _, rfl, rfl, _, rfl, ?_⟩
          have eb : decide (V.int nj = V.int x) = decide (N[j]? = some x) := decide_eq_decide.mpr ⟨fun h => by injection h with h; rw [hnj, h], fun h => by rw [hnj] at h; rw [Option.some.inj h]⟩
          rw [eb]
          have er : (List.range (j + 1)).filter (fun p => decide (N[p]? = some x)) = (List.range j).filter (fun p => decide (N[p]? = some x)) ++ if decide (N[j]? = some x) = true then [j] else [] := by
            rw [List.range_succ, List.filter_append]
            show _ ++ List.filter _ [j] = _
            rw [List.filter_cons]
            rfl
          refine ite2 (fun hd => ?_) (fun hd => ?_)
          · refine ⟨_, rfl, _, h7, by unfold natI; rw [List.length_map, List.length_map]; exact small_lt (Nat.le_trans (List.length_filter_le _ _) (by rw [List.length_range]; omega)), ?_, same_mut s7 hD2⟩
            rw [upd_same, er, if_pos hd]
            unfold natI
            rw [List.map_append, List.map_append]
            rfl
          · refine ⟨?_, s7⟩
            rw [h7, er, if_neg hd, List.append_nil]
        rintro H7 ⟨h7, s7⟩
        rw [Int.toNat_natCast, rvl, ← Nl] at h7
        have h7 : H7 D2 = some (.lst ((natI (Mt.clsN N x)).map V.int)) := h7
        refine ⟨D2, _, rfl, .inl ⟨SqL.of h7, fun oa hoa => ?_⟩⟩
        obtain ⟨g, eg⟩ : ∃ g, g = Mt.clsN N x := ⟨_, rfl⟩
        rw [← eg] at h7 ⊢
        have s8 := s7.trans (same_new (o := .tup ((natI g).map V.int)) hoa)
        obtain ⟨H8, e8⟩ : ∃ H8, H8 = upd H7 oa (.tup ((natI g).map V.int)) := ⟨_, rfl⟩
        rw [← e8] at s8 ⊢
        have ha8 : SqT K H8 oa ((natI g).map V.int) := by rw [e8]; exact SqT.of upd_same
        have s18 : Same H1 H8 := (s3.trans s6).trans s8
        refine ⟨_, rfl, lv, rfl, ⟨_, SqL.of (s18 _ _ hlv)⟩, fun D3 hD3 => ?_⟩
        refine lc_list (xs := ws) (fun j H' => H' D3 = some (.lst ((((ps.take j).filter fun q => decide ((q.1 : Int) ∈ natI g)).map fun q => q.2).map V.int)) ∧ Same H8 H') ⟨by rw [upd_same]; rfl, same_new hD3⟩ (fun j H' _ hp => SqL.of (hp.2 _ _ (s18 _ _ hlv))) ?_ ?_
        · rintro j z H9 hz ⟨h9, s9⟩
          have jl : j < ps.length := by have := (List.getElem?_eq_some_iff.mp hz).1; omega
          obtain ⟨q, hq⟩ : ∃ q, ps[j]? = some q := ⟨_, List.getElem?_eq_getElem jl⟩
          obtain ⟨b, hb1, hb2⟩ := hlw.get (i := j) (r := prI q) (by rw [List.getElem?_map, hq]; rfl)
          rw [hz] at hb1
          have ez : z = .ref b := Option.some.inj hb1
          subst ez
          obtain ⟨p, t⟩ := q
          refine ⟨b, _, rfl, sqT_same (s18.trans s9) hb2, rfl, _, _, rfl, _, _, rfl, rfl, ?_⟩
          refine ⟨rfl, _, rfl, _, rfl, oa, _, rfl, .inr (sqT_same s9 ha8), rfl, all_flat_ints _, _, rfl, ?_⟩
          show if (inV (V.int (p : Int)) ((natI g).map V.int)) = true then _ else _
          rw [inV_ints]
          have fo : (ps.take (j + 1)).filter (fun q => decide ((q.1 : Int) ∈ natI g)) = (ps.take j).filter (fun q => decide ((q.1 : Int) ∈ natI g)) ++ if decide ((p : Int) ∈ natI g) = true then [(p, t)] else [] := by
            rw [List.take_add_one, hq, List.filter_append]
            show _ ++ List.filter _ [(p, t)] = _
            rw [List.filter_cons]
            rfl
          refine ite2 (fun hd => ?_) (fun hd => ?_)
          · refine ⟨_, rfl, _, h9, by rw [List.length_map, List.length_map]; exact small_lt (Nat.le_trans (List.length_filter_le _ _) (by rw [List.length_take]; omega)), ?_, same_mut s9 hD3⟩
            rw [upd_same, fo, if_pos hd, List.map_append, List.map_append]
            rfl
          · refine ⟨?_, s9⟩
            rw [h9, fo, if_neg hd, List.append_nil]
        · rintro H9 ⟨h9, s9⟩
          rw [wl, List.take_length] at h9
          have l9 : ((ps.filter fun q => decide ((q.1 : Int) ∈ natI g)).map fun q => q.2).length ≤ 100 := by rw [List.length_map]; exact Nat.le_trans (List.length_filter_le _ _) pl100
          refine ⟨D3, _, rfl, SqL.of h9, by omega, fun sb n2 hb hn2 _ => ?_⟩
          refine ⟨sb, _, n2, rfl, upd_same, by omega, fun ts L2 asc2 mem2 _ hL2 => ?_⟩
          have ets : ts = thgR rows g := Mt.asc_eqI asc2 thgR_asc fun t => by
            rw [mem2, decide_eq_true_iff, mem_thgR G, List.mem_map]
            constructor
            · rintro ⟨⟨p, t'⟩, hq, rfl⟩
              obtain ⟨h1, h2⟩ := List.mem_filter.mp hq
              have h2 := of_decide_eq_true h2
              obtain ⟨p', hp', e⟩ := List.mem_map.mp h2
              have : p' = p := by
                have e : (p' : Int) = (p : Int) := e
                omega
              exact ⟨p, this ▸ hp', Mt.mem_liveR.mpr ((lmem _).mp h1)⟩
            · rintro ⟨p, hp, ht⟩
              exact ⟨(p, t), List.mem_filter.mpr ⟨(lmem (p, t)).mpr (Mt.mem_liveR.mp ht), decide_eq_true (List.mem_map.mpr ⟨p, hp, rfl⟩)⟩, rfl⟩
          subst ets
          have s10 := (s9.trans (same_new (o := SetO w sb (fun j => decide (j ∈ ((ps.filter fun (q : Nat × Int) => decide ((q.1 : Int) ∈ natI g)).map fun (q : Nat × Int) => q.2))) n2) hb)).trans (same_new (p := L2) (o := .lst ((thgR rows g).map V.int)) hL2)
          have s610 := s8.trans s10
          have h10F := s610 _ _ h6
          refine ⟨_, rfl, .inl ⟨rfl, _, SqL.of h10F⟩, _, rfl, _, rfl, L2, _, rfl, .inl ⟨SqL.of upd_same, fun d hd => ⟨by show 2 ≤ sizeLine; decide, fun c hc => ?_⟩⟩⟩
          have s11 := same_new (o := .tup ((thgR rows g).map V.int)) hd
          have s12' := same_new (o := .tup [V.ref oa, V.ref d]) hc
          have s1012 := s11.trans s12'
          refine ⟨F0, us, _, rfl, rfl, s1012 _ _ h10F, small_lt (by omega), ?_⟩
          refine ⟨_, _, _, _, _, _, rfl, upd_same, ?_, (g6.trans (Gr.of (s610.trans s1012))).trans Gr.put, ?_⟩
          · rw [List.take_add_one, hx, List.map_append]
            refine (PrsT.snoc (R := [natI (Mt.clsN N x), thgR rows (Mt.clsN N x)]) ?_ (hu.same (s610.trans s1012))).put (s1012 _ _ h10F)
            rw [← eg]
            exact ⟨c, _, rfl, SqT.of upd_same, .cons (sqT_same (s10.trans s1012) ha8) (.cons (sqT_same s12' (SqT.of upd_same)) .nil)⟩
          · exact same_mut (s6.trans (s610.trans s1012)) hF0
      · rintro σ' H6 ⟨x3, x4, x8, x9, x10, us, rfl, h6, hu, g6, s6⟩
        rw [List.length_map, List.take_length] at hu
        obtain ⟨bs, b1, b2, b3⟩ := prsT_zip (f := fun x => natI (Mt.clsN N x)) (g := fun x => thgR rows (Mt.clsN N x)) hu
        subst b1
        refine ⟨_, rfl, F0, bs, rfl, SqL.of h6, b3, fun os p pm up hp => ?_⟩
        obtain ⟨xs, p1, p2⟩ := perm_map_ex (f := fun x => (natI (Mt.clsN N x), thgR rows (Mt.clsN N x))) (l := ks) (pm.map fun b => b.2) b2
        have s7 := same_new (o := .lst (os.map fun b => V.ref b.1)) hp
        have GG := hNT.groupsOf (xs := xs) (p1.symm.nodup knd) fun x => p1.mem_iff.trans (kmem x)
        have eo : os.map (fun b => b.2.1) = (xs.map (Mt.clsN N)).map natI := by
          have := congrArg (List.map fun z : List Int × List Int => z.1) p2
          rw [List.map_map, List.map_map] at this
          rw [List.map_map]
          exact this.symm
        refine k (xs.map (Mt.clsN N)) p _ _ GG (by rw [← eo]; exact up) ((s03.trans s6).trans s7) ((s03.trans s6).free hp) upd_same ?_
        have er : (xs.map (Mt.clsN N)).map (pieceR rows) = os.map fun b => [b.2.1, b.2.2] := by
          have := congrArg (List.map fun z : List Int × List Int => [z.1, z.2]) p2
          rw [List.map_map, List.map_map] at this
          rw [List.map_map]
          exact this
        rw [er]
        exact prsT_of fun b hb => (b3 b (pm.mem_iff.mp hb)).same s7
end
end Fo

set_option maxRecDepth 100000
/-! dealings of parts put together -/
namespace Mt
theorem row_app_l {A B : Rows} {p : Nat} (h : p < A.length) : row (A ++ B) p = row A p := by
  rw [row_get (r := A[p]) (by rw [List.getElem?_append_left h, List.getElem?_eq_getElem h]), row_get (r := A[p]) (List.getElem?_eq_getElem h)]
theorem row_app_r {A B : Rows} {p : Nat} (h : p < B.length) : row (A ++ B) (A.length + p) = row B p := by
  rw [row_get (r := B[p]) (by rw [List.getElem?_append_right (by omega), Nat.add_sub_cancel_left, List.getElem?_eq_getElem h]), row_get (r := B[p]) (List.getElem?_eq_getElem h)]
theorem ds_app {A B : Rows} (apart : ∀ p q t, t ∈ row A p → t ∈ row B q → False) {E : List Int} : Ds (A ++ B) E ↔ ∃ E1 E2, E = E1 ++ E2 ∧ Ds A E1 ∧ Ds B E2 := by
  constructor
  · intro d
    have hl := d.len
    rw [List.length_append] at hl
    have l1 : (E.take A.length).length = A.length := by rw [List.length_take]; omega
    refine ⟨E.take A.length, E.drop A.length, (List.take_append_drop _ _).symm, ⟨l1, fun p t h => ?_, d.nd.sublist (List.take_sublist _ _)⟩, ⟨by rw [List.length_drop]; omega, fun p t h => ?_, d.nd.sublist (List.drop_sublist _ _)⟩⟩
    · have pl : p < A.length := by rw [← l1]; exact (List.getElem?_eq_some_iff.mp h).1
      rw [List.getElem?_take_of_lt pl] at h
      rw [← row_app_l (B := B) pl]
      exact d.tie p t h
    · have pl : p < B.length := by have := (List.getElem?_eq_some_iff.mp h).1; rw [List.length_drop] at this; omega
      rw [List.getElem?_drop] at h
      rw [← row_app_r (A := A) pl]
      exact d.tie _ t h
  · rintro ⟨E1, E2, rfl, d1, d2⟩
    refine ⟨by rw [List.length_append, List.length_append, d1.len, d2.len], fun p t h => ?_, List.nodup_append.mpr ⟨d1.nd, d2.nd, fun a ha b hb e => ?_⟩⟩
    · by_cases c : p < A.length
      · rw [List.getElem?_append_left (by rw [d1.len]; exact c)] at h
        rw [row_app_l c]
        exact d1.tie p t h
      · rw [List.getElem?_append_right (by rw [d1.len]; omega), d1.len] at h
        have pb : p - A.length < B.length := by rw [← d2.len]; exact (List.getElem?_eq_some_iff.mp h).1
        have := row_app_r (A := A) pb
        rw [show A.length + (p - A.length) = p by omega] at this
        rw [this]
        exact d2.tie _ t h
    · subst e
      obtain ⟨i, hi⟩ := List.getElem?_of_mem ha
      obtain ⟨j, hj⟩ := List.getElem?_of_mem hb
      exact apart i j a (d1.tie i a hi) (d2.tie j a hj)
/-- a person's thing, of things that stand by people P -/
def atP (P : List Nat) (E : List Int) (p : Nat) : Int := E.getD (P.idxOf p) 0
def toD (n : Nat) (P : List Nat) (E : List Int) : List Int := (List.range n).map (atP P E)
theorem atP_get {P : List Nat} (nd : P.Nodup) {E : List Int} (h : E.length = P.length) {k p : Nat} (hk : P[k]? = some p) : E[k]? = some (atP P E p) := by
  obtain ⟨kl, e⟩ := List.getElem?_eq_some_iff.mp hk
  subst e
  unfold atP
  rw [List.Nodup.idxOf_getElem nd k kl, List.getD_eq_getElem?_getD, List.getElem?_eq_getElem (by omega)]
  rfl
theorem toD_get {n : Nat} {P : List Nat} {E : List Int} {p : Nat} (h : p < n) : (toD n P E)[p]? = some (atP P E p) := by
  unfold toD
  rw [List.getElem?_map, List.getElem?_range h]
  rfl
theorem toD_len {n : Nat} {P : List Nat} {E : List Int} : (toD n P E).length = n := by
  unfold toD
  rw [List.length_map, List.length_range]
theorem zip_pairs {P : List Nat} (nd : P.Nodup) {E : List Int} (h : E.length = P.length) : (P.zip E).map (fun (q : Nat × Int) => [(q.1 : Int), q.2]) = P.map fun (p : Nat) => [(p : Int), atP P E p] := by
  refine List.ext_getElem (by rw [List.length_map, List.length_map, List.length_zip]; omega) fun k h1 h2 => ?_
  rw [List.length_map] at h2
  have := atP_get nd h (List.getElem?_eq_getElem h2)
  rw [List.getElem?_eq_getElem (by omega)] at this
  rw [List.getElem_map, List.getElem_map, List.getElem_zip]
  show [((P[k] : Nat) : Int), E[k]] = _
  rw [Option.some.inj this]
theorem row_mapP {L : Rows} {P : List Nat} {k p : Nat} (h : P[k]? = some p) : row (P.map (row L)) k = row L p := row_get (by rw [List.getElem?_map, h]; rfl)
theorem toD_ds {L : Rows} {P : List Nat} (hP : P.Perm (List.range L.length)) {E : List Int} (d : Ds (P.map (row L)) E) : Ds L (toD L.length P E) := by
  have nd : P.Nodup := hP.nodup_iff.mpr List.nodup_range
  have hl := d.len
  rw [List.length_map] at hl
  have ix : ∀ p, p < L.length → ∃ k, P[k]? = some p := fun p hp => List.getElem?_of_mem (hP.mem_iff.mpr (List.mem_range.mpr hp))
  refine ⟨toD_len, fun p t h => ?_, ?_⟩
  · have pl : p < L.length := by have := (List.getElem?_eq_some_iff.mp h).1; rwa [toD_len] at this
    rw [toD_get pl] at h
    obtain ⟨k, hk⟩ := ix p pl
    have := d.tie k _ (atP_get nd hl hk)
    rw [row_mapP hk] at this
    rw [← Option.some.inj h]
    exact this
  · unfold toD
    refine nodup_map List.nodup_range fun p hp q hq e => ?_
    obtain ⟨k, hk⟩ := ix p (List.mem_range.mp hp)
    obtain ⟨j, hj⟩ := ix q (List.mem_range.mp hq)
    have e1 := atP_get nd hl hk
    have e2 := atP_get nd hl hj
    rw [e] at e1
    have kl : k < E.length := (List.getElem?_eq_some_iff.mp e1).1
    have jl : j < E.length := (List.getElem?_eq_some_iff.mp e2).1
    have : k = j := (List.getElem_inj d.nd).mp (Option.some.inj ((List.getElem?_eq_getElem kl).symm.trans (e1.trans (e2.symm.trans (List.getElem?_eq_getElem jl)))))
    subst this
    rw [hk] at hj
    exact Option.some.inj hj
theorem toD_inj {n : Nat} {P : List Nat} (hP : P.Perm (List.range n)) {E F : List Int} (h1 : E.length = P.length) (h2 : F.length = P.length) (e : toD n P E = toD n P F) : E = F := by
  have nd : P.Nodup := hP.nodup_iff.mpr List.nodup_range
  refine List.ext_getElem? fun k => ?_
  by_cases kl : k < P.length
  · have hk := List.getElem?_eq_getElem kl
    have pl : P[k] < n := List.mem_range.mp (hP.mem_iff.mp (List.getElem_mem kl))
    rw [atP_get nd h1 hk, atP_get nd h2 hk, ← toD_get pl, ← toD_get pl, e]
  · rw [List.getElem?_eq_none (by omega), List.getElem?_eq_none (by omega)]
theorem toD_surj {L : Rows} {P : List Nat} (hP : P.Perm (List.range L.length)) {D : List Int} (d : Ds L D) : ∃ E, Ds (P.map (row L)) E ∧ toD L.length P E = D := by
  have nd : P.Nodup := hP.nodup_iff.mpr List.nodup_range
  have pl : ∀ p ∈ P, p < L.length := fun p hp => List.mem_range.mp (hP.mem_iff.mp hp)
  have dg : ∀ p, p < L.length → D[p]? = some (D.getD p 0) := fun p hp => by
    rw [List.getD_eq_getElem?_getD, List.getElem?_eq_getElem (by rw [d.len]; exact hp)]
    rfl
  have hl : (P.map fun p => D.getD p 0).length = P.length := List.length_map _
  refine ⟨P.map fun p => D.getD p 0, ⟨by rw [List.length_map, List.length_map], fun k t h => ?_, nodup_map nd fun p hp q hq e => ?_⟩, List.ext_getElem? fun p => ?_⟩
  · rw [List.getElem?_map] at h
    cases hk : P[k]? with
    | none => rw [hk] at h; cases h
    | some p =>
      rw [hk] at h
      rw [row_mapP hk, ← Option.some.inj h]
      exact d.tie p _ (dg p (pl p (List.mem_of_getElem? hk)))
  · have e1 := dg p (pl p hp)
    have e2 := dg q (pl q hq)
    have e : D.getD p 0 = D.getD q 0 := e
    rw [e] at e1
    have p1 : p < D.length := (List.getElem?_eq_some_iff.mp e1).1
    have q1 : q < D.length := (List.getElem?_eq_some_iff.mp e2).1
    exact (List.getElem_inj d.nd).mp (Option.some.inj ((List.getElem?_eq_getElem p1).symm.trans (e1.trans (e2.symm.trans (List.getElem?_eq_getElem q1)))))
  · by_cases c : p < L.length
    · obtain ⟨k, hk⟩ := List.getElem?_of_mem (hP.mem_iff.mpr (List.mem_range.mpr c))
      rw [toD_get c, ← atP_get nd hl hk, List.getElem?_map, hk, dg p c]
      rfl
    · rw [List.getElem?_eq_none (by rw [toD_len]; omega), List.getElem?_eq_none (by rw [d.len]; omega)]
/-- rows whose dealings are listed by choosing -/
structure DgOk (R : Rows) : Prop where
  num : R.length ≤ 6
  row : ∀ r ∈ R, r.length ≤ 6
  asc : ∀ r ∈ R, r.Pairwise (· < ·)
  few : Few R
  live : ∀ p, ∀ t ∈ Mt.row R p, Live R p t
  ex : ∃ D, Ds R D
theorem flat_le : ∀ {A B : Rows}, A.length = B.length → (∀ i, (row A i).length ≤ (row B i).length) → A.flatten.length ≤ B.flatten.length
  | [], [], _, _ => Nat.le_refl _
  | [], _ :: _, h, _ => by cases h
  | _ :: _, [], h, _ => by cases h
  | a :: A, b :: B, h, le => by
    have h0 : a.length ≤ b.length := le 0
    have := flat_le (A := A) (B := B) (Nat.succ.inj h) fun i => le (i + 1)
    rw [List.flatten_cons, List.flatten_cons, List.length_append, List.length_append]
    omega
theorem flat_lt : ∀ {A B : Rows} {p : Nat}, A.length = B.length → (∀ i, (row A i).length ≤ (row B i).length) → (row A p).length < (row B p).length → A.flatten.length < B.flatten.length
  | [], [], p, _, _, lt => absurd lt (by show ¬ (row [] p).length < (row [] p).length; omega)
  | [], _ :: _, _, h, _, _ => by cases h
  | _ :: _, [], _, h, _, _ => by cases h
  | a :: A, b :: B, 0, h, le, lt => by
    have h0 : a.length < b.length := lt
    have := flat_le (A := A) (B := B) (Nat.succ.inj h) fun i => le (i + 1)
    rw [List.flatten_cons, List.flatten_cons, List.length_append, List.length_append]
    omega
  | a :: A, b :: B, p + 1, h, le, lt => by
    have h0 : a.length ≤ b.length := le 0
    have := flat_lt (A := A) (B := B) (p := p) (Nat.succ.inj h) (fun i => le (i + 1)) lt
    rw [List.flatten_cons, List.flatten_cons, List.length_append, List.length_append]
    omega
theorem row_len {R : Rows} {n : Nat} (h : ∀ r ∈ R, r.length ≤ n) (p : Nat) : (row R p).length ≤ n := by
  by_cases c : p < R.length
  · rw [row_get (List.getElem?_eq_getElem c)]
    exact h _ (List.getElem_mem c)
  · have : row R p = [] := by
      refine List.eq_nil_iff_forall_not_mem.mpr fun t ht => c (row_lt ht)
    rw [this]
    exact Nat.zero_le _
theorem row_live_le {R : Rows} (p : Nat) : (row (liveR R) p).length ≤ (row R p).length := by
  rw [row_liveR]
  exact List.length_filter_le _ _
theorem row_narrow_le {R : Rows} {p : Nat} {t : Int} (ht : t ∈ row R p) (x : Nat) : (row (narrow R p t) x).length ≤ (row R x).length := by
  by_cases c : x < R.length
  · rw [row_narrow c]
    split
    · rename_i e
      rw [e]
      exact List.length_pos_of_mem ht
    · exact List.length_filter_le _ _
  · have : row (narrow R p t) x = [] := List.eq_nil_iff_forall_not_mem.mpr fun t ht => c (by have := row_lt ht; rwa [narrow_len] at this)
    rw [this]
    exact Nat.zero_le _
theorem rows_le {R : Rows} {n : Nat} (h : ∀ p, (row R p).length ≤ n) : ∀ r ∈ R, r.length ≤ n := fun r hr => by
  obtain ⟨i, hi⟩ := List.getElem?_of_mem hr
  have := h i
  rwa [row_get hi] at this
theorem step_ds {R : Rows} {p : Nat} {t : Int} (ht : t ∈ row R p) {D : List Int} : Ds (liveR (narrow R p t)) D ↔ Ds R D ∧ D[p]? = some t := by
  rw [ds_liveR]
  exact ds_narrow (row_lt ht) ht
theorem few_live' {R : Rows} (h : Few R) : Few (liveR R) := by
  obtain ⟨U, h1, h2⟩ := h
  refine ⟨U, by rw [liveR_len]; exact h1, fun p t ht => h2 p t ?_⟩
  rw [row_liveR] at ht
  exact (List.mem_filter.mp ht).1
theorem few_narrow {R : Rows} (h : Few R) {p : Nat} {t : Int} (ht : t ∈ row R p) : Few (narrow R p t) := by
  obtain ⟨U, h1, h2⟩ := h
  refine ⟨U, by rw [narrow_len]; exact h1, fun x s hs => ?_⟩
  have hx : x < R.length := by have := row_lt hs; rwa [narrow_len] at this
  rcases (mem_narrow hx).mp hs with ⟨_, e⟩ | ⟨_, q, _⟩
  · rw [e]; exact h2 p t ht
  · exact h2 x s q
theorem asc_narrow {R : Rows} (h : ∀ r ∈ R, r.Pairwise (· < ·)) {p : Nat} {t : Int} : ∀ r ∈ narrow R p t, r.Pairwise (· < ·) := fun r hr => by
  obtain ⟨x, hx⟩ := List.getElem?_of_mem hr
  rw [narrow_get] at hx
  cases e : R[x]? with
  | none => rw [e] at hx; cases hx
  | some q =>
    rw [e] at hx
    have hx : (if x = p then [t] else q.filter fun s => decide (s ≠ t)) = r := Option.some.inj hx
    rw [← hx]
    split
    · exact List.pairwise_singleton _ _
    · exact (h q (List.mem_of_getElem? e)).filter _
theorem DgOk.step {R : Rows} (h : DgOk R) {p : Nat} {t : Int} (ht : t ∈ Mt.row R p) : DgOk (liveR (narrow R p t)) where
  num := by rw [liveR_len, narrow_len]; exact h.num
  row := rows_le fun x => Nat.le_trans (row_live_le x) (Nat.le_trans (row_narrow_le ht x) (row_len h.row x))
  asc := liveR_asc (asc_narrow h.asc)
  few := few_live' (few_narrow h.few ht)
  live := fun x s hs => by
    obtain ⟨D, d, e⟩ := mem_liveR.mp hs
    exact ⟨D, ds_liveR.mpr d, e⟩
  ex := by
    obtain ⟨D, d, e⟩ := h.live p t ht
    exact ⟨D, (step_ds ht).mpr ⟨d, e⟩⟩
theorem DgOk.less {R : Rows} {p : Nat} {t : Int} (ht : t ∈ Mt.row R p) (h1 : 1 < (Mt.row R p).length) : (liveR (narrow R p t)).flatten.length < R.flatten.length := by
  refine flat_lt (p := p) (by rw [liveR_len, narrow_len]) (fun x => Nat.le_trans (row_live_le x) (row_narrow_le ht x)) ?_
  refine Nat.lt_of_le_of_lt (row_live_le p) ?_
  rw [row_narrow (row_lt ht), if_pos rfl]
  exact h1
theorem ds_sub {L : Rows} {g : List Nat} (nd : g.Nodup) (lt : ∀ p ∈ g, p < L.length) {D : List Int} (d : Ds L D) : Ds (g.map (row L)) (g.map fun p => D.getD p 0) := by
  have dg : ∀ p, p < L.length → D[p]? = some (D.getD p 0) := fun p hp => by
    rw [List.getD_eq_getElem?_getD, List.getElem?_eq_getElem (by rw [d.len]; exact hp)]
    rfl
  refine ⟨by rw [List.length_map, List.length_map], fun k t h => ?_, nodup_map nd fun p hp q hq e => ?_⟩
  · rw [List.getElem?_map] at h
    cases hk : g[k]? with
    | none => rw [hk] at h; cases h
    | some p =>
      rw [hk] at h
      rw [row_mapP hk, ← Option.some.inj h]
      exact d.tie p _ (dg p (lt p (List.mem_of_getElem? hk)))
  · have e1 := dg p (lt p hp)
    have e2 := dg q (lt q hq)
    have e : D.getD p 0 = D.getD q 0 := e
    rw [e] at e1
    have p1 : p < D.length := (List.getElem?_eq_some_iff.mp e1).1
    have q1 : q < D.length := (List.getElem?_eq_some_iff.mp e2).1
    exact (List.getElem_inj d.nd).mp (Option.some.inj ((List.getElem?_eq_getElem p1).symm.trans (e1.trans (e2.symm.trans (List.getElem?_eq_getElem q1)))))
theorem DgOk.grp {rows : Rows} (asc : ∀ r ∈ rows, r.Pairwise (· < ·)) (few : Few rows) (hn : rows.length ≤ 6) (hr : ∀ r ∈ rows, r.length ≤ 6) {D0 : List Int} (d0 : Ds rows D0) {G : List (List Nat)} (hG : Groups (liveR rows) G) {g : List Nat} (hg : g ∈ G) : DgOk (g.map (Mt.row (liveR rows))) where
  num := by rw [List.length_map]; have := hG.len hg; rw [liveR_len] at this; omega
  row := fun r h => by
    obtain ⟨p, _, rfl⟩ := List.mem_map.mp h
    exact Nat.le_trans (row_live_le p) (row_len hr p)
  asc := fun r h => by
    obtain ⟨p, hp, rfl⟩ := List.mem_map.mp h
    have hl := hG.lt hg hp
    rw [row_get (List.getElem?_eq_getElem hl)]
    exact liveR_asc asc _ (List.getElem_mem hl)
  few := by
    obtain ⟨T, t1, t2⟩ := nodup_ex (things (g.map (Mt.row (liveR rows))))
    refine ⟨T, ?_, fun p t ht => (t2 t).mpr ?_⟩
    · rw [List.length_map]
      refine Nat.le_of_eq (hG.things (few_live' few) (ds_liveR.mpr d0) hg t1 fun t => (t2 t).trans ?_)
      show t ∈ (g.map (Mt.row (liveR rows))).flatten ↔ _
      rw [List.mem_flatten]
      exact ⟨fun ⟨r, hr, h⟩ => by obtain ⟨p, hp, rfl⟩ := List.mem_map.mp hr; exact ⟨p, hp, h⟩, fun ⟨p, hp, h⟩ => ⟨_, List.mem_map.mpr ⟨p, hp, rfl⟩, h⟩⟩
    · show t ∈ (g.map (Mt.row (liveR rows))).flatten
      have pl := row_lt ht
      rw [row_get (List.getElem?_eq_getElem pl)] at ht
      exact List.mem_flatten.mpr ⟨_, List.getElem_mem pl, ht⟩
  live := fun k t ht => by
    have kl := row_lt ht
    rw [List.length_map] at kl
    have hk := List.getElem?_eq_getElem kl
    rw [row_mapP hk] at ht
    obtain ⟨D, d, e⟩ := mem_liveR.mp ht
    refine ⟨_, ds_sub (hG.nd hg) (fun p hp => hG.lt hg hp) (ds_liveR.mpr d), ?_⟩
    rw [List.getElem?_map, hk]
    show some (D.getD g[k] 0) = _
    rw [List.getD_eq_getElem?_getD, e]
    rfl
  ex := ⟨_, ds_sub (hG.nd hg) (fun p hp => hG.lt hg hp) (ds_liveR.mpr d0)⟩
theorem Groups.before {L : Rows} {G : List (List Nat)} (h : Groups L G) {i : Nat} {g : List Nat} (hg : G[i]? = some g) : ∀ p ∈ (G.take i).flatten, ∀ q ∈ g, ¬ Tied L p q := fun p hp q hq => by
  obtain ⟨a, ha, hpa⟩ := List.mem_flatten.mp hp
  obtain ⟨j, hj⟩ := List.getElem?_of_mem ha
  have jl : j < i := by have := (List.getElem?_eq_some_iff.mp hj).1; rw [List.length_take] at this; omega
  rw [List.getElem?_take_of_lt jl] at hj
  obtain ⟨il, e2⟩ := List.getElem?_eq_some_iff.mp hg
  obtain ⟨jl2, e1⟩ := List.getElem?_eq_some_iff.mp hj
  have := List.pairwise_iff_getElem.mp h.apart j i jl2 il jl
  rw [e1, e2] at this
  exact this p hpa q hq
/-- the dealings of the first parts, and of one part more -/
theorem ds_more {L : Rows} {G : List (List Nat)} (h : Groups L G) {i : Nat} {g : List Nat} (hg : G[i]? = some g) {E : List Int} : Ds (((G.take (i + 1)).flatten).map (row L)) E ↔ ∃ E1 E2, E = E1 ++ E2 ∧ Ds (((G.take i).flatten).map (row L)) E1 ∧ Ds (g.map (row L)) E2 := by
  have e : (G.take (i + 1)).flatten = (G.take i).flatten ++ g := by
    rw [List.take_add_one, hg, List.flatten_append]
    show _ ++ [g].flatten = _
    rw [List.flatten_singleton]
  rw [e, List.map_append]
  refine ds_app fun p q t h1 h2 => ?_
  have p1 := row_lt h1
  have q1 := row_lt h2
  rw [List.length_map] at p1 q1
  have hp := List.getElem?_eq_getElem p1
  have hq := List.getElem?_eq_getElem q1
  rw [row_mapP hp] at h1
  rw [row_mapP hq] at h2
  exact h.before hg _ (List.getElem_mem p1) _ (List.getElem_mem q1) ⟨t, h1, h2⟩
end Mt

set_option maxRecDepth 100000
set_option maxHeartbeats 4000000
/-! After how many draws a dealing is told. -/
namespace Mt
def agree (tn : List Nat) (D E : List Int) : Prop := ∀ p ∈ tn, E[p]? = D[p]?
structure ToldIs (rows : Rows) (tn : List Nat) (D : List Int) (T : Nat) : Prop where
  le : T ≤ tn.length
  one : ∀ E, Ds rows E → agree (tn.take T) D E → E = D
  more : ∀ m, m < T → ∃ E, Ds rows E ∧ agree (tn.take m) D E ∧ E ≠ D
theorem ToldIs.uniq {rows : Rows} {tn : List Nat} {D : List Int} {T U : Nat} (a : ToldIs rows tn D T) (b : ToldIs rows tn D U) : T = U := by
  rcases Nat.lt_trichotomy T U with h | h | h
  · obtain ⟨E, d, g, n⟩ := b.more T h
    exact absurd (a.one E d g) n
  · exact h
  · obtain ⟨E, d, g, n⟩ := a.more U h
    exact absurd (b.one E d g) n
structure TldI (rows : Rows) (tn : List Nat) (D : List Int) (k t : Nat) (R : Rows) : Prop where
  good : Fo.Good R
  len : R.length = rows.length
  live : ∀ p, ∀ t ∈ row R p, Live R p t
  ds : ∀ E, Ds R E ↔ Ds rows E ∧ agree (tn.take k) D E
  back : ∀ E, Ds rows E → agree (tn.take t) D E → agree (tn.take k) D E
  more : ∀ m, m < t → ∃ E, Ds rows E ∧ agree (tn.take m) D E ∧ E ≠ D
  le : t ≤ k
  kl : k ≤ tn.length
theorem agree_take {tn : List Nat} {D E : List Int} {m k : Nat} (h : agree (tn.take k) D E) (hm : m ≤ k) : agree (tn.take m) D E := fun p hp => h p (by
  have : tn.take m = (tn.take k).take m := by rw [List.take_take, Nat.min_eq_left hm]
  rw [this] at hp
  exact List.mem_of_mem_take hp)
theorem agree_succ {tn : List Nat} {D E : List Int} {k p : Nat} (hp : tn[k]? = some p) : agree (tn.take (k + 1)) D E ↔ agree (tn.take k) D E ∧ E[p]? = D[p]? := by
  rw [List.take_add_one, hp]
  constructor
  · intro h
    exact ⟨fun q hq => h q (List.mem_append_left _ hq), h p (List.mem_append_right _ (List.mem_singleton.mpr rfl))⟩
  · rintro ⟨h1, h2⟩ q hq
    rcases List.mem_append.mp hq with h | h
    · exact h1 q h
    · rw [Option.toList_some, List.mem_singleton] at h
      rw [h]
      exact h2
theorem TldI.init {rows : Rows} {tn : List Nat} {D : List Int} (G : Fo.Good rows) : TldI rows tn D 0 0 (liveR rows) where
  good := G.live
  len := liveR_len
  live := fun p t ht => by
    obtain ⟨E, d, e⟩ := mem_liveR.mp ht
    exact ⟨E, ds_liveR.mpr d, e⟩
  ds := fun E => by
    rw [ds_liveR]
    exact ⟨fun h => ⟨h, fun p hp => (by simp at hp)⟩, fun h => h.1⟩
  back := fun _ _ h => h
  more := fun m h => absurd h (Nat.not_lt_zero m)
  le := Nat.le_refl 0
  kl := Nat.zero_le _
theorem TldI.yes {rows : Rows} {tn : List Nat} {D : List Int} {k t p : Nat} {R : Rows} (I : TldI rows tn D k t R) (hp : tn[k]? = some p) {x : Int} (hx : D[p]? = some x) (hD : Ds R D) (h1 : 1 < (row R p).length) : TldI rows tn D (k + 1) (k + 1) (liveR (narrow R p x)) := by
  have xr : x ∈ row R p := hD.tie p x hx
  refine ⟨(I.good.narrow xr).live, by rw [liveR_len, narrow_len, I.len], fun q s hs => ?_, fun E => ?_, fun _ _ h => h, fun m hm => ?_, Nat.le_refl _, ?_⟩
  · obtain ⟨E, d, e⟩ := mem_liveR.mp hs
    exact ⟨E, ds_liveR.mpr d, e⟩
  · rw [step_ds xr, I.ds E, agree_succ hp, hx]
    exact ⟨fun h => ⟨h.1.1, h.1.2, h.2⟩, fun h => ⟨⟨h.1, h.2.1⟩, h.2.2⟩⟩
  · obtain ⟨y, hy, ne⟩ : ∃ y ∈ row R p, y ≠ x := by
      refine Classical.byContradiction fun z => ?_
      have all : ∀ y ∈ row R p, y = x := fun y hy => Classical.byContradiction fun n => z ⟨y, hy, n⟩
      have nd : (row R p).Nodup := by
        have hl := row_lt xr
        have hr : row R p = R[p] := row_get (List.getElem?_eq_getElem hl)
        rw [hr]
        exact (I.good.asc _ (List.getElem_mem hl)).imp fun h e => by omega
      have := len_le (l2 := [x]) nd fun y hy => List.mem_singleton.mpr (all y hy)
      simp at this
      omega
    obtain ⟨E, d, e⟩ := I.live p y hy
    have := (I.ds E).mp d
    refine ⟨E, this.1, agree_take this.2 (Nat.le_of_lt_succ hm), fun z => ne ?_⟩
    rw [z, hx] at e
    exact (Option.some.inj e).symm
  · have := (List.getElem?_eq_some_iff.mp hp).1
    omega
theorem TldI.no {rows : Rows} {tn : List Nat} {D : List Int} {k t p : Nat} {R : Rows} (I : TldI rows tn D k t R) (hp : tn[k]? = some p) {x : Int} (hx : D[p]? = some x) (hD : Ds R D) (h1 : ¬ 1 < (row R p).length) : TldI rows tn D (k + 1) t R := by
  have xr : x ∈ row R p := hD.tie p x hx
  have same : ∀ E, Ds R E → E[p]? = some x := fun E d => by
    have hl : p < R.length := row_lt xr
    obtain ⟨y, hy, hm⟩ := d.get hl
    rw [hy]
    cases q : row R p with
    | nil => rw [q] at xr; cases xr
    | cons a r =>
      rw [q] at h1 xr hm
      have : r = [] := List.eq_nil_of_length_eq_zero (by rw [List.length_cons] at h1; omega)
      rw [this, List.mem_singleton] at xr hm
      rw [xr, hm]
  refine ⟨I.good, I.len, I.live, fun E => ?_, fun E d h => ?_, I.more, Nat.le_succ_of_le I.le, ?_⟩
  · rw [agree_succ hp, hx]
    constructor
    · intro d
      have := (I.ds E).mp d
      exact ⟨this.1, this.2, same E d⟩
    · rintro ⟨d, h, _⟩
      exact (I.ds E).mpr ⟨d, h⟩
  · have b := I.back E d h
    rw [agree_succ hp, hx]
    exact ⟨b, same E ((I.ds E).mpr ⟨d, b⟩)⟩
  · have := (List.getElem?_eq_some_iff.mp hp).1
    omega
theorem TldI.fin {rows : Rows} {tn : List Nat} {D : List Int} {t : Nat} {R : Rows} (I : TldI rows tn D tn.length t R) (all : ∀ p, p < rows.length → p ∈ tn) (d : Ds rows D) : ToldIs rows tn D t := by
  refine ⟨I.le, fun E e h => ?_, I.more⟩
  have b := I.back E e h
  rw [List.take_of_length_le (Nat.le_refl _)] at b
  refine List.ext_getElem? fun p => ?_
  by_cases c : p < rows.length
  · exact b p (all p c)
  · rw [List.getElem?_eq_none (by rw [e.len]; omega), List.getElem?_eq_none (by rw [d.len]; omega)]
end Mt

set_option maxRecDepth 100000
set_option maxHeartbeats 4000000
/-! Rows in the order of a turn, behind the first draws. -/
namespace Mt
/-- the rows behind j draws along D -/
def bh (R : Rows) (D : List Int) (j : Nat) : Rows := (R.drop j).map fun r => r.filter fun z => !decide (z ∈ D.take j)
theorem bh_zero {R : Rows} {D : List Int} : bh R D 0 = R := by
  unfold bh
  rw [List.drop_zero, List.take_zero]
  refine List.map_id'' (fun r => ?_) R
  refine List.filter_eq_self.mpr fun z _ => ?_
  rw [decide_eq_false (List.not_mem_nil)]
  rfl
theorem bh_len {R : Rows} {D : List Int} {j : Nat} : (bh R D j).length = R.length - j := by
  unfold bh
  rw [List.length_map, List.length_drop]
theorem row_bh {R : Rows} {D : List Int} {j i : Nat} : row (bh R D j) i = (row R (j + i)).filter fun z => !decide (z ∈ D.take j) := by
  unfold row bh
  rw [List.getElem?_map, List.getElem?_drop]
  cases R[j + i]? with
  | none => rfl
  | some r => rfl
theorem mem_bh {R : Rows} {D : List Int} {j i : Nat} {t : Int} : t ∈ row (bh R D j) i ↔ t ∈ row R (j + i) ∧ t ∉ D.take j := by
  rw [row_bh, List.mem_filter]
  refine and_congr_right fun _ => ?_
  by_cases h : t ∈ D.take j
  · rw [decide_eq_true h]
    exact ⟨fun z => (by cases z), fun z => absurd h z⟩
  · rw [decide_eq_false h]
    exact ⟨fun _ => h, fun _ => rfl⟩
theorem bh_succ {R : Rows} {D : List Int} {j : Nat} {t : Int} (h : D[j]? = some t) : ((bh R D j).drop 1).map (fun r => r.filter fun z => !decide (z = t)) = bh R D (j + 1) := by
  unfold bh
  rw [← List.map_drop, List.drop_drop, List.map_map]
  refine List.map_congr_left fun r _ => ?_
  show (r.filter _).filter _ = _
  rw [List.filter_filter]
  refine List.filter_congr fun z _ => ?_
  rw [List.take_add_one, h]
  show (!decide (z = t) && !decide (z ∈ D.take j)) = !decide (z ∈ D.take j ++ [t])
  by_cases a : z = t
  · rw [decide_eq_true a, decide_eq_true (List.mem_append_right _ (List.mem_singleton.mpr a))]
    rfl
  · by_cases b : z ∈ D.take j
    · rw [decide_eq_false a, decide_eq_true b, decide_eq_true (List.mem_append_left _ b)]
      rfl
    · rw [decide_eq_false a, decide_eq_false b, decide_eq_false (p := z ∈ D.take j ++ [t]) fun h => (List.mem_append.mp h).elim b fun h => a (List.mem_singleton.mp h)]
      rfl
theorem ds_bh {R : Rows} {D F : List Int} {j : Nat} (hj : j ≤ R.length) (d : Ds R D) : Ds (bh R D j) F ↔ Ds R (D.take j ++ F) := by
  have tl : (D.take j).length = j := by rw [List.length_take, d.len]; omega
  constructor
  · intro h
    have fl := h.len
    rw [bh_len] at fl
    refine ⟨by rw [List.length_append, tl, fl]; omega, fun p t e => ?_, List.nodup_append.mpr ⟨d.nd.sublist (List.take_sublist _ _), h.nd, fun a ha b hb e => ?_⟩⟩
    · by_cases c : p < j
      · rw [List.getElem?_append_left (by omega), List.getElem?_take_of_lt c] at e
        exact d.tie p t e
      · rw [List.getElem?_append_right (by omega), tl] at e
        have := (mem_bh.mp (h.tie _ t e)).1
        rwa [show j + (p - j) = p by omega] at this
    · subst e
      obtain ⟨i, hi⟩ := List.getElem?_of_mem hb
      exact (mem_bh.mp (h.tie i a hi)).2 ha
  · intro h
    have fl := h.len
    rw [List.length_append, tl] at fl
    have nd := List.nodup_append.mp h.nd
    refine ⟨by rw [bh_len]; omega, fun p t e => mem_bh.mpr ⟨?_, fun hm => ?_⟩, nd.2.1⟩
    · refine h.tie (j + p) t ?_
      rw [List.getElem?_append_right (by omega), tl, show j + p - j = p by omega]
      exact e
    · exact nd.2.2 t hm t (List.mem_of_getElem? e) rfl
theorem live_bh {R : Rows} {D : List Int} {j : Nat} {t : Int} (hj : j < R.length) (d : Ds R D) : Live (bh R D j) 0 t ↔ ∃ E, Ds R E ∧ E.take j = D.take j ∧ E[j]? = some t := by
  have tl : (D.take j).length = j := by rw [List.length_take, d.len]; omega
  constructor
  · rintro ⟨F, h, e⟩
    refine ⟨_, (ds_bh (by omega) d).mp h, ?_, ?_⟩
    · rw [List.take_append_of_le_length (by omega), List.take_of_length_le (by omega)]
    · rw [List.getElem?_append_right (by omega), tl, Nat.sub_self]
      exact e
  · rintro ⟨E, h, e1, e2⟩
    refine ⟨E.drop j, (ds_bh (by omega) d).mpr ?_, ?_⟩
    · rw [← e1, List.take_append_drop]
      exact h
    · rw [List.getElem?_drop, Nat.add_zero]
      exact e2
theorem few_bh {R : Rows} {D : List Int} (j : Nat) (f : Few R) (d : Ds R D) : Few (bh R D j) := by
  obtain ⟨U, hl, hU⟩ := f
  refine ⟨D.drop j, by rw [bh_len, List.length_drop, d.len]; exact Nat.le_refl _, fun p t h => ?_⟩
  obtain ⟨h1, h2⟩ := mem_bh.mp h
  have := all_in d.nd (l2 := U) (fun x hx => by
    obtain ⟨i, hi⟩ := List.getElem?_of_mem hx
    exact hU i x (d.tie i x hi)) (by rw [d.len]; exact hl) t (hU _ t h1)
  rw [← List.take_append_drop j D] at this
  exact (List.mem_append.mp this).elim (fun z => absurd z h2) id
theorem ds_at {R : Rows} {D : List Int} (d : Ds R D) (j : Nat) (hj : j ≤ R.length) : Ds (bh R D j) (D.drop j) := (ds_bh hj d).mpr (by rw [List.take_append_drop]; exact d)
/-! in a turn -/
def tR (rows : Rows) (tn : List Nat) : Rows := tn.map (row rows)
def tD (D : List Int) (tn : List Nat) : List Int := tn.map fun p => D.getD p 0
theorem tR_len {rows : Rows} {tn : List Nat} : (tR rows tn).length = tn.length := List.length_map _
theorem tD_len {D : List Int} {tn : List Nat} : (tD D tn).length = tn.length := List.length_map _
theorem ds_getD {rows : Rows} {D : List Int} (d : Ds rows D) {p : Nat} (hp : p < rows.length) : D[p]? = some (D.getD p 0) := by
  rw [List.getD_eq_getElem?_getD, List.getElem?_eq_getElem (by rw [d.len]; exact hp)]
  rfl
structure Turn (rows : Rows) (tn : List Nat) : Prop where
  pm : tn.Perm (List.range rows.length)
theorem Turn.nd {rows : Rows} {tn : List Nat} (h : Turn rows tn) : tn.Nodup := h.pm.nodup_iff.mpr List.nodup_range
theorem Turn.lt {rows : Rows} {tn : List Nat} (h : Turn rows tn) {p : Nat} (hp : p ∈ tn) : p < rows.length := List.mem_range.mp (h.pm.mem_iff.mp hp)
theorem Turn.len {rows : Rows} {tn : List Nat} (h : Turn rows tn) : tn.length = rows.length := by rw [h.pm.length_eq, List.length_range]
theorem Turn.ds {rows : Rows} {tn : List Nat} (h : Turn rows tn) {D : List Int} (d : Ds rows D) : Ds (tR rows tn) (tD D tn) := ds_sub h.nd (fun _ hp => h.lt hp) d
theorem Turn.at_ {rows : Rows} {tn : List Nat} (h : Turn rows tn) {D : List Int} (d : Ds rows D) {j p : Nat} (hj : tn[j]? = some p) : (tD D tn)[j]? = D[p]? := by
  unfold tD
  rw [List.getElem?_map, hj, ds_getD d (h.lt (List.mem_of_getElem? hj))]
  rfl
theorem Turn.back {rows : Rows} {tn : List Nat} (h : Turn rows tn) {F : List Int} (d : Ds (tR rows tn) F) : ∃ E, Ds rows E ∧ tD E tn = F := by
  have fl : F.length = tn.length := by rw [d.len, tR_len]
  refine ⟨toD rows.length tn F, toD_ds h.pm d, List.ext_getElem? fun k => ?_⟩
  by_cases c : k < tn.length
  · have hk := List.getElem?_eq_getElem c
    rw [h.at_ (toD_ds h.pm d) hk, toD_get (h.lt (List.getElem_mem c)), atP_get h.nd fl hk]
  · rw [List.getElem?_eq_none (by rw [tD_len]; omega), List.getElem?_eq_none (by omega)]
theorem Turn.agree {rows : Rows} {tn : List Nat} (h : Turn rows tn) {D E : List Int} (d : Ds rows D) (e : Ds rows E) {j : Nat} (hj : j ≤ tn.length) : (tD E tn).take j = (tD D tn).take j ↔ agree (tn.take j) D E := by
  constructor
  · intro q p hp
    obtain ⟨i, hi⟩ := List.getElem?_of_mem hp
    have il : i < j := by have := (List.getElem?_eq_some_iff.mp hi).1; rw [List.length_take] at this; omega
    rw [List.getElem?_take_of_lt il] at hi
    have := congrArg (fun l => l[i]?) q
    rw [List.getElem?_take_of_lt il, List.getElem?_take_of_lt il, h.at_ e hi, h.at_ d hi] at this
    exact this
  · intro q
    refine List.ext_getElem? fun i => ?_
    by_cases c : i < j
    · have hi := List.getElem?_eq_getElem (l := tn) (i := i) (by omega)
      rw [List.getElem?_take_of_lt c, List.getElem?_take_of_lt c, h.at_ e hi, h.at_ d hi]
      exact q _ (List.mem_of_getElem? (by rw [List.getElem?_take_of_lt c]; exact hi))
    · rw [List.getElem?_eq_none (by rw [List.length_take]; omega), List.getElem?_eq_none (by rw [List.length_take]; omega)]
/-- the things that are open for the one who comes up: by the rows behind, and by the dealings -/
theorem Turn.open_iff {rows : Rows} {tn : List Nat} (h : Turn rows tn) {D : List Int} (d : Ds rows D) {j p : Nat} (hp : tn[j]? = some p) {t : Int} : t ∈ row (liveR (bh (tR rows tn) (tD D tn) j)) 0 ↔ ∃ E, Ds rows E ∧ Mt.agree (tn.take j) D E ∧ E[p]? = some t := by
  have jl := (List.getElem?_eq_some_iff.mp hp).1
  rw [mem_liveR, live_bh (by rw [tR_len]; exact jl) (h.ds d)]
  constructor
  · rintro ⟨F, h1, h2, h3⟩
    obtain ⟨E, e1, rfl⟩ := h.back h1
    exact ⟨E, e1, (h.agree d e1 (Nat.le_of_lt jl)).mp h2, by rw [← h.at_ e1 hp]; exact h3⟩
  · rintro ⟨E, e1, e2, e3⟩
    exact ⟨_, h.ds e1, (h.agree d e1 (Nat.le_of_lt jl)).mpr e2, by rw [h.at_ e1 hp]; exact e3⟩
theorem len_eq_of {α : Type} [DecidableEq α] {l m : List α} (a : l.Nodup) (b : m.Nodup) (h : ∀ x, x ∈ l ↔ x ∈ m) : l.length = m.length := Nat.le_antisymm (len_le a fun x hx => (h x).mp hx) (len_le b fun x hx => (h x).mpr hx)
theorem nd_live {R : Rows} (h : ∀ r ∈ R, r.Nodup) (p : Nat) : (row (liveR R) p).Nodup := by
  rw [row_liveR]
  refine List.Nodup.sublist List.filter_sublist ?_
  unfold row
  cases e : R[p]? with
  | none => exact List.nodup_nil
  | some r => exact h r (List.mem_of_getElem? e)
theorem nd_bh {R : Rows} {D : List Int} {j : Nat} (h : ∀ r ∈ R, r.Nodup) : ∀ r ∈ bh R D j, r.Nodup := fun r hr => by
  obtain ⟨s, hs, rfl⟩ := List.mem_map.mp hr
  exact List.Nodup.sublist List.filter_sublist (h s (List.mem_of_mem_drop hs))
theorem nd_tR {rows : Rows} {tn : List Nat} (h : Turn rows tn) (a : ∀ r ∈ rows, r.Nodup) : ∀ r ∈ tR rows tn, r.Nodup := fun r hr => by
  obtain ⟨p, hp, rfl⟩ := List.mem_map.mp hr
  rw [row_get (List.getElem?_eq_getElem (h.lt hp))]
  exact a _ (List.getElem_mem _)
theorem few_tR {rows : Rows} {tn : List Nat} (h : Turn rows tn) (f : Few rows) : Few (tR rows tn) := by
  obtain ⟨U, hl, hU⟩ := f
  refine ⟨U, by rw [tR_len, h.len]; exact hl, fun p t ht => ?_⟩
  have pl := row_lt ht
  rw [tR_len] at pl
  rw [show row (tR rows tn) p = row rows tn[p] from row_mapP (List.getElem?_eq_getElem pl)] at ht
  exact hU _ t ht
end Mt

set_option maxRecDepth 100000
set_option maxHeartbeats 4000000
/-! t[::-1] of a tuple: always a new one. -/
namespace Fo
open PySem PySem.Spec PyProof.Rows HT
section
variable {prog : Program} {w : World} {A : Around} {E : Value → Shared → Prop} {s : Shared}
theorem adjust_back (n : Nat) : Builtin.Slice.sliceAdjust none none (-1) (n : Int) = ((n : Int) - 1, -1) := by
  unfold Builtin.Slice.sliceAdjust
  have h1 : ((-1 : Int) < 0) := by omega
  simp only [h1, if_true]
theorem places_back (n : Nat) : Builtin.Slice.slicePlaces ((n : Int) - 1) (-1) (-1) = n := by
  unfold Builtin.Slice.slicePlaces
  have h1 : ¬ ((-1 : Int) > 0) := by omega
  have h2 : (- (-1) : Int) = 1 := by omega
  simp only [h1, if_false, h2, Int.ediv_one]
  split <;> omega
theorem applied_back {sl : Addr} {vl vu vs : Value} {n : Nat} {Q : Int × Int × Nat → Shared → Prop} (hs : s.heap.IsSliceOf sl vl vu vs) (pl : IsPart vl none) (pu : IsPart vu none) (ps : IsPart vs (some (-1)))
    (h : Q ((n : Int) - 1, -1, n) s) : wpAny (model prog w) A (Builtin.Slice.sliceApplied (.ref sl) (pure (n : Int))) Q E s := by
  obtain ⟨os, hos, hcs, hds⟩ := id hs
  unfold Builtin.Slice.sliceApplied Builtin.Slice.sliceFields
  refine wpAny_bind (wpAny_bind (wpAny_field hos hds (x := vl) rfl (wpAny_bind (wpAny_field hos hds (x := vu) rfl (wpAny_bind (wpAny_field hos hds (x := vs) rfl (wpAny_pure ?_)))))))
  refine wpAny_bind (slicePart_ ps ?_)
  show wpAny _ _ (if ((-1 : Int) == 0) = true then _ else _) _ _ s
  rw [if_neg (by decide)]
  refine wpAny_bind (slicePart_ pl (wpAny_bind (slicePart_ pu (wpAny_bind (wpAny_pure ?_)))))
  show wpAny _ _ (match Builtin.Slice.sliceAdjust none none (-1) (n : Int) with | (lo, hi) => pure (lo, (-1 : Int), Builtin.Slice.slicePlaces lo hi (-1))) _ _ s
  rw [adjust_back n]
  show wpAny _ _ (pure ((n : Int) - 1, (-1 : Int), Builtin.Slice.slicePlaces ((n : Int) - 1) (-1) (-1))) _ _ s
  rw [places_back]
  exact wpAny_pure h
theorem pick_back (xs : Array Value) : ((List.range xs.size).filterMap fun (m : Nat) => xs[(((xs.size : Int) - 1) + (m : Int) * (-1)).toNat]?).toArray = xs.toList.reverse.toArray := by
  have e : ((List.range xs.size).filterMap fun (m : Nat) => xs[(((xs.size : Int) - 1) + (m : Int) * (-1)).toNat]?) = ((List.range xs.size).map fun k => xs.size - 1 - k).filterMap (xs[·]?) := by
    rw [List.filterMap_map]
    have aux : ∀ (l : List Nat) (f g : Nat → Option Value), (∀ x ∈ l, f x = g x) → l.filterMap f = l.filterMap g := by
      intro l f g hfg
      induction l with
      | nil => rfl
      | cons x l ih =>
        rw [List.filterMap_cons, List.filterMap_cons, hfg x List.mem_cons_self, ih fun y hy => hfg y (List.mem_cons_of_mem _ hy)]
    refine aux _ _ _ fun m hm => ?_
    have hm := List.mem_range.mp hm
    have e1 : (((xs.size : Int) - 1) + (m : Int) * (-1)).toNat = xs.size - 1 - m := by omega
    show xs[(((xs.size : Int) - 1) + (m : Int) * (-1)).toNat]? = xs[xs.size - 1 - m]?
    rw [e1]
  rw [e, PySem.W.krv_range, List.filterMap_reverse, PySem.W.krv_all]
theorem getItem_tuple_back {t sl : Addr} {items : Array Value} {vl vu vs : Value} {Q : Value → Shared → Prop} (ht : IsTup s.heap t items) (hs : s.heap.IsSliceOf sl vl vu vs) (pl : IsPart vl none) (pu : IsPart vu none) (ps : IsPart vs (some (-1)))
    (h : Q (.ref s.heap.objs.size) { s with heap := s.heap.push { cls := .type "tuple", data := .seq items.toList.reverse.toArray } })
    (hsz : items.size ≤ sizeLine) : wpAny (model prog w) A (getItem (.ref t) (.ref sl)) Q E s := by
  have htake : sizeOk (.seq items.toList.reverse.toArray) := by
    show items.toList.reverse.toArray.size ≤ sizeLine
    rw [List.size_toArray, List.length_reverse, Array.length_toList]
    exact hsz
  obtain ⟨os, hos, hcs, hds⟩ := id hs
  have hTs : s.TypeIs (.ref sl) "slice" := ⟨os, hos, hcs⟩
  unfold getItem
  try with_reducible refine wpAny_holding ?_
  first | refine wpAny_bind (wpAny_pure ?_) | skip
  refine wpAny_bind (wpAny_sequenceKey ht.typeIs (by decide) ?_)
  refine wpAny_bind (wpAny_callSpecial?_slot (name := Str.ofString "__getitem__") ht.typeIs PyProof.Rows.slot_tuple_getitem
    (wpAny_call_entry PyProof.Rows.slot_tuple_getitem ht.typeIs entry_tuple_getitem ?_ (args_tuple_getitem _ _)))
  show wpAny _ _ (Builtin.Tuple.tupleItemsOf (.ref t) >>= _) _ _ s
  refine wpAny_bind (tupleItemsOf_ ht ?_)
  refine wpAny_bind (wpAny_typeOf hTs ?_)
  rw [if_pos (by decide)]
  refine wpAny_bind (applied_back hs pl pu ps ?_)
  have hno : ¬ ((((items.size : Int) - 1) == 0 && (-1 : Int) == 1 && items.size == items.size) = true) := by
    intro q
    rw [Bool.and_eq_true, Bool.and_eq_true] at q
    exact absurd q.1.2 (by decide)
  show wpAny _ _ (if (((items.size : Int) - 1) == 0 && (-1 : Int) == 1 && items.size == items.size) = true then _ else _) _ _ s
  rw [if_neg hno, pick_back]
  first
    | exact wpAny_bind (m := Builtin.Tuple.tupleExact _) (wpAny_newObj_type (wpAny_pure ⟨_, rfl, wpAny_pure h⟩) htake)
    | exact wpAny_bind (m := Builtin.Tuple.tupleExact _) (wpAny_newObj_type (wpAny_bind (wpAny_pure (wpAny_pure ⟨_, rfl, wpAny_pure h⟩))) htake)
    | exact wpAny_bind (wpAny_bind (m := Builtin.Tuple.tupleExact _) (wpAny_newObj_type (wpAny_pure (wpAny_pure ⟨_, rfl, wpAny_pure h⟩)) htake))
    | exact wpAny_bind (wpAny_bind (m := Builtin.Tuple.tupleExact _) (wpAny_newObj_type (wpAny_pure ⟨_, rfl, wpAny_pure h⟩) htake))
end
end Fo
namespace Fo
open PySem PySem.Spec PyProof.Rows L2
def tRevA (K : PySem.W.Frag) (te : TE) : TE := fun σ H Q => te σ H fun x H1 => ∃ a xs, x = .ref a ∧ SqT K H1 a xs ∧ ∀ p, H1 p = none → Q (.ref p) (upd H1 p (.tup xs.reverse))
theorem pe_revA {X : Cx} {e : Expr} {te : TE} {k : Nat} {p1 p2 p3 pos : Pos} (he : PE X e te) : PE X (.Subscript e (.Slice none none (some (.UnaryOp .USub (.Constant (.int 1) k p1) p2)) p3) pos) (tRevA X.K te) := by
  refine ⟨fun pins s σ H Q I h => ?_⟩
  refine Subscript_ (thn (he.run pins s σ H _ I h) fun v s1 ⟨x, H1, I1, r1, q1⟩ => ?_)
  obtain ⟨a, xs, ex, hx, q⟩ := q1
  subst ex
  cases r1
  have hst : PO X (some (.UnaryOp .USub (.Constant (.int 1) k p1) p2)) (tPart (tUn (rU fun i => .int (-i)) (tC (.int 1)))) := po_some (pe_un un_neg pe_int)
  refine wpAny_Slice (thn (po_none.run pins s1 σ H1 (fun o H2 => o = none ∧ H2 = H1) I1 ⟨rfl, rfl⟩) fun vl s2 ⟨l, H2, I2, pl, el, e2⟩ => ?_)
  subst el e2
  refine thn (po_none.run pins s2 σ H2 (fun o H3 => o = none ∧ H3 = H2) I2 ⟨rfl, rfl⟩) fun vu s3 ⟨u, H3, I3, pu, eu, e3⟩ => ?_
  subst eu e3
  refine thn (hst.run pins s3 σ H3 (fun o H4 => o = some (-1) ∧ H4 = H3) I3 ⟨1, rfl, -1, rfl, rfl, rfl⟩) fun vs s4 ⟨o, H4, I4, ps, eo, e4⟩ => ?_
  subst eo e4
  have I5 : Inv X pins σ H4 { s4 with heap := s4.heap.push { cls := .type "slice", data := .fields #[vl, vu, vs] } } := I4.kept (t' := s4.toks) fun b ob q => Heap.get?_push_of_some _ q
  obtain ⟨its, r, ht, hz⟩ := I5.tuple hx
  have hlen : its.toArray.size = xs.length := by rw [List.size_toArray]; exact r.length.symm
  show wpAny (model X.prog X.w) X.A (subscriptTail e (.Slice none none (some (.UnaryOp .USub (.Constant (.int 1) k p1) p2)) p3) (.ref a) (.ref s4.heap.objs.size)) (EP X pins σ Q) X.xe { s4 with heap := s4.heap.push { cls := .type "slice", data := .fields #[vl, vu, vs] } }
  refine tail_any (ops := [.ref a, .ref s4.heap.objs.size]) ht.typeIs PyProof.Rows.slot_tuple_getitem.lookup ?_ (by with_unfolding_all rfl)
  refine getItem_tuple_back ht (Heap.IsSliceOf.new _ vl vu vs) pl pu ps ?_ (by rw [hlen]; exact hz)
  refine ⟨.ref _, _, I5.laid (t' := s4.toks) (o := .tup xs.reverse) (fun b ob q => Heap.get?_push_of_some _ q) (Nat.le_refl _) ?_, rfl, q _ (I5.hok.fresh (Nat.le_refl _))⟩
  exact ⟨by rw [List.length_reverse]; exact hz, _, r.reverse, IsTup.new _ _⟩
end Fo

set_option maxRecDepth 100000
set_option maxHeartbeats 4000000
/-! Things that are nested: to a depth, none longer than a bound, whatever the tape does. -/
namespace Fo
open PySem PySem.Spec PyProof.Rows L2
section
variable {K : PySem.W.Frag} {C : Addr} {t l : Addr} {m : Nat}
def Ng (K : PySem.W.Frag) (C t : Addr) (m : Nat) : Nat → Hp → V → Prop
  | 0, H, x => ∀ H', Gr t H H' → Th K C H' x
  | n + 1, H, x => (∀ H', Gr t H H' → ∃ ty, TyX K H' x ty ∧ (∀ c, ty = .ref c → c = C) ∧ PySem.W.kitOne K ty (.type "tuple") = some false) ∨ ∃ a xs, x = .ref a ∧ SqT K H a xs ∧ xs.length ≤ m ∧ ∀ y ∈ xs, Ng K C t m n H y
theorem Ng.gr : ∀ {n : Nat} {H H' : Hp} {x : V}, Gr t H H' → Tape H t l → Ng K C t m n H x → Ng K C t m n H' x
  | 0, _, _, _, g, _, h => fun H3 g3 => h H3 (g.trans g3)
  | n + 1, _, _, _, g, T, h => by
    rcases h with h | ⟨a, xs, e, hs, hl, hy⟩
    · exact .inl fun H3 g3 => h H3 (g.trans g3)
    · exact .inr ⟨a, xs, e, gr_T g T hs, hl, fun y hy' => (hy y hy').gr g T⟩
theorem Ng.le {m' : Nat} (hm : m ≤ m') : ∀ {n : Nat} {H : Hp} {x : V}, Ng K C t m n H x → Ng K C t m' n H x
  | 0, _, _, h => h
  | n + 1, _, _, h => by
    rcases h with h | ⟨a, xs, e, hs, hl, hy⟩
    · exact .inl h
    · exact .inr ⟨a, xs, e, hs, Nat.le_trans hl hm, fun y hy' => (hy y hy').le hm⟩
theorem th_sqT {H : Hp} {a : Addr} {xs : List V} (h : SqT K H a xs) : Th K C H (.ref a) := ⟨_, tyX_sqT h, fun c e => by cases e⟩
theorem Ng.down : ∀ {n : Nat} {H : Hp} {x : V}, Tape H t l → Ng K C t m (n + 1) H x → Ng K C t m n H x
  | 0, _, _, T, h => by
    rcases h with h | ⟨a, xs, e, hs, hl, hy⟩
    · exact fun H3 g3 => let ⟨ty, h1, h2, _⟩ := h H3 g3; ⟨ty, h1, h2⟩
    · intro H3 g3
      rw [e]
      exact th_sqT (gr_T g3 T hs)
  | n + 1, _, _, T, h => by
    rcases h with h | ⟨a, xs, e, hs, hl, hy⟩
    · exact .inl h
    · exact .inr ⟨a, xs, e, hs, hl, fun y hy' => (hy y hy').down T⟩
theorem Ng.th {n : Nat} {H : Hp} {x : V} (T : Tape H t l) (h : Ng K C t m n H x) : Th K C H x := by
  induction n with
  | zero => exact h H (Gr.refl H)
  | succ n ih => exact ih (h.down T)
theorem Ng.tup {n : Nat} {H : Hp} {a : Addr} {xs : List V} (T : Tape H t l) (hs : SqT K H a xs) (hl : xs.length ≤ m) (h : ∀ y ∈ xs, Ng K C t m n H y) : Ng K C t m (n + 1) H (.ref a) := .inr ⟨a, xs, rfl, hs, hl, h⟩
theorem Ng.no {H : Hp} {x : V} {s : String} (ty : ∀ H', Gr t H H' → TyX K H' x (.type s)) (hk : kitB s "tuple" = some false) : ∀ n, Ng K C t m n H x
  | 0 => fun H' g => ⟨_, ty H' g, fun c e => by cases e⟩
  | n + 1 => .inl fun H' g => ⟨_, ty H' g, fun c e => (by cases e), kit_ty hk⟩
theorem Ng.int {n : Nat} {H : Hp} {i : Int} : Ng K C t m n H (.int i) := Ng.no (fun _ _ => .base (.int i)) (by decide +kernel) n
theorem Ng.bl {n : Nat} {H : Hp} {i : Bool} : Ng K C t m n H (.bl i) := Ng.no (fun _ _ => .base (.bl i)) (by decide +kernel) n
theorem Ng.str {n : Nat} {H : Hp} {i : Str} : Ng K C t m n H (.str i) := Ng.no (fun _ _ => .base (.str i)) (by decide +kernel) n
theorem Ng.non {n : Nat} {H : Hp} : Ng K C t m n H .non := Ng.no (fun _ _ => .base .non) (by decide +kernel) n
theorem Ng.lst {n : Nat} {H : Hp} {a : Addr} {xs : List V} (h : H a = some (.lst xs)) (ne : a ≠ t) : Ng K C t m n H (.ref a) := Ng.no (fun H' g => .base (.lst (g _ _ ne h))) (by decide +kernel) n
theorem Ng.dK {n : Nat} {H : Hp} {a : Addr} (h : H a = some (.dK [])) (ne : a ≠ t) : Ng K C t m n H (.ref a) := Ng.no (fun H' g => .base (.dK (g _ _ ne h))) (by decide +kernel) n
theorem Ng.table {n : Nat} {H : Hp} {x : V} {rows : List (List Int)} (tc : TC K C) (T : Tape H t l) (h : TableAt K C H x rows) : Ng K C t m n H x := by
  cases n with
  | zero => exact fun H' g => ⟨_, (h.gr g T).tyx tc, fun c e => by cases e; rfl⟩
  | succ n => exact .inl fun H' g => ⟨_, (h.gr g T).tyx tc, fun c e => (by cases e; rfl), tc.kT⟩
theorem Ng.row {n : Nat} {H : Hp} {a : Addr} {ns : List Int} (T : Tape H t l) (h : SqT K H a (ns.map V.int)) (hl : ns.length ≤ m) : Ng K C t m n H (.ref a) := by
  cases n with
  | zero => exact fun H' g => th_sqT (gr_T g T h)
  | succ n => exact .inr ⟨a, _, rfl, h, by rw [List.length_map]; exact hl, fun y hy => by
      obtain ⟨i, _, rfl⟩ := List.mem_map.mp hy
      exact .int⟩
/-- tuples within tuples, one or none in each -/
def Tn (K : PySem.W.Frag) : Nat → Hp → V → Prop
  | 0, H, x => ∃ a xs, x = .ref a ∧ SqT K H a xs
  | n + 1, H, x => ∃ a xs, x = .ref a ∧ SqT K H a xs ∧ xs.length ≤ 1 ∧ ∀ y ∈ xs, Tn K n H y
theorem Tn.same : ∀ {n : Nat} {H H' : Hp} {x : V}, Same H H' → Tn K n H x → Tn K n H' x
  | 0, _, _, _, s, ⟨a, xs, e, h⟩ => ⟨a, xs, e, sqT_same s h⟩
  | n + 1, _, _, _, s, ⟨a, xs, e, h, hl, hy⟩ => ⟨a, xs, e, sqT_same s h, hl, fun y q => (hy y q).same s⟩
theorem Tn.ng : ∀ {n : Nat} {H : Hp} {x : V}, Tape H t l → 1 ≤ m → Tn K n H x → Ng K C t m n H x
  | 0, _, _, T, _, ⟨a, xs, e, h⟩ => fun H' g => by
    rw [e]
    exact th_sqT (gr_T g T h)
  | n + 1, _, _, T, h1, ⟨a, xs, e, h, hl, hy⟩ => .inr ⟨a, xs, e, h, Nat.le_trans hl h1, fun y q => (hy y q).ng T h1⟩
theorem cut_from' {xs : List V} {n : Nat} : cutV xs (some (n : Int)) none = xs.drop n := by
  by_cases h : n ≤ xs.length
  · exact cut_from h
  · unfold cutV
    rw [HT.sIx_none, HT.sIx_nat, show min n xs.length = xs.length by omega, List.drop_of_length_le (Nat.le_refl _), List.drop_of_length_le (by omega), List.take_nil]
/-- xs[:i] + (y,) + xs[j:] -/
theorem cat3 {σ : L2.St} {H : Hp} {Q : VK} {a : Addr} {xs : List V} {v u i j : Nat} {Y D : TE} {Pr : V → Hp → Prop} (e1 : σ[v]? = some (some (.ref a))) (e2 : σ[u]? = some (some (.int (i : Nat)))) (T : Tape H t l) (hs : SqT K H a xs) (hl : xs.length ≤ 1000) (hi : i ≤ xs.length)
    (hD : ∀ (H2 : Hp) (Q' : VK), Q' (.int (j : Nat)) H2 → D σ H2 Q')
    (hY : ∀ (H1 : Hp) (Q' : VK), Same H H1 → (∀ y H2, Gr t H1 H2 → Tape H2 t l → Pr y H2 → Q' y H2) → Y σ H1 Q')
    (k : ∀ y H2 p H3, Gr t H H2 → Tape H2 t l → Pr y H2 → Same H2 H3 → SqT K H3 p (xs.take i ++ [y] ++ xs.drop j) → Q (.ref p) H3) :
    tOp (rCatA K) (tOp (rCatA K) (tSl (rSlA K) (tVar v) tNoPart (tPart (tVar u))) (tTup (tCons Y tNil))) (tSl (rSlA K) (tVar v) (tPart D) tNoPart) σ H Q := by
  refine ⟨_, e1, _, e2, _, rfl, slA hs fun d H1 s1 hd => ?_⟩
  rw [cut_to hi] at hd
  refine hY H1 _ s1 fun y H2 g2 T2 hy => ⟨by show 1 ≤ sizeLine; decide, fun o ho => ?_⟩
  have hd2 := gr_T g2 (T.keep s1) hd
  have so := same_new (o := .tup [y]) ho
  refine catA (sqT_same so hd2) (SqT.of upd_same) (by rw [List.length_take]; show _ + 1 ≤ 100000; omega) fun p H4 s4 hp => ?_
  refine ⟨_, e1, hD H4 _ ⟨_, rfl, ?_⟩⟩
  delta tNoPart
  have s24 := so.trans s4
  refine slA (sqT_same s24 (gr_T g2 (T.keep s1) (sqT_same s1 hs))) fun q H5 s5 hq => ?_
  rw [cut_from'] at hq
  refine catA (sqT_same s5 hp) hq (by rw [List.length_append, List.length_take, List.length_drop]; show _ + 1 + _ ≤ 100000; omega) fun r H6 s6 hr => ?_
  exact k y H2 r H6 ((Gr.of s1).trans g2) T2 hy ((s24.trans s5).trans s6) hr
theorem mem_cat3 {α : Type} {xs : List α} {y z : α} {i j : Nat} (h : z ∈ xs.take i ++ [y] ++ xs.drop j) : z ∈ xs ∨ z = y := by
  rcases List.mem_append.mp h with h | h
  · rcases List.mem_append.mp h with h | h
    · exact .inl (List.mem_of_mem_take h)
    · exact .inr (List.mem_singleton.mp h)
  · exact .inl (List.mem_of_mem_drop h)
theorem len_cat3 {α : Type} {xs : List α} {y : α} {i j m : Nat} (h : xs.length ≤ m) (hi : i ≤ j) : (xs.take i ++ [y] ++ xs.drop j).length ≤ m + 1 := by
  rw [List.length_append, List.length_append, List.length_take, List.length_drop]
  show _ + 1 + _ ≤ m + 1
  omega
end
end Fo

set_option maxRecDepth 100000
set_option maxHeartbeats 4000000
/-! dicts of counts; list(d.values()); the items of a dict with tuple keys. -/
namespace Fo
open PySem PySem.Spec PyProof.Rows L2
section
variable {κ κ' : Type} [DecidableEq κ] [DecidableEq κ']
/-- a dict of counts -/
def encG (e : κ → κ') (st : List (κ × Nat)) : List (κ' × V) := st.map fun q => (e q.1, V.int ((q.2 : Nat) : Int))
theorem enc_val {e : κ → κ'} (inj : ∀ a b, e a = e b → a = b) (k : κ) : ∀ st : List (κ × Nat), valV (encG e st) (e k) = if k ∈ st.map (·.1) then some (V.int ((Mt.getN st k : Nat) : Int)) else none
  | [] => rfl
  | (s, w) :: r => by
    have ih := enc_val inj k r
    show valV ((e s, V.int (w : Int)) :: encG e r) (e k) = _
    by_cases h : s = k
    · rw [valV_pos (by rw [h]), if_pos (by rw [h]; exact List.mem_cons_self)]
      show _ = some (V.int (((if s = k then w else Mt.getN r k) : Nat) : Int))
      rw [if_pos h]
    · rw [valV_neg (fun z => h (inj _ _ z)), ih]
      show (if k ∈ r.map (·.1) then some (V.int ((Mt.getN r k : Nat) : Int)) else none) = if k ∈ s :: r.map (·.1) then some (V.int (((if s = k then w else Mt.getN r k) : Nat) : Int)) else none
      rw [if_neg h]
      by_cases m : k ∈ r.map (·.1)
      · rw [if_pos m, if_pos (List.mem_cons_of_mem _ m)]
      · rw [if_neg m, if_neg fun z => (List.mem_cons.mp z).elim (fun y => h y.symm) m]
theorem get_none {k : κ} : ∀ {st : List (κ × Nat)}, k ∉ st.map (·.1) → Mt.getN st k = 0
  | [], _ => rfl
  | (s, w) :: r, h => by
    show (if s = k then w else Mt.getN r k) = 0
    rw [if_neg fun z => h (by rw [← z]; exact List.mem_cons_self)]
    exact get_none fun z => h (List.mem_cons_of_mem _ z)
/-- d.get(k, 0) -/
theorem enc_get {e : κ → κ'} (inj : ∀ a b, e a = e b → a = b) (k : κ) (st : List (κ × Nat)) : (valV (encG e st) (e k)).getD (.int 0) = V.int ((Mt.getN st k : Nat) : Int) := by
  rw [enc_val inj]
  by_cases h : k ∈ st.map (·.1)
  · rw [if_pos h]; rfl
  · rw [if_neg h, get_none h]; rfl
/-- d[k] = d.get(k, 0) + v -/
theorem enc_bump {e : κ → κ'} (inj : ∀ a b, e a = e b → a = b) (k : κ) (v : Nat) : ∀ st : List (κ × Nat), (st.map (·.1)).Nodup → putK (encG e st) (e k) (V.int ((Mt.getN st k + v : Nat) : Int)) = encG e (Mt.bump st k v)
  | [], _ => by
    show putK [] (e k) (V.int ((0 + v : Nat) : Int)) = [(e k, V.int (v : Int))]
    rw [Nat.zero_add]
    rfl
  | (s, w) :: r, nd => by
    have hn := List.nodup_cons.mp nd
    have ih := enc_bump inj k v r hn.2
    have any_r : ((encG e r).any fun kv => decide (kv.1 = e k)) = decide (k ∈ r.map (·.1)) := by
      rw [valV_any, enc_val inj]
      by_cases m : k ∈ r.map (·.1)
      · rw [if_pos m, decide_eq_true m]; rfl
      · rw [if_neg m, decide_eq_false m]; rfl
    show putK ((e s, V.int (w : Int)) :: encG e r) (e k) (V.int (((if s = k then w else Mt.getN r k) + v : Nat) : Int)) = encG e (if s = k then (s, w + v) :: r else (s, w) :: Mt.bump r k v)
    by_cases h : s = k
    · rw [if_pos h, if_pos h]
      unfold putK
      rw [if_pos (by rw [List.any_cons, show decide (e s = e k) = true from decide_eq_true (by rw [h]), Bool.true_or])]
      rw [List.map_cons]
      show (if e s = e k then (e s, _) else (e s, V.int (w : Int))) :: _ = (e s, V.int ((w + v : Nat) : Int)) :: encG e r
      rw [if_pos (by rw [h])]
      congr 1
      refine (List.map_congr_left fun kv hkv => ?_).trans (List.map_id _)
      obtain ⟨q, hq, rfl⟩ := List.mem_map.mp hkv
      show (if e q.1 = e k then _ else _) = _
      rw [if_neg fun z => hn.1 (by rw [h, ← inj _ _ z]; exact List.mem_map.mpr ⟨q, hq, rfl⟩)]
      rfl
    · rw [if_neg h, if_neg h]
      have ne : ¬ e s = e k := fun z => h (inj _ _ z)
      show _ = (e s, V.int (w : Int)) :: encG e (Mt.bump r k v)
      rw [← ih]
      unfold putK
      rw [List.any_cons, show decide (e s = e k) = false from decide_eq_false ne, Bool.false_or]
      by_cases a : ((encG e r).any fun kv => decide (kv.1 = e k)) = true
      · rw [if_pos a, if_pos a, List.map_cons]
        show (if e s = e k then _ else (e s, V.int (w : Int))) :: _ = _
        rw [if_neg ne]
      · rw [if_neg a, if_neg a]
        rfl
theorem enc_len {e : κ → κ'} {st : List (κ × Nat)} : (encG e st).length = st.length := List.length_map _
end
section
variable {K : PySem.W.Frag}
theorem dc_it {J : It} {n : Nat} {G : Hp → Prop} {Y : Nat → Hp → V → Hp → Prop} (w : Walk J n G Y) {g : TG} {tt : TT} {tk tv : TE} {vs : List Nat} {σ : L2.St} {H1 : Hp} {D : Addr} {Qd : Hp → Prop} (Pv : Nat → Hp → Prop) (h0 : Pv 0 (upd H1 D (.dK []))) (hG : ∀ i H, i ≤ n → Pv i H → G H)
    (hs : ∀ i x H H', i < n → Pv i H → Y i H x H' → g x (wipe σ vs) H' fun σ2 H2 => wipe σ2 vs = wipe σ vs ∧ tt σ2 H2 fun b H3 =>
      if b = true then tk σ2 H3 fun y H4 => tv σ2 H4 fun z H5 => ∃ kvs k, y = kV k ∧ H5 D = some (.dK kvs) ∧ kvs.length < sizeLine ∧ Pv (i + 1) (upd H5 D (.dK (putK kvs k z))) else Pv (i + 1) H3) (hd : ∀ H, Pv n H → Qd H) :
    ∃ W : Nat → Nat → Hp → Prop, (∃ m, W 0 m (upd H1 D (.dK []))) ∧ ∀ i m H, W i m H →
      (J.stop i H ∧ Qd H) ∨ (J.go i H ∧ ∃ Nx : Hp → Prop, (∀ H', Nx H' → ∃ m', m' < m ∧ W (i + 1) m' H') ∧ ∀ x H', J.yld i H x H' → g x (wipe σ vs) H' fun σ2 H2 => wipe σ2 vs = wipe σ vs ∧ tt σ2 H2 fun b H3 =>
        if b = true then tk σ2 H3 fun y H4 => tv σ2 H4 fun z H5 => ∃ kvs k, y = kV k ∧ H5 D = some (.dK kvs) ∧ kvs.length < sizeLine ∧ Nx (upd H5 D (.dK (putK kvs k z))) else Nx H3) := by
  refine ⟨fun i m H => m = n - i ∧ i ≤ n ∧ Pv i H, ⟨n, by simp, Nat.zero_le _, h0⟩, ?_⟩
  rintro i m H ⟨rfl, hi, p⟩
  have q := hG i H hi p
  by_cases hlt : i < n
  · exact .inr ⟨w.goes i H hlt q, Pv (i + 1), fun H' p' => ⟨n - (i + 1), by omega, rfl, hlt, p'⟩, fun x H' y => hs i x H H' hlt p (w.yields i H x H' hlt q y)⟩
  · have e : i = n := by omega
    subst e
    exact .inl ⟨w.stops H q, hd H p⟩
end
/-! list(d.values()) -/
def ValsO (v d : Addr) : HO := .ext fun h => h.get? v = some ({ cls := .type "dict_values", data := .fields #[.ref d] } : Obj)
section
variable {X : Cx}
def rVals : V → Hp → VK → Prop := fun x H Q => ∃ (d : Addr) (kvs : List (Key × V)), x = .ref d ∧ H d = some (.dK kvs) ∧ ∀ v, H v = none → Q (.ref v) (upd H v (ValsO v d))
def tVals (td : TE) : TE := fun σ H Q => td σ H fun x H1 => rVals x H1 Q
theorem pe_values {e : Expr} {td : TE} {apos cpos : Pos} (he : PE X e td) (hbase : attributeBase e "values" X.env (eval e X.env) = eval e X.env := by rfl) (hline : (apos.endLine == cpos.line) = true := by rfl) : PE X (.Call (.Attribute e "values" apos) [] [] cpos) (tVals td) := by
  refine ⟨fun pins s σ H Q I h => ?_⟩
  refine wpAny_Call_method (T := "dict") (id := "dict.values") hbase rfl hline PySem.F.plainAttrs_dict PySem.F.slot_dict_values PySem.F.type_dict_values (thn (he.run pins s σ H _ I h) fun u s1 ⟨x, H1, I1, rx, d, kvs, ex, hd, q⟩ => ?_)
  subst ex
  obtain rfl : u = Value.ref d := rx
  obtain ⟨z, hs, vs, kv, hm⟩ := dk_of I1.hok hd
  have nd : ∀ a, Value.ref d = Value.ref a → ∃ ob, s1.heap.get? a = some ob ∧ ob.dict = none := hm.mapOf.noDict
  refine ⟨hm.typeIs, nd, ?_⟩
  have hf := I1.hok.fresh (Nat.le_refl s1.heap.objs.size)
  have hget : (s1.heap.push { cls := .type "dict_values", data := .fields #[.ref d] }).get? s1.heap.objs.size = some ({ cls := .type "dict_values", data := .fields #[.ref d] } : Obj) := Heap.get?_push_size _ rfl
  have I2 : Inv X pins σ (upd H1 s1.heap.objs.size (ValsO s1.heap.objs.size d)) { s1 with heap := s1.heap.push { cls := .type "dict_values", data := .fields #[.ref d] } } :=
    I1.laid (t' := s1.toks) (fun b ob q => Heap.get?_push_of_some _ q) (Nat.le_refl _) ⟨hget, ⟨_, hget⟩, fun h1 h2 a k => k _ a⟩
  show wpAny _ _ (callWith cpos (.builtin "dict.values") [.ref d] [] []) _ X.xe s1
  exact method_meetsIn PySem.F.slot_dict_values PySem.F.entry_dict_values rfl (PySem.evalArgs_none ⟨rfl, hm.typeIs, PySem.F.args_dict_values_1 _, _, meets_dict_values (mixKind X.prog X.w) d hs, ⟨vs, hm⟩, ⟨.ref s1.heap.objs.size, _, I2, rfl, q _ hf⟩⟩)
theorem vals_get : ∀ {xs : List V} {us : List Value}, xs.length = us.length → (∀ (j : Nat) (x : V) (u : Value), xs[j]? = some x → us[j]? = some u → RelV x u) → Vals xs us
  | [], [], _, _ => .nil
  | [], _ :: _, h, _ => by cases h
  | _ :: _, [], h, _ => by cases h
  | x :: xs, u :: us, h, r => .cons (r 0 x u rfl rfl) (vals_get (Nat.succ.inj h) fun j y z a b => r (j + 1) y z a b)
def rListVals : List V → Hp → VK → Prop := fun xs H Q => ∃ (v d : Addr) (kvs : List (Key × V)), xs = [.ref v] ∧ H v = some (ValsO v d) ∧ H d = some (.dK kvs) ∧ ∀ p, H p = none → Q (.ref p) (upd H p (.lst (kvs.map fun q => q.2)))
theorem call_list_vals (hc : X.calm = true) : CallR X (.type "list") rListVals := by
  intro pins s σ H xs us Q I r h
  obtain ⟨v, d, kvs, rfl, hv, hd, q⟩ := h
  obtain ⟨u, rfl, rx⟩ := r.one
  obtain rfl : u = Value.ref v := rx
  have hv' : s.heap.get? v = some ({ cls := .type "dict_values", data := .fields #[.ref d] } : Obj) := (show ObjOk X.prog X.w H s.heap v (.ext fun h => h.get? v = some ({ cls := .type "dict_values", data := .fields #[.ref d] } : Obj)) from I.hok v _ hv).1
  obtain ⟨z, hs, vs, kv, hm⟩ := dk_of I.hok hd
  obtain ⟨es, ep, hr, hsz, hent⟩ := hm.raw
  have l1 : kvs.length = vs.length := kv.length
  have hview : s.heap.IsValuesView v d := ⟨_, hv', rfl, rfl⟩
  refine PySem.W.kdl_call (PySem.KdlSrc.rawValues (prog := X.prog) (w := X.w) (r := v) (d := d) (es := es) (ep := ep)) (I.ok.hd hc) ⟨hview, hr⟩ (by omega) fun h' tk acc' c' kp e it => ?_
  have hl : acc'.toList.length = kvs.length := by rw [Array.length_toList, it.1]; omega
  have rv : Vals (kvs.map fun q => q.2) acc'.toList := by
    refine vals_get (by rw [List.length_map, hl]) fun j x u hx hu => ?_
    rw [List.getElem?_map] at hx
    cases hk : kvs[j]? with
    | none => rw [hk] at hx; cases hx
    | some p =>
      rw [hk] at hx
      cases hx
      obtain ⟨k0, v0⟩ := p
      obtain ⟨u0, hu0, ru0⟩ := kv_get kv hk
      obtain ⟨hi, hv0⟩ := it.2 j u (by rw [← Array.getElem?_toList]; exact hu)
      have := (hent j hi k0 u0 hu0).2
      rw [hv0, this]
      exact ru0
  refine ⟨.ref s.heap.objs.size, _, I.laid (t' := tk) (o := .lst (kvs.map fun q => q.2)) kp (Nat.le_refl _) ⟨by rw [List.length_map]; exact z, acc'.toList, c', rv, by rw [Array.toArray_toList]; exact e⟩, rfl, q _ (I.hok.fresh (Nat.le_refl _))⟩
end
/-! the items of a dict with tuple keys -/
section
variable {X : Cx} {pins : List (Addr × Obj)} {σ : L2.St} {H : Hp} {s : Shared} {d : Addr} {o : Obj}
theorem frzT2 {kvs : List (List Key × V)} (I : Inv X pins σ H s) (h : H d = some (.frz o (.dT kvs))) :
    (d == sysModules) = false ∧ s.heap.get? d = some o ∧ o.ExactDict ∧ ∃ (es : Array DictEntry) (ep : Nat), o.data = .dict es ep ∧ es.size = kvs.length ∧
      ∀ (i : Nat) (k : List Key) (v : V), kvs[i]? = some (k, v) → ∃ (en : DictEntry) (q : Addr), es[i]? = some en ∧ en.key = .ref q ∧ H q = some (.tup (k.map kV)) ∧ RelV v en.val := by
  obtain ⟨hd, z, hs, xs, pr, o', es, ep, ho, hx, hdt, he, _⟩ := I.hok d _ h
  rw [hd] at ho
  cases ho
  refine ⟨hs, hd, hx, es, ep, hdt, ?_, fun i k v e => ?_⟩
  · have l1 : es.size = xs.length := size_of_entries he
    have l2 : kvs.length = xs.length := Paired.length pr
    omega
  · obtain ⟨b, hb, e1, e2, e3⟩ := paired_get pr e
    have q := entry_at he i
    rw [hb] at q
    exact ⟨_, b.2.1, q, rfl, e2, e3⟩
end
/-- the pairs, each a new tuple of the key's own tuple and the value -/
def ItiT (d : Addr) (o : Obj) (kvs : List (List Key × V)) : It :=
  ⟨fun i H => H d = some (.frz o (.dT kvs)) ∧ i < kvs.length, fun i H x H' => ∃ T k v q, kvs[i]? = some (k, v) ∧ x = .ref T ∧ H T = none ∧ H q = some (.tup (k.map kV)) ∧ H' = upd H T (.tup [.ref q, v]), fun i H => H d = some (.frz o (.dT kvs)) ∧ kvs.length ≤ i⟩
theorem walk_itemsT {d : Addr} {o : Obj} {kvs : List (List Key × V)} : Walk (ItiT d o kvs) kvs.length (fun H => H d = some (.frz o (.dT kvs))) (fun i H x H' => ∃ T k v q, kvs[i]? = some (k, v) ∧ x = .ref T ∧ H T = none ∧ H q = some (.tup (k.map kV)) ∧ H' = upd H T (.tup [.ref q, v])) :=
  ⟨fun _ _ hi q => ⟨q, hi⟩, fun _ q => ⟨q, Nat.le_refl _⟩, fun _ _ _ _ _ _ y => y⟩
section
variable {P : Program} {w : World} {K : PySem.W.Frag} {d : Addr} {o : Obj} {es : Array DictEntry} {ep : Nat}
theorem turn_itemsT {kvs : List (List Key × V)} {elts : List Expr} {kk : Nat} {tpos : Pos} (it : Addr) (hod : o.data = .dict es ep) :
    Turn P w K (.Tuple elts kk tpos) (ItiT d o kvs) [it] it (fun i h => ∃ ok ov, IsItemIter h it d i kvs.length ep ok ov) where
  mem := by simp
  obj := fun i h st b hb => by
    have e : b = it := by simpa using hb
    subst e
    obtain ⟨ok, ov, e⟩ := st
    exact ⟨_, e, fun v z => nomatch z⟩
  keep := fun i h h' st k => let ⟨ok, ov, e⟩ := st; ⟨ok, ov, k it (by simp) _ e⟩
  item := by
    intro X hP hw hK hc i pins s σ H E I hf st hg
    subst hP hw hK
    obtain ⟨hd, hi⟩ := hg
    obtain ⟨hs, hgd, hx, es', ep', hdt, hsz, ent⟩ := frzT2 I hd
    obtain ⟨rfl, rfl⟩ := dict_ep hod hdt
    obtain ⟨⟨k, v⟩, hkv⟩ : ∃ p, kvs[i]? = some p := ⟨kvs[i], List.getElem?_eq_getElem hi⟩
    obtain ⟨en, q, hen, ek, hq, rv⟩ := ent i k v hkv
    obtain ⟨hil, een⟩ := Array.getElem?_eq_some_iff.mp hen
    obtain ⟨ok, ov, he⟩ := st
    rw [← hsz] at he
    have hlt : it < s.heap.objs.size := Heap.lt_size he
    refine DT.nextI he ⟨o, hgd, hx, hdt⟩ hil fun h' ho hT hz hk => ?_
    rw [een, ek] at ho hT
    refine ⟨_, rfl, wpAny_letOwnedTupleGo_items (s := { s with heap := h' }) ho fun h'' he' sb => ?_⟩
    have hT2 : h''.get? s.heap.objs.size = some { cls := .type "tuple", data := .seq #[.ref q, en.val] } := (sb.2 _ (Nat.ne_of_gt hlt)).trans hT
    have new : ObjOk X.prog X.w (upd H s.heap.objs.size (.tup [.ref q, v])) h'' s.heap.objs.size (.tup [.ref q, v]) :=
      ⟨by show 2 ≤ sizeLine; decide, [.ref q, en.val], .cons rfl (.cons rv .nil), ⟨_, hT2, rfl, _, rfl⟩⟩
    have I1 : Inv X pins σ (upd H s.heap.objs.size (.tup [.ref q, v])) { s with heap := h'' } :=
      I.turnedNew (t' := s.toks) (ch := [it]) (fun b ob hb e => (sb.2 b (by simpa using hb)).trans (hk b ob (by simpa using hb) e)) hf (Nat.le_refl _) new
    refine ⟨.ref s.heap.objs.size, _, I1, rfl, ⟨_, k, v, q, hkv, rfl, I.hok.fresh (Nat.le_refl _), hq, rfl⟩, ⟨.ref q, en.val, ?_⟩, fun b hb => ?_⟩
    · rw [← hsz]; exact he'
    · have e : b = it := by simpa using hb
      rw [e, upd_ne (Nat.ne_of_lt hlt)]
      exact (hf it (by simp)).1
  done := by
    intro X hP hw hK hc i pins s σ H E I hf st hg
    subst hP hw hK
    obtain ⟨hd, hi⟩ := hg
    obtain ⟨f0, f1, f2, f3, f4, f5⟩ := hf it (by simp)
    obtain ⟨hs, hgd, hx, es', ep', hdt, hsz, ent⟩ := frzT2 I hd
    obtain ⟨rfl, rfl⟩ := dict_ep hod hdt
    obtain ⟨ok, ov, he⟩ := st
    rw [← hsz] at he
    exact DT.endI (I.ok.hd hc) he ⟨o, hgd, hx, hdt⟩ (by omega) fun h' eb => ⟨rfl, I.turned (t' := s.toks) (fun b ob hb e => eb b ob hb e) f0 f1 f3 f4 f5⟩
  self := fun A i s Q E st h => let ⟨_, _, e⟩ := st; PySem.W.kcp_self e h
end
def iItemsT (td : TE) : TI := fun σ H R => td σ H fun x H1 => ∃ d o kvs, x = .ref d ∧ H1 d = some (.frz o (.dT kvs)) ∧ R (ItiT d o kvs) H1
section
variable {X : Cx}
theorem pi_itemsT {e : Expr} {td : TE} {apos cpos : Pos} {elts : List Expr} {kk : Nat} {tpos : Pos} (he : PE X e td) (hbase : attributeBase e "items" X.env (eval e X.env) = eval e X.env := by rfl) (hline : (apos.endLine == cpos.line) = true := by rfl) :
    PI X (.Tuple elts kk tpos) (.Call (.Attribute e "items" apos) [] [] cpos) (iItemsT td) := by
  refine ⟨fun pins s σ H R I h => ?_⟩
  refine wpAny_Call_method (T := "dict") (id := "dict.items") hbase rfl hline PySem.F.plainAttrs_dict PySem.F.slot_dict_items PySem.F.type_dict_items (thn (he.run pins s σ H _ I h) fun u s1 ⟨x, H1, I1, rx, d, o, kvs, ex, hd, q⟩ => ?_)
  subst ex
  obtain rfl : u = Value.ref d := rx
  obtain ⟨hs, hgd, hx, es, ep, hdt, hsz, ent⟩ := frzT2 I1 hd
  have raw : DT.Raw s1.heap d es ep := ⟨o, hgd, hx, hdt⟩
  refine ⟨raw.typeIs, fun a ea => ?_, ?_⟩
  · cases ea
    exact ⟨o, hgd, hx.2.1⟩
  have I2 : Inv X pins σ H1 { s1 with heap := s1.heap.push { cls := .type "dict_items", data := .fields #[.ref d] } } := I1.kept (t' := s1.toks) fun b ob q => Heap.get?_push_of_some _ q
  have fin : wpAny (model X.prog X.w) X.A (pyIter (.ref s1.heap.objs.size)) (PIE X pins σ (.Tuple elts kk tpos) R) X.xe { s1 with heap := s1.heap.push { cls := .type "dict_items", data := .fields #[.ref d] } } := by
    refine DT.iterI (d := d) ⟨_, Heap.get?_push_size _ rfl, rfl, rfl⟩ (raw.push _) (pi_one (tk := s1.toks) I2 _ (turn_itemsT _ hdt) ⟨.none, .none, ?_⟩ q)
    rw [← hsz]
    exact Heap.get?_push_size _ rfl
  show wpAny _ _ (callWith cpos (.builtin "dict.items") [.ref d] [] []) _ X.xe s1
  exact method_meetsIn PySem.F.slot_dict_items PySem.F.entry_dict_items rfl (PySem.evalArgs_none ⟨rfl, raw.typeIs, PySem.F.args_dict_items_1 _, _, DT.meetsItems (es := es) (ep := ep) hs, raw, fin⟩)
end
end Fo

set_option maxRecDepth 100000
set_option maxHeartbeats 4000000
/-! xs.remove(a tuple of ints). -/
namespace Fo
open PySem PySem.Spec PyProof.Rows L2
section
variable {X : Cx}
/-- xs.remove(r): the first tuple that is == r is gone -/
def rRemT (K : PySem.W.Frag) : V → List V → Hp → VK → Prop := fun x xs H Q => ∃ (l b : Addr) (ws : List V) (R : List (List Int)) (r : List Int) (j : Nat), x = .ref l ∧ xs = [.ref b] ∧ H l = some (.lst ws) ∧ RowsT K H ws R ∧ SqT K H b (r.map V.int) ∧ R[j]? = some r ∧ (∀ m : Nat, m < j → R[m]? ≠ some r) ∧ Q .non (upd H l (.lst (ws.eraseIdx j)))
theorem mt_removeT (hu : X.A.units + 65 < cLine) : MtR X "list.remove" (rRemT X.K) := by
  intro pins s σ H x xs v us Q I rx rxs h
  obtain ⟨l, b, ws, R, r, j, rfl, rfl, hH, hR, hb, hj, hno, q⟩ := h
  obtain rfl : v = Value.ref l := rx
  obtain ⟨u, rfl, ru⟩ := rxs.one
  obtain ⟨z, its, n, rv, hl, e⟩ := I.lstM hH
  obtain ⟨bs, r1⟩ := Dp.reads I (dI r) (V.ref b) u (dp_rowI hb) ru
  obtain ⟨as, h4⟩ := Dp.readsAll I (R.map dI) _ its (rowsT_dp hR) rv
  have sl : SeqAt.shaped (.list (R.map dI)) = true := sh_L R
  have sd : SeqAt.shaped (dI r) = true := sh_I r
  have hxs : PyData.canLayAll0 (R.map dI) = true := SeqAt.canLay_of_shaped sl
  have hroom : X.A.units + 1 + min (PyData.depthAll (R.map dI)) (dI r).depth < cLine := room_in_shaped sd hu
  have hn : its.length = (R.map dI).length := SeqAt.ReadsAll.length (R.map dI) its as h4
  rw [List.length_map] at hn
  have hmap : its.map (SeqAt.readOf s.heap) = R.map dI := SeqAt.readsAll_map (R.map dI) its as hxs h4
  obtain ⟨hjd, _⟩ := List.getElem?_eq_some_iff.mp hj
  have hjl : j < its.toArray.size := by rw [List.size_toArray]; omega
  have at_ : ∀ (m : Nat) (hm : m < its.toArray.size) (q : List Int), R[m]? = some q → SeqAt.readOf s.heap its.toArray[m] = dI q := by
    intro m hm q hq
    have hml : m < its.length := by simpa using hm
    have h2 : (its.map (SeqAt.readOf s.heap))[m]? = (R.map dI)[m]? := by rw [hmap]
    rw [List.getElem?_map, List.getElem?_map, List.getElem?_eq_getElem hml, hq] at h2
    have e1 : SeqAt.readOf s.heap its[m] = dI q := Option.some.inj (show some (SeqAt.readOf s.heap its[m]) = some (dI q) from h2)
    simpa using e1
  have lw : ws.length = R.length := hR.len
  refine call_meets PySem.F.slot_list_remove ⟨_, e, rfl⟩ PySem.F.entry_list_remove (PySem.F.args_list_remove_2 _ _)
    (SeqAt.list_removeAt l its.toArray n none #[] u (fun y => PyData.eqv (SeqAt.readOf s.heap y) (dI r)) j hjl ?_ ?_ (by rw [List.size_toArray]; omega)) ⟨e, SeqAt.items_eqAt (vs := its.toArray) (show ReadsAll s.heap its.toArray.toList (R.map dI) as from h4) r1 hxs (SeqAt.canLay_of_shaped sd) hroom, ?_⟩
  · show PyData.eqv (SeqAt.readOf s.heap its.toArray[j]) (dI r) = true
    rw [at_ j hjl r hj, eqv_I]
    exact decide_eq_true rfl
  · intro m hm hmj
    have hmd : m < R.length := by omega
    have hz' : R[m]? = some R[m] := List.getElem?_eq_getElem hmd
    show PyData.eqv (SeqAt.readOf s.heap its.toArray[m]) (dI r) = false
    rw [at_ m hm _ hz', eqv_I]
    exact decide_eq_false fun e => hno m hmj (by rw [hz', e])
  · refine ⟨.non, _, I.lset (its' := its.eraseIdx j) (t' := s.toks) hH e ?_ (rv.eraseIdx j) ?_, rfl, q⟩
    · show its.toArray.eraseIdxIfInBounds j = (its.eraseIdx j).toArray
      rw [List.eraseIdxIfInBounds_toArray]
    · have := List.length_eraseIdx_le ws j
      omega
end
end Fo

set_option maxRecDepth 100000
set_option maxHeartbeats 4000000
/-! dicts whose keys are tuples of tuples of ints. -/
namespace Fo
open PySem PySem.Spec PyProof.Rows L2
def rowN (r : List Int) : NestedKey := .tup (r.map .num)
def keyN (R : List (List Int)) : NestedKey := .tup (R.map rowN)
theorem num_inj : ∀ {a b : List Int}, a.map NestedKey.num = b.map NestedKey.num → a = b
  | [], [], _ => rfl
  | [], _ :: _, h => by cases h
  | _ :: _, [], h => by cases h
  | x :: a, y :: b, h => by
    have h1 := (List.cons.inj h).1
    have h2 := (List.cons.inj h).2
    injection h1 with h1
    rw [h1, num_inj h2]
theorem rowN_inj {a b : List Int} (h : rowN a = rowN b) : a = b := by
  unfold rowN at h
  injection h with h
  exact num_inj h
theorem rowsN_inj : ∀ {a b : List (List Int)}, a.map rowN = b.map rowN → a = b
  | [], [], _ => rfl
  | [], _ :: _, h => by cases h
  | _ :: _, [], h => by cases h
  | x :: a, y :: b, h => by
    have h1 := (List.cons.inj h).1
    have h2 := (List.cons.inj h).2
    rw [rowN_inj h1, rowsN_inj h2]
theorem keyN_inj {a b : List (List Int)} (h : keyN a = keyN b) : a = b := by
  unfold keyN at h
  injection h with h
  exact rowsN_inj h
theorem row_depth : ∀ r : List Int, NestedKey.depthAll (r.map .num) = 0
  | [] => rfl
  | x :: r => by
    have := row_depth r
    simp [NestedKey.depthAll, NestedKey.depth, this]
theorem key_depth (R : List (List Int)) : (keyN R).depth ≤ 8 := by
  have : ∀ R : List (List Int), NestedKey.depthAll (R.map rowN) ≤ 1 := fun R => by
    induction R with
    | nil => exact Nat.zero_le _
    | cons r R ih =>
      rw [List.map_cons, NestedKey.depthAll]
      have e : (rowN r).depth = 1 := by
        unfold rowN
        rw [NestedKey.depth, row_depth]
      omega
  unfold keyN
  rw [NestedKey.depth]
  have := this R
  omega
/-- a tuple of tuples of ints, made by the program -/
inductive RowsE (H : Hp) : List V → List (List Int) → Prop
  | nil : RowsE H [] []
  | cons {a : Addr} {vs : List V} {r : List Int} {R : List (List Int)} : H a = some (.tup (r.map V.int)) → RowsE H vs R → RowsE H (.ref a :: vs) (r :: R)
def TupR (H : Hp) (a : Addr) (R : List (List Int)) : Prop := ∃ vs, H a = some (.tup vs) ∧ RowsE H vs R
/-- tuples stay -/
def KeepT (H H' : Hp) : Prop := ∀ a xs, H a = some (.tup xs) → H' a = some (.tup xs)
theorem RowsE.keep {H H' : Hp} (e : KeepT H H') : ∀ {vs : List V} {R : List (List Int)}, RowsE H vs R → RowsE H' vs R
  | _, _, .nil => .nil
  | _, _, .cons h r => .cons (e _ _ h) (r.keep e)
theorem TupR.keep {H H' : Hp} (e : KeepT H H') {a : Addr} {R : List (List Int)} (h : TupR H a R) : TupR H' a R := let ⟨vs, h1, h2⟩ := h; ⟨vs, e _ _ h1, h2.keep e⟩
theorem KeepT.of {H H' : Hp} (e : Same H H') : KeepT H H' := fun a xs h => e _ _ h
theorem all_nums {h : Heap} : ∀ {r : List Int} {us : List Value}, Vals (r.map V.int) us → NestedAll h (r.map .num) us
  | [], _, .nil => .nil
  | x :: r, _, .cons a t => by
    obtain ⟨k, rfl⟩ := a
    exact .cons (.int x k) (all_nums t)
section
variable {P : Program} {w : World}
theorem row_is {H : Hp} {h : Heap} (ok : HOk P w H h) {a : Addr} {r : List Int} (e : H a = some (.tup (r.map V.int))) : NestedIs h (rowN r) (.ref a) := by
  obtain ⟨_, its, rv, o, ho, hc, n, hd⟩ := ok a _ e
  exact .tup ho hc hd (by rw [show its.toArray.toList = its from by simp]; exact all_nums rv)
theorem rows_is {H : Hp} {h : Heap} (ok : HOk P w H h) : ∀ {vs : List V} {R : List (List Int)} {us : List Value}, RowsE H vs R → Vals vs us → NestedAll h (R.map rowN) us
  | _, _, _, .nil, .nil => .nil
  | _, _, _, .cons e t, .cons rv tv => by
    cases rv
    exact .cons (row_is ok e) (rows_is ok t tv)
theorem key_is {H : Hp} {h : Heap} (ok : HOk P w H h) {a : Addr} {R : List (List Int)} (e : TupR H a R) : (nestedKind P w).is h (keyN R) a := by
  obtain ⟨vs, e1, e2⟩ := e
  obtain ⟨_, its, rv, o, ho, hc, n, hd⟩ := ok a _ e1
  exact ⟨.tup ho hc hd (by rw [show its.toArray.toList = its from by simp]; exact rows_is ok e2 rv), key_depth R⟩
/-- a dict of such keys, by its entries -/
def KnO (P : Program) (w : World) (d : Addr) (xs : List (NestedKey × Addr × Value)) : HO := .ext fun h => ∃ o es ep, h.get? d = some o ∧ o.ExactDict ∧ o.data = .dict es ep ∧ es.toList = xs.map (entryOfKey (nestedKind P w))
/-- counts by tuples of tuples -/
def NK (P : Program) (w : World) (H : Hp) (d : Addr) (kv : List (List (List Int) × Nat)) : Prop := ∃ xs : List (NestedKey × Addr × Value), H d = some (KnO P w d xs) ∧ (d == sysModules) = false ∧ kv.length ≤ sizeLine ∧ (kv.map (·.1)).Nodup ∧
  Paired (fun (p : List (List Int) × Nat) (x : NestedKey × Addr × Value) => x.1 = keyN p.1 ∧ TupR H x.2.1 p.1 ∧ RelV (V.int ((p.2 : Nat) : Int)) x.2.2) kv xs
theorem NK.keep {H H' : Hp} {d : Addr} {kv : List (List (List Int) × Nat)} (h : NK P w H d kv) (e : H' d = H d) (k : KeepT H H') : NK P w H' d kv := by
  obtain ⟨xs, h1, h2, h3, h4, h5⟩ := h
  exact ⟨xs, by rw [e]; exact h1, h2, h3, h4, Paired.mapP h5 fun p x z => ⟨z.1, z.2.1.keep k, z.2.2⟩⟩
theorem NK.same {H H' : Hp} {d : Addr} {kv : List (List (List Int) × Nat)} (h : NK P w H d kv) (e : Same H H') : NK P w H' d kv := by
  obtain ⟨xs, h1, h2, h3, h4, h5⟩ := h
  exact ⟨xs, e _ _ h1, h2, h3, h4, Paired.mapP h5 fun p x z => ⟨z.1, z.2.1.keep (.of e), z.2.2⟩⟩
theorem pair_len {α β : Type} {F : α → β → Prop} : ∀ {l : List α} {m : List β}, Paired F l m → l.length = m.length
  | _, _, .nil => rfl
  | _, _, .cons _ t => congrArg (· + 1) (pair_len t)
theorem nk_keys {H : Hp} : ∀ {kv : List (List (List Int) × Nat)} {xs : List (NestedKey × Addr × Value)}, Paired (fun (p : List (List Int) × Nat) (x : NestedKey × Addr × Value) => x.1 = keyN p.1 ∧ TupR H x.2.1 p.1 ∧ RelV (V.int ((p.2 : Nat) : Int)) x.2.2) kv xs → xs.map (·.1) = (kv.map (·.1)).map keyN
  | _, _, .nil => rfl
  | _, _, .cons h t => by
    rw [List.map_cons, List.map_cons, List.map_cons, nk_keys t, h.1]
theorem nk_at {H : Hp} {R : List (List Int)} : ∀ {kv : List (List (List Int) × Nat)} {xs : List (NestedKey × Addr × Value)}, Paired (fun (p : List (List Int) × Nat) (x : NestedKey × Addr × Value) => x.1 = keyN p.1 ∧ TupR H x.2.1 p.1 ∧ RelV (V.int ((p.2 : Nat) : Int)) x.2.2) kv xs →
    (R ∉ kv.map (·.1) ∧ atKey xs (keyN R) = none) ∨ ∃ n a u, (R, n) ∈ kv ∧ atKey xs (keyN R) = some (a, u) ∧ RelV (V.int ((n : Nat) : Int)) u
  | _, _, .nil => .inl ⟨fun h => (by cases h), rfl⟩
  | p :: kv, x :: xs, .cons h t => by
    by_cases e : p.1 = R
    · refine .inr ⟨p.2, x.2.1, x.2.2, ?_, ?_, h.2.2⟩
      · rw [← e]
        exact List.mem_cons_self
      · have e' : x.1 = keyN R := by rw [h.1, e]
        simp [atKey, List.find?_cons, e']
    · have ne : ¬ x.1 = keyN R := fun z => e (keyN_inj (h.1.symm.trans z))
      have e2 : atKey (x :: xs) (keyN R) = atKey xs (keyN R) := by simp [atKey, List.find?_cons, ne]
      rcases nk_at (R := R) t with ⟨h1, h2⟩ | ⟨n, a, u, h1, h2, h3⟩
      · refine .inl ⟨fun z => ?_, e2.trans h2⟩
        rcases List.mem_cons.mp z with z | z
        · exact e z.symm
        · exact h1 z
      · exact .inr ⟨n, a, u, List.mem_cons_of_mem _ h1, e2.trans h2, h3⟩
theorem nk_of {H : Hp} {h : Heap} (ok : HOk P w H h) {d : Addr} {xs : List (NestedKey × Addr × Value)} {kv : List (List (List Int) × Nat)} (e : H d = some (KnO P w d xs)) (nd : (kv.map (·.1)).Nodup)
    (pr : Paired (fun (p : List (List Int) × Nat) (x : NestedKey × Addr × Value) => x.1 = keyN p.1 ∧ TupR H x.2.1 p.1 ∧ RelV (V.int ((p.2 : Nat) : Int)) x.2.2) kv xs) : h.DictOfH (nestedKind P w) d xs := by
  have z : ObjOk P w H h d (.ext fun h => ∃ o es ep, h.get? d = some o ∧ o.ExactDict ∧ o.data = .dict es ep ∧ es.toList = xs.map (entryOfKey (nestedKind P w))) := ok d _ e
  obtain ⟨⟨o, es, ep, ho, hx, hd, he⟩, _⟩ := z
  refine ⟨o, es, ep, ho, hx, hd, he, ?_, ?_⟩
  · have : ∀ {kv : List (List (List Int) × Nat)} {xs : List (NestedKey × Addr × Value)}, Paired (fun (p : List (List Int) × Nat) (x : NestedKey × Addr × Value) => x.1 = keyN p.1 ∧ TupR H x.2.1 p.1 ∧ RelV (V.int ((p.2 : Nat) : Int)) x.2.2) kv xs → ∀ x ∈ xs, (nestedKind P w).is h x.1 x.2.1 := fun {kv xs} r => by
      induction r with
      | nil => exact fun x hx => by cases hx
      | cons a t ih =>
        intro x hx
        rcases List.mem_cons.mp hx with rfl | hx
        · rw [a.1]
          exact key_is ok a.2.1
        · exact ih x hx
    exact this pr
  · rw [nk_keys pr]
    exact Mt.nodup_map nd fun a _ b _ e => keyN_inj e
end
section
variable {X : Cx}
def rNotInN (P : Program) (w : World) : R2 := fun x y H Q => ∃ (a d : Addr) (R : List (List Int)) (kv : List (List (List Int) × Nat)), x = .ref a ∧ y = .ref d ∧ TupR H a R ∧ NK P w H d kv ∧ Q (.bl (!decide (R ∈ kv.map (·.1)))) H
theorem op_notInN (hu : X.A.units + 64 < cLine) : OpR X (compareOp .NotIn) (rNotInN X.prog X.w) := by
  intro pins s σ H x y v u Q I rx ry h
  obtain ⟨a, d, R, kv, rfl, rfl, hR, ⟨xs, h1, h2, h3, h4, h5⟩, q⟩ := h
  obtain rfl : v = Value.ref a := rx
  obtain rfl : u = Value.ref d := ry
  have hm := nk_of I.hok h1 h4 h5
  have hr : (nestedKind X.prog X.w).room X.A.in1 := by
    show X.A.units + 1 + 8 < cLine
    omega
  refine notIn_keyed hr (key_is I.hok hR) h2 ⟨xs, hm, rfl⟩ ?_
  rw [valueAt_pairsH]
  have e : (Option.map (fun x => x.2) (atKey xs (keyN R))).isSome = decide (R ∈ kv.map (·.1)) := by
    rcases nk_at (R := R) h5 with ⟨n1, n2⟩ | ⟨n, a', u', n1, n2, n3⟩
    · rw [n2, decide_eq_false n1]; rfl
    · rw [n2, decide_eq_true (List.mem_map.mpr ⟨_, n1, rfl⟩)]; rfl
  rw [e]
  exact ⟨.bl _, H, I.tok _, rfl, q⟩
def rSetN (P : Program) (w : World) : TSet := fun o i v H Q => ∃ (a d : Addr) (R : List (List Int)) (kv : List (List (List Int) × Nat)) (n : Nat), o = .ref d ∧ i = .ref a ∧ v = .int ((n : Nat) : Int) ∧ TupR H a R ∧ NK P w H d kv ∧ R ∉ kv.map (·.1) ∧ kv.length < sizeLine ∧
  ∀ H', NK P w H' d (kv ++ [(R, n)]) → (∀ b, b ≠ d → H' b = H b) → Q H'
theorem set_N (hu : X.A.units + 64 < cLine) : PSet X (rSetN X.prog X.w) := by
  intro pins s σ H o i v ov iv u Q I ro ri rv h
  obtain ⟨a, d, R, kv, n, rfl, rfl, rfl, hR, ⟨xs, h1, h2, h3, h4, h5⟩, hn, hl, q⟩ := h
  obtain rfl : iv = Value.ref a := ri
  obtain rfl : ov = Value.ref d := ro
  have hm := nk_of I.hok h1 h4 h5
  have hr : (nestedKind X.prog X.w).room X.A.in1 := by
    show X.A.units + 1 + 8 < cLine
    omega
  have e0 : atKey xs (keyN R) = none := by
    rcases nk_at (R := R) h5 with ⟨_, n2⟩ | ⟨m, a', u', n1, _, _⟩
    · exact n2
    · exact absurd (List.mem_map.mpr ⟨_, n1, rfl⟩) hn
  have len := pair_len h5
  refine wpAny_setItem_heap (hsz := by omega) hr (key_is I.hok hR) hm fun h' hm' hs => ?_
  rw [storedH_new e0] at hm'
  obtain ⟨q1, es, ep, hq, g2, g3, g4, _, _⟩ := hm'
  have he : ∃ q, h'.get? d = some q := ⟨q1, hq⟩
  have mu : Mut (H d) := by rw [h1]; exact True.intro
  have kp : KeepT H (upd H d (KnO X.prog X.w d (xs ++ [(keyN R, a, u)]))) := fun b ys eb => by
    rw [upd_ne (fun z => by rw [z, h1] at eb; cases eb)]
    exact eb
  refine ⟨upd H d (KnO X.prog X.w d (xs ++ [(keyN R, a, u)])), d_write I mu hs he ⟨⟨q1, es, ep, hq, g2, g3, g4⟩, ⟨q1, hq⟩, fun h1 h2 ⟨o, es, ep, a1, a2⟩ k => ⟨o, es, ep, k _ a1, a2⟩⟩, q _ ⟨_, upd_same, h2, ?_, ?_, ?_⟩ fun b hb => upd_ne hb⟩
  · rw [List.length_append]
    show _ + 1 ≤ _
    omega
  · rw [List.map_append, List.nodup_append]
    refine ⟨h4, List.nodup_cons.mpr ⟨fun z => (by cases z), List.nodup_nil⟩, fun x hx y hy e => ?_⟩
    rw [List.mem_singleton.mp hy] at e
    exact hn (by have e' : x = R := e; rw [← e']; exact hx)
  · exact Paired.snoc (Paired.mapP h5 fun p x z => ⟨z.1, z.2.1.keep kp, z.2.2⟩) ⟨rfl, hR.keep kp, rv⟩
def tDGetN (P : Program) (w : World) (td ty : TE) : TE := fun σ H Q => td σ H fun x H1 => ty σ H1 fun y H2 => ∃ (a d : Addr) (R : List (List Int)) (kv : List (List (List Int) × Nat)) (n : Nat), x = .ref d ∧ y = .ref a ∧ TupR H2 a R ∧ NK P w H2 d kv ∧ (R, n) ∈ kv ∧ Q (.int ((n : Nat) : Int)) H2
theorem pe_dgetN {o i : Expr} {pos : Pos} {td ty : TE} (hu : X.A.units + 64 < cLine) (ho : PE X o td) (hi : PE X i ty) (hs : NoSl i) : PE X (.Subscript o i pos) (tDGetN X.prog X.w td ty) := by
  refine ⟨fun pins s σ H Q I h => ?_⟩
  refine subD_of PySem.F.slot_dict_getitem.lookup hs (thn (ho.run pins s σ H _ I h) fun u s1 ⟨x, H1, I1, rx, q1⟩ => thn (hi.run pins s1 σ H1 _ I1 q1) fun iv s2 ⟨y, H2, I2, ry, a, d, R, kv, n, ex, ey, hR, ⟨xs, h1, h2, h3, h4, h5⟩, hm0, q2⟩ => ?_)
  subst ex
  subst ey
  obtain rfl : u = Value.ref d := rx
  obtain rfl : iv = Value.ref a := ry
  have hm := nk_of I2.hok h1 h4 h5
  have hr : (nestedKind X.prog X.w).room X.A.in1 := by
    show X.A.units + 1 + 8 < cLine
    omega
  rcases nk_at (R := R) h5 with ⟨n1, _⟩ | ⟨m, a', u', n1, n2, n3⟩
  · exact absurd (List.mem_map.mpr ⟨_, hm0, rfl⟩) n1
  · have em : m = n := by
      obtain ⟨i1, hi1⟩ := List.getElem?_of_mem n1
      obtain ⟨i2, hi2⟩ := List.getElem?_of_mem hm0
      have := Mt.nodup_get h4 (i := i1) (j := i2) (x := R) (by rw [List.getElem?_map, hi1]; rfl) (by rw [List.getElem?_map, hi2]; rfl)
      subst this
      rw [hi1] at hi2
      have := Option.some.inj hi2
      injection this
    subst em
    exact ⟨hm.typeIs, wpAny_getItem_heap hr (key_is I2.hok hR) hm n2 ⟨.int ((m : Nat) : Int), H2, I2.tok _, n3, q2⟩⟩
def tDNewN (P : Program) (w : World) : TE := fun _ H Q => ∀ p H', NK P w H' p [] → H p = none → Same H H' → (∀ b, b ≠ p → H' b = H b) → Q (.ref p) H'
theorem pe_dnewN {pos : Pos} : PE X (.Dict [] [] pos) (tDNewN X.prog X.w) := ⟨fun pins s σ H Q I h => by
  have hf := I.hok.fresh (Nat.le_refl s.heap.objs.size)
  have hg : (s.heap.push { cls := .type "dict", data := .dict #[] }).get? s.heap.objs.size = some ({ cls := .type "dict", data := .dict #[] } : Obj) := Heap.get?_push_size _ rfl
  have ok : ObjOk X.prog X.w (upd H s.heap.objs.size (KnO X.prog X.w s.heap.objs.size [])) (s.heap.push { cls := .type "dict", data := .dict #[] }) s.heap.objs.size (KnO X.prog X.w s.heap.objs.size []) :=
    ⟨⟨_, #[], 0, hg, ⟨rfl, rfl, rfl⟩, rfl, rfl⟩, ⟨_, hg⟩, fun h1 h2 ⟨o, es, ep, a1, a2⟩ k => ⟨o, es, ep, k _ a1, a2⟩⟩
  have hd : (s.heap.objs.size == sysModules) = false := beq_eq_false_iff_ne.mpr (Ne.symm (Nat.ne_of_lt I.big))
  exact wpAny_Dict_empty ⟨.ref s.heap.objs.size, _, I.laid (a := s.heap.objs.size) (o := KnO X.prog X.w s.heap.objs.size []) (t' := s.toks) (fun _ _ q => Heap.get?_push_of_some _ q) (Nat.le_refl _) ok, rfl, h _ _ ⟨[], upd_same, hd, Nat.zero_le _, List.nodup_nil, .nil⟩ hf (same_new hf) fun b hb => upd_ne hb⟩⟩
end
end Fo

set_option maxRecDepth 100000
set_option maxHeartbeats 2000000
namespace Fo
open PySem PySem.Spec PyProof.Rows L2
theorem callWith_kw {M : Model} {A : Around} {E : Value → Shared → Prop} {s : Shared} {pos : Pos} {T : String} {first : List Value} {args : List (Bool × Sem Value)} {kws : List (Option Str × Sem Value)} {Q : Value → Shared → Prop}
    (h1 : (args.any fun x => x.1) = false) (h2 : (kws.any fun x => x.1.isNone) = false)
    (h : wpAny M A (evalArgs (.type T) true args kws) (fun a s₁ => wpAny M A (call (.type T) (first ++ a.pos) a.kw) Q E s₁) E s) : wpAny M A (callWith pos (.type T) first args kws) Q E s := by
  unfold callWith
  refine wpAny_bind (wpAny_holding (thn h fun a s1 q => ?_))
  refine wpAny_bind (wpAny_standAt ?_)
  rw [h1, h2]
  simp only [keeperOf, Bool.or_self]
  refine wpAny_bind (wpAny_pure ?_)
  refine wpAny_bind (thn q fun r s2 hq => ?_)
  refine wpAny_bind (wpAny_holding ?_)
  wp_step
  exact wpAny_pure hq
theorem evalArgs_1k {M : Model} {A : Around} {E : Value → Shared → Prop} {s : Shared} {f : Value} {t u : Sem Value} {n : Str} {Q : Args → Shared → Prop} (h : wpAny M A (spliced [(false, t)]) (fun vs s1 => wpAny M A u (fun w s2 => Q ⟨vs, [(n, w)]⟩ s2) E s1) E s) :
    wpAny M A (evalArgs f true [(false, t)] [(some n, u)]) Q E s := by
  unfold evalArgs
  simp only [evalAll, List.map, List.filterMap, List.zip, List.all_cons, List.all_nil, Option.isSome, Bool.and_self, if_true]
  refine wpAny_bind (thn h fun vs s1 hv => ?_)
  refine wpAny_bind (wpAny_pure (wpAny_holding ?_))
  refine wpAny_bind (wpAny_bind (thn hv fun w s2 hw => wpAny_bind (wpAny_holding (wpAny_pure (wpAny_pure ?_)))))
  refine wpAny_bind (wpAny_pure (wpAny_pure hw))
theorem draws_shift {prog : Program} {w : World} {A : Around} {it : Addr} {fp : List Addr} {n k : Nat} {Pv : Nat → Value → Prop} {St : Nat → Heap → Prop} (D : Draws prog w A it fp n Pv St) :
    Draws prog w A it fp (n + k) (fun j v => ∃ i, j = i + k ∧ Pv i v) (fun j h => ∃ i, j = i + k ∧ St i h) where
  live := fun j h ⟨i, _, st⟩ => D.live i h st
  frame := fun j h h' ⟨i, e, st⟩ hk => ⟨i, e, D.frame i h h' st hk⟩
  item := fun j s Q E hj ⟨i, e, st⟩ q => D.item i s Q E (by omega) st fun x h' tk hp hs hb => q x h' tk ⟨i, e, hp⟩ ⟨i + 1, by omega, hs⟩ hb
  done := fun s Q E ⟨i, e, st⟩ q => D.done s Q E (by have : i = n := by omega
                                                     rw [← this]; exact st) q
end Fo
namespace L2
open PySem PySem.Spec PyProof.Rows
/-! enumerate of a list from k on -/
def IteS (K : PySem.W.Frag) (a : Addr) (k : Nat) : It :=
  ⟨fun i H => ∃ (xs : List V) (x : V), SqL K H a xs ∧ xs[i]? = some x, fun i H v H' => ∃ T x, v = .ref T ∧ H T = none ∧ H' = upd H T (.tup [.int ((i + k : Nat) : Int), x]) ∧ ∀ xs, SqL K H a xs → xs[i]? = some x, fun i H => ∃ xs : List V, SqL K H a xs ∧ xs.length ≤ i⟩
theorem turn_enumS {P : Program} {w : World} {K : PySem.W.Frag} {elts : List Expr} {kk : Nat} {tpos : Pos} (k : Nat) (a e it : Addr) :
    Turn P w K (.Tuple elts kk tpos) (IteS K a k) [e, it] e (fun i h => (∃ old, IsEnum h e it ((i + k : Nat) : Int) old) ∧ h.IsListIter it a i ∧ e ≠ it ∧ a ≠ it ∧ a ≠ e) where
  mem := by simp
  obj := fun i h st b hb => by
    obtain ⟨⟨old, he⟩, ⟨o, ho, hc, hd⟩, _⟩ := st
    have e' : b = e ∨ b = it := by simpa using hb
    rcases e' with z | z
    · rw [z]; exact ⟨_, he, fun v q => nomatch q⟩
    · rw [z]; exact ⟨o, ho, fun v q => by rw [hd] at q; cases q⟩
  keep := fun i h h' st q => let ⟨⟨old, he⟩, hi, hne⟩ := st; ⟨⟨old, q e (by simp) _ he⟩, hi.at fun o z => q it (by simp) o z, hne⟩
  item := by
    intro X hP hw hK hc i pins s σ H E I hf st hg
    subst hP hw hK
    obtain ⟨⟨old, he⟩, hit, hne, hai, hae⟩ := st
    obtain ⟨xs, x, hq, hx⟩ := hg
    obtain ⟨its, rv, p, hz⟩ := I.list hq
    obtain ⟨u, hu, ru⟩ := rv.get hx
    have hel : e < s.heap.objs.size := Heap.lt_size he
    have hil : it < s.heap.objs.size := by obtain ⟨_, q, _⟩ := hit; exact Heap.lt_size q
    have hilt : i < its.toArray.size := by
      have := (List.getElem?_eq_some_iff.mp hu).1
      simpa using this
    refine wpAny_pyNext_enum_itemD (i := i + k) (Fo.draws_shift (k := k) (Draws.list (A := X.A.in1) (I.ok.hd hc) it a hai its.toArray)) he ⟨i, rfl, hit, p.isList⟩ (by omega) hne (by simp; exact ⟨hne, fun q => hae q.symm⟩) fun x2 h' tk hP ho hst hT hsz hk => ?_
    obtain ⟨i2, e2, hP⟩ := hP
    have ei2 : i2 = i := by omega
    subst ei2
    have ex : x2 = u := by
      have hP' : its[i2]? = some x2 := by simpa using hP
      rw [hu] at hP'
      exact (Option.some.inj hP').symm
    subst ex
    refine ⟨_, rfl, wpAny_letOwnedTupleGo_enum (s := { s with heap := h', toks := tk + 1 }) ho fun h'' he' sb => ?_⟩
    have hT2 : h''.get? s.heap.objs.size = some { cls := .type "tuple", data := .seq #[.int ((i2 + k : Nat) : Int) tk, x2] } := (sb.2 _ (Nat.ne_of_gt hel)).trans hT
    have new : ObjOk X.prog X.w (upd H s.heap.objs.size (.tup [.int ((i2 + k : Nat) : Int), x])) h'' s.heap.objs.size (.tup [.int ((i2 + k : Nat) : Int), x]) :=
      ⟨by show 2 ≤ sizeLine; decide, [.int ((i2 + k : Nat) : Int) tk, x2], .cons ⟨_, rfl⟩ (.cons ru .nil), ⟨_, hT2, rfl, _, rfl⟩⟩
    have I1 : Inv X pins σ (upd H s.heap.objs.size (.tup [.int ((i2 + k : Nat) : Int), x])) { s with heap := h'', toks := tk + 1 } :=
      I.turnedNew (ch := [e, it]) (fun b ob hb q => (sb.2 b (fun z => hb (by simp [z]))).trans (hk b ob (fun z => hb (by simp [z])) (fun z => hb (by simp [z])) q)) hf (Nat.le_refl _) new
    obtain ⟨i3, e3, hst, _⟩ := hst
    have ei3 : i3 = i2 + 1 := by omega
    subst ei3
    refine ⟨.ref s.heap.objs.size, _, I1, rfl, ⟨_, x, rfl, I.hok.fresh (Nat.le_refl _), rfl, fun ys hy => by rw [I.list_inj hy hq]; exact hx⟩, ⟨⟨x2, ?_⟩, hst.at fun o q => (sb.2 it (Ne.symm hne)).trans q, hne, hai, hae⟩, fun b hb => ?_⟩
    · have e1 : ((i2 + 1 + k : Nat) : Int) = ((i2 + k : Nat) : Int) + 1 := by omega
      rw [e1]; exact he'
    · have hb' : b < s.heap.objs.size := by
        have e' : b = e ∨ b = it := by simpa using hb
        rcases e' with z | z
        · rw [z]; exact hel
        · rw [z]; exact hil
      rw [upd_ne (Nat.ne_of_lt hb')]
      exact (hf b hb).1
  done := by
    intro X hP hw hK hc i pins s σ H E I hf st hg
    subst hP hw hK
    obtain ⟨⟨old, he⟩, hit, hne, hai, hae⟩ := st
    obtain ⟨xs, hq, hx⟩ := hg
    obtain ⟨its, rv, p, hz⟩ := I.list hq
    obtain ⟨f0, f1, f2, f3, f4, f5⟩ := hf it (by simp)
    have hl := rv.length
    have D : Draws X.prog X.w X.A.in1 it [it, a] i (fun _ _ => True) (fun j h => j = i ∧ h.IsListIter it a i ∧ h.IsList a its.toArray) :=
      ⟨fun _ _ st => (let ⟨o, ho, _⟩ := st.2.1; ⟨o, ho⟩), fun _ _ _ st hk => ⟨st.1, st.2.1.at fun o e => hk it (by simp) o e, st.2.2.at fun o e => hk a (by simp) o e⟩,
        fun j s Q E hj st hQ => absurd st.1 (Nat.ne_of_lt hj), fun s Q E st hE => wpAny_nextOf_list_end (I.ok.hd hc) st.2.1 st.2.2 (by simp; omega) hE⟩
    exact wpAny_pyNext_enum_endD (Fo.draws_shift (k := k) D) he ⟨i, rfl, rfl, hit, p.isList⟩ fun h' eb => ⟨rfl, I.turned (t' := s.toks) (fun b o hb q => eb b o hb q) f0 f1 f3 f4 f5⟩
  self := fun A i s Q E st h => let ⟨⟨_, he⟩, _⟩ := st; wpAny_pyIter_enum he h
def iEnumS (K : PySem.W.Frag) (k : Nat) (ta : TA) : TI := fun σ H R => ta σ H fun vs H1 => ∃ a xs, vs = [.ref a] ∧ SqL K H1 a xs ∧ R (IteS K a k) H1
theorem pi_enumS {X : Cx} {e : Expr} {ta : TA} {k : Nat} {u : Nat} {p pos tpos cp kp : Pos} {elts : List Expr} {kk : Nat} (hk : k < 1000) (hg : Gl X "enumerate") (hm : X.mg "enumerate" = none) (ha : PA X [e] ta) (hs : starEach [e] X.env = [(false, eval e X.env)] := by rfl) :
    PI X (.Tuple elts kk tpos) (.Call (.Name "enumerate" p) [e] [⟨some "start", .Constant (.int (k : Int)) u cp, kp⟩] pos) (iEnumS X.K k ta) := by
  refine ⟨fun pins s σ H R I h => ?_⟩
  show wpAny _ _ (do
      let f ← eval (.Name "enumerate" p) X.env
      callWith pos f [] (backTo pos (starEach [e] X.env)) (backToKw pos (keywordEach [⟨some "start", .Constant (.int (k : Int)) u cp, kp⟩] X.env))) _ _ _
  refine wpAny_bind (ld_blt I hg hm boot_enumerate ?_)
  have har := ha.run pos pins s σ H _ I h
  rw [hs] at har ⊢
  refine Fo.callWith_kw rfl (by unfold keywordEach keywordEach; rfl) ?_
  unfold keywordEach keywordEach
  refine Fo.evalArgs_1k (thn har fun us s1 ⟨vs, H1, I1, r1, q1⟩ => ?_)
  obtain ⟨a, xs, ex, hq, q⟩ := q1
  subst ex
  cases r1 with
  | cons r rr =>
    cases rr
    cases r
    have hc := (pe_int (X := X) (i := (k : Int)) (j := u) (pos := cp)).run pins s1 σ H1 (fun v H' => v = V.int (k : Int) ∧ H' = H1) I1 ⟨rfl, rfl⟩
    refine wpAny_bind (thn hc fun w s2 hw => ?_)
    obtain ⟨v, H2, I2, rw_, rfl, eH⟩ := hw
    subst eH
    obtain ⟨t, rfl⟩ := rw_
    refine wpAny_bind (wpAny_standAt (wpAny_pure ?_))
    obtain ⟨its, rv, p', hz⟩ := I2.list hq
    have halt : a < s2.heap.objs.size := by obtain ⟨_, q, _⟩ := id p'.isList; exact Heap.lt_size q
    refine enum_begins_start (begins_list a its.toArray) p'.isList (by omega) (by omega) fun h' he hit hsz hk => wpAny_pyIter_enum he ?_
    have I3 : Inv X pins σ _ { s2 with heap := h' } := I2.kept (t' := s2.toks) hk
    have he' : IsEnum h' (s2.heap.objs.size + 1) s2.heap.objs.size ((0 + k : Nat) : Int) .none := by rw [Nat.zero_add]; exact he
    refine ⟨s2.heap.objs.size + 1, [s2.heap.objs.size + 1, s2.heap.objs.size], _, _, _, rfl, I3, turn_enumS k a (s2.heap.objs.size + 1) s2.heap.objs.size, ⟨⟨.none, he'⟩, ⟨_, hit, rfl, rfl⟩, Nat.succ_ne_self _, Nat.ne_of_lt halt, Nat.ne_of_lt (Nat.lt_succ_of_lt halt)⟩, fun b hb => ?_, q⟩
    have e' : b = s2.heap.objs.size + 1 ∨ b = s2.heap.objs.size := by simpa using hb
    have hle : s2.heap.objs.size ≤ b := by
      rcases e' with z | z
      · rw [z]; exact Nat.le_add_right _ _
      · rw [z]; exact Nat.le_refl _
    exact I2.fpOk hle (I2.hok.fresh hle)
end L2

set_option maxRecDepth 100000
set_option maxHeartbeats 4000000
/-! min(xs, key=lambda one: ..). -/
namespace Fo
open PySem PySem.Spec PyProof.Rows L2 LamX NdefX
theorem callWith_kwB {M : Model} {A : Around} {E : Value → Shared → Prop} {s : Shared} {pos : Pos} {T : String} {first : List Value} {args : List (Bool × Sem Value)} {kws : List (Option Str × Sem Value)} {Q : Value → Shared → Prop}
    (h1 : (args.any fun x => x.1) = false) (h2 : (kws.any fun x => x.1.isNone) = false)
    (h : wpAny M A (evalArgs (.builtin T) true args kws) (fun a s₁ => wpAny M A (call (.builtin T) (first ++ a.pos) a.kw) Q E s₁) E s) : wpAny M A (callWith pos (.builtin T) first args kws) Q E s := by
  unfold callWith
  refine wpAny_bind (wpAny_holding (thn h fun a s1 q => ?_))
  refine wpAny_bind (wpAny_standAt ?_)
  rw [h1, h2]
  simp only [keeperOf, Bool.or_self]
  refine wpAny_bind (wpAny_pure ?_)
  refine wpAny_bind (thn q fun r s2 hq => ?_)
  refine wpAny_bind (wpAny_holding ?_)
  wp_step
  exact wpAny_pure hq
/-- a list walked, whose items are known by what they stand for -/
theorem walks_lv {P : Program} {w : World} {A : Around} (hh : A.handled = none) (I a : Addr) (hne : a ≠ I) (xs : List V) :
    WalksS P w A I [I, a] [I] (fun x y => y = x) xs.length (fun i v => ∃ x, xs[i]? = some x ∧ RelV x v) (fun i s => s.heap.IsListIter I a i ∧ ∃ us : List Value, Vals xs us ∧ s.heap.IsList a us.toArray) where
  sub := fun b hb => by simp at hb; simp [hb]
  grefl := fun _ => rfl
  gtrans := fun _ _ _ h1 h2 => h2.trans h1
  frame := fun i s h' tk st _ hk => ⟨st.1.at fun o e => hk I (by simp) o e, let ⟨us, r, l⟩ := st.2; ⟨us, r, l.at fun o e => hk a (by simp) o e⟩⟩
  item := fun i s Q E hi st hQ => by
    obtain ⟨h1, us, r, h2⟩ := st
    have el : us.toArray.size = xs.length := by rw [List.size_toArray, r.length]
    refine (Walks.list hh I a hne us.toArray).toS.item i s Q E (by omega) ⟨h1, h2⟩ fun v s' hv st' hm => hQ v s' ?_ ⟨st'.1, us, r, st'.2⟩ hm
    have hx : xs[i]? = some xs[i] := List.getElem?_eq_getElem hi
    obtain ⟨u, hu, ru⟩ := r.get hx
    have hv' : us[i]? = some v := by simpa using hv
    rw [hu] at hv'
    cases hv'
    exact ⟨_, hx, ru⟩
  done := fun s Q E st hQ => by
    obtain ⟨h1, us, r, h2⟩ := st
    have el : us.toArray.size = xs.length := by rw [List.size_toArray, r.length]
    exact (Walks.list hh I a hne us.toArray).toS.done s Q E ⟨by rw [el]; exact h1, h2⟩ hQ
  self := fun i s Q E st hQ => wpAny_pyIter_listiter st.1 hQ
section
variable {X : Cx} {pins : List (Addr × Obj)} {σ : L2.St} {H : Hp} {s s' : Shared}
/-- what nothing knows of is changed -/
theorem inv_moved {ch : List Addr} (I : Inv X pins σ H s) (k : ∀ b o, b ∉ ch → s.heap.get? b = some o → s'.heap.get? b = some o)
    (hc : ∀ b ∈ ch, FpOk X pins H b) (ho : s'.os = s.os) (hg : s'.gens = s.gens) : Inv X pins σ H s' := by
  obtain ⟨h', g', d', t', o'⟩ := s'
  have e : o' = s.os := ho
  subst e
  have nit : ∀ b u, H b = some u → b ∉ ch := fun b u e z => by rw [(hc b z).1] at e; cases e
  refine I.step (g' := g') (d' := d') (ch := ch) (fun b hb => ?_) (fun b o _ _ hb e _ => k b o hb e) (fun b o _ _ hb e _ => ⟨o.slots, k b o hb e⟩) (fun _ _ _ _ n => n)
    (fun b o hb e => ⟨o, k b o hb e⟩) (fun _ _ e => e) (fun _ _ _ e => e) (fun b ps e => ⟨#[], by rw [e]; simp⟩) (fun m hm => ?_) (fun b u e => ?_) (by rw [show g' = s.gens from hg]; exact I.bare)
  · obtain ⟨_, f1, _, f3, f4, f5⟩ := hc b hb
    exact ⟨f3, f1, f4, f5⟩
  · obtain ⟨o, es, ep, ho, r⟩ := hm
    exact ⟨o, es, ep, k _ o (fun z => (hc _ z).2.1 rfl) ho, r⟩
  · refine (I.hok b u e).stay (fun c v hd q => k c v ?_ q) (fun _ q => q) fun _ _ q => q
    rcases hd with z | z
    · rw [z]; exact nit b u e
    · exact nit c _ z
/-- the words of a lambda -/
def LF (qual : Str) (params : Arguments) (scope : Scope) (cl : List (Str × Addr)) (c : Addr) : NF := ⟨"<lambda>", qual, params, [], scope, cl, c⟩
/-- a lambda called -/
theorem lam_call {k : Nat} {f c' : Addr} {params : Arguments} {body : Expr} {scope : Scope} {N ps fr : List Str} {js : List Nat} {pm ctv : Value} {us : List Value} {vs : List V} {tb : TE} {Q : VK}
    (I : Inv X pins σ H s) (hr : Room (k + 2) X.A) (S : NScope N ps fr scope) (C : Caps X (cloFrom X.env.cells scope.names []) fr js)
    (hf : s.heap.get? f = some (PySem.W.kla_obj "<lambda>" (X.env.qual ++ "<lambda>") params body scope (cloFrom X.env.cells scope.names []) pm c' ctv)) (hc : H c' = some (CodeO c' (X.env.qual ++ "<lambda>")))
    (hbind : bindArgs (PySem.W.kla_fn "<lambda>" (X.env.qual ++ "<lambda>") params body scope (cloFrom X.env.cells scope.names []) pm (.ref c') ctv) ⟨us, []⟩ = pure (ps.zip us)) (hl : vs.length = ps.length) (r : Vals vs us)
    (hbody : ∀ (A : Around) (outer : List Env) (s : Shared) (H : Hp), Room k (A.deeper (envF (LF (X.env.qual ++ "<lambda>") params scope (cloFrom X.env.cells scope.names []) c') f s.heap.objs.size)) →
      PE (ncx C8.CX0 X.prog X.w X.K X.mg X.base N (LF (X.env.qual ++ "<lambda>") params scope (cloFrom X.env.cells scope.names []) c') f A outer s H C8.E0) body tb)
    (h : tb (startF N vs (js.map (slotAt σ))) H Q) :
    codeAny (model X.prog X.w) X.A.in1 (.call (.ref f) ⟨us, []⟩) (CR C8.CX0 X.stack X.prog X.w H s Q C8.E0) s := by
  have hr1 := hr.in1
  obtain ⟨⟨oc, vs', t, hoc, hdc, hvc⟩, _, _⟩ := I.hok c' _ hc
  refine PySem.W.kla_callFunE hr1.depth hf rfl S.co S.gen rfl ⟨c', oc, vs', t, rfl, hoc, hdc, hvc⟩ ?_
  rw [hbind]
  refine wpAny_pure (wpAny_newFunctionEnv S.nocell (fun ⟨n, _⟩ hy => S.par n (List.of_mem_zip hy).1) (fun h₁ hns hsb => ⟨I.nolimit.fresh _ hsb, ?_⟩) S.kind)
  show codeAny _ _ (.expr body (envF (LF (X.env.qual ++ "<lambda>") params scope (cloFrom X.env.cells scope.names []) c') f s.heap.objs.size)) _ _
  have kp : ∀ b o, s.heap.get? b = some o → h₁.get? b = some o := fun b o e => hsb.extBut b o (Nat.ne_of_lt (Heap.lt_size e)) (Heap.get?_push_of_some _ e)
  have J := inv_startN (CX := C8.CX0) (N := N) (ps := ps) (fr := fr) (F := LF (X.env.qual ++ "<lambda>") params scope (cloFrom X.env.cells scope.names []) c') (f := f) (E := C8.E0) (tk := s.toks + (ps.zip us).length) S hr1.hd I.env0.in1 hl r (cells_of I C) hns kp
  refine PySem.W.kla_codeExpr (wpAny_mono ((hbody _ _ s H (hr1.deeper _)).run [] _ _ H Q J h) (fun v s' hq => ?_) fun e s' hq => hq)
  obtain ⟨w', H', J', rv, q⟩ := hq
  exact ⟨w', H', J'.os, J'.bare, J'.base, J'.hok, rv, q⟩
end
/-- min(xs, key=lambda ..): one of the items -/
def tMinLam (K : PySem.W.Frag) (T : List (Addr × Str)) (N : List Str) (js : List Nat) (ta : TA) (tb : TE) : TE := fun σ H Q => ta σ H fun vs H1 => ∃ (a : Addr) (xs : List V), vs = [.ref a] ∧ SqL K H1 a xs ∧ xs ≠ [] ∧ Tabs T H1 ∧
  ∀ H2, ExtN H1 H2 → Tabs T H2 → SqL K H2 a xs → ∃ kf : Nat → Int, (∀ (i : Nat) (y : V) (H3 : Hp), xs[i]? = some y → Same H2 H3 → tb (startF N [y] (js.map (slotAt σ))) H3 fun v H4 => v = .int (kf i) ∧ Same H2 H4) ∧
    ∀ y ∈ xs, ∀ H3, Same H2 H3 → Q y H3
theorem rd_ext {H H' : Hp} {a : Addr} {xs : List V} (e : ExtN H H') (h : Rd H a (.lst xs)) : Rd H' a (.lst xs) := by
  rcases h with h | ⟨o, h⟩
  · exact .inl (e _ _ h fun ps z => by cases z)
  · exact .inr ⟨o, e _ _ h fun ps z => by cases z⟩
theorem sqL_ext {K : PySem.W.Frag} {H H' : Hp} {a : Addr} {xs : List V} (e : ExtN H H') (h : SqL K H a xs) : SqL K H' a xs := by
  rcases h with h | h
  · exact .inl (rd_ext e h)
  · exact .inr h
theorem argBest_lt (bt : Nat → Nat → Bool) : ∀ n, argBest bt n ≤ n
  | 0 => Nat.le_refl _
  | n + 1 => by
    have := argBest_lt bt n
    unfold argBest
    split
    · exact Nat.le_refl _
    · omega
theorem pe_minLam {X : Cx} {T : List (Addr × Str)} {c Pt : Addr} {k : Nat} {x : Expr} {ta : TA} {tb : TE} {params : Arguments} {body : Expr} {scope : Scope} {N fr : List Str} {p1 js0 : Str} {js : List Nat} {p lpos kpos pos : Pos}
    (hg : Gl X "min") (hm : X.mg "min" = none) (hx : PA X [x] ta) (TB : TabB X.base X.mg c Pt) (hcode : X.env.code = .ref c) (hmT : (Pt, X.env.qual ++ "<lambda>") ∈ T) (hu : ∀ p ∈ T, p.1 = Pt → p.2 = X.env.qual ++ "<lambda>")
    (hr : Room (k + 2) X.A) (S : NScope N [p1] fr scope) (hfree : ∀ y ∈ scope.names, y.2 = .free → X.env.scope.names.lookup y.1 = some .cell ∨ X.env.scope.names.lookup y.1 = some .free) (hfr : ∀ y ∈ fr, (y, NameKind.free) ∈ scope.names) (hjs : js.map (fun j => X.N[j]?) = fr.map some)
    (hdef : defaultsOf params X.env = ([], [])) (hbind : ∀ (q : Str) (cl : List (Str × Addr)) (pm cv ctv u : Value), bindArgs (PySem.W.kla_fn "<lambda>" q params body scope cl pm cv ctv) ⟨[u], []⟩ = pure ([p1].zip [u]))
    (hbody : ∀ (A : Around) (outer : List Env) (s : Shared) (H : Hp) (f c' : Addr), Room k (A.deeper (envF (LF (X.env.qual ++ "<lambda>") params scope (cloFrom X.env.cells scope.names []) c') f s.heap.objs.size)) →
      PE (ncx C8.CX0 X.prog X.w X.K X.mg X.base N (LF (X.env.qual ++ "<lambda>") params scope (cloFrom X.env.cells scope.names []) c') f A outer s H C8.E0) body tb)
    (hs : starEach [x] X.env = [(false, eval x X.env)] := by rfl) (hb : bootBuiltins "min" = some (.builtin "min") := by rfl) :
    PE X (.Call (.Name "min" p) [x] [⟨some "key", .Lambda params body scope lpos, kpos⟩] pos) (tMinLam X.K T N js ta tb) := by
  refine ⟨fun pins s σ H Q I h => ?_⟩
  show wpAny _ _ (do
      let f ← eval (.Name "min" p) X.env
      callWith pos f [] (backTo pos (starEach [x] X.env)) (backToKw pos (keywordEach [⟨some "key", .Lambda params body scope lpos, kpos⟩] X.env))) _ _ _
  refine wpAny_bind (ld_blt I hg hm hb ?_)
  have har := hx.run pos pins s σ H _ I h
  rw [hs] at har ⊢
  refine Fo.callWith_kwB rfl (by unfold keywordEach keywordEach; rfl) ?_
  unfold keywordEach keywordEach
  refine Fo.evalArgs_1k (thn har fun us s1 ⟨vs, H1, I1, r1, q1⟩ => ?_)
  obtain ⟨a, xs, ex, hq, ne, hT, q⟩ := q1
  subst ex
  cases r1 with
  | cons r rr =>
    cases rr
    cases r
    refine wpAny_bind (lam_make2 I1 TB hcode hmT hu hT hdef (fun y hy e => (hfree y hy e).elim (fun z => I1.ok.has _ (.inl z)) fun z => I1.ok.has _ (.inr z)) fun f c' pm ctv H2 s2 I2 eN T2 hf hfn hff hco => ?_)
    refine wpAny_bind (wpAny_standAt (wpAny_pure ?_))
    have hq2 : SqL X.K H2 a xs := sqL_ext eN hq
    obtain ⟨kf, hkf, hlast⟩ := q H2 eN T2 hq2
    have C : Caps X (cloFrom X.env.cells scope.names []) fr js := Caps.made I2.ok hfree hfr hjs
    refine call_min_walkK ?_
    obtain ⟨us, rus, pl, _⟩ := I2.list hq2
    refine wpAny_pyIter_list pl.isList ?_
    have I3 : Inv X pins σ H2 { s2 with heap := s2.heap.push { cls := .type "list_iterator", data := .fields #[.ref a, .int 0 0] } } := I2.kept (t' := s2.toks) fun b o e => Heap.get?_push_of_some _ e
    have fpI : FpOk X pins H2 s2.heap.objs.size := I2.fpOk (Nat.le_refl _) (I2.hok.fresh (Nat.le_refl _))
    obtain ⟨s3, e3⟩ : ∃ s3 : Shared, s3 = { s2 with heap := s2.heap.push { cls := .type "list_iterator", data := .fields #[.ref a, .int 0 0] } } := ⟨_, rfl⟩
    rw [← e3] at I3 ⊢
    have fpS : FpOk X pins H2 s3.heap.objs.size := I3.fpOk (Nat.le_refl _) (I3.hok.fresh (Nat.le_refl _))
    have sz3 : s3.heap.objs.size = s2.heap.objs.size + 1 := by rw [e3]; exact Heap.size_push _ _
    have nofr : ∀ b, FpOk X pins H2 b → b ∉ frs X.stack := fun b hb z => by
      rcases List.mem_cons.mp (I2.stkSub _ z) with e | e
      · exact hb.2.1 e
      · exact hb.2.2.1 e
    have hlf : f < s2.heap.objs.size := Heap.lt_size hf
    have hla : a < s2.heap.objs.size := by obtain ⟨_, q, _⟩ := id pl.isList; exact Heap.lt_size q
    obtain ⟨it, eit⟩ : ∃ it, it = s2.heap.objs.size := ⟨_, rfl⟩
    obtain ⟨S1, eS⟩ : ∃ S1, S1 = s3.heap.objs.size := ⟨_, rfl⟩
    rw [← eit] at fpI hlf hla
    have iS : it < S1 := by rw [eS, sz3, eit]; exact Nat.lt_succ_self _
    rw [← eS] at fpS ⊢
    have hf3 : s3.heap.get? f = some (PySem.W.kla_obj "<lambda>" (X.env.qual ++ "<lambda>") params body scope (cloFrom X.env.cells scope.names []) pm c' ctv) := by rw [e3]; exact Heap.get?_push_of_some _ hf
    have nlen : 0 < xs.length := List.length_pos_iff.mpr ne
    refine ⟨it, [it, a], [it], fun x y => y = x, xs.length, fun i v => ∃ x, xs[i]? = some x ∧ RelV x v, fun i s => s.heap.IsListIter it a i ∧ ∃ us : List Value, Vals xs us ∧ s.heap.IsList a us.toArray,
      fun s => ∃ H', Inv X pins σ H' s ∧ Same H2 H' ∧ s.heap.get? f = some (PySem.W.kla_obj "<lambda>" (X.env.qual ++ "<lambda>") params body scope (cloFrom X.env.cells scope.names []) pm c' ctv) ∧ H' f = none ∧ H' it = none ∧ H' S1 = none,
      fun i u _ => ∃ t, u = .int (kf i) t, fun i j => decide (kf i < kf j), by rw [eit], walks_lv (show X.A.in1.handled = none from hr.hd) it a (Nat.ne_of_lt hla) xs, ⟨?_, us, rus, ?_⟩, ?_, nlen, ⟨?_, ?_, ?_, ?_⟩, ⟨H2, I3, Same.refl _, hf3, hfn, fpI.1, fpS.1⟩, ?_⟩
    · rw [e3, eit]
      exact ⟨_, Heap.get?_push_size _ rfl, rfl, rfl⟩
    · rw [e3]
      exact pl.isList.at fun o e => Heap.get?_push_of_some _ e
    · intro b hb
      have : b = it ∨ b = a := by simpa using hb
      rcases this with z | z
      · rw [z]; exact iS
      · rw [z]; exact Nat.lt_trans hla iS
    · rintro s s' ⟨H', I', sm, f1, f2, f3, f4⟩ hm
      refine ⟨H', inv_moved (ch := [S1, it]) I' hm.heap (fun b hb => ?_) hm.os hm.gens, sm, hm.heap f _ ?_ f1, f2, f3, f4⟩
      · have : b = S1 ∨ b = it := by simpa using hb
        rcases this with z | z
        · rw [z]; exact ⟨f4, fpS.2⟩
        · rw [z]; exact ⟨f3, fpI.2⟩
      · intro z
        have : f = S1 ∨ f = it := by simpa using z
        rcases this with z | z
        · exact Nat.ne_of_lt (Nat.lt_trans hlf iS) z
        · exact Nat.ne_of_lt hlf z
    · exact fun i u s s' h _ => h
    · rintro i v s o Q' E' hi ⟨y, hy, ry⟩ ⟨H', I', sm, f1, f2, f3, f4⟩ ⟨hit, us', rus', hl'⟩ hS hQ
      refine wpAny_call (codeAny_mono (lam_call (N := N) (ps := [p1]) (us := [v]) (vs := [y]) I' hr S C f1 (sm _ _ hco) (hbind _ _ _ _ _ _) rfl (.cons ry .nil) (fun A outer s H r => hbody A outer s H f c' r) (hkf i y H' hy sm)) fun r s' hq => ?_)
      cases r with
      | error e => exact (show False from hq).elim
      | ok fl =>
        cases fl with
        | ret u =>
          obtain ⟨v2, H4, os, bare, un, hok, rv, ev, sm4⟩ := hq
          subst ev
          have I4 := I'.call' (ch := []) os un hok bare (fun b hb => by cases hb)
          obtain ⟨io, hio, _⟩ := id hit
          refine hQ u s' ⟨H4, I4, sm4, un.keep f _ f1 f2 hff (by simp), un.free f _ f1 f2 (by simp), un.free it _ hio f3 (by simp), un.free S1 _ hS f4 (by simp)⟩ ⟨hit.at fun o e => un.keep it o e f3 (nofr it fpI) (by simp), ?_⟩ (un.keep S1 _ hS f4 (nofr S1 fpS) (by simp)) rv fun j k h => h
          obtain ⟨us4, r4, pl4, _⟩ := I4.list (sm4.seq hq2)
          exact ⟨us4, r4, pl4.isList⟩
        | next => exact False.elim hq
        | brk => exact False.elim hq
        | cont => exact False.elim hq
    · rintro i j ki kj s Q' E' _ ⟨t, rfl⟩ ⟨t', rfl⟩ hQ
      exact wpAny_lt_int hQ
    · rintro v s' ⟨y, hy, ry⟩ ⟨H', I', sm, _⟩
      exact ⟨y, H', I', ry, hlast y (List.mem_of_getElem? hy) H' sm⟩
end Fo

set_option maxRecDepth 100000
set_option maxHeartbeats 4000000
/-! {i: j} of two written ints. -/
namespace Fo
open PySem PySem.Spec PyProof.Rows L2
section
variable {X : Cx}
def tDict1I (i j : Int) : TE := fun _ H Q => ∀ p, H p = none → Q (.ref p) (upd H p (.dK [(.inl i, .int j)]))
theorem pe_dict1I {i j : Int} {a b : Nat} {p1 p2 pos : Pos} : PE X (.Dict [some (.Constant (.int i) a p1)] [.Constant (.int j) b p2] pos) (tDict1I i j) := ⟨fun pins s σ H Q I h => by
  have hf := I.hok.fresh (Nat.le_refl s.heap.objs.size)
  have hd : (s.heap.objs.size == sysModules) = false := beq_eq_false_iff_ne.mpr (Ne.symm (Nat.ne_of_lt I.big))
  refine wpAny_Dict_pairs (knd := mixKind X.prog X.w) (pairs := [(eval (.Constant (.int i) a p1) X.env, do let x ← eval (.Constant (.int j) b p2) X.env; standAt pos; pure x)]) rfl (by simp) (Nat.le_of_ble_eq_true rfl) ?_
  refine evalPairs_cons (wpAny_Constant_int (wpAny_bind (wpAny_Constant_int (wpAny_bind (wpAny_standAt (wpAny_pure (evalPairs_nil ?_)))))))
  refine ⟨[(.inl i, _)], ⟨mixKind_int _ _ _ _, rfl, trivial⟩, Heap.DictOf.new s.heap, fun h' hm hsb => ?_⟩
  refine ⟨.ref s.heap.objs.size, _, I.laid (a := s.heap.objs.size) (o := .dK [(.inl i, .int j)]) (fun c u e => (hsb.2 c (Nat.ne_of_lt (Heap.lt_size e))).trans (Heap.get?_push_of_some _ e)) (Nat.le_refl _) ?_, rfl, h _ hf⟩
  exact dk_new (by show 1 ≤ sizeLine; decide) hd (.cons ⟨rfl, _, rfl⟩ .nil) hm⟩
end
end Fo

set_option maxRecDepth 100000
set_option maxHeartbeats 4000000
/-! All but tables of code objects stay: what a def with a lambda leaves. -/
namespace Fo
open PySem PySem.Spec PyProof.Rows L2 LamX
/-! ### a def whose code object is known -/
structure FunC (K : PySem.W.Frag) (x qual : Str) (st : Stmt) (f : Addr) (fd : FuncData) (c : Addr) : Prop where
  ex : ∃ (oc : Value) (od : Option Addr) (kV doc pm : Value) (an : Option Addr) (ct : Value) (osl : Array (Option Value)),
    fd = PySem.W.fnOf x qual (defArgs st) (defBody st) (defScope st) .none kV doc pm an (.ref c) ct ∧ K.lookup f = some ⟨oc, od, .func fd, osl⟩ ∧ PySem.W.codeIn K (.ref c) qual = true
  kp : PySem.W.keepIn K (.ref f) = true
structure AtC (K : PySem.W.Frag) (mg : Str → Option Value) (x : Str) (st : Stmt) (ps : List Str) (c : Addr) : Prop where
  ex : ∃ f fd, mg x = some (.ref f) ∧ FunC K x x st f fd c ∧ Binds K fd ps []
theorem AtC.of {K : PySem.W.Frag} {mg : Str → Option Value} {x : Str} {st : Stmt} {ps : List Str} {h : Heap} {c P : Addr} (A : At K mg x st ps) (X : K.In h) (G : h.Ns mainGlobals mg) (ht : PySem.W.tabIn K x = some (c, P)) : AtC K mg x st ps c := by
  obtain ⟨f, fd, hm, F, b⟩ := A.ex
  obtain ⟨oc, od, kV, doc, pm, an, cdv, ct, osl, rfl, lk, hcd⟩ := id F.ex
  have e := PySem.W.law_code X G ht hm (X _ _ lk) rfl
  have e' : cdv = .ref c := e
  subst e'
  exact ⟨f, _, hm, ⟨⟨oc, od, kV, doc, pm, an, ct, osl, rfl, lk, hcd⟩, F.kp⟩, b⟩
section
variable {P : Program} {w : World} {K : PySem.W.Frag} {mg : Str → Option Value} {base : Heap}
theorem AtC.ok {x : Str} {st : Stmt} {N ps : List Str} {k : Nat} {sp : Sp} {c : Addr} (a : AtC K mg x st ps c) (S : FnScope N ps (defScope st)) (len : ∀ vs H Q E, sp vs H Q E → vs.length = ps.length)
    (hbody : ∀ (f : Addr) (A : Around) (outer : List Env) (s : Shared) (H : Hp) (vs : List V) (Q : VK) (E : XK), Room k (A.deeper (envOfC x (defScope st) s.heap.objs.size f (.ref c))) → sp vs H Q E →
      ∃ t, PSs (cxOf CX0 P w K mg base N x (defScope st) f (.ref c) A outer s H E).nox (defBody st) t ∧ t { nx := fun _ H' => Q .non H', rt := Q } (start N vs) H) : Dfn P w K mg base x ps (k + 1) sp := by
  obtain ⟨f, fd, hm, F, b⟩ := a.ex
  obtain ⟨oc, od, kV, doc, pm, an, ct, osl, rfl, lk, hcd⟩ := F.ex
  exact ⟨f, _, hm, F.kp, fn_of lk hcd S len fun A outer s H vs Q E hr hsp => (by
    obtain ⟨t, h, q⟩ := hbody f A outer s H vs Q E hr hsp
    exact ⟨t, h.nox, q⟩), b⟩
end
/-! ### what stays -/
/-- nothing but a table stands at p -/
def Fz (H : Hp) (p : Addr) : Prop := ∀ o, H p = some o → ∃ ps, o = .tbl ps
theorem Fz.of {H : Hp} {p : Addr} (h : H p = none) : Fz H p := fun o e => by rw [h] at e; cases e
theorem _root_.LamX.ExtN.fz {H H' : Hp} (e : ExtN H H') {p : Addr} (h : Fz H' p) : Fz H p := fun o ho => by
  by_cases q : ∃ ps, o = .tbl ps
  · exact q
  · exact h o (e p o ho fun ps z => q ⟨ps, z⟩)
theorem _root_.LamX.ExtN.free {H H' : Hp} (e : ExtN H H') {p : Addr} (h : H' p = none) : Fz H p := e.fz (Fz.of h)
theorem _root_.LamX.ExtN.same {H H' : Hp} (e : Same H H') : ExtN H H' := fun b o h _ => e b o h
theorem _root_.LamX.ExtN.mut {H H' : Hp} {p : Addr} {o : HO} (e : ExtN H H') (h : Fz H p) : ExtN H (upd H' p o) := fun b u hb n => by
  have ne : b ≠ p := fun z => by
    obtain ⟨ps, q⟩ := h u (z ▸ hb)
    exact n ps q
  rw [upd_ne ne]
  exact e b u hb n
theorem Fz.ne {H : Hp} {p b : Addr} {o : HO} (h : Fz H p) (e : H b = some o) (n : ∀ ps, o ≠ .tbl ps) : b ≠ p := fun z => by
  obtain ⟨ps, q⟩ := h o (z ▸ e)
  exact n ps q
theorem sqT_ext {K : PySem.W.Frag} {H H' : Hp} {a : Addr} {xs : List V} (e : ExtN H H') (h : SqT K H a xs) : SqT K H' a xs := by
  rcases h with (h | ⟨o, h⟩) | h
  · exact .inl (.inl (e _ _ h fun ps z => by cases z))
  · exact .inl (.inr ⟨o, e _ _ h fun ps z => by cases z⟩)
  · exact .inr h
theorem Sq.ext {b : Bool} {K : PySem.W.Frag} {H H' : Hp} {a : Addr} {xs : List V} (h : Sq b K H a xs) (e : ExtN H H') : Sq b K H' a xs := by
  cases b with
  | true => exact sqL_ext e h
  | false => exact sqT_ext e h
theorem RowsT.ext {K : PySem.W.Frag} {H H' : Hp} (g : ExtN H H') : ∀ {vs : List V} {rs : List (List Int)}, RowsT K H vs rs → RowsT K H' vs rs
  | _, _, .nil => .nil
  | _, _, .cons h r => .cons (sqT_ext g h) (r.ext g)
theorem RowsB.ext {b : Bool} {K : PySem.W.Frag} {H H' : Hp} (g : ExtN H H') : ∀ {vs : List V} {rs : List (List Int)}, RowsB b K H vs rs → RowsB b K H' vs rs
  | _, _, .nil => .nil
  | _, _, .cons h r => .cons (h.ext g) (r.ext g)
theorem RowsQ.ext {b : Bool} {K : PySem.W.Frag} {H H' : Hp} {v : V} {rows : List (List Int)} (h : RowsQ b K H v rows) (g : ExtN H H') : RowsQ b K H' v rows := by
  obtain ⟨a, vs, e, h1, h2⟩ := h
  exact ⟨a, vs, e, h1.ext g, h2.ext g⟩
theorem RowsAt.ext {K : PySem.W.Frag} {H H' : Hp} {v : V} {rows : List (List Int)} (h : RowsAt K H v rows) (g : ExtN H H') : RowsAt K H' v rows := by
  obtain ⟨a, vs, e, h1, h2⟩ := h
  exact ⟨a, vs, e, sqT_ext g h1, h2.ext g⟩
theorem TableAt.ext {K : PySem.W.Frag} {C : Addr} {H H' : Hp} {x : V} {rows : List (List Int)} (h : TableAt K C H x rows) (g : ExtN H H') : TableAt K C H' x rows := by
  obtain ⟨p, dx, v, e, h1, h2⟩ := h
  exact ⟨p, dx, v, e, g _ _ h1 (fun ps z => by cases z), h2.ext g⟩
mutual
theorem dp_ext {K : PySem.W.Frag} {H H' : Hp} (e : ExtN H H') : ∀ {v : V} {d : PyData}, Dp K H v d → Dp K H' v d
  | _, _, .non => .non
  | _, _, .bl b => .bl b
  | _, _, .int i => .int i
  | _, _, .str x => .str x
  | _, _, .lst h r => .lst (sqL_ext e h) (dpAll_ext e r)
  | _, _, .tup h r => .tup (sqT_ext e h) (dpAll_ext e r)
theorem dpAll_ext {K : PySem.W.Frag} {H H' : Hp} (e : ExtN H H') : ∀ {vs : List V} {ds : List PyData}, DpAll K H vs ds → DpAll K H' vs ds
  | _, _, .nil => .nil
  | _, _, .cons h r => .cons (dp_ext e h) (dpAll_ext e r)
end
theorem Tape.ext {H H' : Hp} {t l : Addr} (T : Tape H t l) (g : ExtN H H') : Tape H' t l := by
  obtain ⟨ns, b, c, d, e, h, hl, hb⟩ := T
  exact ⟨ns, b, c, d, e, g _ _ h (fun ps z => by cases z), g _ _ hl (fun ps z => by cases z), hb⟩
theorem KeepT.ext {H H' : Hp} (e : ExtN H H') : KeepT H H' := fun a xs h => e _ _ h fun ps z => by cases z
theorem NK.ext {P : Program} {w : World} {H H' : Hp} {d : Addr} {kv : List (List (List Int) × Nat)} (h : NK P w H d kv) (e : ExtN H H') : NK P w H' d kv := by
  obtain ⟨xs, h1, r⟩ := id h
  exact h.keep ((e _ _ h1 fun ps z => by unfold KnO at z; cases z).trans h1.symm) (KeepT.ext e)
/-! ### the table -/
theorem _root_.LamX.TabS.same {H H' : Hp} {P : Addr} {q : Str} (t : TabS H P q) (e : Same H H') : TabS H' P q := t.ext e
theorem _root_.LamX.TabS.put {H : Hp} {P p : Addr} {q : Str} {o u : HO} (t : TabS H P q) (h : H p = some u) (n1 : ∀ ps, u ≠ .tbl ps) (n2 : ∀ c q, u ≠ CodeO c q) : TabS (upd H p o) P q := by
  obtain ⟨ps, h1, h2, h3⟩ := t
  have ne : P ≠ p := fun z => by rw [z, h] at h1; exact n1 ps (Option.some.inj h1)
  refine ⟨ps, by rw [upd_ne ne]; exact h1, h2, fun pos cv hc => ?_⟩
  obtain ⟨c, e1, e2⟩ := h3 pos cv hc
  refine ⟨c, e1, ?_⟩
  have ne2 : c ≠ p := fun z => by rw [z, h] at e2; exact n2 p q (Option.some.inj e2)
  rw [upd_ne ne2]
  exact e2
theorem code_ne {c : Addr} {q : Str} {u : HO} (h : ∀ f, u ≠ .ext f) : u ≠ CodeO c q := fun z => by
  unfold CodeO at z
  exact h _ z
theorem _root_.LamX.TabS.lst {H : Hp} {P p : Addr} {q : Str} {o : HO} {xs : List V} (t : TabS H P q) (h : H p = some (.lst xs)) : TabS (upd H p o) P q := t.put h (fun ps z => by cases z) fun c q => code_ne fun f z => by cases z
theorem _root_.LamX.TabS.dic {H : Hp} {P p : Addr} {q : Str} {o : HO} {kvs : List (Key × V)} (t : TabS H P q) (h : H p = some (.dK kvs)) : TabS (upd H p o) P q := t.put h (fun ps z => by cases z) fun c q => code_ne fun f z => by cases z
theorem _root_.LamX.TabS.tape {H H' : Hp} {P t l : Addr} {q : Str} (x : TabS H P q) (T : Tape H t l) (g : Gr t H H') : TabS H' P q := by
  obtain ⟨ps, h1, h2, h3⟩ := x
  obtain ⟨ns, b, c, d, e, ht, hl, hb⟩ := T
  refine ⟨ps, g _ _ (fun z => by rw [z, ht] at h1; cases h1) h1, h2, fun pos cv hc => ?_⟩
  obtain ⟨c', e1, e2⟩ := h3 pos cv hc
  exact ⟨c', e1, g _ _ (fun z => by rw [z, ht] at e2; exact code_ne (fun f z => by cases z) (Option.some.inj e2)) e2⟩
theorem tabs_one {H : Hp} {P : Addr} {q : Str} : Tabs [(P, q)] H ↔ TabS H P q := ⟨fun h => h _ List.mem_cons_self, fun h p hp => by rw [List.mem_singleton.mp hp]; exact h⟩
/-! ### what stays where a dict of counts changes, too -/
def Vol (b : Addr) (o : HO) : Prop := (∃ ps, o = .tbl ps) ∨ ∃ P w xs, o = KnO P w b xs
theorem vol_tup {b : Addr} {xs : List V} : ¬ Vol b (.tup xs) := fun h => h.elim (fun ⟨_, z⟩ => by cases z) fun ⟨_, _, _, z⟩ => by unfold KnO at z; cases z
theorem vol_lst {b : Addr} {xs : List V} : ¬ Vol b (.lst xs) := fun h => h.elim (fun ⟨_, z⟩ => by cases z) fun ⟨_, _, _, z⟩ => by unfold KnO at z; cases z
theorem vol_dK {b : Addr} {xs : List (Key × V)} : ¬ Vol b (.dK xs) := fun h => h.elim (fun ⟨_, z⟩ => by cases z) fun ⟨_, _, _, z⟩ => by unfold KnO at z; cases z
theorem vol_dT {b : Addr} {xs : List (List Key × V)} : ¬ Vol b (.dT xs) := fun h => h.elim (fun ⟨_, z⟩ => by cases z) fun ⟨_, _, _, z⟩ => by unfold KnO at z; cases z
theorem vol_ins {b C dx : Addr} {fs : List (Str × V)} : ¬ Vol b (.ins C dx fs) := fun h => h.elim (fun ⟨_, z⟩ => by cases z) fun ⟨_, _, _, z⟩ => by unfold KnO at z; cases z
theorem vol_frz {b : Addr} {o : Obj} {u : HO} : ¬ Vol b (.frz o u) := fun h => h.elim (fun ⟨_, z⟩ => by cases z) fun ⟨_, _, _, z⟩ => by unfold KnO at z; cases z
/-- all but tables and such dicts stay -/
def ExtK (H H' : Hp) : Prop := ∀ b o, H b = some o → ¬ Vol b o → H' b = some o
theorem ExtK.refl (H : Hp) : ExtK H H := fun _ _ h _ => h
theorem ExtK.trans {H H1 H2 : Hp} (a : ExtK H H1) (b : ExtK H1 H2) : ExtK H H2 := fun c o h n => b c o (a c o h n) n
theorem ExtK.same {H H' : Hp} (e : Same H H') : ExtK H H' := fun b o h _ => e b o h
theorem ExtK.of {H H' : Hp} (e : ExtN H H') : ExtK H H' := fun b o h n => e b o h fun ps z => n (.inl ⟨ps, z⟩)
def Fk (H : Hp) (p : Addr) : Prop := ∀ o, H p = some o → Vol p o
theorem Fk.of {H : Hp} {p : Addr} (h : H p = none) : Fk H p := fun o e => by rw [h] at e; cases e
theorem ExtK.fk {H H' : Hp} (e : ExtK H H') {p : Addr} (h : Fk H' p) : Fk H p := fun o ho => Classical.byContradiction fun n => n (h o (e p o ho n))
theorem ExtK.free {H H' : Hp} (e : ExtK H H') {p : Addr} (h : H' p = none) : Fk H p := e.fk (Fk.of h)
theorem ExtK.mut {H H' : Hp} {p : Addr} {o : HO} (e : ExtK H H') (h : Fk H p) : ExtK H (upd H' p o) := fun b u hb n => by
  have ne : b ≠ p := fun z => n (by rw [z] at hb ⊢; exact h u hb)
  rw [upd_ne ne]
  exact e b u hb n
theorem Fk.ne {H : Hp} {p b : Addr} {o : HO} (h : Fk H p) (e : H b = some o) (n : ¬ Vol b o) : b ≠ p := fun z => n (by rw [z] at e ⊢; exact h o e)
theorem sqT_k {K : PySem.W.Frag} {H H' : Hp} {a : Addr} {xs : List V} (e : ExtK H H') (h : SqT K H a xs) : SqT K H' a xs := by
  rcases h with (h | ⟨o, h⟩) | h
  · exact .inl (.inl (e _ _ h vol_tup))
  · exact .inl (.inr ⟨o, e _ _ h vol_frz⟩)
  · exact .inr h
theorem sqL_k {K : PySem.W.Frag} {H H' : Hp} {a : Addr} {xs : List V} (e : ExtK H H') (h : SqL K H a xs) : SqL K H' a xs := by
  rcases h with (h | ⟨o, h⟩) | h
  · exact .inl (.inl (e _ _ h vol_lst))
  · exact .inl (.inr ⟨o, e _ _ h vol_frz⟩)
  · exact .inr h
theorem Sq.k {b : Bool} {K : PySem.W.Frag} {H H' : Hp} {a : Addr} {xs : List V} (h : Sq b K H a xs) (e : ExtK H H') : Sq b K H' a xs := by
  cases b with
  | true => exact sqL_k e h
  | false => exact sqT_k e h
theorem RowsT.k {K : PySem.W.Frag} {H H' : Hp} (g : ExtK H H') : ∀ {vs : List V} {rs : List (List Int)}, RowsT K H vs rs → RowsT K H' vs rs
  | _, _, .nil => .nil
  | _, _, .cons h r => .cons (sqT_k g h) (r.k g)
theorem RowsB.k {b : Bool} {K : PySem.W.Frag} {H H' : Hp} (g : ExtK H H') : ∀ {vs : List V} {rs : List (List Int)}, RowsB b K H vs rs → RowsB b K H' vs rs
  | _, _, .nil => .nil
  | _, _, .cons h r => .cons (h.k g) (r.k g)
theorem RowsQ.k {b : Bool} {K : PySem.W.Frag} {H H' : Hp} {v : V} {rows : List (List Int)} (h : RowsQ b K H v rows) (g : ExtK H H') : RowsQ b K H' v rows := by
  obtain ⟨a, vs, e, h1, h2⟩ := h
  exact ⟨a, vs, e, h1.k g, h2.k g⟩
theorem RowsAt.k {K : PySem.W.Frag} {H H' : Hp} {v : V} {rows : List (List Int)} (h : RowsAt K H v rows) (g : ExtK H H') : RowsAt K H' v rows := by
  obtain ⟨a, vs, e, h1, h2⟩ := h
  exact ⟨a, vs, e, sqT_k g h1, h2.k g⟩
theorem TableAt.k {K : PySem.W.Frag} {C : Addr} {H H' : Hp} {x : V} {rows : List (List Int)} (h : TableAt K C H x rows) (g : ExtK H H') : TableAt K C H' x rows := by
  obtain ⟨p, dx, v, e, h1, h2⟩ := h
  exact ⟨p, dx, v, e, g _ _ h1 vol_ins, h2.k g⟩
mutual
theorem dp_k {K : PySem.W.Frag} {H H' : Hp} (e : ExtK H H') : ∀ {v : V} {d : PyData}, Dp K H v d → Dp K H' v d
  | _, _, .non => .non
  | _, _, .bl b => .bl b
  | _, _, .int i => .int i
  | _, _, .str x => .str x
  | _, _, .lst h r => .lst (sqL_k e h) (dpAll_k e r)
  | _, _, .tup h r => .tup (sqT_k e h) (dpAll_k e r)
theorem dpAll_k {K : PySem.W.Frag} {H H' : Hp} (e : ExtK H H') : ∀ {vs : List V} {ds : List PyData}, DpAll K H vs ds → DpAll K H' vs ds
  | _, _, .nil => .nil
  | _, _, .cons h r => .cons (dp_k e h) (dpAll_k e r)
end
theorem Tape.k {H H' : Hp} {t l : Addr} (T : Tape H t l) (g : ExtK H H') : Tape H' t l := by
  obtain ⟨ns, b, c, d, e, h, hl, hb⟩ := T
  exact ⟨ns, b, c, d, e, g _ _ h vol_lst, g _ _ hl vol_lst, hb⟩
theorem NK.ne {P : Program} {w : World} {H : Hp} {d b : Addr} {kv : List (List (List Int) × Nat)} {o : HO} (h : NK P w H d kv) (e : H b = some o) (n : ¬ Vol b o) : b ≠ d := fun z => by
  obtain ⟨xs, h1, _⟩ := h
  rw [z, h1] at e
  cases e
  exact n (.inr ⟨P, w, xs, by rw [z]⟩)
theorem code_kn {P : Program} {w : World} {c : Addr} {q : Str} {xs : List (NestedKey × Addr × Value)} (e : CodeO c q = KnO P w c xs) : False := by
  unfold CodeO KnO at e
  injection e with e
  let ob : Obj := { cls := .none, data := .fields #[.none, .str q 0] }
  let hh : Heap := { objs := (Array.replicate c ob).push ob }
  have g : hh.get? c = some ob := by
    have e1 : hh.objs[c]? = some ob := by
      show ((Array.replicate c ob).push ob)[c]? = some ob
      rw [Array.getElem?_push, Array.size_replicate, if_pos rfl]
    unfold Heap.get?
    rw [e1]
  have h1 : ∃ (oc : Obj) (vs : Array Value) (t : Tok), hh.get? c = some oc ∧ oc.data = .fields vs ∧ vs[1]? = some (.str q t) := ⟨ob, _, 0, g, rfl, rfl⟩
  have h2 := (congrFun e hh).mp h1
  obtain ⟨o, es, ep, a, _, b, _⟩ := h2
  rw [g] at a
  cases a
  cases b
theorem _root_.LamX.TabS.nk {P : Program} {w : World} {H H' : Hp} {d Pt : Addr} {q : Str} {kv kv' : List (List (List Int) × Nat)} (t : TabS H Pt q) (h : NK P w H d kv) (h2 : NK P w H' d kv') (e : ∀ b, b ≠ d → H' b = H b) : TabS H' Pt q := by
  obtain ⟨ps, h1, h2', h3⟩ := t
  obtain ⟨xs, k1, _⟩ := id h
  refine ⟨ps, by rw [e _ (fun z => by rw [z, k1] at h1; unfold KnO at h1; cases h1)]; exact h1, h2', fun pos cv hc => ?_⟩
  obtain ⟨c, e1, e2⟩ := h3 pos cv hc
  exact ⟨c, e1, by rw [e _ (fun z => by rw [z, k1] at e2; exact code_kn (Option.some.inj e2).symm)]; exact e2⟩
/-! ### what stays where the tape is read, too -/
def ExtT (t : Addr) (H H' : Hp) : Prop := ∀ b o, b ≠ t → H b = some o → ¬ Vol b o → H' b = some o
theorem ExtT.refl {t : Addr} (H : Hp) : ExtT t H H := fun _ _ _ h _ => h
theorem ExtT.trans {t : Addr} {H H1 H2 : Hp} (a : ExtT t H H1) (b : ExtT t H1 H2) : ExtT t H H2 := fun c o n h v => b c o n (a c o n h v) v
theorem ExtT.k {t : Addr} {H H' : Hp} (e : ExtK H H') : ExtT t H H' := fun b o _ h v => e b o h v
theorem ExtT.same {t : Addr} {H H' : Hp} (e : Same H H') : ExtT t H H' := fun b o _ h _ => e b o h
theorem ExtT.gr {t : Addr} {H H' : Hp} (g : Gr t H H') : ExtT t H H' := fun b o n h _ => g b o n h
theorem ExtT.mut {t : Addr} {H H' : Hp} {p : Addr} {o : HO} (e : ExtT t H H') (h : Fk H p) : ExtT t H (upd H' p o) := fun b u n hb v => by
  have ne : b ≠ p := fun z => v (by rw [z] at hb ⊢; exact h u hb)
  rw [upd_ne ne]
  exact e b u n hb v
theorem ExtT.fk {t l : Addr} {H H' : Hp} (e : ExtT t H H') (T : Tape H' t l) {p : Addr} (h : H' p = none) : Fk H p := fun o ho => Classical.byContradiction fun v => by
  have n : p ≠ t := fun z => T.there (by rw [← z]; exact h)
  rw [e p o n ho v] at h
  cases h
theorem sqT_t {K : PySem.W.Frag} {t l : Addr} {H H' : Hp} {a : Addr} {xs : List V} (e : ExtT t H H') (T : Tape H t l) (h : SqT K H a xs) : SqT K H' a xs := by
  obtain ⟨ns, b, c, d, f, ht, hl, hb⟩ := T
  rcases h with (h | ⟨o, h⟩) | h
  · exact .inl (.inl (e _ _ (ne_of h ht (by intro z; cases z)) h vol_tup))
  · exact .inl (.inr ⟨o, e _ _ (ne_of h ht (by intro z; cases z)) h vol_frz⟩)
  · exact .inr h
theorem RowsT.t {K : PySem.W.Frag} {t l : Addr} {H H' : Hp} (g : ExtT t H H') (T : Tape H t l) : ∀ {vs : List V} {rs : List (List Int)}, RowsT K H vs rs → RowsT K H' vs rs
  | _, _, .nil => .nil
  | _, _, .cons h r => .cons (sqT_t g T h) (r.t g T)
theorem RowsAt.t {K : PySem.W.Frag} {t l : Addr} {H H' : Hp} {v : V} {rows : List (List Int)} (h : RowsAt K H v rows) (g : ExtT t H H') (T : Tape H t l) : RowsAt K H' v rows := by
  obtain ⟨a, vs, e, h1, h2⟩ := h
  exact ⟨a, vs, e, sqT_t g T h1, h2.t g T⟩
theorem TableAt.t {K : PySem.W.Frag} {C t l : Addr} {H H' : Hp} {x : V} {rows : List (List Int)} (h : TableAt K C H x rows) (g : ExtT t H H') (T : Tape H t l) : TableAt K C H' x rows := by
  obtain ⟨p, dx, v, e, h1, h2⟩ := h
  obtain ⟨ns, b, c, d, f, ht, hl, hb⟩ := id T
  exact ⟨p, dx, v, e, g _ _ (ne_of h1 ht (by intro z; cases z)) h1 vol_ins, h2.t g T⟩
end Fo

set_option maxRecDepth 100000
set_option maxHeartbeats 2000000
namespace PySem.W
open PySem PySem.Spec PyProof.Rows Builtin
section
variable {prog : Program} {w : World} {A : Around} {E : Value → Shared → Prop} {s : Shared} {K : Frag} {x C f a : Addr} {ox : Obj} {od : Option Obj}
theorem fo_tupDeclines {Q : Fin → Shared → Prop} {ot : Obj} (X : K.In s.heap) (I : InstAt s.heap x ox C od) (ha : s.heap.get? a = some ot) (hc : ot.cls = .type "tuple") (hm : mroIn K C (.type "tuple") = some false)
    (hq : Q (.done (.ret .notImplemented)) s) : wpAny (model prog w) A (Builtin.«tuple.__eq__» ⟨[.ref a, .ref x], []⟩) Q E s := by
  have hs : wpAny (model prog w) A (isSubtype (.ref C) (.type "tuple")) (fun b s' => b = false ∧ s' = s) E s := (looks_mroIn X hm).here ⟨rfl, rfl⟩
  unfold Builtin.«tuple.__eq__»
  refine wpAny_bind ?_
  have e1 : slotArgs "__eq__" 1 ⟨[.ref a, .ref x], []⟩ = pure (.ref a, [.ref x]) := rfl
  rw [e1]
  refine wpAny_pure (wpAny_bind ?_)
  unfold isInstance
  refine wpAny_bind (I.type.here ((looks_mroIn X hm).here ?_))
  refine wpAny_ite_true (by rfl) ?_
  exact wpAny_pure hq
theorem plainTE : plainId "tuple.__eq__" = true := by decide +kernel
theorem kindTE : builtinKind "tuple.__eq__" = some Manifest.AttrKind.slot := by decide +kernel
theorem splitTE : splitId "tuple.__eq__" = some ("tuple", "__eq__") := by decide +kernel
theorem fo_checkTE {Q : Unit → Shared → Prop} {b : Value} (ht : s.TypeIs (.ref a) "tuple") (hq : Q () s) : wpAny (model prog w) A (checkBuiltinCall "tuple.__eq__" ⟨[.ref a, b], []⟩) Q E s := by
  have e := PyProof.Rows.args_tuple_eq (.ref a) b
  unfold argsOk at e
  simp only [checkBuiltinCall, kindTE, splitTE]
  refine wpAny_bind ?_
  unfold isInstance
  refine wpAny_bind (wpAny_typeOf ht ?_)
  have e2 : isSubtype (.type "tuple") (.type "tuple") = pure true := by rfl
  rw [e2]
  refine wpAny_pure ?_
  simp only [Bool.not_true, Bool.false_eq_true, if_false]
  cases hsig : Manifest.signature? "tuple.__eq__" with
  | none => exact wpAny_pure hq
  | some sig =>
    rw [hsig] at e
    simp only at e ⊢
    rw [e]
    exact wpAny_pure hq
/-- a tuple == an instance whose class has its own == : the tuple declines, the instance is asked -/
theorem fo_eqTup {h₀ : Heap} {L : Addr} {m : Str → Option Value} {Q : Value → Shared → Prop} {ot : Obj} (hu : A.units + 1 < cLine) (F : Fr h₀ L s.heap m) (X₀ : K.In h₀) (I : InstAt s.heap x ox C od) (ha : s.heap.get? a = some ot) (hc : ot.cls = .type "tuple")
    (hm : mroIn K C (.type "tuple") = some false) (hs : findIn K (.ref C) (Str.ofString "__eq__") = some (some (.ref f))) (hf : isFn K (.ref f) = true)
    (h : wpAny (model prog w) A (call (.ref f) [.ref x, .ref a]) (CmpBack Q) E s) : wpAny (model prog w) A (richCompare .Eq (.ref a) (.ref x)) Q E s := by
  have X := X₀.keeps F.keep
  have ht : s.TypeIs (.ref a) "tuple" := ⟨ot, ha, hc⟩
  unfold richCompare
  simp only [oneThing_ref]
  refine wpAny_holding (wpAny_bind (wpAny_cRoomFor (Nat.lt_of_succ_lt hu) ?_))
  refine wpAny_bind (wpAny_typeOf ht (wpAny_bind (I.type.here ?_)))
  split
  · refine wpAny_bind ((looks_mroIn X hm).here ?_)
    refine wpAny_ite_false (by rfl) ?_
    refine wpAny_bind (wpAny_tryCompare_declines (T := "tuple") (id := "tuple.__eq__") ht PyProof.Rows.slot_tuple_eq ?_)
    refine wpAny_call (codeAny_call_builtin plainTE PyProof.Rows.entry_tuple_eq (fo_checkTE (A := A.in1) ht (fo_tupDeclines (A := A.in1) X I ha hc hm ?_)))
    refine ⟨rfl, ?_⟩
    refine wpAny_ite_true (by rfl) ?_
    unfold tryCompare
    refine wpAny_bind (wpAny_bind (ifBound_K X I hs hf (wpAny_mono h (fun v s' hv => ?_) fun _ _ e => e)))
    cases v <;> first | exact False.elim hv | exact wpAny_pure (wpAny_pure hv)
  · rename_i q
    exfalso
    apply q
    rfl
end
end PySem.W
namespace Fo
open PySem PySem.Spec PyProof.Rows L2
theorem FnOk.imp {P : Program} {w : World} {K : PySem.W.Frag} {mg : Str → Option Value} {base : Heap} {CX : CXT} {k : Nat} {f : Addr} {fd : FuncData} {ps : List Str} {sp sp' : Sp} (F : FnOk P w K mg base CX k f fd ps sp) (h : ∀ vs H Q E, sp' vs H Q E → sp vs H Q E) : FnOk P w K mg base CX k f fd ps sp' :=
  ⟨fun vs H Q E q => F.len vs H Q E (h _ _ _ _ q), fun A outer s H args us vs Q E hr e0 hb r q => F.run A outer s H args us vs Q E hr e0 hb r (h _ _ _ _ q)⟩
theorem sub_built {K : PySem.W.Frag} {C : Addr} {n : String} (h : fastBuiltinMro n = some [.type n, .type "object"]) : PySem.W.subIn K (.type n) (.ref C) = some false := by
  show (fastBuiltinMro n).map (fun l => l.contains (.ref C)) = some false
  rw [h]
  rfl
/-- no built-in thing is an instance of the class C -/
structure Oth (K : PySem.W.Frag) (C : Addr) (t : Value) : Prop where
  nf : PySem.W.notFirst K C t = true
  kit : PySem.W.kitOne K t (.ref C) = some false
theorem Oth.built {K : PySem.W.Frag} {C : Addr} (ht : PySem.W.typeIn K (.ref C) = some (.type "type")) (hm : PySem.W.mroIn K C (.type "object") = some true) {n : String} (h : fastBuiltinMro n = some [.type n, .type "object"]) : Oth K C (.type n) := by
  have hs := sub_built (K := K) (C := C) h
  refine ⟨?_, ?_⟩
  · unfold PySem.W.notFirst
    rw [hs, Bool.or_eq_true]
    exact .inr rfl
  · have hc : (PySem.W.clsIn K C).isSome = true := by
      unfold PySem.W.mroIn at hm
      cases e : PySem.W.clsIn K C with
      | none => rw [e] at hm; cases hm
      | some c => rfl
    have e : (Value.type n == Value.ref C) = false := by
      rw [beq_eq_false_iff_ne]
      intro q
      cases q
    unfold PySem.W.kitOne
    rw [e, if_neg (by decide)]
    show (if ((PySem.W.clsIn K C).isSome && PySem.W.typeIn K (.ref C) == some (.type "type")) = true then PySem.W.subIn K (.type n) (.ref C) else none) = some false
    rw [hc, ht, if_pos (by rfl), hs]
def spEq2 (K : PySem.W.Frag) (C : Addr) : Sp := fun vs H Q _ => ∃ (x y : V) (r1 : List (List Int)), vs = [x, y] ∧ TableAt K C H x r1 ∧ ((∃ r2, TableAt K C H y r2 ∧ ∀ H', Same H H' → Q (.bl (decide (r1 = r2))) H') ∨ (∃ t, TyX K H y t ∧ Oth K C t ∧ ∀ H', Same H H' → Q (.bl false) H'))
def rEq2 (K : PySem.W.Frag) (C : Addr) : R2 := fun x y H Q => ∃ (r1 : List (List Int)), TableAt K C H x r1 ∧ ((∃ r2, TableAt K C H y r2 ∧ ∀ H', Same H H' → Q (.bl (decide (r1 = r2))) H') ∨ (∃ t, TyX K H y t ∧ Oth K C t ∧ ∀ H', Same H H' → Q (.bl false) H'))
/-- a tuple == a table -/
def rEqTR (K : PySem.W.Frag) (C : Addr) : R2 := fun x y H Q => ∃ (a : Addr) (vs : List V) (r1 : List (List Int)), x = .ref a ∧ SqT K H a vs ∧ TableAt K C H y r1 ∧ ∀ H', Same H H' → Q (.bl false) H'
section
variable {P : Program} {w : World} {K : PySem.W.Frag} {mg : Str → Option Value} {base : Heap} {C : Addr}
theorem MkT.weak {n m : Nat} {spI : Sp} (G : MkT P w K mg base C n m spI (spEq2 K C)) : MkT P w K mg base C n m spI (spEqT K C) := by
  obtain ⟨f, fd, F, b, x, y⟩ := G.eqm
  refine ⟨G.mgC, G.tc, G.ini, f, fd, FnOk.imp F fun vs H Q E h => ?_, b, x, y⟩
  obtain ⟨x, y, r1, r2, rfl, h1, h2, k⟩ := h
  exact ⟨x, y, r1, rfl, h1, .inl ⟨r2, h2, k⟩⟩
end
section
variable {X : Cx} {C : Addr}
theorem op_eq2 {n m : Nat} {spI : Sp} (G : MkT X.prog X.w X.K X.mg X.base C n m spI (spEq2 X.K C)) (hr : Room m X.A) : OpR X (compareOp .Eq) (rEq2 X.K C) := by
  obtain ⟨f, fd, F, b, hs, hf⟩ := G.eqm
  intro pins s σ H x y v u Q I rx ry h
  obtain ⟨r1, t1, h⟩ := h
  obtain ⟨p, dx, w', ex, hp, hR⟩ := id t1
  rcases h with ⟨r2, t2, q⟩ | ⟨t, ty, o, q⟩
  · exact op_eqI F b hs hf hr pins s σ H x y v u Q I rx ry ⟨p, dx, _, _, ex, hp, t2.tyx G.tc, by simp [PySem.W.notFirst], x, y, r1, rfl, t1, .inl ⟨r2, t2, fun H' e => ⟨_, rfl, q H' e⟩⟩⟩
  · exact op_eqI F b hs hf hr pins s σ H x y v u Q I rx ry ⟨p, dx, _, _, ex, hp, ty, o.nf, x, y, r1, rfl, t1, .inr ⟨t, ty, o, fun H' e => ⟨_, rfl, q H' e⟩⟩⟩
theorem sqT_obj {pins : List (Addr × Obj)} {s : Shared} {σ : L2.St} {H : Hp} {a : Addr} {xs : List V} (I : Inv X pins σ H s) (h : SqT X.K H a xs) : ∃ o, s.heap.get? a = some o ∧ o.cls = .type "tuple" := by
  rcases h with (h | ⟨o, h⟩) | ⟨o, its, n, h1, h2, _⟩
  · obtain ⟨_, its, _, o, g, c, _⟩ := I.hok a _ h
    exact ⟨o, g, c⟩
  · obtain ⟨g, _, its, _, o', g', c, _⟩ := I.hok a _ h
    exact ⟨o', g', c⟩
  · exact ⟨o, I.kIn a o h1, h2⟩
theorem op_eqTR {n m : Nat} {spI : Sp} (G : MkT X.prog X.w X.K X.mg X.base C n m spI (spEq2 X.K C)) (hm : PySem.W.mroIn X.K C (.type "tuple") = some false) (ht : PySem.W.typeIn X.K (.ref C) = some (.type "type")) (hr : Room (m + 1) X.A) : OpR X (compareOp .Eq) (rEqTR X.K C) := by
  obtain ⟨f, fd, F, b, hs, hf⟩ := G.eqm
  intro pins s σ H x y v u Q I rx ry h
  obtain ⟨a, vs, r1, rfl, hS, t1, q⟩ := h
  obtain ⟨p, dx, w', rfl, hp, hR⟩ := id t1
  cases rx
  cases ry
  obtain ⟨mA, J, _⟩ := ins_get I.hok hp
  obtain ⟨od, J, _⟩ := J.look
  obtain ⟨m', hF⟩ := I.fr
  obtain ⟨o, g, c⟩ := sqT_obj I hS
  refine PySem.W.fo_eqTup (Nat.lt_of_le_of_lt (Nat.add_le_add_left (by decide : 1 ≤ 64) _) hr.units) hF I.ok.mod.kin J g c hm hs hf ?_
  refine wpAny_mono (run_eqI (Q := fun v H' => ∃ b, v = .bl b ∧ Q (.bl b) H') F b ⟨hr.mono (Nat.le_succ _), rfl⟩ I (show L2.RelV (.ref p) (.ref p) from rfl) (show L2.RelV (.ref a) (.ref a) from rfl) ⟨.ref p, .ref a, r1, rfl, t1, .inr ⟨.type "tuple", tyX_sqT hS, Oth.built ht G.tc.hm rfl, fun H' e => ⟨false, rfl, q H' e⟩⟩⟩) (fun w s' e => ?_) fun _ _ z => z
  obtain ⟨z, H', I', rz, b, ez, qz⟩ := e
  subst ez
  cases rz
  exact ⟨.bl b, H', I', rfl, qz⟩
end
end Fo

set_option maxRecDepth 100000
set_option maxHeartbeats 4000000
/-! a thing of some kind != a number -/
namespace PySem.W
open PySem PySem.Spec PyProof.Rows Builtin PyProof
section
variable {prog : Program} {w : World} {A : Around} {E : Value → Shared → Prop} {s : Shared}
theorem int_ne_declines_ref (b : Int) (u : Tok) (l : Addr) (c : Value) (es : Array DictEntry) (n : Nat) (dd : Option Addr) (sl : Array (Option Value)) :
    Meets (Builtin.«int.__ne__» ⟨[.int b u, .ref l], []⟩) (fun _ R s => s.heap.get? l = some { cls := c, dict := dd, data := .dict es n, slots := sl } ∧ R (.ok (.ret .notImplemented)) s) :=
  .of_wp fun prog w A R s h => by obtain ⟨hp, g, d, tk, os⟩ := s; obtain ⟨hl, h⟩ := h; wp_walk using wpAny_loadPart' hl, wpAny_load hl; exact ⟨_, rfl, h⟩
theorem dict_ne_int {l : Addr} {b : Int} {u : Tok} {Q : Value → Shared → Prop} (hl : s.TypeIs (.ref l) "dict") (h : Q .notImplemented s) :
    wpAny (model prog w) A (call (.builtin "dict.__ne__") [.ref l, .int b u]) Q E s := by
  refine wpAny_call_entry PySem.F.slot_dict_ne hl PySem.F.entry_dict_ne ?_ (PySem.F.args_dict_ne_2 _ _)
  show wpAny _ _ (Builtin.Dict.dictSlotArgs "__ne__" ⟨[.ref l, .int b u], []⟩ >>= _) _ _ s
  refine wpAny_bind ?_
  unfold Builtin.Dict.dictSlotArgs
  refine wpAny_bind (wpAny_notOrdered_dict hl ?_)
  show wpAny _ _ (pure (Value.ref l, Value.int b u)) _ _ s
  refine wpAny_pure ?_
  refine wpAny_bind (wpAny_isInstance (T := "int") (typeIs_int s b u) PySem.F.sub_int_dict ?_)
  refine wpAny_ite_true (by rfl) ?_
  exact wpAny_bind (wpAny_rule (wpAny_pure ⟨_, rfl, h⟩))
theorem dict_ne_int_rc {l : Addr} {o : Obj} {es : Array DictEntry} {ep : Nat} (b : Int) (u : Tok) {Q : Value → Shared → Prop} (ho : s.heap.get? l = some o) (hc : o.cls = .type "dict") (hd : o.data = .dict es ep) (hu : A.units < cLine) (h : Q (.bool true) s) : wpAny (model prog w) A (richCompare .NotEq (.ref l) (.int b u)) Q E s := by
  have ht : s.TypeIs (.ref l) "dict" := ⟨o, ho, hc⟩
  obtain ⟨cls, dd, data, sl⟩ := o
  simp only at hc hd
  subst hc hd
  exact SeqAt.rc_ne_decline_or (k := false) ht (typeIs_int s b u) (by decide) PySem.F.sub_int_dict PySem.F.slot_dict_ne PySem.F.slot_int_ne_refl
    (fun _ hq => dict_ne_int ht hq)
    (fun _ hq => call_meets PySem.F.slot_int_ne_refl (typeIs_int s b u) PySem.F.entry_int_ne (PySem.F.args_int_ne_2 _ _) (int_ne_declines_ref b u l _ _ _ _ _) ⟨ho, hq⟩)
    (fun _ hq => wpAny_of_eq (rfl : isSame (.ref l) (.int b u) = pure false) hq) (.inr hu) h
end
end PySem.W
namespace Fo
open PySem PySem.Spec PyProof.Rows L2
inductive Nx (K : PySem.W.Frag) (C : Addr) (H : Hp) : V → Prop
  | non : Nx K C H .non
  | bl (b : Bool) : Nx K C H (.bl b)
  | int (i : Int) : Nx K C H (.int i)
  | str (x : Str) : Nx K C H (.str x)
  | lst {a : Addr} {xs : List V} (h : SqL K H a xs) : Nx K C H (.ref a)
  | tup {a : Addr} {xs : List V} (h : SqT K H a xs) : Nx K C H (.ref a)
  | dK {a : Addr} {es : List (Key × V)} (h : H a = some (.dK es)) : Nx K C H (.ref a)
  | tab {x : V} {rows : List (List Int)} (h : TableAt K C H x rows) : Nx K C H x
/-- x != y, y a number: what is told, but for the number itself -/
def rNeNi (K : PySem.W.Frag) (C : Addr) : R2 := fun x y H Q => ∃ j, y = .int j ∧ Nx K C H x ∧ ∀ b H', Same H H' → (b = true → x ≠ .int j) → Q (.bl b) H'
theorem op_neNi {X : Cx} {C : Addr} {n m : Nat} {spI : Sp} (G : MkT X.prog X.w X.K X.mg X.base C n m spI (spEq2 X.K C)) (hty : PySem.W.typeIn X.K (.ref C) = some (.type "type")) (hr : Room (m + 1) X.A) : OpR X (compareOp .NotEq) (rNeNi X.K C) := by
  intro pins s σ H x y v u Q I rx ry h
  obtain ⟨j, rfl, nx, q⟩ := h
  have hu0 : X.A.units + 64 < cLine := Nat.lt_of_le_of_lt (Nat.add_le_add_left (by decide) _) hr.units
  have dat : ∀ d, Dp X.K H x d → SeqAt.shaped d = true → (∀ i, x = .int i → d = .int i) → wpAny (model X.prog X.w) X.A (compareOp .NotEq v u) (EP X pins σ Q) X.xe s := fun d hd sd hi => by
    refine op_neD hu0 pins s σ H x (.int j) v u Q I rx ry ⟨d, .int j, hd, .int j, sd, by rfl, q _ H (Same.refl H) fun e z => ?_⟩
    rw [hi j z, PyData.eqv] at e
    simp at e
  have done : EP X pins σ Q (.bool true) s → (∀ i, x ≠ .int i) → True := fun _ _ => trivial
  have fin : (∀ i, x ≠ .int i) → EP X pins σ Q (.bool true) s := fun hx => ⟨.bl true, H, I, rfl, q true H (Same.refl H) fun _ => hx j⟩
  obtain ⟨tk, rfl⟩ := ry
  cases nx with
  | non => exact op_ne pins s σ H .non (.int j) v (.int j tk) Q I rx ⟨tk, rfl⟩ ⟨rfl, q _ H (Same.refl H) fun _ z => by cases z⟩
  | bl b => exact dat (.bool b) (.bl b) (by rfl) (fun i z => by cases z)
  | int i => exact dat (.int i) (.int i) (by rfl) (fun i z => by cases z; rfl)
  | str t => exact op_ne pins s σ H (.str t) (.int j) v (.int j tk) Q I rx ⟨tk, rfl⟩ ⟨rfl, q _ H (Same.refl H) fun _ z => by cases z⟩
  | lst h =>
    cases rx
    obtain ⟨its, rv, pl, _⟩ := I.list h
    exact SeqAt.RcNeAt.list_int j tk pl.isList (Nat.lt_of_le_of_lt (Nat.le_add_right _ 64) hu0) _ _ _ _ (fin fun i z => by cases z)
  | tup h =>
    cases rx
    obtain ⟨its, rv, pl, _⟩ := I.tuple h
    exact SeqAt.RcNeAt.tuple_int j tk pl (Nat.lt_of_le_of_lt (Nat.le_add_right _ 64) hu0) _ _ _ _ (fin fun i z => by cases z)
  | dK h =>
    cases rx
    obtain ⟨_, _, _, _, o, es, ep, g, c, d⟩ := I.hok _ _ h
    exact PySem.W.dict_ne_int_rc j tk g c.1 d.1 (Nat.lt_of_le_of_lt (Nat.le_add_right _ 64) hu0) (fin fun i z => by cases z)
  | tab h =>
    obtain ⟨f, fd, F, b, hs, hf⟩ := G.eqm
    obtain ⟨p, dx, w', ex, hp, hR⟩ := id h
    refine op_neI F b G.tc hs hf hr pins s σ H x (.int j) v (.int j tk) Q I rx ⟨tk, rfl⟩ ⟨p, dx, _, _, ex, hp, .base (.int j), (Oth.built hty G.tc.hm rfl).nf, x, .int j, _, rfl, h, .inr ⟨.type "int", .base (.int j), ?_, fun H' e => ⟨false, rfl, q true H' e fun _ z => by rw [z] at ex; cases ex⟩⟩⟩
    exact Oth.built hty G.tc.hm rfl
end Fo

set_option maxRecDepth 100000
set_option maxHeartbeats 4000000
/-! The pool from which the later laws draw: a list at t, whose cells are a list at l. -/
namespace Fo
open PySem PySem.Spec PyProof.Rows L2 LamX
def Po (H : Hp) (t l : Addr) : Prop := ∃ (sd c : Int) (cs : List Int), H t = some (.lst [.int sd, .int c, .ref l]) ∧ H l = some (.lst (cs.map V.int))
/-- all but the pool's two stay -/
def Gs (t l : Addr) (H H' : Hp) : Prop := ∀ b o, b ≠ t → b ≠ l → H b = some o → H' b = some o
theorem Gs.refl {t l : Addr} (H : Hp) : Gs t l H H := fun _ _ _ _ h => h
theorem Gs.trans {t l : Addr} {H H1 H2 : Hp} (a : Gs t l H H1) (b : Gs t l H1 H2) : Gs t l H H2 := fun c o n m h => b c o n m (a c o n m h)
theorem Gs.of {t l : Addr} {H H' : Hp} (e : Same H H') : Gs t l H H' := fun b o _ _ h => e b o h
theorem Gs.new {t l p : Addr} {H : Hp} {o : HO} (h : H p = none) : Gs t l H (upd H p o) := .of (same_new h)
theorem Gs.mut {t l p : Addr} {H H' : Hp} {o : HO} (e : Gs t l H H') (h : H p = none) : Gs t l H (upd H' p o) := fun a u n m ha => by
  rw [upd_ne (ne_of_none ha h)]
  exact e a u n m ha
theorem ints_nep (ns : List Int) (l : Addr) (x y : Int) : (HO.lst (ns.map V.int)) ≠ .lst [.int x, .int y, .ref l] := by
  intro q
  injection q with q
  match ns, q with
  | [], q => cases q
  | [_], q => cases q
  | [_, _], q => cases q
  | [_, _, _], q => cases q
  | _ :: _ :: _ :: _ :: _, q => cases q
theorem Po.ne {H : Hp} {t l : Addr} (T : Po H t l) : l ≠ t := by
  obtain ⟨sd, c, cs, ht, hl⟩ := T
  exact ne_of hl ht (ints_nep _ _ _ _)
theorem Po.there {H : Hp} {t l : Addr} (T : Po H t l) : H t ≠ none ∧ H l ≠ none := by
  obtain ⟨sd, c, cs, ht, hl⟩ := T
  exact ⟨by rw [ht]; exact (fun z => nomatch z), by rw [hl]; exact (fun z => nomatch z)⟩
theorem Po.keep {H H' : Hp} {t l : Addr} (T : Po H t l) (g : Same H H') : Po H' t l := by
  obtain ⟨sd, c, cs, ht, hl⟩ := T
  exact ⟨sd, c, cs, g _ _ ht, g _ _ hl⟩
theorem Po.k {H H' : Hp} {t l : Addr} (T : Po H t l) (g : ExtK H H') : Po H' t l := by
  obtain ⟨sd, c, cs, ht, hl⟩ := T
  exact ⟨sd, c, cs, g _ _ ht vol_lst, g _ _ hl vol_lst⟩
theorem Po.free {H : Hp} {t l a : Addr} (T : Po H t l) (h : H a = none) : a ≠ t ∧ a ≠ l := by
  obtain ⟨sd, c, cs, ht, hl⟩ := T
  exact ⟨(ne_of_none ht h).symm, (ne_of_none hl h).symm⟩
theorem Po.fk {H : Hp} {t l a : Addr} (T : Po H t l) (h : Fk H a) : a ≠ t ∧ a ≠ l := by
  obtain ⟨sd, c, cs, ht, hl⟩ := T
  exact ⟨(h.ne ht vol_lst).symm, (h.ne hl vol_lst).symm⟩
theorem Po.new {H : Hp} {t l a : Addr} {o : HO} (T : Po H t l) (h : H a = none) : Po (upd H a o) t l := T.keep (same_new h)
theorem Po.mut {H : Hp} {t l a : Addr} {u : HO} (T : Po H t l) (n : a ≠ t ∧ a ≠ l) : Po (upd H a u) t l := by
  obtain ⟨sd, c, cs, ht, hl⟩ := T
  exact ⟨sd, c, cs, by rw [upd_ne n.1.symm]; exact ht, by rw [upd_ne n.2.symm]; exact hl⟩
theorem Gs.fresh {t l : Addr} {H H' : Hp} (g : Gs t l H H') (T : Po H' t l) {p : Addr} (h : H' p = none) : H p = none := by
  cases q : H p with
  | none => rfl
  | some o =>
    obtain ⟨n, m⟩ := T.free h
    rw [g p o n m q] at h
    cases h
/-- what is no list is not changed -/
theorem Gs.at {t l : Addr} {H H' : Hp} (g : Gs t l H H') (T : Po H t l) {b : Addr} {o : HO} (h : H b = some o) (n : ∀ xs, o ≠ .lst xs) : H' b = some o := by
  obtain ⟨sd, c, cs, ht, hl⟩ := T
  exact g _ _ (ne_of h ht (n _)) (ne_of h hl (n _)) h
theorem gs_T {t l : Addr} {K : PySem.W.Frag} {H H' : Hp} (g : Gs t l H H') (T : Po H t l) {a : Addr} {xs : List V} (h : SqT K H a xs) : SqT K H' a xs := by
  rcases h with (h | ⟨o, h⟩) | h
  · exact .inl (.inl (g.at T h fun _ z => by cases z))
  · exact .inl (.inr ⟨o, g.at T h fun _ z => by cases z⟩)
  · exact .inr h
theorem RowsT.gs {t l : Addr} {K : PySem.W.Frag} {H H' : Hp} (g : Gs t l H H') (T : Po H t l) : ∀ {vs : List V} {rs : List (List Int)}, RowsT K H vs rs → RowsT K H' vs rs
  | _, _, .nil => .nil
  | _, _, .cons h r => .cons (gs_T g T h) (r.gs g T)
theorem RowsAt.gs {t l : Addr} {K : PySem.W.Frag} {H H' : Hp} {v : V} {rows : List (List Int)} (h : RowsAt K H v rows) (g : Gs t l H H') (T : Po H t l) : RowsAt K H' v rows := by
  obtain ⟨a, vs, e, h1, h2⟩ := h
  exact ⟨a, vs, e, gs_T g T h1, h2.gs g T⟩
theorem TableAt.gs {t l : Addr} {K : PySem.W.Frag} {C : Addr} {H H' : Hp} {x : V} {rows : List (List Int)} (h : TableAt K C H x rows) (g : Gs t l H H') (T : Po H t l) : TableAt K C H' x rows := by
  obtain ⟨p, dx, v, e, h1, h2⟩ := h
  exact ⟨p, dx, v, e, g.at T h1 (fun _ z => by cases z), h2.gs g T⟩
theorem _root_.LamX.TabS.pool {H H' : Hp} {P t l : Addr} {q : Str} (x : TabS H P q) (T : Po H t l) (g : Gs t l H H') : TabS H' P q := by
  obtain ⟨ps, h1, h2, h3⟩ := x
  refine ⟨ps, g.at T h1 (fun _ z => by cases z), h2, fun pos cv hc => ?_⟩
  obtain ⟨c', e1, e2⟩ := h3 pos cv hc
  exact ⟨c', e1, g.at T e2 fun xs z => by unfold CodeO at z; cases z⟩
/-! what stays where dicts of counts change, too -/
def Gp (t l : Addr) (H H' : Hp) : Prop := ∀ b o, b ≠ t → b ≠ l → H b = some o → ¬ Vol b o → H' b = some o
theorem Gp.refl {t l : Addr} (H : Hp) : Gp t l H H := fun _ _ _ _ h _ => h
theorem Gp.trans {t l : Addr} {H H1 H2 : Hp} (a : Gp t l H H1) (b : Gp t l H1 H2) : Gp t l H H2 := fun c o n m h v => b c o n m (a c o n m h v) v
theorem Gp.k {t l : Addr} {H H' : Hp} (e : ExtK H H') : Gp t l H H' := fun b o _ _ h v => e b o h v
theorem Gp.same {t l : Addr} {H H' : Hp} (e : Same H H') : Gp t l H H' := fun b o _ _ h _ => e b o h
theorem Gp.of {t l : Addr} {H H' : Hp} (g : Gs t l H H') : Gp t l H H' := fun b o n m h _ => g b o n m h
theorem Gp.mut {t l : Addr} {H H' : Hp} {p : Addr} {o : HO} (e : Gp t l H H') (h : Fk H p) : Gp t l H (upd H' p o) := fun b u n m hb v => by
  have ne : b ≠ p := fun z => v (by rw [z] at hb ⊢; exact h u hb)
  rw [upd_ne ne]
  exact e b u n m hb v
theorem Gp.fk {t l : Addr} {H H' : Hp} (e : Gp t l H H') (T : Po H' t l) {p : Addr} (h : H' p = none) : Fk H p := fun o ho => Classical.byContradiction fun v => by
  obtain ⟨n, m⟩ := T.free h
  rw [e p o n m ho v] at h
  cases h
theorem Gp.at {t l : Addr} {H H' : Hp} (g : Gp t l H H') (T : Po H t l) {b : Addr} {o : HO} (h : H b = some o) (v : ¬ Vol b o) (n : ∀ xs, o ≠ .lst xs) : H' b = some o := by
  obtain ⟨sd, c, cs, ht, hl⟩ := T
  exact g _ _ (ne_of h ht (n _)) (ne_of h hl (n _)) h v
theorem sqT_p {K : PySem.W.Frag} {t l : Addr} {H H' : Hp} {a : Addr} {xs : List V} (g : Gp t l H H') (T : Po H t l) (h : SqT K H a xs) : SqT K H' a xs := by
  rcases h with (h | ⟨o, h⟩) | h
  · exact .inl (.inl (g.at T h vol_tup fun _ z => by cases z))
  · exact .inl (.inr ⟨o, g.at T h vol_frz fun _ z => by cases z⟩)
  · exact .inr h
theorem RowsT.p {K : PySem.W.Frag} {t l : Addr} {H H' : Hp} (g : Gp t l H H') (T : Po H t l) : ∀ {vs : List V} {rs : List (List Int)}, RowsT K H vs rs → RowsT K H' vs rs
  | _, _, .nil => .nil
  | _, _, .cons h r => .cons (sqT_p g T h) (r.p g T)
theorem RowsAt.p {K : PySem.W.Frag} {t l : Addr} {H H' : Hp} {v : V} {rows : List (List Int)} (h : RowsAt K H v rows) (g : Gp t l H H') (T : Po H t l) : RowsAt K H' v rows := by
  obtain ⟨a, vs, e, h1, h2⟩ := h
  exact ⟨a, vs, e, sqT_p g T h1, h2.p g T⟩
theorem TableAt.p {K : PySem.W.Frag} {C t l : Addr} {H H' : Hp} {x : V} {rows : List (List Int)} (h : TableAt K C H x rows) (g : Gp t l H H') (T : Po H t l) : TableAt K C H' x rows := by
  obtain ⟨p, dx, v, e, h1, h2⟩ := h
  exact ⟨p, dx, v, e, g.at T h1 vol_ins (fun _ z => by cases z), h2.p g T⟩
end Fo
namespace Fo
open PySem PySem.Spec PyProof.Rows L2
def rAbs : List V → Hp → VK → Prop := fun xs H Q => ∃ i, xs = [.int i] ∧ Q (.int (if i < 0 then -i else i)) H
theorem cr_abs {X : Cx} : CallR X (.builtin "abs") rAbs := call_abs
def rMax2 : List V → Hp → VK → Prop := fun xs H Q => ∃ i j, xs = [.int i, .int j] ∧ Q (.int (if j > i then j else i)) H
theorem cr_max2 {X : Cx} (hc : X.calm = true) : CallR X (.builtin "max") rMax2 := call_max2 hc
end Fo

set_option maxRecDepth 100000
set_option maxHeartbeats 4000000
/-! tuples put together, tuples of plain things -/
namespace Fo
open PySem PySem.Spec PyProof.Rows L2
theorem catP {K : PySem.W.Frag} {a b : Addr} {xs ys : List V} {H : Hp} {Q : VK} (ha : SqT K H a xs) (hb : SqT K H b ys) (hs : xs.length + ys.length ≤ sizeLine) (k : ∀ p H', Same H H' → SqT K H' p (xs ++ ys) → Q (.ref p) H') : rCatA K (.ref a) (.ref b) H Q := by
  refine ⟨a, b, xs, ys, rfl, rfl, ha, hb, hs, fun e => ?_, fun _ e => ?_, fun _ _ p hp => k p _ (same_new hp) (SqT.of upd_same)⟩
  · subst e
    exact k b H (Same.refl H) hb
  · subst e
    exact k a H (Same.refl H) (by rw [List.append_nil]; exact ha)
def flV : V → Bool
  | .non => true
  | .bl _ => true
  | .int _ => true
  | .str _ => true
  | _ => false
theorem th_fl {K : PySem.W.Frag} {C : Addr} {H : Hp} {y : V} (h : flV y = true) : Th K C H y := by
  cases y with
  | non => exact ⟨_, .base .non, fun c e => by cases e⟩
  | bl b => exact ⟨_, .base (.bl b), fun c e => by cases e⟩
  | int i => exact th_int
  | str x => exact ⟨_, .base (.str x), fun c e => by cases e⟩
  | _ => cases h
theorem tg_fl {K : PySem.W.Frag} {C : Addr} {H : Hp} {a : Addr} {xs : List V} (h : SqT K H a xs) (f : xs.all flV = true) (hl : xs.length ≤ 100000) : Tg K C H (.ref a) (some xs) := .tup h (fun y hy => th_fl (List.all_eq_true.mp f y hy)) hl
theorem fl_ints (ns : List Int) : (ns.map V.int).all flV = true := by
  rw [List.all_eq_true]
  intro y hy
  obtain ⟨z, _, rfl⟩ := List.mem_map.mp hy
  rfl
theorem cut_mid {ns : List Int} {a b : Nat} (ha : a ≤ ns.length) (hb : b ≤ ns.length) : cutV (ns.map V.int) (some (a : Int)) (some (b : Int)) = ((ns.drop a).take (b - a)).map V.int := by
  unfold cutV
  rw [List.length_map, HT.sIx_nat, HT.sIx_nat, Nat.min_eq_left ha, Nat.min_eq_left hb, List.map_take, List.map_drop]
theorem cut_lo {ns : List Int} {b : Nat} (hb : b ≤ ns.length) : cutV (ns.map V.int) none (some (b : Int)) = (ns.take b).map V.int := by
  unfold cutV
  rw [List.length_map, HT.sIx_nat, HT.sIx_none, Nat.min_eq_left hb, Nat.sub_zero, List.drop_zero, List.map_take]
theorem cut_hi {ns : List Int} {a : Nat} (ha : a ≤ ns.length) : cutV (ns.map V.int) (some (a : Int)) none = (ns.drop a).map V.int := by
  unfold cutV
  rw [List.length_map, HT.sIx_nat, HT.sIx_none, Nat.min_eq_left ha, List.map_drop]
  exact List.take_of_length_le (by rw [List.length_drop, List.length_map]; exact Nat.le_refl _)
theorem room65 {B : Nat} {A : Around} (hr : Room B A) : A.units + 65 < cLine := by have := hr.un; omega
theorem any_row2 (q : List Int) : ∀ R : List (List Int), ((R.map dI).any fun z => PyData.eqv z (dI q)) = decide (q ∈ R)
  | [] => rfl
  | x :: R => by
    rw [List.map_cons, List.any_cons, any_row2 q R, eqv_I]
    by_cases e : x = q
    · rw [decide_eq_true e, Bool.true_or, decide_eq_true (by rw [e]; exact List.mem_cons_self)]
    · rw [decide_eq_false e, Bool.false_or]
      exact decide_eq_decide.mpr ⟨fun h => List.mem_cons_of_mem _ h, fun h => (List.mem_cons.mp h).elim (fun z => absurd z.symm e) id⟩
theorem ints_of2 : ∀ {xs : List V}, xs.all isIntV = true → ∃ ns : List Int, xs = ns.map V.int
  | [], _ => ⟨[], rfl⟩
  | x :: xs, h => by
    rw [List.all_cons, Bool.and_eq_true] at h
    obtain ⟨ns, e⟩ := ints_of2 h.2
    cases x with
    | int i => exact ⟨i :: ns, by rw [e]; rfl⟩
    | _ => cases h.1
end Fo

set_option maxRecDepth 100000
set_option maxHeartbeats 4000000
namespace Fo
open PySem PySem.Spec PyProof.Rows L2
abbrev s_law_kind : Stmt := top 47
abbrev n_law_kind : List Str := ["rows", "live", "piece", "people", "things", "counts", "person", "thing", "tie", "count"]
theorem sc_law_kind : FnScope n_law_kind ["rows", "live", "piece"] (defScope s_law_kind) := ⟨rfl, rfl, rfl, by decide +kernel, rfl, by decide +kernel, by decide +kernel⟩
abbrev s_law_round : Stmt := top 48
abbrev n_law_round : List Str := ["live", "people", "person", "thing", "found", "turn", "tie"]
theorem sc_law_round : FnScope n_law_round ["live", "people"] (defScope s_law_round) := ⟨rfl, rfl, rfl, by decide +kernel, rfl, by decide +kernel, by decide +kernel⟩
def cntP (ps : List (Nat × Int)) (p : Nat) : Nat := (ps.filter fun q => decide ((q.1 : Int) = (p : Int))).length
def cntT (ps : List (Nat × Int)) (t : Int) : Nat := (ps.filter fun q => decide (q.2 = t)).length
theorem eqv_ii (a b : Int) : PyData.eqv (.int a) (.int b) = decide (a = b) := by rw [PyData.eqv]; rfl
theorem filt_succK {α : Type} {l : List α} {f : α → Bool} {j : Nat} {u : α} (h : l[j]? = some u) : (l.take (j + 1)).filter f = (l.take j).filter f ++ if f u = true then [u] else [] := by
  rw [show l.take (j + 1) = l.take j ++ [u] from by rw [List.take_add_one, h]; rfl, List.filter_append]
  congr 1
  by_cases hb : f u = true
  · rw [if_pos hb, List.filter_cons_of_pos hb]; rfl
  · rw [if_neg hb, List.filter_cons_of_neg hb]; rfl
/-- what is known of the live ties as the law lists them -/
structure LvI (rows : List (List Int)) (ps : List (Nat × Int)) : Prop where
  mem : ∀ q, q ∈ ps ↔ Mt.Live rows q.1 q.2
  nd : ps.Nodup
theorem LvI.cntP {rows : List (List Int)} {ps : List (Nat × Int)} (h : LvI rows ps) (G : Good rows) (p : Nat) : cntP ps p = (Mt.row (Mt.liveR rows) p).length := by
  have nd1 : ((ps.filter fun q => decide ((q.1 : Int) = (p : Int))).map fun q => q.2).Nodup := Mt.nodup_map (h.nd.sublist List.filter_sublist) fun a ha b hb e => by
    have h1 := of_decide_eq_true (List.mem_filter.mp ha).2
    have h2 := of_decide_eq_true (List.mem_filter.mp hb).2
    exact Prod.ext (by omega) e
  have nd2 : (Mt.row (Mt.liveR rows) p).Nodup := by
    rw [Mt.row_liveR]
    refine List.Nodup.sublist List.filter_sublist ?_
    exact (G.row_asc p).imp fun {a b} h => by omega
  unfold Fo.cntP
  rw [← List.length_map (as := ps.filter fun q => decide ((q.1 : Int) = (p : Int))) (fun q => q.2)]
  refine Mt.len_eq_of nd1 nd2 fun t => ?_
  rw [Mt.mem_liveR, List.mem_map]
  constructor
  · rintro ⟨q, hq, rfl⟩
    have := List.mem_filter.mp hq
    have e := of_decide_eq_true this.2
    have e2 : q.1 = p := by omega
    rw [← e2]
    exact (h.mem q).mp this.1
  · intro hl
    exact ⟨(p, t), List.mem_filter.mpr ⟨(h.mem _).mpr hl, decide_eq_true rfl⟩, rfl⟩
theorem LvI.cntT {rows : List (List Int)} {ps : List (Nat × Int)} (h : LvI rows ps) (G : Good rows) {F : List (List Nat)} (hF : Mt.Groups (Mt.liveR rows) F) {g : List Nat} (hg : g ∈ F) {t : Int} (ht : t ∈ thgR rows g) : cntT ps t = (givenL (Mt.liveR rows) g).count t := by
  have nd0 : ∀ p, (Mt.row (Mt.liveR rows) p).Nodup := fun p => by
    rw [Mt.row_liveR]
    exact List.Nodup.sublist List.filter_sublist ((G.row_asc p).imp fun {a b} h => by omega)
  rw [cnt_flat nd0]
  obtain ⟨p0, hp0, ht0⟩ := (mem_thgR G).mp ht
  have nd1 : ((ps.filter fun q => decide (q.2 = t)).map fun q => q.1).Nodup := Mt.nodup_map (h.nd.sublist List.filter_sublist) fun a ha b hb e => by
    have h1 := of_decide_eq_true (List.mem_filter.mp ha).2
    have h2 := of_decide_eq_true (List.mem_filter.mp hb).2
    exact Prod.ext e (h1.trans h2.symm)
  unfold Fo.cntT
  rw [← List.length_map (as := ps.filter fun q => decide (q.2 = t)) (fun q => q.1)]
  refine Mt.len_eq_of nd1 ((hF.nd hg).sublist List.filter_sublist) fun p => ?_
  rw [List.mem_map, List.mem_filter, decide_eq_true_iff, Mt.mem_liveR]
  constructor
  · rintro ⟨q, hq, rfl⟩
    have := List.mem_filter.mp hq
    have e := of_decide_eq_true this.2
    have l := (h.mem q).mp this.1
    rw [e] at l
    have hl : t ∈ Mt.row (Mt.liveR rows) q.1 := Mt.mem_liveR.mpr l
    exact ⟨hF.tied hg hp0 (Mt.row_lt hl) ⟨t, ht0, hl⟩, l⟩
  · rintro ⟨_, l⟩
    exact ⟨(p, t), List.mem_filter.mpr ⟨(h.mem _).mpr l, decide_eq_true rfl⟩, rfl⟩
theorem thg_len {rows : List (List Int)} (G : Good rows) {D : List Int} (d : Mt.Ds rows D) {F : List (List Nat)} (hF : Mt.Groups (Mt.liveR rows) F) {g : List Nat} (hg : g ∈ F) : (thgR rows g).length = g.length :=
  hF.things G.live.few (Mt.ds_liveR.mpr d) hg (thgR_asc.imp fun {a b} z e => by omega) fun t => mem_thgR G
/-- whether somebody may get all things of the piece -/
def allOf (rows : List (List Int)) (T : List Int) (p : Nat) : Bool := decide ((T.filter fun t => !decide (t ∈ Mt.row rows p)).length = 0)
theorem full_law {rows : List (List Int)} (G : Good rows) {D : List Int} (d : Mt.Ds rows D) {F : List (List Nat)} (hF : Mt.Groups (Mt.liveR rows) F) {g : List Nat} (hg : g ∈ F) : (g.all (allOf rows (thgR rows g))) = fullG (Mt.liveR rows) g := by
  have nd0 : ∀ p, (Mt.row (Mt.liveR rows) p).Nodup := fun p => by
    rw [Mt.row_liveR]
    exact List.Nodup.sublist List.filter_sublist ((G.row_asc p).imp fun {a b} h => by omega)
  have tn : (thgR rows g).Nodup := thgR_asc.imp fun {a b} h => by omega
  have tl := thg_len G d hF hg
  unfold fullG
  refine Bool.eq_iff_iff.mpr ?_
  rw [List.all_eq_true, List.all_eq_true]
  refine forall_congr' fun p => forall_congr' fun hp => ?_
  unfold allOf
  rw [decide_eq_true_iff, decide_eq_true_iff, List.length_eq_zero_iff, List.filter_eq_nil_iff]
  have sub : ∀ t ∈ Mt.row (Mt.liveR rows) p, t ∈ thgR rows g := fun t ht => (mem_thgR G).mpr ⟨p, hp, ht⟩
  constructor
  · intro h
    rw [← tl]
    refine Mt.len_eq_of (nd0 p) tn fun t => ⟨sub t, fun ht => ?_⟩
    have hr : t ∈ Mt.row rows p := by
      have := h t ht
      by_cases c : t ∈ Mt.row rows p
      · exact c
      · rw [decide_eq_false c] at this
        exact absurd rfl this
    obtain ⟨q, hq, hl⟩ := (mem_thgR G).mp ht
    exact Mt.mem_liveR.mpr (Mt.piece_live G.few d (hF.conn g hg p hp q hq) hr (Mt.mem_liveR.mp hl))
  · intro h t ht
    have := Mt.all_in (nd0 p) sub (by rw [tl, h]; exact Nat.le_refl _) t ht
    rw [Mt.row_liveR] at this
    rw [decide_eq_true (List.mem_filter.mp this).1]
    decide
theorem ring_law {rows : List (List Int)} {ps : List (Nat × Int)} (h : LvI rows ps) (G : Good rows) {F : List (List Nat)} (hF : Mt.Groups (Mt.liveR rows) F) {g : List Nat} (hg : g ∈ F) : ((g.map (cntP ps) ++ (thgR rows g).map (cntT ps)).all fun n => decide (n = 2)) = ringB (Mt.liveR rows) g := by
  rw [List.all_append, List.all_map, List.all_map]
  unfold ringB
  congr 1
  · refine List.all_congr rfl fun p => ?_
    show decide (cntP ps p = 2) = _
    rw [h.cntP G]
  · refine Bool.eq_iff_iff.mpr ?_
    rw [List.all_eq_true, List.all_eq_true]
    have m : ∀ t, t ∈ givenL (Mt.liveR rows) g ↔ t ∈ thgR rows g := fun t => by
      rw [mem_thgR G]
      unfold givenL
      rw [List.mem_flatten]
      constructor
      · rintro ⟨r, hr, ht⟩
        obtain ⟨p, hp, rfl⟩ := List.mem_map.mp hr
        exact ⟨p, hp, ht⟩
      · rintro ⟨p, hp, ht⟩
        exact ⟨_, List.mem_map.mpr ⟨p, hp, rfl⟩, ht⟩
    constructor
    · intro hh t ht
      rw [← h.cntT G hF hg ((m t).mp ht)]
      exact hh t ((m t).mp ht)
    · intro hh t ht
      show decide (cntT ps t = 2) = true
      rw [h.cntT G hF hg ht]
      exact hh t ((m t).mpr ht)
theorem not_decK {p : Prop} [Decidable p] (h : ¬ p) : (!decide p) = true := by rw [decide_eq_false h]; rfl
theorem headAllK {α : Type} {l : List α} {x : α} (h : x ∈ l) (all : ∀ y ∈ l, y = x) : l[0]? = some x := by
  have p0 := List.length_pos_of_mem h
  rw [List.getElem?_eq_getElem p0, all _ (List.getElem_mem p0)]
section
variable {P : Program} {w : World} {K : PySem.W.Frag} {mg : Str → Option Value} {base : Heap} {C : Addr}
def spLKind (K : PySem.W.Frag) : Sp := fun vs H Q _ => ∃ (rv : V) (lv pc a b : Addr) (lw : List V) (rows : List (List Int)) (ps : List (Nat × Int)) (F : List (List Nat)) (g : List Nat), vs = [rv, .ref lv, .ref pc] ∧ RowsAt K H rv rows ∧ Good rows ∧ rows.length ≤ 40 ∧ (∃ D, Mt.Ds rows D) ∧ H lv = some (.lst lw) ∧ RowsT K H lw (ps.map prI) ∧ LvI rows ps ∧ ps.length ≤ 40000 ∧ SqT K H pc [.ref a, .ref b] ∧ SqT K H a ((natI g).map V.int) ∧ SqT K H b ((thgR rows g).map V.int) ∧ Mt.Groups (Mt.liveR rows) F ∧ g ∈ F ∧ ∀ H', Same H H' → Q (.str (kindS (Mt.liveR rows) g)) H'
theorem ok_lkind (A : At K mg "_law_kind" s_law_kind ["rows", "live", "piece"]) (T : Tx mg) : Dfn P w K mg base "_law_kind" ["rows", "live", "piece"] 1 (spLKind K) := by
  refine A.ok sc_law_kind (fun vs H Q E h => ?_) (fun f cdv A outer s H vs Q E hr h => ?_)
  · obtain ⟨_, _, _, _, _, _, _, _, _, _, rfl, _⟩ := h
    rfl
  · obtain ⟨rv, lv, pc, a, b, lw, rows, ps, F, g, rfl, hR, G, hn, ⟨D0, d0⟩, hlv, hlw, LI, pl, hpc, ha, hb, hF, hg, k⟩ := h
    obtain ⟨ra, rvs, rfl, hra, hrb⟩ := id hR
    have rl := hrb.len
    have lwl := hlw.len
    rw [List.length_map] at lwl
    have gl : (natI g).length = g.length := by unfold natI; rw [List.length_map]
    have gn := hF.len hg
    rw [Mt.liveR_len] at gn
    have tl := thg_len G d0 hF hg
    have full := full_law G d0 hF hg
    have ring := ring_law LI G hF hg
    refine ⟨_, (pss_cons (ps_asg (pv 2) (pg_tup rfl (pgs_cons (pg_name (i := 3) sc_law_kind.nd rfl (Or.inl rfl)) (pgs_cons (pg_name (i := 4) sc_law_kind.nd rfl (Or.inr rfl)) pgs_nil))))
      (pss_cons (ps_if (pt_val (pe_callB (cr_all rfl) (by rfl) T.all (by decide +kernel) (pa_cons (pe_lc (own := [("person", 6)]) (g := (gName 6)) (tt := tYes) (te := (tOp rEq (tCB (rLenS K) (tCons (tLc (iTup K (tVar 4)) (gName 7) (tTest (tOp (rIn K true) (tVar 7) (tOp (rIxT K) (tVar 0) (tVar 6)))) (tVar 7) [7]) tNil)) (tC (V.int 0)))) (by rfl) sc_law_kind.nd (pi_tup (pv 3)) (blkOk_by (own := [("person", 6)]) (N := n_law_kind) (sc := (defScope s_law_kind)) (by decide +kernel)) (fun _ _ _ _ _ => (pg_name (i := 6) sc_law_kind.nd rfl (Or.inr rfl))) (fun _ _ _ _ _ => pts_nil) (fun _ _ _ _ _ => (pe_cmpR op_eq (pe_callB c_len (by rfl) T.len (by decide +kernel) (pa_cons (pe_lc (own := [("thing", 7)]) (g := (gName 7)) (tt := (tTest (tOp (rIn K true) (tVar 7) (tOp (rIxT K) (tVar 0) (tVar 6))))) (te := (tVar 7)) (by rfl) sc_law_kind.nd (pi_tup (pv 4)) (blkOk_by (own := [("thing", 7)]) (N := n_law_kind) (sc := (relabel (lcIn s_law_kind [1] 0) (envA (defScope s_law_kind)))) (by decide +kernel)) (fun _ _ _ _ _ => (pg_name (i := 7) sc_law_kind.nd rfl (Or.inl rfl))) (fun _ _ _ _ _ => (pts_one (pt_cmpR op_notIn_seq (pv 7) (pe_ix ix_tup (pv 0) (pv 6) (fun _ _ => rfl)) rfl))) (fun _ _ _ _ _ => (pv 7))) pa_nil)) pe_int (nomark _)))) pa_nil))) (pss_one (ps_ret pe_str)) pss_nil)
      (pss_cons (ps_setLc (i := 5) (own := [("person", 6)]) (g := (gName 6)) (tt := tYes) (te := (tCB (rLenS K) (tCons (tLc (iList K (tVar 1)) (gName 8) (tTest (tOp (rEqD K) (tOp (rIxT K) (tVar 8) (tC (V.int 0))) (tVar 6))) (tVar 8) [8]) tNil))) (by rfl) sc_law_kind.nd rfl rfl (sw_true rfl rfl rfl (by decide +kernel)) (pi_tup (pv 3)) (blkOk_by (own := [("person", 6)]) (N := n_law_kind) (sc := (defScope s_law_kind)) (by decide +kernel)) (fun _ _ _ _ _ => (pg_name (i := 6) sc_law_kind.nd rfl (Or.inr rfl))) (fun _ _ _ _ _ => pts_nil) (fun _ _ _ _ _ => (pe_callB c_len (by rfl) T.len (by decide +kernel) (pa_cons (pe_lc (own := [("tie", 8)]) (g := (gName 8)) (tt := (tTest (tOp (rEqD K) (tOp (rIxT K) (tVar 8) (tC (V.int 0))) (tVar 6)))) (te := (tVar 8)) (by rfl) sc_law_kind.nd (pi_list (pv 1)) (blkOk_by (own := [("tie", 8)]) (N := n_law_kind) (sc := (relabel (lcIn s_law_kind [2] 0) (envA (defScope s_law_kind)))) (by decide +kernel)) (fun _ _ _ _ _ => (pg_name (i := 8) sc_law_kind.nd rfl (Or.inl rfl))) (fun _ _ _ _ _ => (pts_one (pt_cmpR (op_eqD hr.units) (pe_ix ix_tup (pv 8) pe_int (fun _ _ => rfl)) (pv 6) (nomark _)))) (fun _ _ _ _ _ => (pv 8))) pa_nil))))
      (pss_cons (ps_set (i := 5) sc_law_kind.nd rfl (Or.inl rfl) (pe_op op_cat (pv 5) (pe_lc (own := [("thing", 7)]) (g := (gName 7)) (tt := tYes) (te := (tCB (rLenS K) (tCons (tLc (iList K (tVar 1)) (gName 8) (tTest (tOp (rEqD K) (tOp (rIxT K) (tVar 8) (tC (V.int 1))) (tVar 7))) (tVar 8) [8]) tNil))) (by rfl) sc_law_kind.nd (pi_tup (pv 4)) (blkOk_by (own := [("thing", 7)]) (N := n_law_kind) (sc := (defScope s_law_kind)) (by decide +kernel)) (fun _ _ _ _ _ => (pg_name (i := 7) sc_law_kind.nd rfl (Or.inr rfl))) (fun _ _ _ _ _ => pts_nil) (fun _ _ _ _ _ => (pe_callB c_len (by rfl) T.len (by decide +kernel) (pa_cons (pe_lc (own := [("tie", 8)]) (g := (gName 8)) (tt := (tTest (tOp (rEqD K) (tOp (rIxT K) (tVar 8) (tC (V.int 1))) (tVar 7)))) (te := (tVar 8)) (by rfl) sc_law_kind.nd (pi_list (pv 1)) (blkOk_by (own := [("tie", 8)]) (N := n_law_kind) (sc := (relabel (lcIn s_law_kind [3] 0) (envA (defScope s_law_kind)))) (by decide +kernel)) (fun _ _ _ _ _ => (pg_name (i := 8) sc_law_kind.nd rfl (Or.inl rfl))) (fun _ _ _ _ _ => (pts_one (pt_cmpR (op_eqD hr.units) (pe_ix ix_tup (pv 8) pe_int (fun _ _ => rfl)) (pv 7) (nomark _)))) (fun _ _ _ _ _ => (pv 8))) pa_nil))))))
      (pss_cons (ps_if (pt_val (pe_callB (cr_all rfl) (by rfl) T.all (by decide +kernel) (pa_cons (pe_lc (own := [("count", 9)]) (g := (gName 9)) (tt := tYes) (te := (tOp rEq (tVar 9) (tC (V.int 2)))) (by rfl) sc_law_kind.nd (pi_list (pv 5)) (blkOk_by (own := [("count", 9)]) (N := n_law_kind) (sc := (defScope s_law_kind)) (by decide +kernel)) (fun _ _ _ _ _ => (pg_name (i := 9) sc_law_kind.nd rfl (Or.inl rfl))) (fun _ _ _ _ _ => pts_nil) (fun _ _ _ _ _ => (pe_cmpR op_eq (pv 9) pe_int (nomark _)))) pa_nil))) (pss_one (ps_ret pe_str)) pss_nil)
      (pss_one (ps_ret pe_str))))))), ?_⟩
    refine ⟨_, rfl, pc, _, rfl, hpc, rfl, _, _, rfl, _, _, rfl, rfl, ?_⟩
    refine ⟨_, rfl, a, rfl, ⟨_, ha⟩, fun D hD => ?_⟩
    refine lc_tup (xs := (natI g).map V.int) (fun i H' => H' D = some (.lst (((g.take i).map (allOf rows (thgR rows g))).map V.bl)) ∧ Same H H') ⟨upd_same, same_new hD⟩ (fun i H' _ hp => sqT_same hp.2 ha) ?_ ?_
    · rintro i y H1 hy ⟨h1, s1⟩
      obtain ⟨p, hp, rfl⟩ := nat_atK hy
      have pm := List.mem_of_getElem? hp
      have pr := hF.lt hg pm
      rw [Mt.liveR_len] at pr
      obtain ⟨q, hq1, hq2⟩ := hrb.get (List.getElem?_eq_getElem pr)
      rw [← row_in pr] at hq2
      have il : i < g.length := (List.getElem?_eq_some_iff.mp hp).1
      have hb1 := sqT_same s1 hb
      refine ⟨rfl, _, rfl, b, rfl, ⟨_, hb1⟩, fun D2 hD2 => ?_⟩
      refine lc_tup (xs := (thgR rows g).map V.int) (fun j H' => H' D2 = some (.lst ((((thgR rows g).take j).filter fun t => !decide (t ∈ Mt.row rows p)).map V.int)) ∧ Same H1 H') ⟨upd_same, same_new hD2⟩ (fun j H' _ hp => sqT_same hp.2 hb1) ?_ ?_
      · rintro j z H2 hz ⟨h2, s2⟩
        obtain ⟨u, hu, rfl⟩ : ∃ u, (thgR rows g)[j]? = some u ∧ z = V.int u := by
          rw [List.getElem?_map] at hz
          cases e : (thgR rows g)[j]? with
          | none => rw [e] at hz; cases hz
          | some u => rw [e] at hz; exact ⟨u, rfl, (Option.some.inj hz).symm⟩
        have s12 := s1.trans s2
        refine ⟨rfl, _, rfl, _, rfl, _, rfl, ra, rvs, _, .ref q, rfl, rfl, sqT_same s12 hra, atI_nat hq1, q, _, rfl, .inr (sqT_same s12 hq2), rfl, all_flat_ints _, _, rfl, ?_⟩
        rw [show (if true = true then !inV (V.int u) ((Mt.row rows p).map V.int) else inV (V.int u) ((Mt.row rows p).map V.int)) = !decide (u ∈ Mt.row rows p) from by rw [if_pos rfl, inV_ints]]
        rw [filt_succK hu]
        refine ite2 (fun hc => ?_) (fun hc => ?_)
        · rw [if_pos hc]
          refine ⟨_, rfl, _, h2, small_lt (by rw [List.length_map]; exact Nat.le_trans (List.length_filter_le _ _) (by rw [List.length_take]; omega)), ?_, same_mut s2 hD2⟩
          rw [upd_same, List.map_append]
          rfl
        · rw [if_neg hc, List.append_nil]
          exact ⟨h2, s2⟩
      · rintro H2 ⟨h2, s2⟩
        rw [List.length_map, List.take_length] at h2
        refine ⟨D2, _, rfl, .inl (SqL.of h2), rfl, ?_⟩
        refine ⟨_, s2 _ _ h1, small_lt (by rw [List.length_map, List.length_map, List.length_take]; omega), ?_, same_mut (s1.trans s2) hD⟩
        rw [upd_same, show g.take (i + 1) = g.take i ++ [p] from by rw [List.take_add_one, hp]; rfl, List.map_append, List.map_append]
        show some (HO.lst (_ ++ [V.bl (decide (V.int (((((thgR rows g).filter fun t => !decide (t ∈ Mt.row rows p)).map V.int).length : Nat) : Int) = V.int ((0 : Nat) : Int)))])) = some (HO.lst (_ ++ [V.bl (allOf rows (thgR rows g) p)]))
        rw [intn_dec, List.length_map]
        rfl
    · rintro H1 ⟨h1, s1⟩
      rw [List.length_map, gl, List.take_length] at h1
      refine ⟨D, _, rfl, SqL.of h1, _, rfl, ?_⟩
      rw [show ((g.map (allOf rows (thgR rows g))).all id) = fullG (Mt.liveR rows) g from by rw [List.all_map, ← full]; rfl]
      unfold kindS at k
      refine ite2 (fun hc => ?_) (fun hc => ?_)
      · rw [if_pos hc] at k
        exact k H1 s1
      · rw [if_neg hc] at k
        have ha1 := sqT_same s1 ha
        refine ⟨_, rfl, a, rfl, ⟨_, ha1⟩, fun DA hDA => ?_⟩
        refine lc_tup (xs := (natI g).map V.int) (fun i H' => H' DA = some (.lst (((g.take i).map (cntP ps)).map nV)) ∧ Same H1 H') ⟨upd_same, same_new hDA⟩ (fun i H' _ hp => sqT_same hp.2 ha1) ?_ ?_
        · rintro i y H3 hy ⟨h3, s3⟩
          obtain ⟨p, hp, rfl⟩ := nat_atK hy
          have il : i < g.length := (List.getElem?_eq_some_iff.mp hp).1
          have s13 := s1.trans s3
          refine ⟨rfl, ?_⟩
          refine ⟨_, rfl, lv, rfl, ⟨_, SqL.of (s13 _ _ hlv)⟩, fun D2 hD2 => ?_⟩
          refine lc_list (xs := lw) (fun j H' => (∃ us, H' D2 = some (.lst us) ∧ us.length = ((ps.take j).filter fun q => decide ((q.1 : Int) = (p : Int))).length) ∧ Same H3 H') ⟨⟨[], upd_same, rfl⟩, same_new hD2⟩ (fun j H' _ hp => SqL.of (hp.2 _ _ (s13 _ _ hlv))) ?_ ?_
          · rintro j z H2 hz ⟨⟨us, h2, ul⟩, s2⟩
            have jl : j < ps.length := by have := (List.getElem?_eq_some_iff.mp hz).1; omega
            obtain ⟨q, hq⟩ : ∃ q, ps[j]? = some q := ⟨_, List.getElem?_eq_getElem jl⟩
            obtain ⟨c, hc1, hc2⟩ := hlw.get (r := prI q) (by rw [List.getElem?_map, hq]; rfl)
            rw [hz] at hc1
            have ez : z = .ref c := Option.some.inj hc1
            subst ez
            have hc3 : SqT K H2 c [.int (q.1 : Int), .int q.2] := sqT_same ((s13).trans s2) hc2
            have un : us.length ≤ 40000 := by rw [ul]; exact Nat.le_trans (List.length_filter_le _ _) (by rw [List.length_take]; omega)
            refine ⟨rfl, _, rfl, c, _, _, _, rfl, rfl, hc3, rfl, _, rfl, .int (q.1 : Int), .int (p : Int), .int _, .int _, rfl, rfl, ?_⟩
            rw [eqv_ii, filt_succK hq]
            refine ⟨_, rfl, ite2 (fun hcc => ?_) (fun hcc => ?_)⟩
            · rw [if_pos hcc]
              exact ⟨_, rfl, us, h2, small_lt (by omega), ⟨us ++ [.ref c], upd_same, by rw [List.length_append, List.length_append, ul]; rfl⟩, same_mut s2 hD2⟩
            · rw [if_neg hcc, List.append_nil]
              exact ⟨⟨us, h2, ul⟩, s2⟩
          · rintro H2 ⟨⟨us, h2, ul⟩, s2⟩
            rw [lwl, List.take_length] at ul
            refine ⟨D2, us, rfl, .inl (SqL.of h2), ?_⟩
            rw [ul]
            refine ⟨_, s2 _ _ h3, small_lt (by rw [List.length_map, List.length_map, List.length_take]; omega), ?_, same_mut (s3.trans s2) hDA⟩
            rw [upd_same, show g.take (i + 1) = g.take i ++ [p] from by rw [List.take_add_one, hp]; rfl, List.map_append, List.map_append]
            rfl
        · rintro H3 ⟨h3, s3⟩
          rw [List.length_map, gl, List.take_length] at h3
          have s13 := s1.trans s3
          have hb3 := sqT_same s13 hb
          refine ⟨_, rfl, _, rfl, b, rfl, ⟨_, hb3⟩, fun DB hDB => ?_⟩
          refine lc_tup (xs := (thgR rows g).map V.int) (fun i H' => H' DB = some (.lst ((((thgR rows g).take i).map (cntT ps)).map nV)) ∧ Same H3 H') ⟨upd_same, same_new hDB⟩ (fun i H' _ hp => sqT_same hp.2 hb3) ?_ ?_
          · rintro i y H4 hy ⟨h4, s4⟩
            obtain ⟨t, ht, rfl⟩ : ∃ u, (thgR rows g)[i]? = some u ∧ y = V.int u := by
              rw [List.getElem?_map] at hy
              cases e : (thgR rows g)[i]? with
              | none => rw [e] at hy; cases hy
              | some u => rw [e] at hy; exact ⟨u, rfl, (Option.some.inj hy).symm⟩
            have il := (List.getElem?_eq_some_iff.mp ht).1
            have s14 := s13.trans s4
            refine ⟨rfl, ?_⟩
            refine ⟨_, rfl, lv, rfl, ⟨_, SqL.of (s14 _ _ hlv)⟩, fun D2 hD2 => ?_⟩
            refine lc_list (xs := lw) (fun j H' => (∃ us, H' D2 = some (.lst us) ∧ us.length = ((ps.take j).filter fun q => decide (q.2 = t)).length) ∧ Same H4 H') ⟨⟨[], upd_same, rfl⟩, same_new hD2⟩ (fun j H' _ hp => SqL.of (hp.2 _ _ (s14 _ _ hlv))) ?_ ?_
            · rintro j z H2 hz ⟨⟨us, h2, ul⟩, s2⟩
              have jl : j < ps.length := by have := (List.getElem?_eq_some_iff.mp hz).1; omega
              obtain ⟨q, hq⟩ : ∃ q, ps[j]? = some q := ⟨_, List.getElem?_eq_getElem jl⟩
              obtain ⟨c, hc1, hc2⟩ := hlw.get (r := prI q) (by rw [List.getElem?_map, hq]; rfl)
              rw [hz] at hc1
              have ez : z = .ref c := Option.some.inj hc1
              subst ez
              have hc3 : SqT K H2 c [.int (q.1 : Int), .int q.2] := sqT_same ((s14).trans s2) hc2
              have un : us.length ≤ 40000 := by rw [ul]; exact Nat.le_trans (List.length_filter_le _ _) (by rw [List.length_take]; omega)
              refine ⟨rfl, _, rfl, c, _, _, _, rfl, rfl, hc3, rfl, _, rfl, .int q.2, .int t, .int _, .int _, rfl, rfl, ?_⟩
              rw [eqv_ii, filt_succK hq]
              refine ⟨_, rfl, ite2 (fun hcc => ?_) (fun hcc => ?_)⟩
              · rw [if_pos hcc]
                exact ⟨_, rfl, us, h2, small_lt (by omega), ⟨us ++ [.ref c], upd_same, by rw [List.length_append, List.length_append, ul]; rfl⟩, same_mut s2 hD2⟩
              · rw [if_neg hcc, List.append_nil]
                exact ⟨⟨us, h2, ul⟩, s2⟩
            · rintro H2 ⟨⟨us, h2, ul⟩, s2⟩
              rw [lwl, List.take_length] at ul
              refine ⟨D2, us, rfl, .inl (SqL.of h2), ?_⟩
              rw [ul]
              refine ⟨_, s2 _ _ h4, small_lt (by rw [List.length_map, List.length_map, List.length_take]; omega), ?_, same_mut (s4.trans s2) hDB⟩
              rw [upd_same, show (thgR rows g).take (i + 1) = (thgR rows g).take i ++ [t] from by rw [List.take_add_one, ht]; rfl, List.map_append, List.map_append]
              rfl
          · rintro H4 ⟨h4, s4⟩
            rw [List.length_map, List.take_length] at h4
            have s14 := s13.trans s4
            refine ⟨DA, DB, _, _, rfl, rfl, s4 _ _ h3, h4, Nat.le_of_lt (small_lt (by rw [List.length_map, List.length_map, List.length_map, List.length_map]; omega)), fun DC hDC => ?_⟩
            rw [← List.map_append]
            have sC := same_new (o := .lst ((g.map (cntP ps) ++ (thgR rows g).map (cntT ps)).map nV)) hDC
            obtain ⟨cs, ecs⟩ : ∃ cs, cs = g.map (cntP ps) ++ (thgR rows g).map (cntT ps) := ⟨_, rfl⟩
            rw [← ecs] at ring
            rw [← ecs] at sC ⊢
            have csl : cs.length ≤ 80 := by rw [ecs, List.length_append, List.length_map, List.length_map]; omega
            refine ⟨_, rfl, DC, rfl, ⟨_, SqL.of upd_same⟩, fun DD hDD => ?_⟩
            refine lc_list (xs := cs.map nV) (fun i H' => H' DD = some (.lst (((cs.take i).map fun n => decide (n = 2)).map V.bl)) ∧ Same (upd H4 DC (.lst (cs.map nV))) H') ⟨upd_same, same_new hDD⟩ (fun i H' _ hp => SqL.of (hp.2 _ _ upd_same)) ?_ ?_
            · rintro i y H5 hy ⟨h5, s5⟩
              obtain ⟨n, hn', rfl⟩ : ∃ u, cs[i]? = some u ∧ y = nV u := by
                rw [List.getElem?_map] at hy
                cases e : cs[i]? with
                | none => rw [e] at hy; cases hy
                | some u => rw [e] at hy; exact ⟨u, rfl, (Option.some.inj hy).symm⟩
              have il := (List.getElem?_eq_some_iff.mp hn').1
              refine ⟨rfl, _, rfl, rfl, ?_⟩
              refine ⟨_, h5, small_lt (by rw [List.length_map, List.length_map, List.length_take]; omega), ?_, same_mut s5 hDD⟩
              rw [upd_same, show cs.take (i + 1) = cs.take i ++ [n] from by rw [List.take_add_one, hn']; rfl, List.map_append, List.map_append]
              show some (HO.lst (_ ++ [V.bl (decide (V.int ((n : Nat) : Int) = V.int ((2 : Nat) : Int)))])) = some (HO.lst (_ ++ [V.bl (decide (n = 2))]))
              rw [intn_dec]
            · rintro H5 ⟨h5, s5⟩
              rw [List.length_map, List.take_length] at h5
              refine ⟨DD, _, rfl, SqL.of h5, _, rfl, ?_⟩
              rw [show ((cs.map fun n => decide (n = 2)).all id) = ringB (Mt.liveR rows) g from by rw [List.all_map, ← ring]; rfl]
              have s15 := (s14.trans sC).trans s5
              refine ite2 (fun hc2 => ?_) (fun hc2 => ?_)
              · rw [if_pos hc2] at k
                exact k H5 s15
              · rw [if_neg hc2] at k
                exact k H5 s15
def spLRound (K : PySem.W.Frag) : Sp := fun vs H Q _ => ∃ (lv a : Addr) (lw : List V) (rows : List (List Int)) (ps : List (Nat × Int)) (F : List (List Nat)) (g : List Nat) (st : Nat), vs = [.ref lv, .ref a] ∧ Good rows ∧ rows.length ≤ 40 ∧ H lv = some (.lst lw) ∧ RowsT K H lw (ps.map prI) ∧ LvI rows ps ∧ ps.length ≤ 40000 ∧ SqT K H a ((natI g).map V.int) ∧ Mt.Groups (Mt.liveR rows) F ∧ g ∈ F ∧ Mt.RingG (Mt.liveR rows) g ∧ g[0]? = some st ∧ ∀ p H', Same H H' → SqT K H' p ((rndI (Mt.liveR rows) st g.length).map V.int) → Q (.ref p) H'
theorem ok_lround (A : At K mg "_law_round" s_law_round ["live", "people"]) (T : Tx mg) : Dfn P w K mg base "_law_round" ["live", "people"] 1 (spLRound K) := by
  refine A.ok sc_law_round (fun vs H Q E h => ?_) (fun f cdv A outer s H vs Q E hr h => ?_)
  · obtain ⟨_, _, _, _, _, _, _, _, rfl, _⟩ := h
    rfl
  · obtain ⟨lv, a, lw, rows, ps, F, g, st, rfl, G, hn, hlv, hlw, LI, pl, ha, hF, hg, rg, hst, k⟩ := h
    have lwl := hlw.len
    rw [List.length_map] at lwl
    have gl : (natI g).length = g.length := by unfold natI; rw [List.length_map]
    have gn := hF.len hg
    rw [Mt.liveR_len] at gn
    have hsm := List.mem_of_getElem? hst
    refine ⟨_, (pss_cons (ps_set (i := 2) sc_law_round.nd rfl (Or.inr rfl) (pe_ix ix_tup (pv 1) pe_int (fun _ _ => rfl)))
      (pss_cons (ps_set (i := 3) sc_law_round.nd rfl (Or.inr rfl) (pe_callB (cr_min rfl) (by rfl) T.min (by decide +kernel) (pa_cons (pe_lc (own := [("tie", 6)]) (g := (gName 6)) (tt := (tTest (tOp (rEqD K) (tOp (rIxT K) (tVar 6) (tC (V.int 0))) (tVar 2)))) (te := (tOp (rIxT K) (tVar 6) (tC (V.int 1)))) (by rfl) sc_law_round.nd (pi_list (pv 0)) (blkOk_by (own := [("tie", 6)]) (N := n_law_round) (sc := (defScope s_law_round)) (by decide +kernel)) (fun _ _ _ _ _ => (pg_name (i := 6) sc_law_round.nd rfl (Or.inl rfl))) (fun _ _ _ _ _ => (pts_one (pt_cmpR (op_eqD hr.units) (pe_ix ix_tup (pv 6) pe_int (fun _ _ => rfl)) (pv 2) (nomark _)))) (fun _ _ _ _ _ => (pe_ix ix_tup (pv 6) pe_int (fun _ _ => rfl)))) pa_nil)))
      (pss_cons (ps_set (i := 4) sc_law_round.nd rfl (Or.inl rfl) (pe_tup pa_nil))
      (pss_cons (ps_for PassesOwn.never rfl (pi_range1 rfl T.range (pa_cons (pe_callB c_len (by rfl) T.len (by decide +kernel) (pa_cons (pv 1) pa_nil)) pa_nil)) (pg_name (i := 5) sc_law_round.nd rfl (Or.inl rfl))
      (pss_cons (ps_set (i := 4) sc_law_round.nd rfl (Or.inl rfl) (pe_op op_catA (pv 4) (pe_tup (pa_cons (pv 2) (pa_cons (pv 3) pa_nil)))))
      (pss_cons (ps_set (i := 2) sc_law_round.nd rfl (Or.inr rfl) (pe_ix ix_list (pe_lc (own := [("tie", 6)]) (g := (gName 6)) (tt := (tAnd (tTest (tOp (rEqD K) (tOp (rIxT K) (tVar 6) (tC (V.int 1))) (tVar 3))) (tTest (tOp (rNeD K) (tOp (rIxT K) (tVar 6) (tC (V.int 0))) (tVar 2))))) (te := (tOp (rIxT K) (tVar 6) (tC (V.int 0)))) (by rfl) sc_law_round.nd (pi_list (pv 0)) (blkOk_by (own := [("tie", 6)]) (N := n_law_round) (sc := (defScope s_law_round)) (by decide +kernel)) (fun _ _ _ _ _ => (pg_name (i := 6) sc_law_round.nd rfl (Or.inl rfl))) (fun _ _ _ _ _ => (pts_one (PW.pt (pw_and (pt_cmpR (op_eqD hr.units) (pe_ix ix_tup (pv 6) pe_int (fun _ _ => rfl)) (pv 3) (nomark _)) (pw_and1 (pt_cmpR (op_neD hr.units) (pe_ix ix_tup (pv 6) pe_int (fun _ _ => rfl)) (pv 2) (nomark _))))))) (fun _ _ _ _ _ => (pe_ix ix_tup (pv 6) pe_int (fun _ _ => rfl)))) pe_int (fun _ _ => rfl)))
      (pss_one (ps_set (i := 3) sc_law_round.nd rfl (Or.inr rfl) (pe_ix ix_list (pe_lc (own := [("tie", 6)]) (g := (gName 6)) (tt := (tAnd (tTest (tOp (rEqD K) (tOp (rIxT K) (tVar 6) (tC (V.int 0))) (tVar 2))) (tTest (tOp (rNeD K) (tOp (rIxT K) (tVar 6) (tC (V.int 1))) (tVar 3))))) (te := (tOp (rIxT K) (tVar 6) (tC (V.int 1)))) (by rfl) sc_law_round.nd (pi_list (pv 0)) (blkOk_by (own := [("tie", 6)]) (N := n_law_round) (sc := (defScope s_law_round)) (by decide +kernel)) (fun _ _ _ _ _ => (pg_name (i := 6) sc_law_round.nd rfl (Or.inl rfl))) (fun _ _ _ _ _ => (pts_one (PW.pt (pw_and (pt_cmpR (op_eqD hr.units) (pe_ix ix_tup (pv 6) pe_int (fun _ _ => rfl)) (pv 2) (nomark _)) (pw_and1 (pt_cmpR (op_neD hr.units) (pe_ix ix_tup (pv 6) pe_int (fun _ _ => rfl)) (pv 3) (nomark _))))))) (fun _ _ _ _ _ => (pe_ix ix_tup (pv 6) pe_int (fun _ _ => rfl)))) pe_int (fun _ _ => rfl)))))))
      (pss_one (ps_ret (pv 4))))))), ?_⟩
    refine ⟨_, rfl, a, _, _, nV st, rfl, rfl, ha, atI_nat (j := 0) (by unfold natI; rw [List.map_map, List.getElem?_map, hst]; rfl), ?_⟩
    obtain ⟨x0, y0, xy, exy⟩ := rg.two st hsm
    have x0y : x0 < y0 := by
      have := G.live.row_asc st
      rw [exy] at this
      exact (List.pairwise_cons.mp this).1 y0 List.mem_cons_self
    have l0 : Mt.Live rows st x0 := Mt.mem_liveR.mp (by rw [exy]; exact List.mem_cons_self)
    refine ⟨_, rfl, lv, rfl, ⟨_, SqL.of ((Same.refl H) _ _ hlv)⟩, fun D2 hD2 => ?_⟩
    refine lc_list (xs := lw) (fun j H' => H' D2 = some (.lst ((((ps.take j).filter fun q => decide ((q.1 : Int) = (st : Int))).map fun q => q.2).map V.int)) ∧ Same H H') ⟨upd_same, same_new hD2⟩ (fun j H' _ hp => SqL.of (hp.2 _ _ ((Same.refl H) _ _ hlv))) ?_ ?_
    · rintro j z H2 hz ⟨h2, s2⟩
      have jl : j < ps.length := by have := (List.getElem?_eq_some_iff.mp hz).1; omega
      obtain ⟨q, hq⟩ : ∃ q, ps[j]? = some q := ⟨_, List.getElem?_eq_getElem jl⟩
      obtain ⟨c, hc1, hc2⟩ := hlw.get (r := prI q) (by rw [List.getElem?_map, hq]; rfl)
      rw [hz] at hc1
      have ez : z = .ref c := Option.some.inj hc1
      subst ez
      have hc3 : SqT K H2 c [.int (q.1 : Int), .int q.2] := sqT_same (((Same.refl H)).trans s2) hc2
      have un : ((((ps.take j).filter fun q => decide ((q.1 : Int) = (st : Int))).map fun q => q.2).map V.int).length ≤ 40000 := by rw [List.length_map, List.length_map]; exact Nat.le_trans (List.length_filter_le _ _) (by rw [List.length_take]; omega)
      rw [filt_succK hq, List.map_append, List.map_append]
      refine ⟨rfl, _, rfl, c, _, _, _, rfl, rfl, hc3, rfl, _, rfl, .int (q.1 : Int), .int (st : Int), .int _, .int _, rfl, rfl, ?_⟩
      rw [eqv_ii]
      refine ⟨_, rfl, ite2 (fun hcc => ?_) (fun hcc => ?_)⟩
      · rw [if_pos hcc]
        refine ⟨_, rfl, c, _, _, _, rfl, rfl, hc3, rfl, _, h2, small_lt (by omega), ?_, same_mut s2 hD2⟩
        rw [upd_same]
        rfl
      · rw [if_neg hcc, List.map_nil, List.map_nil, List.append_nil]
        exact ⟨h2, s2⟩
    · rintro H2 ⟨h2, s2⟩
      rw [lwl, List.take_length] at h2
      refine ⟨D2, _, rfl, SqL.of h2, ?_, fun m hm hmin => ?_⟩
      · refine Nat.lt_of_lt_of_eq ?_ (List.length_map _).symm
        exact List.length_pos_of_mem (List.mem_filter.mpr ⟨(LI.mem (st, x0)).mpr l0, decide_eq_true rfl⟩)
      have em : m = x0 := by
        have hx0 : x0 ∈ (ps.filter fun q => decide ((q.1 : Int) = (st : Int))).map fun q => q.2 := List.mem_map.mpr ⟨(st, x0), List.mem_filter.mpr ⟨(LI.mem (st, x0)).mpr l0, decide_eq_true rfl⟩, rfl⟩
        have h1 := hmin x0 hx0
        obtain ⟨q, hq, rfl⟩ := List.mem_map.mp hm
        have hq2 := List.mem_filter.mp hq
        have e := of_decide_eq_true hq2.2
        have lq := (LI.mem q).mp hq2.1
        rw [show q.1 = st by omega] at lq
        have := Mt.mem_liveR.mpr lq
        rw [exy] at this
        simp only [List.mem_cons, List.not_mem_nil, or_false] at this
        rcases this with h | h
        · exact h
        · omega
      subst em
      have w0 : (Mt.wkR (Mt.liveR rows) st 0).2 = m := by
        show ((Mt.row (Mt.liveR rows) st)[0]?).getD 0 = m
        rw [exy]
        rfl
      refine ⟨by show 0 ≤ sizeLine; decide, fun f0 k0 => ?_⟩
      have s3 := s2.trans (same_new (o := .tup []) k0)
      refine ⟨_, rfl, a, _, rfl, .inr (sqT_same s3 ha), _, rfl, by omega, by rw [List.length_map, gl]; omega, ?_⟩
      rw [List.length_map, gl]
      refine for_range (lo := 0) (n := ((g.length : Nat) : Int).toNat) (fun i σ' H' => (∃ f x5, σ' = [some (.ref lv), some (.ref a), some (nV (Mt.wkR (Mt.liveR rows) st i).1), some (.int (Mt.wkR (Mt.liveR rows) st i).2), some (.ref f), x5, none] ∧ SqT K H' f ((rndI (Mt.liveR rows) st i).map V.int)) ∧ Same H H') ⟨⟨f0, _, by rw [w0]; rfl, SqT.of upd_same⟩, s3⟩ ?_ ?_
      · rintro i σ' H3 hi ⟨⟨f, x5, rfl, hf⟩, s03⟩
        have il : i < g.length := by omega
        have hin := rg.in_ hsm i
        obtain ⟨o1, o2, o3, o4, o5⟩ := rg.op hin.1 hin.2
        obtain ⟨t1, t2, t3, t4⟩ := rg.ot o2 o3
        refine ⟨_, rfl, _, rfl, _, rfl, by show 2 ≤ sizeLine; decide, fun z kz => ?_⟩
        have sz := same_new (o := .tup [nV (Mt.wkR (Mt.liveR rows) st i).1, V.int (Mt.wkR (Mt.liveR rows) st i).2]) kz
        refine catP (sqT_same sz hf) (SqT.of (xs := [nV (Mt.wkR (Mt.liveR rows) st i).1, V.int (Mt.wkR (Mt.liveR rows) st i).2]) upd_same) (Nat.le_of_lt (small_lt (by rw [List.length_map, rndI_len]; show 2 * i + 2 ≤ 100000; omega))) fun f1 H4 s4 hf1 => ?_
        have s04 := (s03.trans sz).trans s4
        refine ⟨_, rfl, lv, rfl, ⟨_, SqL.of (s04 _ _ hlv)⟩, fun D2 hD2 => ?_⟩
        refine lc_list (xs := lw) (fun j H' => H' D2 = some (.lst ((((ps.take j).filter fun q => (decide (q.2 = (Mt.wkR (Mt.liveR rows) st i).2) && !decide ((q.1 : Int) = ((Mt.wkR (Mt.liveR rows) st i).1 : Int)))).map fun q => (q.1 : Int)).map V.int)) ∧ Same H4 H') ⟨upd_same, same_new hD2⟩ (fun j H' _ hp => SqL.of (hp.2 _ _ (s04 _ _ hlv))) ?_ ?_
        · rintro j z H2 hz ⟨h2, s2⟩
          have jl : j < ps.length := by have := (List.getElem?_eq_some_iff.mp hz).1; omega
          obtain ⟨q, hq⟩ : ∃ q, ps[j]? = some q := ⟨_, List.getElem?_eq_getElem jl⟩
          obtain ⟨c, hc1, hc2⟩ := hlw.get (r := prI q) (by rw [List.getElem?_map, hq]; rfl)
          rw [hz] at hc1
          have ez : z = .ref c := Option.some.inj hc1
          subst ez
          have hc3 : SqT K H2 c [.int (q.1 : Int), .int q.2] := sqT_same ((s04).trans s2) hc2
          have un : ((((ps.take j).filter fun q => (decide (q.2 = (Mt.wkR (Mt.liveR rows) st i).2) && !decide ((q.1 : Int) = ((Mt.wkR (Mt.liveR rows) st i).1 : Int)))).map fun q => (q.1 : Int)).map V.int).length ≤ 40000 := by rw [List.length_map, List.length_map]; exact Nat.le_trans (List.length_filter_le _ _) (by rw [List.length_take]; omega)
          rw [filt_succK hq, List.map_append, List.map_append]
          obtain ⟨ap, eap⟩ : ∃ ap : List (Nat × Int), ap = if (decide (q.2 = (Mt.wkR (Mt.liveR rows) st i).2) && !decide ((q.1 : Int) = ((Mt.wkR (Mt.liveR rows) st i).1 : Int))) = true then [q] else [] := ⟨_, rfl⟩
          rw [← eap]
          have stay : ¬ (decide (q.2 = (Mt.wkR (Mt.liveR rows) st i).2) && !decide ((q.1 : Int) = ((Mt.wkR (Mt.liveR rows) st i).1 : Int))) = true → H2 D2 = some (.lst ((((ps.take j).filter fun q => (decide (q.2 = (Mt.wkR (Mt.liveR rows) st i).2) && !decide ((q.1 : Int) = ((Mt.wkR (Mt.liveR rows) st i).1 : Int)))).map fun q => (q.1 : Int)).map V.int ++ (ap.map fun q => (q.1 : Int)).map V.int)) ∧ Same H4 H2 := fun hh => by
            rw [eap, if_neg hh, List.map_nil, List.map_nil, List.append_nil]
            exact ⟨h2, s2⟩
          refine ⟨rfl, _, rfl, c, _, _, _, rfl, rfl, hc3, rfl, _, rfl, .int q.2, .int (Mt.wkR (Mt.liveR rows) st i).2, .int _, .int _, rfl, rfl, ?_⟩
          rw [eqv_ii]
          by_cases h1c : q.2 = (Mt.wkR (Mt.liveR rows) st i).2
          · rw [decide_eq_true h1c]
            refine ⟨_, rfl, _, rfl, c, _, _, _, rfl, rfl, hc3, rfl, _, rfl, .int (q.1 : Int), .int ((Mt.wkR (Mt.liveR rows) st i).1 : Int), .int _, .int _, rfl, rfl, ?_⟩
            rw [eqv_ii]
            by_cases h2c : (q.1 : Int) = ((Mt.wkR (Mt.liveR rows) st i).1 : Int)
            · rw [decide_eq_true h2c]
              exact ⟨_, rfl, stay (by rw [decide_eq_true h2c, Bool.not_true, Bool.and_false]; decide)⟩
            · rw [decide_eq_false h2c]
              refine ⟨_, rfl, ?_⟩
              refine ⟨_, rfl, c, _, _, _, rfl, rfl, hc3, rfl, _, h2, small_lt (by omega), ?_, same_mut s2 hD2⟩
              rw [upd_same, eap, if_pos (by rw [decide_eq_true h1c, decide_eq_false h2c]; rfl)]
              rfl
          · rw [decide_eq_false h1c]
            exact ⟨_, rfl, stay (by rw [decide_eq_false h1c, Bool.false_and]; decide)⟩
        · rintro H2 ⟨h2, s2⟩
          rw [lwl, List.take_length] at h2
          have hB : (((ps.filter fun q => (decide (q.2 = (Mt.wkR (Mt.liveR rows) st i).2) && !decide ((q.1 : Int) = ((Mt.wkR (Mt.liveR rows) st i).1 : Int)))).map fun q => (q.1 : Int)))[0]? = some (((Mt.wkR (Mt.liveR rows) st (i + 1)).1 : Nat) : Int) := headAllK (List.mem_map.mpr ⟨((Mt.wkR (Mt.liveR rows) st (i + 1)).1, (Mt.wkR (Mt.liveR rows) st i).2), List.mem_filter.mpr ⟨(LI.mem _).mpr (Mt.mem_liveR.mp o3), Bool.and_eq_true_iff.mpr ⟨decide_eq_true rfl, not_decK fun h => o1 (Int.ofNat.inj h)⟩⟩, rfl⟩) fun y hy => by
            obtain ⟨q, hq, rfl⟩ := List.mem_map.mp hy
            have hq2 := List.mem_filter.mp hq
            rw [Bool.and_eq_true] at hq2
            have e := of_decide_eq_true hq2.2.1
            have lq := (LI.mem q).mp hq2.1
            rw [e] at lq
            rcases o4 q.1 (Mt.mem_liveR.mpr lq) with h | h
            · have hd : decide ((q.1 : Int) = ((Mt.wkR (Mt.liveR rows) st i).1 : Int)) = true := decide_eq_true (by rw [h])
              rw [hd] at hq2
              exact absurd hq2.2.2 (by decide)
            · rw [h]
              rfl
          refine ⟨D2, _, _, _, rfl, rfl, SqL.of h2, atI_nat (j := 0) (by rw [List.getElem?_map, hB]; rfl), ?_⟩
          obtain ⟨H5, eH5⟩ : ∃ H5, H5 = H2 := ⟨_, rfl⟩
          rw [← eH5] at s2 h2 ⊢
          have s05 := s04.trans s2
          have sH5 := s2
          clear eH5
          refine ⟨_, rfl, lv, rfl, ⟨_, SqL.of (s05 _ _ hlv)⟩, fun D2 hD2 => ?_⟩
          refine lc_list (xs := lw) (fun j H' => H' D2 = some (.lst ((((ps.take j).filter fun q => (decide ((q.1 : Int) = ((Mt.wkR (Mt.liveR rows) st (i + 1)).1 : Int)) && !decide (q.2 = (Mt.wkR (Mt.liveR rows) st i).2))).map fun q => q.2).map V.int)) ∧ Same H5 H') ⟨upd_same, same_new hD2⟩ (fun j H' _ hp => SqL.of (hp.2 _ _ (s05 _ _ hlv))) ?_ ?_
          · rintro j z H2 hz ⟨h2, s2⟩
            have jl : j < ps.length := by have := (List.getElem?_eq_some_iff.mp hz).1; omega
            obtain ⟨q, hq⟩ : ∃ q, ps[j]? = some q := ⟨_, List.getElem?_eq_getElem jl⟩
            obtain ⟨c, hc1, hc2⟩ := hlw.get (r := prI q) (by rw [List.getElem?_map, hq]; rfl)
            rw [hz] at hc1
            have ez : z = .ref c := Option.some.inj hc1
            subst ez
            have hc3 : SqT K H2 c [.int (q.1 : Int), .int q.2] := sqT_same ((s05).trans s2) hc2
            have un : ((((ps.take j).filter fun q => (decide ((q.1 : Int) = ((Mt.wkR (Mt.liveR rows) st (i + 1)).1 : Int)) && !decide (q.2 = (Mt.wkR (Mt.liveR rows) st i).2))).map fun q => q.2).map V.int).length ≤ 40000 := by rw [List.length_map, List.length_map]; exact Nat.le_trans (List.length_filter_le _ _) (by rw [List.length_take]; omega)
            rw [filt_succK hq, List.map_append, List.map_append]
            obtain ⟨ap, eap⟩ : ∃ ap : List (Nat × Int), ap = if (decide ((q.1 : Int) = ((Mt.wkR (Mt.liveR rows) st (i + 1)).1 : Int)) && !decide (q.2 = (Mt.wkR (Mt.liveR rows) st i).2)) = true then [q] else [] := ⟨_, rfl⟩
            rw [← eap]
            have stay : ¬ (decide ((q.1 : Int) = ((Mt.wkR (Mt.liveR rows) st (i + 1)).1 : Int)) && !decide (q.2 = (Mt.wkR (Mt.liveR rows) st i).2)) = true → H2 D2 = some (.lst ((((ps.take j).filter fun q => (decide ((q.1 : Int) = ((Mt.wkR (Mt.liveR rows) st (i + 1)).1 : Int)) && !decide (q.2 = (Mt.wkR (Mt.liveR rows) st i).2))).map fun q => q.2).map V.int ++ (ap.map fun q => q.2).map V.int)) ∧ Same H5 H2 := fun hh => by
              rw [eap, if_neg hh, List.map_nil, List.map_nil, List.append_nil]
              exact ⟨h2, s2⟩
            refine ⟨rfl, _, rfl, c, _, _, _, rfl, rfl, hc3, rfl, _, rfl, .int (q.1 : Int), .int ((Mt.wkR (Mt.liveR rows) st (i + 1)).1 : Int), .int _, .int _, rfl, rfl, ?_⟩
            rw [eqv_ii]
            by_cases h1c : (q.1 : Int) = ((Mt.wkR (Mt.liveR rows) st (i + 1)).1 : Int)
            · rw [decide_eq_true h1c]
              refine ⟨_, rfl, _, rfl, c, _, _, _, rfl, rfl, hc3, rfl, _, rfl, .int q.2, .int (Mt.wkR (Mt.liveR rows) st i).2, .int _, .int _, rfl, rfl, ?_⟩
              rw [eqv_ii]
              by_cases h2c : q.2 = (Mt.wkR (Mt.liveR rows) st i).2
              · rw [decide_eq_true h2c]
                exact ⟨_, rfl, stay (by rw [decide_eq_true h2c, Bool.not_true, Bool.and_false]; decide)⟩
              · rw [decide_eq_false h2c]
                refine ⟨_, rfl, ?_⟩
                refine ⟨_, rfl, c, _, _, _, rfl, rfl, hc3, rfl, _, h2, small_lt (by omega), ?_, same_mut s2 hD2⟩
                rw [upd_same, eap, if_pos (by rw [decide_eq_true h1c, decide_eq_false h2c]; rfl)]
                rfl
            · rw [decide_eq_false h1c]
              exact ⟨_, rfl, stay (by rw [decide_eq_false h1c, Bool.false_and]; decide)⟩
          · rintro H2 ⟨h2, s2⟩
            rw [lwl, List.take_length] at h2
            have hC : (((ps.filter fun q => (decide ((q.1 : Int) = ((Mt.wkR (Mt.liveR rows) st (i + 1)).1 : Int)) && !decide (q.2 = (Mt.wkR (Mt.liveR rows) st i).2))).map fun q => q.2))[0]? = some (Mt.wkR (Mt.liveR rows) st (i + 1)).2 := headAllK (List.mem_map.mpr ⟨((Mt.wkR (Mt.liveR rows) st (i + 1)).1, (Mt.wkR (Mt.liveR rows) st (i + 1)).2), List.mem_filter.mpr ⟨(LI.mem _).mpr (Mt.mem_liveR.mp t2), Bool.and_eq_true_iff.mpr ⟨decide_eq_true rfl, not_decK t1⟩⟩, rfl⟩) fun y hy => by
              obtain ⟨q, hq, rfl⟩ := List.mem_map.mp hy
              have hq2 := List.mem_filter.mp hq
              rw [Bool.and_eq_true] at hq2
              have e := of_decide_eq_true hq2.2.1
              have lq := (LI.mem q).mp hq2.1
              have e2 : q.1 = (Mt.wkR (Mt.liveR rows) st (i + 1)).1 := by omega
              rw [e2] at lq
              rcases t3 q.2 (Mt.mem_liveR.mpr lq) with h | h
              · have hd : decide (q.2 = (Mt.wkR (Mt.liveR rows) st i).2) = true := decide_eq_true h
                rw [hd] at hq2
                exact absurd hq2.2.2 (by decide)
              · exact h
            refine ⟨D2, _, _, _, rfl, rfl, SqL.of h2, atI_nat (j := 0) (by rw [List.getElem?_map, hC]; rfl), ?_⟩
            refine ⟨⟨f1, _, rfl, ?_⟩, s05.trans s2⟩
            rw [rndI_succ, List.map_append]
            exact sqT_same (sH5.trans s2) hf1
      · rintro σ' H3 ⟨⟨f, x5, rfl, hf⟩, s03⟩
        rw [Int.toNat_natCast] at hf
        exact ⟨_, rfl, k f H3 s03 hf⟩
end
end Fo
set_option maxRecDepth 100000
set_option maxHeartbeats 4000000
namespace Fo
open PySem PySem.Spec PyProof.Rows L2
theorem moved_ds {rows rs : List (List Int)} {ps ts : List Int} (G : Good rows) (pm1 : ps.Perm (rangeI rows.length)) (tnd : ts.Nodup) (psl : ps.length = rows.length) (tsl : ts.length = rows.length) (hl : rs.length = rows.length) (hcov : ∀ (kk : Nat) (r : List Int) (pp u : Int), rs[kk]? = some r → ps[kk]? = some pp → u ∈ Mt.row rows pp.toNat → ∃ x, ts[u.toNat]? = some x ∧ x ∈ r) {D : List Int} (d : Mt.Ds rows D) : ∃ D', Mt.Ds rs D' := by
  have dg : ∀ k, k < rows.length → ∃ pp u x, ps[k]? = some pp ∧ 0 ≤ pp ∧ pp < (rows.length : Int) ∧ D[pp.toNat]? = some u ∧ 0 ≤ u ∧ ts[u.toNat]? = some x ∧ x ∈ Mt.row rs k := fun k hk => by
    have hp := List.getElem?_eq_getElem (l := ps) (i := k) (by omega)
    have pr := mem_rangeI.mp (pm1.mem_iff.mp (List.mem_of_getElem? hp))
    obtain ⟨u, hu, hu2⟩ := d.get (p := ps[k].toNat) (by omega)
    have hr := List.getElem?_eq_getElem (l := rs) (i := k) (by omega)
    obtain ⟨x, h1, h2⟩ := hcov k _ _ u hr hp hu2
    exact ⟨_, u, x, hp, pr.1, pr.2, hu, (G.row_rng hu2).1, h1, by rw [Mt.row_get hr]; exact h2⟩
  refine ⟨(List.range rows.length).map fun k => ts.getD (D.getD (ps.getD k 0).toNat 0).toNat 0, ?_, fun k t e => ?_, ?_⟩
  · rw [List.length_map, List.length_range, hl]
  · rw [List.getElem?_map] at e
    by_cases kn : k < rows.length
    · rw [List.getElem?_range kn] at e
      obtain ⟨pp, u, x, h1, _, _, h4, _, h6, h7⟩ := dg k kn
      have e : some (ts.getD (D.getD (ps.getD k 0).toNat 0).toNat 0) = some t := e
      simp only [List.getD_eq_getElem?_getD, h1, h4, h6, Option.getD_some] at e
      rw [← Option.some.inj e]
      exact h7
    · rw [List.getElem?_eq_none (by rw [List.length_range]; omega)] at e
      cases e
  · refine Mt.nodup_map List.nodup_range fun a ha b hb e => ?_
    obtain ⟨pp, u, x, h1, p0, p1, h4, u0, h6, _⟩ := dg a (List.mem_range.mp ha)
    obtain ⟨pp', u', x', h1', p0', p1', h4', u0', h6', _⟩ := dg b (List.mem_range.mp hb)
    have e : ts.getD (D.getD (ps.getD a 0).toNat 0).toNat 0 = ts.getD (D.getD (ps.getD b 0).toNat 0).toNat 0 := e
    simp only [List.getD_eq_getElem?_getD, h1, h4, h6, h1', h4', h6', Option.getD_some] at e
    rw [e] at h6
    have e1 := Mt.nodup_get tnd h6 h6'
    have e2 : u = u' := by omega
    rw [e2] at h4
    have e3 := Mt.nodup_get d.nd h4 h4'
    have e4 : pp = pp' := by omega
    rw [e4] at h1
    exact Mt.nodup_get (pm1.nodup_iff.mpr (rangeI_nodup _)) h1 h1'
section
variable {P : Program} {w : World} {K : PySem.W.Frag} {mg : Str → Option Value} {base : Heap} {C : Addr}
def spMovedD (K : PySem.W.Frag) : Sp := fun vs H Q _ => ∃ (t l : Addr) (v : V) (rows : List (List Int)), vs = [.ref t, v] ∧ Tape H t l ∧ Good rows ∧ rows.length ≤ 12 ∧ RowsAt K H v rows ∧ ∀ (v' : V) (rows' : List (List Int)) (H' : Hp), Good rows' → rows'.length = rows.length → ((∃ D, Mt.Ds rows D) → ∃ D, Mt.Ds rows' D) → Gr t H H' → Tape H' t l → RowsAt K H' v' rows' → Q v' H'
theorem ok_movedD (A : At K mg "_law_moved" s_law_moved ["tape", "rows"]) (T : Tx mg) (G_law_order : Dfn P w K mg base "_law_order" ["tape", "many"] 2 spOrder) : Dfn P w K mg base "_law_moved" ["tape", "rows"] 3 (spMovedD K) := by
  refine A.ok sc_law_moved (fun vs H Q E h => ?_) (fun f cdv A outer s H vs Q E hr h => ?_)
  · obtain ⟨t, l, v, rows, rfl, _⟩ := h
    rfl
  · obtain ⟨t, l, v, rows, rfl, hT, hG, hm, ⟨ra, rvs, rfl, hra, hrt⟩, k⟩ := h
    have rl := hrt.len
    refine ⟨_, (pss_cons (ps_set (i := 2) sc_law_moved.nd rfl (Or.inl rfl) (pe_d G_law_order (hr.mono (by decide)) (pa_cons (pv 0) (pa_cons (pe_callB c_len (by rfl) T.len (by decide +kernel) (pa_cons (pv 1) pa_nil)) pa_nil))))
      (pss_cons (ps_set (i := 3) sc_law_moved.nd rfl (Or.inr rfl) (pe_d G_law_order (hr.mono (by decide)) (pa_cons (pv 0) (pa_cons (pe_callB c_len (by rfl) T.len (by decide +kernel) (pa_cons (pv 1) pa_nil)) pa_nil))))
      (pss_one (ps_ret (pe_callTy c_tuple (by rfl) T.tuple (by decide +kernel) (pa_cons (pe_lc (own := [("person", 4)]) (g := (gName 4)) (tt := tYes) (te := (tCB (rTupOf K) (tCons (tCB (rSortedI K) (tCons (tLc (iTup K (tOp (rIxT K) (tVar 1) (tVar 4))) (gName 5) tYes (tOp (rIxL K) (tVar 3) (tVar 5)) [5]) tNil)) tNil))) (by rfl) sc_law_moved.nd (pi_list (pv 2)) (blkOk_by (own := [("person", 4)]) (N := n_law_moved) (sc := (defScope s_law_moved)) (by decide +kernel)) (fun _ _ _ _ _ => (pg_name (i := 4) sc_law_moved.nd rfl (Or.inl rfl))) (fun _ _ _ _ _ => pts_nil) (fun _ _ _ _ _ => (pe_callTy c_tuple (by rfl) T.tuple (by decide +kernel) (pa_cons (pe_callB cr_sortedI (by rfl) T.sorted (by decide +kernel) (pa_cons (pe_lc (own := [("thing", 5)]) (g := (gName 5)) (tt := tYes) (te := (tOp (rIxL K) (tVar 3) (tVar 5))) (by rfl) sc_law_moved.nd (pi_tup (pe_ix ix_tup (pv 1) (pv 4) (fun _ _ => rfl))) (blkOk_by (own := [("thing", 5)]) (N := n_law_moved) (sc := (relabel (lcScope s_law_moved) (envS (defScope s_law_moved)))) (by decide +kernel)) (fun _ _ _ _ _ => (pg_name (i := 5) sc_law_moved.nd rfl (Or.inl rfl))) (fun _ _ _ _ _ => pts_nil) (fun _ _ _ _ _ => (pe_ix ix_list (pv 3) (pv 5) (fun _ _ => rfl)))) pa_nil)) pa_nil)))) pa_nil)))))), ?_⟩
    refine ⟨_, rfl, _, rfl, ra, _, rfl, .inr hra, t, l, _, rfl, hT, by omega, by omega, fun pa ps H1 pm1 _ hp1 g1 T1 => ?_⟩
    have hra1 := gr_T g1 hT hra
    have hrt1 := hrt.gr g1 hT
    refine ⟨_, rfl, _, rfl, ra, _, rfl, .inr hra1, t, l, _, rfl, T1, by omega, by omega, fun ta ts H2 pm2 _ hp2 g2 T2 => ?_⟩
    have hpa : H2 pa = some (.lst (ps.map V.int)) := g2 _ _ (T1.ne_ints' hp1) hp1
    have hra2 := gr_T g2 T1 hra1
    have hrt2 := hrt1.gr g2 T1
    rw [rl] at pm1 pm2
    have psl : ps.length = rows.length := by rw [pm1.length_eq, rangeI_len]; omega
    have tsl : ts.length = rows.length := by rw [pm2.length_eq, rangeI_len]; omega
    have tnd : ts.Nodup := pm2.symm.nodup (rangeI_nodup _)
    -- the outer comprehension
    refine ⟨_, rfl, pa, rfl, ⟨_, SqL.of hpa⟩, fun D hD => ?_⟩
    have g12 := g1.trans g2
    have hD0 : H D = none := g12.fresh T2 hD
    have nD := T2.free hD
    have npD : pa ≠ D := ne_of_none hpa hD
    have ntD : ta ≠ D := ne_of_none hp2 hD
    refine lc_list (xs := ps.map V.int) (fun i H' => ∃ vs rs, H' D = some (.lst vs) ∧ RowsT K H' vs rs ∧ rs.length = i ∧ (∀ r ∈ rs, r.Pairwise (· < ·) ∧ ∀ x ∈ r, 0 ≤ x ∧ x < (rows.length : Int)) ∧ (∀ (kk : Nat) (r : List Int) (pp u : Int), rs[kk]? = some r → ps[kk]? = some pp → u ∈ Mt.row rows pp.toNat → ∃ x, ts[u.toNat]? = some x ∧ x ∈ r) ∧ Gr t H2 H' ∧ Tape H' t l)
      ⟨[], [], upd_same, .nil, rfl, fun _ h => (by cases h), fun kk r pp u h => (by simp at h), Gr.new hD, T2.new hD⟩ (fun i H' _ ⟨_, _, _, _, _, _, _, g, _⟩ => SqL.of (g _ _ (T2.ne_ints' hpa) hpa)) ?_ ?_
    · rintro i y H3 hy ⟨vs, rs, hDv, hrs, hl, hall, hcov, g3, T3⟩
      have hil : i < ps.length := by
        have := (List.getElem?_eq_some_iff.mp hy).1
        rw [List.length_map] at this
        exact this
      obtain ⟨z, hz, hpz, hzr⟩ : ∃ z, y = V.int z ∧ ps[i]? = some z ∧ 0 ≤ z ∧ z < (rows.length : Int) := by
        rw [List.getElem?_map, List.getElem?_eq_getElem hil] at hy
        refine ⟨ps[i], (Option.some.inj hy).symm, List.getElem?_eq_getElem hil, ?_⟩
        exact mem_rangeI.mp (pm1.mem_iff.mp (List.getElem_mem hil))
      subst hz
      have hzl : z.toNat < rows.length := by omega
      obtain ⟨rw_, hrw⟩ : ∃ r, rows[z.toNat]? = some r := ⟨_, List.getElem?_eq_getElem hzl⟩
      obtain ⟨qa, hqa, hqs⟩ := (hrt2.gr g3 T2).get hrw
      have hrmem : rw_ ∈ rows := List.mem_of_getElem? hrw
      have hra3 := gr_T g3 T2 hra2
      have hix : atI rvs z = some (.ref qa) := at_of (j := z.toNat) (by omega) hqa
      have hta3 : H3 ta = some (.lst (ts.map V.int)) := g3 _ _ (T2.ne_ints' hp2) hp2
      refine ⟨rfl, _, rfl, _, rfl, ra, _, z, _, rfl, rfl, hra3, hix, qa, rfl, ⟨_, hqs⟩, fun D2 hD2 => ?_⟩
      have nD2 := T3.free hD2
      have ntD2 : ta ≠ D2 := ne_of_none hta3 hD2
      have nDD2 : D ≠ D2 := ne_of_none hDv hD2
      refine lc_tup (xs := rw_.map V.int) (fun j H' => ∃ out : List Int, H' D2 = some (.lst (out.map V.int)) ∧ out.length = j ∧ (∀ x ∈ out, 0 ≤ x ∧ x < (rows.length : Int)) ∧ (∀ (m : Nat) (x : Int), out[m]? = some x → ∃ u : Int, rw_[m]? = some u ∧ ts[u.toNat]? = some x) ∧ Gr t H3 H' ∧ Tape H' t l)
        ⟨[], upd_same, rfl, fun _ h => (by cases h), fun m x h => (by simp at h), Gr.new hD2, T3.new hD2⟩ (fun j H' _ ⟨_, _, _, _, _, g, _⟩ => gr_T g T3 hqs) ?_ ?_
      · rintro j u H4 hu ⟨out, hDo, hol, hor, hof, g4, T4⟩
        have hjl : j < rw_.length := by
          have := (List.getElem?_eq_some_iff.mp hu).1
          rw [List.length_map] at this
          exact this
        have hu' : rw_[j]? = some rw_[j] := List.getElem?_eq_getElem hjl
        rw [List.getElem?_map, hu'] at hu
        have hu2 : V.int rw_[j] = u := Option.some.inj hu
        subst hu2
        have hrg := hG.rng _ hrmem _ (List.getElem_mem hjl)
        generalize hug : rw_[j] = ug at hu' hrg
        have htl : ug.toNat < ts.length := by omega
        have htx : ts[ug.toNat]? = some ts[ug.toNat] := List.getElem?_eq_getElem htl
        have hti : atI (ts.map V.int) ug = some (.int ts[ug.toNat]) := at_of (j := ug.toNat) (by omega) (by rw [List.getElem?_map, htx]; rfl)
        have hta4 : H4 ta = some (.lst (ts.map V.int)) := g4 _ _ (T2.ne_ints' hp2) hta3
        refine ⟨rfl, _, rfl, _, rfl, ta, _, _, _, rfl, rfl, SqL.of hta4, hti, _, hDo, by rw [List.length_map]; exact small_lt (by have := nodup_of_lt (hG.asc _ hrmem); have := row_len (hG.asc _ hrmem) (hG.rng _ hrmem); omega), ?_⟩
        refine ⟨out ++ [ts[ug.toNat]], by rw [upd_same, map_snoc], by rw [List.length_append, hol]; rfl, fun x hx => ?_, fun m x hx => ?_, gr_mut g4 hD2, T4.mut nD2⟩
        · rcases List.mem_append.mp hx with h | h
          · exact hor x h
          · rw [List.mem_singleton.mp h]
            exact mem_rangeI.mp (pm2.mem_iff.mp (List.getElem_mem htl))
        · by_cases hm : m < out.length
          · rw [List.getElem?_append_left hm] at hx
            exact hof m x hx
          · have hm2 : m = out.length := by
              have h1 := (List.getElem?_eq_some_iff.mp hx).1
              rw [List.length_append, List.length_singleton] at h1
              omega
            subst hm2
            rw [List.getElem?_append_right (Nat.le_refl _), Nat.sub_self] at hx
            have hx' : ts[ug.toNat] = x := Option.some.inj hx
            subst hx'
            exact ⟨ug, by rw [hol]; exact hu', htx⟩
      · rintro H4 ⟨out, hDo, hol, hor, hof, g4, T4⟩
        rw [List.length_map] at hol
        have ond : out.Nodup := by
          refine List.pairwise_iff_getElem.mpr fun a b ha hb hab heq' => ?_
          obtain ⟨u1, h1, k1⟩ := hof a _ (List.getElem?_eq_getElem ha)
          obtain ⟨u2, h2, k2⟩ := hof b _ (List.getElem?_eq_getElem hb)
          rw [heq'] at k1
          have e12 : u1.toNat = u2.toNat := nd_ix tnd k1 k2
          have r1 := hG.rng _ hrmem _ (List.mem_of_getElem? h1)
          have r2 := hG.rng _ hrmem _ (List.mem_of_getElem? h2)
          have e3 : u1 = u2 := by omega
          rw [← e3] at h2
          have := nd_ix (nodup_of_lt (hG.asc _ hrmem)) h1 h2
          omega
        have hDv4 : H4 D = some (.lst vs) := g4 _ _ nD.1 hDv
        refine ⟨D2, out, rfl, SqL.of hDo, fun ns' p pms so hp => ⟨p, _, rfl, .inl ⟨SqL.of upd_same, fun q hq => ?_⟩⟩⟩
        have npD' : D ≠ p := ne_of_none hDv4 hp
        have hq4 : H4 q = none := by
          by_cases e : q = p
          · rw [e, upd_same] at hq
            cases hq
          · rw [upd_ne e] at hq
            exact hq
        have nqD : D ≠ q := ne_of_none hDv4 hq4
        have e7 : (upd (upd H4 p (.lst (ns'.map V.int))) q (.tup (ns'.map V.int))) D = some (.lst vs) := by rw [upd_ne nqD, upd_ne npD']; exact hDv4
        refine ⟨vs, e7, small_lt (by rw [hrs.len]; omega), ?_⟩
        have g47 : Gr t H3 (upd (upd H4 p (.lst (ns'.map V.int))) q (.tup (ns'.map V.int))) := g4.trans ((Gr.new hp).trans (Gr.new hq))
        have T7 := (T4.new (o := .lst (ns'.map V.int)) hp).new (o := .tup (ns'.map V.int)) hq
        refine ⟨vs ++ [.ref q], rs ++ [ns'], upd_same, ?_, by rw [List.length_append, hl]; rfl, fun r hr => ?_, fun kk r pp u hk hp hu => ?_, gr_mut (g3.trans g47) hD, T7.mut nD⟩
        · exact RowsT.snoc (SqT.of (by rw [upd_ne nqD.symm, upd_same])) ((hrs.gr g47 T3).put e7)
        · rcases List.mem_append.mp hr with h | h
          · exact hall r h
          · rw [List.mem_singleton.mp h]
            exact ⟨asc_of pms so ond, fun x hx => hor x (pms.mem_iff.mp hx)⟩
        · by_cases c : kk < rs.length
          · rw [List.getElem?_append_left c] at hk
            exact hcov kk r pp u hk hp hu
          · have kl := (List.getElem?_eq_some_iff.mp hk).1
            rw [List.length_append, List.length_singleton] at kl
            have ke : kk = rs.length := by omega
            rw [ke, List.getElem?_append_right (Nat.le_refl _), Nat.sub_self] at hk
            cases hk
            rw [ke, hl, hpz] at hp
            cases hp
            rw [Mt.row_get hrw] at hu
            obtain ⟨m, hm⟩ := List.getElem?_of_mem hu
            have ml := (List.getElem?_eq_some_iff.mp hm).1
            have ho := List.getElem?_eq_getElem (l := out) (i := m) (by omega)
            obtain ⟨u', h1, h2⟩ := hof m _ ho
            rw [hm] at h1
            cases h1
            exact ⟨_, h2, pms.mem_iff.mpr (List.mem_of_getElem? ho)⟩
    · rintro H3 ⟨vs, rs, hDv, hrs, hl, hall, hcov, g3, T3⟩
      rw [List.length_map, psl] at hl
      refine ⟨D, vs, rfl, .inl ⟨SqL.of hDv, fun z hz => ?_⟩⟩
      have hz0 : H z = none := (g12.trans g3).fresh T3 hz
      exact k _ rs _ ⟨by rw [hl]; exact hG.pos, fun r hr => (hall r hr).1, fun r hr x hx => by rw [hl]; exact (hall r hr).2 x hx⟩ hl (fun ⟨D, d⟩ => moved_ds hG pm1 tnd psl tsl hl hcov d) (gr_mut (g12.trans g3) hz0) (T3.new hz) ⟨z, vs, rfl, SqT.of upd_same, hrs.same (same_new hz)⟩

end
end Fo

set_option maxRecDepth 100000
set_option maxHeartbeats 4000000
namespace Fo
open PySem PySem.Spec PyProof.Rows L2
abbrev s_law_ring : Stmt := top 50
abbrev n_law_ring : List Str := ["tape", "size", "rows", "k"]
theorem sc_law_ring : FnScope n_law_ring ["tape"] (defScope s_law_ring) := ⟨rfl, rfl, rfl, by decide +kernel, rfl, by decide +kernel, by decide +kernel⟩
section
variable {P : Program} {w : World} {K : PySem.W.Frag} {mg : Str → Option Value} {base : Heap} {C : Addr}
def spRing20 (K : PySem.W.Frag) : Sp := fun vs H Q _ => ∃ (t l : Addr), vs = [.ref t] ∧ Tape H t l ∧ ∀ (v : V) (rows : List (List Int)) (H' : Hp), Good rows → rows.length ≤ 6 → (∃ D, Mt.Ds rows D) → Gr t H H' → Tape H' t l → RowsAt K H' v rows → Q v H'
/-- rows, each with the thing of its own number -/
def OwnR (rs : List (List Int)) (n : Int) : Prop := ∀ (k : Nat) (r : List Int), rs[k]? = some r → r.Pairwise (· < ·) ∧ (∀ x ∈ r, 0 ≤ x ∧ x < n) ∧ (k : Int) ∈ r
theorem OwnR.good {rs : List (List Int)} (h : OwnR rs rs.length) (p : 0 < rs.length) : Good rs := ⟨p, fun r hr => by obtain ⟨k, hk⟩ := List.getElem?_of_mem hr; exact (h k r hk).1, fun r hr => by obtain ⟨k, hk⟩ := List.getElem?_of_mem hr; exact (h k r hk).2.1⟩
theorem OwnR.ds {rs : List (List Int)} {n : Int} (h : OwnR rs n) : ∃ D, Mt.Ds rs D := by
  refine ⟨(List.range rs.length).map fun (k : Nat) => (k : Int), by rw [List.length_map, List.length_range], fun k t e => ?_, Mt.nodup_map List.nodup_range fun a _ b _ e => by omega⟩
  rw [List.getElem?_map] at e
  by_cases kn : k < rs.length
  · rw [List.getElem?_range kn] at e
    have hr := List.getElem?_eq_getElem kn
    rw [Mt.row_get hr, ← Option.some.inj e]
    exact (h k _ hr).2.2
  · rw [List.getElem?_eq_none (by rw [List.length_range]; omega)] at e
    cases e
theorem OwnR.snoc {rs : List (List Int)} {n : Int} (h : OwnR rs n) {r : List Int} (a : r.Pairwise (· < ·)) (b : ∀ x ∈ r, 0 ≤ x ∧ x < n) (c : (rs.length : Int) ∈ r) : OwnR (rs ++ [r]) n := fun k s hs => by
  by_cases kl : k < rs.length
  · rw [List.getElem?_append_left kl] at hs
    exact h k s hs
  · have := (List.getElem?_eq_some_iff.mp hs).1
    rw [List.length_append, List.length_singleton] at this
    have e : k = rs.length := by omega
    rw [e, List.getElem?_append_right (Nat.le_refl _), Nat.sub_self] at hs
    cases hs
    exact ⟨a, b, by rw [e]; exact c⟩
theorem OwnR.mono {rs : List (List Int)} {n m : Int} (h : OwnR rs n) (l : n ≤ m) : OwnR rs m := fun k r hr => ⟨(h k r hr).1, fun x hx => by have := (h k r hr).2.1 x hx; omega, (h k r hr).2.2⟩
theorem ok_ring20 (A : At K mg "_law_ring" s_law_ring ["tape"]) (T : Tx mg) (G_law_pick : Dfn P w K mg base "_law_pick" ["tape", "size"] 1 spPick) (G_law_moved : Dfn P w K mg base "_law_moved" ["tape", "rows"] 3 (spMovedD K)) : Dfn P w K mg base "_law_ring" ["tape"] 4 (spRing20 K) := by
  refine A.ok sc_law_ring (fun vs H Q E h => ?_) (fun f cdv A outer s H vs Q E hr h => ?_)
  · obtain ⟨t, l, rfl, _⟩ := h
    rfl
  · obtain ⟨t, l, rfl, hT, k⟩ := h
    refine ⟨_, (pss_cons (ps_set (i := 1) sc_law_ring.nd rfl (Or.inr rfl) (pe_op op_add pe_int (pe_d G_law_pick (hr.mono (by decide)) (pa_cons (pv 0) (pa_cons pe_int pa_nil)))))
      (pss_cons (ps_setLc (i := 2) (own := [("k", 3)]) (g := (gName 3)) (tt := tYes) (te := (tCB (rTupOf K) (tCons (tCB (rSortedI K) (tCons (tLst (tCons (tVar 3) (tCons (tOp (rI (fun _ j => 0 < j) fun i j => V.int (i % j)) (tCB rIntOf (tCons (tOp (rI0 fun i j => V.int (i + j)) (tVar 3) (tC (V.int 1))) tNil)) (tVar 1)) tNil))) tNil)) tNil))) (by rfl) sc_law_ring.nd rfl rfl (sw_true rfl rfl rfl (by decide +kernel)) (pi_range1 rfl T.range (pa_cons (pv 1) pa_nil)) (blkOk_by (own := [("k", 3)]) (N := n_law_ring) (sc := (defScope s_law_ring)) (by decide +kernel)) (fun _ _ _ _ _ => (pg_name (i := 3) sc_law_ring.nd rfl (Or.inl rfl))) (fun _ _ _ _ _ => pts_nil) (fun _ _ _ _ _ => (pe_callTy c_tuple (by rfl) T.tuple (by decide +kernel) (pa_cons (pe_callB cr_sortedI (by rfl) T.sorted (by decide +kernel) (pa_cons (pe_lst (pa_cons (pv 3) (pa_cons (pe_op op_mod (pe_callTy c_int (by rfl) T.int (by decide +kernel) (pa_cons (pe_op op_add (pv 3) pe_int) pa_nil)) (pv 1)) pa_nil))) pa_nil)) pa_nil))))
      (pss_cons (ps_if (PW.pt (pw_and (pt_cmpR op_eq (pe_d G_law_pick (hr.mono (by decide)) (pa_cons (pv 0) (pa_cons pe_int pa_nil))) pe_int (nomark _)) (pw_and1 (pt_cmpR op_lt (pv 1) pe_int (nomark _))))) (pss_one (ps_expr (pe_bm PySem.F.plainAttrs_list PySem.F.slot_list_append PySem.F.type_list_append mt_append (pv 2) (pa_cons (pe_callTy c_tuple (by rfl) T.tuple (by decide +kernel) (pa_cons (pe_callB cr_sortedI (by rfl) T.sorted (by decide +kernel) (pa_cons (pe_op op_cat (pe_lst (pa_cons (pv 1) pa_nil)) (pe_lc (own := [("k", 3)]) (g := (gName 3)) (tt := (tTest (tOp rEq (tCall spPick [] E0 (tCons (tVar 0) (tCons (tC (V.int 3)) tNil))) (tC (V.int 0))))) (te := (tVar 3)) (by rfl) sc_law_ring.nd (pi_range1 rfl T.range (pa_cons (pv 1) pa_nil)) (blkOk_by (own := [("k", 3)]) (N := n_law_ring) (sc := (defScope s_law_ring)) (by decide +kernel)) (fun _ _ _ _ _ => (pg_name (i := 3) sc_law_ring.nd rfl (Or.inl rfl))) (fun _ _ _ _ _ => (pts_one (pt_cmpR op_eq (pe_d G_law_pick (hr.mono (by decide)) (pa_cons (pv 0) (pa_cons pe_int pa_nil))) pe_int (nomark _)))) (fun _ _ _ _ _ => (pv 3)))) pa_nil)) pa_nil)) pa_nil)))) pss_nil)
      (pss_one (ps_ret (pe_d G_law_moved (hr.mono (by decide)) (pa_cons (pv 0) (pa_cons (pe_callTy c_tuple (by rfl) T.tuple (by decide +kernel) (pa_cons (pv 2) pa_nil)) pa_nil)))))))), ?_⟩
    refine ⟨_, rfl, t, l, 4, rfl, hT, by decide, by decide, fun sz H1 z0 z1 g1 T1 => ⟨_, _, rfl, rfl, ?_⟩⟩
    obtain ⟨n, en, n3, n6⟩ : ∃ n : Nat, 3 + sz = (n : Int) ∧ 3 ≤ n ∧ n ≤ 6 := ⟨(3 + sz).toNat, by omega, by omega, by omega⟩
    show gName 1 (V.int (3 + sz)) _ H1 _
    rw [en]
    refine ⟨_, rfl, n, rfl, by omega, by omega, fun D hD => ?_⟩
    have nD := T1.free hD
    refine lc_range (lo := 0) (n := n) (fun i H' => ∃ ws rs, H' D = some (.lst ws) ∧ RowsT K H' ws rs ∧ rs.length = i ∧ OwnR rs n ∧ Same H1 H') ⟨[], [], upd_same, .nil, rfl, fun k r h => (by simp at h), same_new hD⟩ ?_ ?_
    · rintro i H2 hi ⟨ws, rs, h2, hw, rl, own, s2⟩
      refine ⟨rfl, _, rfl, _, rfl, _, _, rfl, rfl, .inl ⟨_, rfl, _, rfl, _, _, rfl, rfl, (by omega : (0 : Int) < n), ?_⟩⟩
      have i3 : (0 : Int) + (i : Int) = (i : Int) := Int.zero_add _
      rw [i3]
      refine ⟨by show 2 ≤ sizeLine; decide, fun q hq => ?_⟩
      have nd2 : [(i : Int), ((i : Int) + 1) % (n : Int)].Nodup := List.nodup_cons.mpr ⟨fun h => mod_ne (by omega) (by omega) (by omega) (List.mem_singleton.mp h), List.nodup_cons.mpr ⟨List.not_mem_nil, List.nodup_nil⟩⟩
      have sq := same_new (o := .lst [V.int (i : Int), V.int (((i : Int) + 1) % (n : Int))]) hq
      refine ⟨q, [(i : Int), ((i : Int) + 1) % (n : Int)], rfl, SqL.of upd_same, fun ns' p pms so hp => ⟨p, _, rfl, .inl ⟨SqL.of upd_same, fun z hz => ?_⟩⟩⟩
      have s8 := (sq.trans (same_new (o := .lst (ns'.map V.int)) hp)).trans (same_new (o := .tup (ns'.map V.int)) hz)
      refine ⟨ws, s8 _ _ h2, small_lt (by rw [hw.len]; omega), ws ++ [.ref z], rs ++ [ns'], upd_same, RowsT.put (s8 _ _ h2) (RowsT.snoc (SqT.of upd_same) (hw.same s8)), by rw [List.length_append, rl]; rfl, own.snoc (asc_of pms so nd2) (fun x hx => ?_) (pms.mem_iff.mpr (by rw [rl]; exact List.mem_cons_self)), same_mut (s2.trans s8) hD⟩
      have := pms.mem_iff.mp hx
      simp only [List.mem_cons, List.not_mem_nil, or_false] at this
      rcases this with rfl | rfl
      · omega
      · exact ⟨Int.emod_nonneg _ (by omega), Int.emod_lt_of_pos _ (by omega)⟩
    · rintro H2 ⟨ws, rs, h2, hw, rl, own, s2⟩
      have T2 := T1.keep s2
      refine ⟨_, rfl, t, l, 2, rfl, T2, by decide, by decide, fun m H3 m0 m1 g3 T3 => ⟨rfl, _, rfl, ?_⟩⟩
      have g13 : Gr t H1 H3 := (Gr.of s2).trans g3
      have hD3 := g3 _ _ nD.1 h2
      have hw3 := hw.gr g3 T2
      have fin : ∀ (H4 : Hp) (ws4 : List V) (rs4 : List (List Int)) (σ : L2.St), Gr t H1 H4 → Tape H4 t l → H4 D = some (.lst ws4) → RowsT K H4 ws4 rs4 → OwnR rs4 rs4.length → 0 < rs4.length → rs4.length ≤ 6 → ∀ z, H4 z = none → spMovedD K [.ref t, .ref z] (upd H4 z (.tup ws4)) Q E0 := fun H4 ws4 rs4 σ g4 T4 h4 hw4 own4 p4 l4 z hz => by
        refine ⟨t, l, .ref z, rs4, rfl, T4.new hz, own4.good p4, by omega, ⟨z, ws4, rfl, SqT.of upd_same, hw4.same (same_new hz)⟩, fun v' rows' H6 G' l' dd g6 T6 R6 => ?_⟩
        exact k v' rows' H6 G' (by omega) (dd own4.ds) (g1.trans ((g4.trans (Gr.new hz)).trans g6)) T6 R6
      have plain : ∀ z, H3 z = none → spMovedD K [.ref t, .ref z] (upd H3 z (.tup ws)) Q E0 := fun z hz => fin H3 ws rs [] g13 T3 hD3 hw3 (by rw [rl]; exact own) (by omega) (by omega) z hz
      cases hm : decide (V.int m = V.int 0) with
      | false =>
        exact ⟨_, rfl, _, rfl, D, _, rfl, .inl ⟨SqL.of hD3, plain⟩⟩
      | true =>
        refine ⟨_, rfl, _, _, rfl, rfl, _, rfl, ite2 (fun c => ?_) (fun c => ?_)⟩
        · have n5 : n < 6 := by have := of_decide_eq_true c; omega
          refine ⟨_, rfl, .inl ⟨rfl, _, SqL.of hD3⟩, _, rfl, by show 1 ≤ sizeLine; decide, fun q hq => ?_⟩
          have sq := same_new (o := .lst [V.int (n : Int)]) hq
          have T4 := T3.keep sq
          have nq := (T3.free hq).1
          have nqD : D ≠ q := ne_of_none hD3 hq
          refine ⟨_, rfl, n, rfl, by omega, by omega, fun D2 hD2 => ?_⟩
          have nD2 := T4.free hD2
          refine lc_range (lo := 0) (n := n) (fun j H' => ∃ ks : List Int, H' D2 = some (.lst (ks.map V.int)) ∧ ks.Nodup ∧ ks.length ≤ j ∧ (∀ x ∈ ks, 0 ≤ x ∧ x < (j : Int)) ∧ Gr t (upd H3 q (.lst [V.int (n : Int)])) H' ∧ Tape H' t l) ⟨[], upd_same, List.nodup_nil, Nat.le_refl _, fun x hx => (by cases hx), Gr.new hD2, T4.new hD2⟩ ?_ ?_
          · rintro j H5 hj ⟨ks, h5, knd, kl, kr, g5, T5⟩
            refine ⟨rfl, _, rfl, t, l, 3, rfl, T5, by decide, by decide, fun m2 H6 _ _ g6 T6 => ⟨rfl, _, rfl, ?_⟩⟩
            have h6 := g6 _ _ nD2.1 h5
            refine ite2 (fun _ => ?_) (fun _ => ?_)
            · refine ⟨_, rfl, _, h6, small_lt (by rw [List.length_map]; omega), ks ++ [0 + (j : Int)], by rw [upd_same, List.map_append]; rfl, ?_, by rw [List.length_append, List.length_singleton]; omega, fun x hx => ?_, gr_mut (g5.trans g6) hD2, T6.mut nD2⟩
              · refine List.nodup_append.mpr ⟨knd, List.nodup_cons.mpr ⟨List.not_mem_nil, List.nodup_nil⟩, fun a ha b hb e => ?_⟩
                have := kr a ha
                rw [List.mem_singleton] at hb
                omega
              · rcases List.mem_append.mp hx with h | h
                · have := kr x h
                  omega
                · rw [List.mem_singleton] at h
                  omega
            · exact ⟨ks, h6, knd, by omega, fun x hx => by have := kr x hx; omega, g5.trans g6, T6⟩
          · rintro H5 ⟨ks, h5, knd, kl, kr, g5, T5⟩
            have hq5 := g5 _ _ nq (upd_same (a := q))
            have hD5 := g5 _ _ nD.1 (sq _ _ hD3)
            have hw5 := (hw3.same sq).gr g5 T4
            refine ⟨q, D2, _, _, rfl, rfl, hq5, h5, Nat.le_of_lt (small_lt (by rw [List.length_map]; show 1 + ks.length ≤ 100000; omega)), fun p hp => ?_⟩
            have ndk : ((n : Int) :: ks).Nodup := List.nodup_cons.mpr ⟨fun h => by have := kr _ h; omega, knd⟩
            refine ⟨p, (n : Int) :: ks, rfl, SqL.of (by rw [upd_same]; rfl), fun ns' p2 pms so hp2 => ⟨p2, _, rfl, .inl ⟨SqL.of upd_same, fun z hz => ?_⟩⟩⟩
            have s8 := ((same_new (o := .lst ([V.int (n : Int)] ++ ks.map V.int)) hp).trans (same_new (o := .lst (ns'.map V.int)) hp2)).trans (same_new (o := .tup (ns'.map V.int)) hz)
            refine ⟨D, ws, _, rfl, rfl, s8 _ _ hD5, small_lt (by rw [hw.len]; omega), ?_⟩
            have T8 := T5.keep s8
            have g38 : Gr t H1 _ := ((g13.trans (Gr.of sq)).trans g5).trans (Gr.of s8)
            refine ⟨_, rfl, _, rfl, D, _, rfl, .inl ⟨SqL.of upd_same, fun z2 hz2 => ?_⟩⟩
            refine fin _ _ (rs ++ [ns']) [] (gr_mut g38 hD) (T8.mut nD) upd_same (RowsT.put (s8 _ _ hD5) (RowsT.snoc (SqT.of upd_same) (hw5.same s8))) ?_ (by rw [List.length_append, List.length_singleton]; omega) (by rw [List.length_append, List.length_singleton]; omega) z2 hz2
            rw [List.length_append, List.length_singleton, rl]
            refine (own.mono (by omega)).snoc (asc_of pms so ndk) (fun x hx => ?_) (pms.mem_iff.mpr (by rw [rl]; exact List.mem_cons_self))
            rcases List.mem_cons.mp (pms.mem_iff.mp hx) with h | h
            · omega
            · have := kr x h
              omega
        · exact ⟨_, rfl, _, rfl, D, _, rfl, .inl ⟨SqL.of hD3, plain⟩⟩
end
end Fo

set_option maxRecDepth 100000
set_option maxHeartbeats 4000000
namespace Fo
open PySem PySem.Spec PyProof.Rows L2
abbrev s_law_dealt : Stmt := top 44
abbrev n_law_dealt : List Str := ["tape", "most", "rows", "order", "k"]
theorem sc_law_dealt : FnScope n_law_dealt ["tape", "most"] (defScope s_law_dealt) := ⟨rfl, rfl, rfl, by decide +kernel, rfl, by decide +kernel, by decide +kernel⟩
section
variable {P : Program} {w : World} {K : PySem.W.Frag} {mg : Str → Option Value} {base : Heap} {C : Addr}
def spDealt (K : PySem.W.Frag) : Sp := fun vs H Q _ => ∃ (t l : Addr) (n : Int), vs = [.ref t, .int n] ∧ Tape H t l ∧ 1 ≤ n ∧ n ≤ 6 ∧ ∀ (v : V) (rows : List (List Int)) (H' : Hp), Good rows → (rows.length : Int) ≤ n → (∃ D, Mt.Ds rows D) → Gr t H H' → Tape H' t l → RowsAt K H' v rows → Q v H'
theorem ok_dealt (A : At K mg "_law_dealt" s_law_dealt ["tape", "most"]) (T : Tx mg) (G_law_rows : Dfn P w K mg base "_law_rows" ["tape", "most"] 4 (spRows K)) (G_law_order : Dfn P w K mg base "_law_order" ["tape", "many"] 2 spOrder) (G_law_dealings : Dfn P w K mg base "_law_dealings" ["rows"] 1 (spDeals K)) : Dfn P w K mg base "_law_dealt" ["tape", "most"] 5 (spDealt K) := by
  refine A.ok sc_law_dealt (fun vs H Q E h => ?_) (fun f cdv A outer s H vs Q E hr h => ?_)
  · obtain ⟨t, l, n, rfl, _⟩ := h
    rfl
  · obtain ⟨t, l, n, rfl, hT, n1, n2, k⟩ := h
    refine ⟨_, (pss_cons (ps_set (i := 2) sc_law_dealt.nd rfl (Or.inr rfl) (pe_d G_law_rows (hr.mono (by decide)) (pa_cons (pv 0) (pa_cons (pv 1) pa_nil))))
      (pss_cons (ps_if (pt_cmpR op_gt (pe_callB c_len (by rfl) T.len (by decide +kernel) (pa_cons (pe_d G_law_dealings (hr.mono (by decide)) (pa_cons (pv 2) pa_nil)) pa_nil)) pe_int (nomark _)) (pss_one (ps_ret (pv 2))) pss_nil)
      (pss_cons (ps_set (i := 3) sc_law_dealt.nd rfl (Or.inr rfl) (pe_d G_law_order (hr.mono (by decide)) (pa_cons (pv 0) (pa_cons (pe_callB c_len (by rfl) T.len (by decide +kernel) (pa_cons (pv 2) pa_nil)) pa_nil))))
      (pss_one (ps_ret (pe_callTy c_tuple (by rfl) T.tuple (by decide +kernel) (pa_cons (pe_lc (own := [("k", 4)]) (g := (gName 4)) (tt := tYes) (te := (tCB (rTupOf K) (tCons (tCB (rSortSetA w) (tCons (tCB (rSetL K w) (tCons (tOp rCat (tCB (rListOf K) (tCons (tOp (rIxT K) (tVar 2) (tVar 4)) tNil)) (tLst (tCons (tOp (rIxL K) (tVar 3) (tVar 4)) tNil))) tNil)) tNil)) tNil))) (by rfl) sc_law_dealt.nd (pi_range1 rfl T.range (pa_cons (pe_callB c_len (by rfl) T.len (by decide +kernel) (pa_cons (pv 2) pa_nil)) pa_nil)) (blkOk_by (own := [("k", 4)]) (N := n_law_dealt) (sc := (defScope s_law_dealt)) (by decide +kernel)) (fun _ _ _ _ _ => (pg_name (i := 4) sc_law_dealt.nd rfl (Or.inl rfl))) (fun _ _ _ _ _ => pts_nil) (fun _ _ _ _ _ => (pe_callTy c_tuple (by rfl) T.tuple (by decide +kernel) (pa_cons (pe_callB (cr_sortSetA rfl) (by rfl) T.sorted (by decide +kernel) (pa_cons (pe_callTy (cr_setL rfl) (by rfl) T.set (by decide +kernel) (pa_cons (pe_op op_cat (pe_callTy c_list (by rfl) T.list (by decide +kernel) (pa_cons (pe_ix ix_tup (pv 2) (pv 4) (fun _ _ => rfl)) pa_nil)) (pe_lst (pa_cons (pe_ix ix_list (pv 3) (pv 4) (fun _ _ => rfl)) pa_nil))) pa_nil)) pa_nil)) pa_nil)))) pa_nil))))))), ?_⟩
    refine ⟨_, rfl, _, rfl, t, l, n, rfl, hT, n1, by omega, fun rv rows H1 G hn g1 T1 R1 => ?_⟩
    have n6 : rows.length ≤ 6 := by omega
    have fit := fit6 G n6
    refine ⟨_, rfl, rv, rows, rfl, R1, G, fit, fun ev ws H2 s2 fl hl hw => ?_⟩
    have T2 := T1.keep s2
    have R2 := R1.same s2
    refine ⟨ev, _, rfl, .inl (SqL.of hl), _, _, rfl, rfl, _, rfl, ?_⟩
    refine ite2 (fun hc => ?_) (fun _ => ?_)
    · refine ⟨_, rfl, k rv rows H2 G hn ?_ (g1.trans (Gr.of s2)) T2 R2⟩
      have := of_decide_eq_true hc
      rw [hw.len] at this
      obtain ⟨D, hD⟩ := List.exists_mem_of_length_pos (l := Mt.deals rows) (by omega)
      exact ⟨D, (Mt.mem_deals D).mp hD⟩
    · obtain ⟨ra, rvs, rfl, hra, hrt⟩ := id R2
      have rvl := hrt.len
      refine ⟨_, rfl, _, rfl, ra, _, rfl, .inr hra, t, l, _, rfl, T2, by omega, by omega, fun pa os H3 pm fpa hpa g3 T3 => ?_⟩
      rw [rvl] at pm
      have osl : os.length = rows.length := by rw [pm.length_eq, rangeI_len]; omega
      have os_rng : ∀ (i : Nat) (u : Int), os[i]? = some u → 0 ≤ u ∧ u < (rows.length : Int) := fun i u h => by
        have := mem_rangeI.mp (pm.mem_iff.mp (List.mem_of_getElem? h))
        omega
      have hra3 := gr_T g3 T2 hra
      have hrt3 := hrt.gr g3 T2
      refine ⟨_, rfl, ra, _, rfl, .inr hra3, _, rfl, by omega, by omega, fun D hD => ?_⟩
      refine lc_range (lo := 0) (n := ((rvs.length : Nat) : Int).toNat) (fun i H' => ∃ vs rs, H' D = some (.lst vs) ∧ RowsT K H' vs rs ∧ rs.length = i ∧ (∀ r ∈ rs, r.Pairwise (· < ·) ∧ ∀ x ∈ r, 0 ≤ x ∧ x < (rows.length : Int)) ∧ Same H3 H' ∧ ∀ (j : Nat) (r : List Int), rs[j]? = some r → ∃ u, os[j]? = some u ∧ u ∈ r)
        ⟨[], [], upd_same, .nil, rfl, fun _ h => (by cases h), same_new hD, fun j r h => (by cases h)⟩ ?_ ?_
      · rintro i H4 hi ⟨vs, rs, h4, hrs, hl4, hall, s4, hown⟩
        rw [Int.zero_add (i : Int)]
        have ir : i < rows.length := by omega
        have io : i < os.length := by omega
        have hri := List.getElem?_eq_getElem ir
        obtain ⟨r, er⟩ : ∃ r, r = rows[i] := ⟨_, rfl⟩
        rw [← er] at hri
        have hoi := List.getElem?_eq_getElem io
        obtain ⟨u, eu⟩ : ∃ u, u = os[i] := ⟨_, rfl⟩
        rw [← eu] at hoi
        obtain ⟨q, hq1, hq2⟩ := hrt3.get hri
        have rl := G.row_len r (List.mem_of_getElem? hri)
        refine ⟨rfl, _, rfl, _, rfl, ra, rvs, (i : Int), .ref q, rfl, rfl, sqT_same s4 hra3, at_nat hq1, q, _, rfl, .inr (sqT_same s4 hq2), fun c hc => ?_⟩
        have s5 := s4.trans (same_new (o := .lst (r.map V.int)) hc)
        refine ⟨_, rfl, _, rfl, pa, _, (i : Int), .int u, rfl, rfl, SqL.of (s5 _ _ hpa), at_nat (by rw [List.getElem?_map, hoi]; rfl), by show 1 ≤ sizeLine; decide, fun e he => ?_⟩
        have se := same_new (o := .lst [V.int u]) he
        refine ⟨c, e, r.map V.int, [V.int u], rfl, rfl, se _ _ upd_same, upd_same, small_le (by rw [List.length_map]; show _ + 1 ≤ _; omega), fun p hp => ?_⟩
        have s6 := (s5.trans se).trans (same_new (o := .lst (r.map V.int ++ [V.int u])) hp)
        have ep : r.map V.int ++ [V.int u] = (r ++ [u]).map V.int := by rw [List.map_append]; rfl
        refine ⟨p, r ++ [u], rfl, SqL.of (by rw [upd_same, ep]), by rw [List.length_append]; show _ + 1 ≤ _; omega, fun a c' ha hc' _ => ?_⟩
        refine ⟨a, _, c', rfl, upd_same, by rw [List.length_append] at hc'; have : c' ≤ r.length + 1 := hc'; omega, fun ks L asc mem len hL => ?_⟩
        have mem' : ∀ x : Int, x ∈ ks ↔ x ∈ r ++ [u] := fun x => (mem x).trans decide_eq_true_iff
        refine ⟨L, _, rfl, .inl ⟨SqL.of upd_same, fun z hz => ?_⟩⟩
        have s7 := ((same_new (o := SetO w a (fun j => decide (j ∈ r ++ [u])) c') ha).trans (same_new (o := .lst (ks.map V.int)) hL)).trans (same_new (o := .tup (ks.map V.int)) hz)
        have s37 := s6.trans s7
        have s47 : Same H4 _ := (((same_new (o := .lst (r.map V.int)) hc).trans se).trans (same_new (o := .lst (r.map V.int ++ [V.int u])) hp)).trans s7
        have vl := hrs.len
        refine ⟨_, s47 _ _ h4, small_lt (by omega), vs ++ [.ref z], rs ++ [ks], upd_same, RowsT.put (s47 _ _ h4) (RowsT.snoc (SqT.of upd_same) (hrs.same s47)), by rw [List.length_append, hl4]; rfl, fun r' hr => ?_, same_mut s37 hD, fun j r' hj => ?_⟩
        · rcases List.mem_append.mp hr with hr | hr
          · exact hall r' hr
          · rw [List.mem_singleton.mp hr]
            refine ⟨asc, fun x hx => ?_⟩
            rcases List.mem_append.mp ((mem' x).mp hx) with h | h
            · exact G.rng r (List.mem_of_getElem? hri) x h
            · rw [List.mem_singleton.mp h]
              exact os_rng i u hoi
        · by_cases jl : j < rs.length
          · rw [List.getElem?_append_left jl] at hj
            exact hown j r' hj
          · have := (List.getElem?_eq_some_iff.mp hj).1
            rw [List.length_append, List.length_singleton] at this
            have ej : j = rs.length := by omega
            rw [ej, List.getElem?_concat_length] at hj
            cases hj
            rw [ej, hl4]
            exact ⟨u, hoi, (mem' u).mpr (List.mem_append_right _ List.mem_cons_self)⟩
      · rintro H4 ⟨vs, rs, h4, hrs, hl4, hall, s4, hown⟩
        have rl : rs.length = rows.length := by omega
        refine ⟨D, _, rfl, .inl ⟨SqL.of h4, fun p hp => ?_⟩⟩
        have s6 : Same H3 (upd H4 p (.tup vs)) := s4.trans (same_new hp)
        refine k (.ref p) rs _ ⟨by rw [rl]; exact G.pos, fun r hr => (hall r hr).1, fun r hr x hx => by rw [rl]; exact (hall r hr).2 x hx⟩ (by omega) ⟨os, by omega, fun p t hpt => ?_, pm.symm.nodup (rangeI_nodup _)⟩ (((g1.trans (Gr.of s2)).trans g3).trans (Gr.of s6)) (T3.keep s6) ⟨p, vs, rfl, SqT.of upd_same, hrs.same (same_new hp)⟩
        have pl : p < rs.length := by have := (List.getElem?_eq_some_iff.mp hpt).1; omega
        obtain ⟨u, h1, h2⟩ := hown p _ (List.getElem?_eq_getElem pl)
        rw [hpt] at h1
        cases h1
        rw [Mt.row_get (List.getElem?_eq_getElem pl)]
        exact h2
end
end Fo

set_option maxRecDepth 100000
set_option maxHeartbeats 4000000
namespace Fo
open PySem PySem.Spec PyProof.Rows L2
abbrev s_law_deep : Stmt := top 45
abbrev n_law_deep : List Str := ["deep", "k"]
theorem sc_law_deep : FnScope n_law_deep [] (defScope s_law_deep) := ⟨rfl, rfl, rfl, by decide +kernel, rfl, by decide +kernel, by decide +kernel⟩
section
variable {P : Program} {w : World} {K : PySem.W.Frag} {mg : Str → Option Value} {base : Heap} {C : Addr}
def spLawNum (K : PySem.W.Frag) (C : Addr) : Sp := fun vs H Q _ => ∃ (b : Int) (x : V), vs = [x, .int b] ∧ Th K C H x ∧ Q (.bl (numV b x)) H
def spDeep (K : PySem.W.Frag) (C : Addr) : Sp := fun vs H Q _ => vs = [] ∧ ∀ (x : V) (H' : Hp), Same H H' → (∀ n, Tn K n H' x) → Q x H'
theorem ok_lawdeep (A : At K mg "_law_deep" s_law_deep []) (T : Tx mg) : Dfn P w K mg base "_law_deep" [] 1 (spDeep K C) := by
  refine A.ok sc_law_deep (fun vs H Q E h => ?_) (fun f cdv A outer s H vs Q E hr h => ?_)
  · obtain ⟨rfl, _⟩ := h
    rfl
  · obtain ⟨rfl, k⟩ := h
    refine ⟨_, (pss_cons (ps_set (i := 0) sc_law_deep.nd rfl (Or.inl rfl) (pe_tup pa_nil))
      (pss_cons (ps_for PassesOwn.never rfl (pi_range1 rfl T.range (pa_cons pe_int pa_nil)) (pg_name (i := 1) sc_law_deep.nd rfl (Or.inl rfl))
      (pss_one (ps_set (i := 0) sc_law_deep.nd rfl (Or.inl rfl) (pe_tup (pa_cons (pv 0) pa_nil)))))
      (pss_one (ps_ret (pv 0))))), ?_⟩
    refine ⟨by show 0 ≤ sizeLine; decide, fun a0 ha0 => ?_⟩
    refine ⟨_, rfl, by decide, by decide, for_range (lo := 0) (n := 36) (fun i σ' H' => ∃ (x : V) (x1 : Option V), σ' = [some x, x1] ∧ Same H H' ∧ ∀ n, Tn K n H' x) ⟨.ref a0, _, rfl, same_new ha0, fun n => ?_⟩ ?_ ?_⟩
    · cases n with
      | zero => exact ⟨a0, [], rfl, SqT.of upd_same⟩
      | succ n => exact ⟨a0, [], rfl, SqT.of upd_same, by decide, fun _ h => (by cases h)⟩
    · rintro i σ' H1 hi ⟨x, x1, rfl, s1, hx⟩
      refine ⟨_, rfl, by show 1 ≤ sizeLine; decide, fun c hc => ?_⟩
      refine ⟨.ref c, _, rfl, s1.trans (same_new hc), fun n => ?_⟩
      cases n with
      | zero => exact ⟨c, [x], rfl, SqT.of upd_same⟩
      | succ n => exact ⟨c, [x], rfl, SqT.of upd_same, Nat.le_refl 1, fun y h => by rw [List.mem_singleton.mp h]; exact (hx n).same (same_new hc)⟩
    · rintro σ' H1 ⟨x, x1, rfl, s1, hx⟩
      exact ⟨_, rfl, k x H1 s1 hx⟩
theorem eqv_LI (a b : List Int) : PyData.eqv (.list (a.map PyData.int)) (.list (b.map PyData.int)) = decide (a = b) := by
  rw [PyData.eqv]
  exact PySem.W.ked_eqvAll a b
theorem sh_LI (ns : List Int) : SeqAt.shaped (.list (ns.map PyData.int)) = true := sh_I ns
theorem nums_ints {b : Int} : ∀ {xs : List V}, xs.all (numV b) = true → ∃ ns : List Int, xs = ns.map V.int ∧ ∀ x ∈ ns, 0 ≤ x ∧ x < b
  | [], _ => ⟨[], rfl, fun _ h => (by cases h)⟩
  | x :: xs, h => by
    rw [List.all_cons, Bool.and_eq_true] at h
    obtain ⟨ns, e, hn⟩ := nums_ints h.2
    cases x with
    | int i =>
      have h1 : (decide (0 ≤ i) && decide (i < b)) = true := h.1
      rw [Bool.and_eq_true] at h1
      refine ⟨i :: ns, by rw [e]; rfl, fun z hz => ?_⟩
      rcases List.mem_cons.mp hz with q | q
      · rw [q]; exact ⟨of_decide_eq_true h1.1, of_decide_eq_true h1.2⟩
      · exact hn z q
    | _ => exact absurd h.1 (by simp [numV])
theorem asc_of_V {b : Int} : ∀ {ns : List Int}, ascV b (ns.map V.int) = true → ns.Pairwise (· < ·)
  | [], _ => .nil
  | [x], _ => List.pairwise_singleton _ _
  | x :: y :: r, h => by
    have h' : (numV b (.int x) && decide (x < y) && ascV b ((y :: r).map V.int)) = true := h
    rw [Bool.and_eq_true, Bool.and_eq_true] at h'
    have p := asc_of_V h'.2
    have xy := of_decide_eq_true h'.1.2
    refine List.pairwise_cons.mpr ⟨fun z hz => ?_, p⟩
    rcases List.mem_cons.mp hz with q | q
    · rw [q]; exact xy
    · have := (List.pairwise_cons.mp p).1 z q
      omega
def spLawLot (K : PySem.W.Frag) (C : Addr) : Sp := fun vs H Q _ => ∃ (b : Int) (x : V) (o : Option (List V)), vs = [x, .int b] ∧ Tg K C H x o ∧ (∀ xs, o = some xs → xs.length ≤ 900) ∧ ∀ H', Same H H' → Q (.bl (ascOf b o)) H'
end
end Fo

set_option maxRecDepth 100000
set_option maxHeartbeats 4000000
namespace Fo
open PySem PySem.Spec PyProof.Rows L2
abbrev s_law_odd : Stmt := top 46
abbrev n_law_odd : List Str := ["tape", "thing"]
theorem sc_law_odd : FnScope n_law_odd ["tape", "thing"] (defScope s_law_odd) := ⟨rfl, rfl, rfl, by decide +kernel, rfl, by decide +kernel, by decide +kernel⟩
section
variable {P : Program} {w : World} {K : PySem.W.Frag} {mg : Str → Option Value} {base : Heap} {C : Addr}
def spOddZ (K : PySem.W.Frag) (C : Addr) : Sp := fun vs H Q _ => ∃ (t l : Addr) (x : V), vs = [.ref t, x] ∧ Tape H t l ∧ (∀ n, Ng K C t 1 n H x) ∧ ∀ y H', Gr t H H' → Tape H' t l → (∀ n, Ng K C t 1 n H' y) → (y = x ∨ ∀ i : Int, y = .int i → i = -1 ∨ i = 10 ^ 30) → Q y H'
theorem ok_oddz (A : At K mg "_law_odd" s_law_odd ["tape", "thing"]) (T : Tx mg) (G_law_deep : Dfn P w K mg base "_law_deep" [] 1 (spDeep K C)) (G_law_pick : Dfn P w K mg base "_law_pick" ["tape", "size"] 1 spPick) : Dfn P w K mg base "_law_odd" ["tape", "thing"] 2 (spOddZ K C) := by
  refine A.ok sc_law_odd (fun vs H Q E h => ?_) (fun f cdv A outer s H vs Q E hr h => ?_)
  · obtain ⟨t, l, x, rfl, _⟩ := h
    rfl
  · obtain ⟨t, l, x, rfl, hT, hx, k⟩ := h
    refine ⟨_, (pss_one (ps_ret (pe_ix ix_list (pe_lst (pa_cons pe_non (pa_cons pe_bl (pa_cons pe_bl (pa_cons (pe_un un_neg pe_int) (pa_cons (pe_op op_pow pe_int pe_int) (pa_cons pe_str (pa_cons pe_str (pa_cons (pe_lst (pa_cons pe_int pa_nil)) (pa_cons pe_dnewK (pa_cons (pe_tup (pa_cons pe_int pa_nil)) (pa_cons (pe_tup pa_nil) (pa_cons (pe_d0 G_law_deep (hr.mono (by decide))) (pa_cons (pv 1) pa_nil)))))))))))))) (pe_d G_law_pick (hr.mono (by decide)) (pa_cons (pv 0) (pa_cons pe_int pa_nil))) (fun _ _ => rfl)))), ?_⟩
    refine ⟨_, rfl, _, _, rfl, rfl, by unfold CPow; decide, ?_⟩
    refine ⟨by show 1 ≤ sizeLine; decide, fun a1 h1 => fun a2 h2 => ⟨by show 1 ≤ sizeLine; decide, fun a3 h3 => ⟨by show 0 ≤ sizeLine; decide, fun a4 h4 => ⟨rfl, fun d H5 s5 hd => ⟨_, rfl, by show 13 ≤ sizeLine; decide, fun o ho => ?_⟩⟩⟩⟩⟩
    obtain ⟨H4, e4⟩ : ∃ H4, H4 = upd (upd (upd (upd H a1 (.lst [V.int 0])) a2 (.dK [])) a3 (.tup [V.int 0])) a4 (.tup []) := ⟨_, rfl⟩
    rw [← e4] at s5
    have sA := same_new (o := .lst [V.int 0]) h1
    have sB := same_new (o := .dK []) h2
    have sC := same_new (o := .tup [V.int 0]) h3
    have sD := same_new (o := .tup []) h4
    have s4 : Same H H4 := by rw [e4]; exact ((sA.trans sB).trans sC).trans sD
    have b1 : H4 a1 = some (.lst [V.int 0]) := by rw [e4]; exact sD _ _ (sC _ _ (sB _ _ upd_same))
    have b2 : H4 a2 = some (.dK []) := by rw [e4]; exact sD _ _ (sC _ _ upd_same)
    have b3 : H4 a3 = some (.tup [V.int 0]) := by rw [e4]; exact sD _ _ upd_same
    have b4 : H4 a4 = some (.tup []) := by rw [e4]; exact upd_same
    have T4 := hT.keep s4
    have n1 : a1 ≠ t := (hT.free h1).1
    have n2 : a2 ≠ t := ((hT.keep sA).free h2).1
    have n3 : a3 ≠ t := ((hT.keep (sA.trans sB)).free h3).1
    have n4 : a4 ≠ t := ((hT.keep ((sA.trans sB).trans sC)).free h4).1
    have T5 := T4.keep s5
    have no := T5.free ho
    have s6 := s5.trans (same_new (o := .lst [V.non, V.bl true, V.bl false, V.int (-1), V.int (10 ^ (30 : Int).toNat), V.str "0", V.str "", V.ref a1, V.ref a2, V.ref a3, V.ref a4, d, x]) ho)
    have s06 := s4.trans s6
    have d6 := fun n => (hd n).same (same_new (o := .lst [V.non, V.bl true, V.bl false, V.int (-1), V.int (10 ^ (30 : Int).toNat), V.str "0", V.str "", V.ref a1, V.ref a2, V.ref a3, V.ref a4, d, x]) ho)
    refine ⟨_, rfl, t, l, 13, rfl, T5.new ho, by decide, by decide, fun j H7 j0 j1 g7 T7 => ?_⟩
    have ho7 := g7 _ _ no.1 upd_same
    have g07 := (Gr.of (t := t) s06).trans g7
    have fin : ∀ y, (∀ n, Ng K C t 1 n H7 y) → (y = x ∨ ∀ i : Int, y = .int i → i = -1 ∨ i = 10 ^ 30) → Q y H7 := fun y hy hz => k y H7 g07 T7 hy hz
    have hj : j = 0 ∨ j = 1 ∨ j = 2 ∨ j = 3 ∨ j = 4 ∨ j = 5 ∨ j = 6 ∨ j = 7 ∨ j = 8 ∨ j = 9 ∨ j = 10 ∨ j = 11 ∨ j = 12 := by omega
    have c1 := g7 _ _ n1 (s6 _ _ b1)
    have c2 := g7 _ _ n2 (s6 _ _ b2)
    have c3 := g7 _ _ n3 (s6 _ _ b3)
    have c4 := g7 _ _ n4 (s6 _ _ b4)
    rcases hj with rfl | rfl | rfl | rfl | rfl | rfl | rfl | rfl | rfl | rfl | rfl | rfl | rfl
    · exact ⟨o, _, _, _, rfl, rfl, SqL.of ho7, rfl, fin _ (fun n => .non) (.inr fun i e => by cases e)⟩
    · exact ⟨o, _, _, _, rfl, rfl, SqL.of ho7, rfl, fin _ (fun n => .bl) (.inr fun i e => by cases e)⟩
    · exact ⟨o, _, _, _, rfl, rfl, SqL.of ho7, rfl, fin _ (fun n => .bl) (.inr fun i e => by cases e)⟩
    · exact ⟨o, _, _, _, rfl, rfl, SqL.of ho7, rfl, fin _ (fun n => .int) (.inr fun i e => by cases e; exact .inl rfl)⟩
    · exact ⟨o, _, _, _, rfl, rfl, SqL.of ho7, rfl, fin _ (fun n => .int) (.inr fun i e => by cases e; exact .inr rfl)⟩
    · exact ⟨o, _, _, _, rfl, rfl, SqL.of ho7, rfl, fin _ (fun n => .str) (.inr fun i e => by cases e)⟩
    · exact ⟨o, _, _, _, rfl, rfl, SqL.of ho7, rfl, fin _ (fun n => .str) (.inr fun i e => by cases e)⟩
    · exact ⟨o, _, _, _, rfl, rfl, SqL.of ho7, rfl, fin _ (fun n => .lst c1 n1) (.inr fun i e => by cases e)⟩
    · exact ⟨o, _, _, _, rfl, rfl, SqL.of ho7, rfl, fin _ (fun n => .dK c2 n2) (.inr fun i e => by cases e)⟩
    · exact ⟨o, _, _, _, rfl, rfl, SqL.of ho7, rfl, fin _ (fun n => .row (ns := [0]) T7 (SqT.of c3) (Nat.le_refl _)) (.inr fun i e => by cases e)⟩
    · exact ⟨o, _, _, _, rfl, rfl, SqL.of ho7, rfl, fin _ (fun n => .row (ns := []) T7 (SqT.of c4) (Nat.zero_le _)) (.inr fun i e => by cases e)⟩
    · exact ⟨o, _, _, _, rfl, rfl, SqL.of ho7, rfl, fin _ (fun n => ((d6 n).ng (T5.new ho) (Nat.le_refl _)).gr g7 (T5.new ho)) (.inr fun i e => by obtain ⟨a, _, e2, _⟩ := hd 0; rw [e2] at e; cases e)⟩
    · exact ⟨o, _, _, _, rfl, rfl, SqL.of ho7, rfl, fin _ (fun n => (hx n).gr g07 hT) (.inl rfl)⟩
end
end Fo

set_option maxRecDepth 100000
set_option maxHeartbeats 4000000
namespace Fo
open PySem PySem.Spec PyProof.Rows L2
abbrev s_law : Stmt := top 51
abbrev n_law : List Str := ["script", "tape", "rows", "table", "live", "due", "kinds", "told", "number", "odd", "piece"]
theorem sc_law : FnScope n_law ["script"] (defScope s_law) := ⟨rfl, rfl, rfl, by decide +kernel, rfl, by decide +kernel, by decide +kernel⟩
theorem shown_I {ns : List Int} (h : ∀ x ∈ ns, 0 ≤ x ∧ x < 100) (hl : ns.length ≤ 1000) : (dI ns).hasDict = false ∧ (dI ns).showable = true ∧ (dI ns).depth ≤ 8 ∧ (dI ns).shown.length ≤ sizeLine := by
  have L : Lay 1 (.tuple (ns.map PyData.int)) := (layAll_ints h).tup
  refine ⟨L.hd, L.sh, Nat.le_trans L.dp (by decide), L.shown (by decide) ?_⟩
  have w := weight_ints h
  show PyData.weightAll (ns.map PyData.int) ≤ 2 ^ 20
  have e : (2 : Nat) ^ 20 = 1048576 := by decide
  omega
def kS (L : List (List Int)) (F : List (List Nat)) : List Str := F.map (kindS L)
def dS (us : List Str) : PyData := .list (us.map PyData.str)
theorem kind_cases (L : List (List Int)) (g : List Nat) : kindS L g = "full" ∨ kindS L g = "ring" ∨ kindS L g = "other" := by
  unfold kindS
  split
  · exact .inl rfl
  · split
    · exact .inr (.inl rfl)
    · exact .inr (.inr rfl)
theorem lay_S (L : List (List Int)) : ∀ F : List (List Nat), PyData.canLayAll0 ((kS L F).map PyData.str) = true
  | [] => by unfold kS; rw [List.map_nil, List.map_nil, PyData.canLayAll0]
  | g :: F => by
    have ih := lay_S L F
    unfold kS at ih ⊢
    rw [List.map_cons, List.map_cons, PyData.canLayAll0, ih, Bool.and_true]
    rcases kind_cases L g with e | e | e <;> rw [e] <;> decide +kernel
theorem dep_S : ∀ us : List Str, PyData.depthAll (us.map PyData.str) = 0
  | [] => by rw [List.map_nil, PyData.depthAll]
  | u :: us => by rw [List.map_cons, PyData.depthAll, dep_S us, PyData.depth]; rfl
theorem sh_S (L : List (List Int)) (F : List (List Nat)) : SeqAt.shaped (dS (kS L F)) = true := by
  unfold dS SeqAt.shaped
  rw [PyData.canLay0, PyData.depth, lay_S, dep_S]
  rfl
theorem eqv_S (L : List (List Int)) (F : List (List Nat)) : PyData.eqv (dS (kS L F)) (dS (kS L F)) = true := SeqAt.eqv_refl _ (SeqAt.canLay_of_shaped (sh_S L F))
theorem dpa_S {K : PySem.W.Frag} {H : Hp} : ∀ us : List Str, DpAll K H (us.map V.str) (us.map PyData.str)
  | [] => .nil
  | u :: us => .cons (.str _) (dpa_S us)
theorem dp_S {K : PySem.W.Frag} {H : Hp} {p : Addr} {us : List Str} (h : SqL K H p (us.map V.str)) : Dp K H (.ref p) (dS us) := .lst h (dpa_S us)
theorem ng_tab {K : PySem.W.Frag} {C : Addr} (tc : TC K C) {t l : Addr} {H : Hp} {x : V} {rows : List (List Int)} (T : Tape H t l) (ht : TableAt K C H x rows) : ∀ n, Ng K C t 1 n H x
  | 0 => fun H' g => ⟨_, (ht.gr g T).tyx tc, fun c e => (by cases e; rfl)⟩
  | n + 1 => .inl fun H' g => ⟨_, (ht.gr g T).tyx tc, fun c e => (by cases e; rfl), tc.kT⟩
theorem odd_noN {n : Nat} (hn : n ≤ 1000000) {x y : V} (hx : ∃ a, x = .ref a) (hz : y = x ∨ ∀ i : Int, y = .int i → i = -1 ∨ i = 10 ^ 30) : numV (n : Int) y = false := by
  cases y with
  | int i =>
    rcases hz with e | e
    · obtain ⟨a, rfl⟩ := hx
      cases e
    · show (decide (0 ≤ i) && decide (i < (n : Int))) = false
      rcases e i rfl with rfl | rfl
      · rfl
      · have big : ¬ (10 : Int) ^ 30 < (n : Int) := by
          have e : (10 : Int) ^ 30 = 1000000000000000000000000000000 := by decide
          rw [e]
          omega
        rw [decide_eq_false big, Bool.and_false]
  | _ => rfl
theorem numV_selfN {n : Nat} : numV (n : Int) (V.int (n : Int)) = false := by
  show (decide ((0 : Int) ≤ n) && decide ((n : Int) < n)) = false
  rw [decide_eq_false (p := (n : Int) < n) (by omega), Bool.and_false]
theorem rnd_rng {rows : List (List Int)} (G : Good rows) {g : List Nat} (rg : Mt.RingG (Mt.liveR rows) g) (lt : ∀ p ∈ g, p < rows.length) {s : Nat} (hs : s ∈ g) : ∀ k, ∀ x ∈ rndI (Mt.liveR rows) s k, 0 ≤ x ∧ x < (rows.length : Int)
  | 0, x, hx => by cases hx
  | k + 1, x, hx => by
    rw [rndI_succ] at hx
    rcases List.mem_append.mp hx with h | h
    · exact rnd_rng G rg lt hs k x h
    · obtain ⟨h1, h2⟩ := rg.in_ hs k
      simp only [List.mem_cons, List.not_mem_nil, or_false] at h
      rcases h with rfl | rfl
      · have := lt _ h1
        omega
      · rw [Mt.row_liveR] at h2
        exact G.row_rng (List.mem_filter.mp h2).1
section
variable {P : Program} {w : World} {K : PySem.W.Frag} {mg : Str → Option Value} {base : Heap} {C : Addr}
def spLaw (K : PySem.W.Frag) : Sp := fun vs H Q _ => ∃ (a : Addr) (ns : List Int), vs = [.ref a] ∧ SqL K H a (ns.map V.int) ∧ ns.length ≤ 63 ∧ ∀ H', Q (.bl true) H'
theorem ok_law {f : Addr} {fd : FuncData} (F : Fun K "law" "law" s_law f fd) (T : Tx mg) (tc : TC K C) (G_Table : MkT P w K mg base C 6 1 (spInit K C) (spEqT K C))
    (G_law_tape : Dfn P w K mg base "_law_tape" ["script"] 1 (spTape K)) (G_law_pick : Dfn P w K mg base "_law_pick" ["tape", "size"] 1 spPick) (G_law_dealt : Dfn P w K mg base "_law_dealt" ["tape", "most"] 5 (spDealt K)) (G_law_ring : Dfn P w K mg base "_law_ring" ["tape"] 4 (spRing20 K)) (G_law_live : Dfn P w K mg base "_law_live" ["rows"] 2 (spLawLive K))
    (G_law_pieces : Dfn P w K mg base "_law_pieces" ["rows"] 3 (spLawPieces K)) (G_law_kind : Dfn P w K mg base "_law_kind" ["rows", "live", "piece"] 1 (spLKind K)) (G_piece_kinds : Dfn P w K mg base "piece_kinds" ["table"] 6 (spPkE K C)) (G_law_told : Dfn P w K mg base "_law_told" ["table", "number"] 7 (spTold20 K C)) (G_law_round : Dfn P w K mg base "_law_round" ["live", "people"] 1 (spLRound K)) (G_law_odd : Dfn P w K mg base "_law_odd" ["tape", "thing"] 2 (spOddZ K C)) : FnG P w K mg base 9 f fd ["script"] (spLaw K) := by
  refine fun_okG F sc_law (fun vs H Q E h => ?_) (fun cdv A outer s H vs Q E hr hg h => ?_)
  · obtain ⟨a, ns, rfl, _⟩ := h
    rfl
  · obtain ⟨sa, ns, rfl, hS, hlen, k⟩ := h
    refine ⟨_, (pss_cons (ps_set (i := 1) sc_law.nd rfl (Or.inl rfl) (pe_d G_law_tape (hr.mono (by decide)) (pa_cons (pv 0) pa_nil)))
      (pss_cons (ps_set (i := 2) sc_law.nd rfl (Or.inr rfl) (pe_d G_law_dealt (hr.mono (by decide)) (pa_cons (pv 1) (pa_cons pe_int pa_nil))))
      (Evl.pss_cut (ps_if (pt_cmpR op_eq (pe_d G_law_pick (hr.mono (by decide)) (pa_cons (pv 1) (pa_cons pe_int pa_nil))) pe_int (nomark _)) (pss_one (ps_set (i := 2) sc_law.nd rfl (Or.inr rfl) (pe_d G_law_ring (hr.mono (by decide)) (pa_cons (pv 1) pa_nil)))) pss_nil)
      (pss_cons (ps_set (i := 3) sc_law.nd rfl (Or.inl rfl) (pe_makeTable G_Table (hr.mono (by decide)) (pv 2)))
      (pss_cons (ps_set (i := 4) sc_law.nd rfl (Or.inr rfl) (pe_d G_law_live (hr.mono (by decide)) (pa_cons (pv 2) pa_nil)))
      (pss_cons (ps_set (i := 5) sc_law.nd rfl (Or.inl rfl) (pe_d G_law_pieces (hr.mono (by decide)) (pa_cons (pv 2) pa_nil)))
      (pss_cons (ps_setLc (i := 6) (own := [("piece", 10)]) (g := (gName 10)) (tt := tYes) (te := (tCall (spLKind K) [] E0 (tCons (tVar 2) (tCons (tVar 4) (tCons (tVar 10) tNil))))) (by rfl) sc_law.nd rfl rfl (sw_true rfl rfl rfl (by decide +kernel)) (pi_list (pv 5)) (blkOk_by (own := [("piece", 10)]) (N := n_law) (sc := (defScope s_law)) (by decide +kernel)) (fun _ _ _ _ _ => (pg_name (i := 10) sc_law.nd rfl (Or.inl rfl))) (fun _ _ _ _ _ => pts_nil) (fun _ _ _ _ _ => (pe_d G_law_kind (hr.mono (by decide)) (pa_cons (pv 2) (pa_cons (pv 4) (pa_cons (pv 10) pa_nil))))))
      (pss_cons (ps_set (i := 7) sc_law.nd rfl (Or.inl rfl) (pe_d G_piece_kinds (hr.mono (by decide)) (pa_cons (pv 3) pa_nil)))
      (pss_cons (ps_if (PW.pt (pw_or (pt_not (pt_val (pe_callB call_isi (by rfl) T.isinstance (by decide +kernel) (pa_cons (pv 7) (pa_cons (pe_bltn (v := V.ty "list") (by rfl) T.list (by decide +kernel) rfl) pa_nil))))) (pw_or1 (pt_cmpR (op_neD hr.units) (pv 7) (pv 6) (nomark _))))) (pss_one (ps_ret pe_bl)) pss_nil)
      (pss_cons (ps_expr (pe_bm PySem.F.plainAttrs_list PySem.F.slot_list_append PySem.F.type_list_append mt_append (pv 7) (pa_cons pe_str pa_nil)))
      (pss_cons (ps_if (pt_cmpR (op_neD hr.units) (pe_d G_piece_kinds (hr.mono (by decide)) (pa_cons (pv 3) pa_nil)) (pv 6) (nomark _)) (pss_one (ps_ret pe_bl)) pss_nil)
      (pss_cons (ps_for PassesOwn.never rfl (pi_range1 rfl T.range (pa_cons (pe_callB c_len (by rfl) T.len (by decide +kernel) (pa_cons (pv 5) pa_nil)) pa_nil)) (pg_name (i := 8) sc_law.nd rfl (Or.inl rfl))
      (pss_one (ps_if (pt_cmpR op_eq (pe_ix ix_list (pv 6) (pv 8) (fun _ _ => rfl)) pe_str (nomark _)) (pss_one (ps_if (pt_cmpR op_ne (pe_callB (cr_repr (B := 8) hg (room_repr hr)) (by rfl) T.repr (by decide +kernel) (pa_cons (pe_d G_law_told (hr.mono (by decide)) (pa_cons (pv 3) (pa_cons (pv 8) pa_nil))) pa_nil)) (pe_callB (cr_repr (B := 8) hg (room_repr hr)) (by rfl) T.repr (by decide +kernel) (pa_cons (pe_d G_law_round (hr.mono (by decide)) (pa_cons (pv 4) (pa_cons (pe_ix ix_tup (pe_ix ix_list (pv 5) (pv 8) (fun _ _ => rfl)) pe_int (fun _ _ => rfl)) pa_nil))) pa_nil)) (nomark _)) (pss_one (ps_ret pe_bl)) pss_nil)) (pss_one (ps_if (pt_cmpR (op_neD hr.units) (pe_d G_law_told (hr.mono (by decide)) (pa_cons (pv 3) (pa_cons (pv 8) pa_nil))) pe_str (nomark _)) (pss_one (ps_ret pe_bl)) pss_nil)))))
      (pss_cons (ps_set (i := 9) sc_law.nd rfl (Or.inl rfl) (pe_ix ix_list (pe_lst (pa_cons (pe_callB c_len (by rfl) T.len (by decide +kernel) (pa_cons (pv 5) pa_nil)) (pa_cons (pe_d G_law_odd (hr.mono (by decide)) (pa_cons (pv 1) (pa_cons (pv 3) pa_nil))) pa_nil))) (pe_d G_law_pick (hr.mono (by decide)) (pa_cons (pv 1) (pa_cons pe_int pa_nil))) (fun _ _ => rfl)))
      (pss_one (ps_ret (pe_and (pe_cmpR (op_eqD hr.units) (pe_d G_law_told (hr.mono (by decide)) (pa_cons (pv 3) (pa_cons (pv 9) pa_nil))) pe_str (nomark _)) (pe_one (pe_cmpR (op_eqD hr.units) (pe_fld (pv 3) rfl) (pv 2) (nomark _))))))))))))))))))), ?_⟩
    refine ⟨_, rfl, sa, ns, rfl, hS, fun t l H1 s1 _ _ T1 => ?_⟩
    refine ⟨_, rfl, t, l, 5, rfl, T1, by decide, by decide, fun v rows H2 G hl hex g2 T2 R2 => ?_⟩
    refine ⟨fun σ' H' => ∃ (rv : V) (rows : List (List Int)), σ' = [some (.ref sa), some (.ref t), some rv, none, none, none, none, none, none, none, none] ∧ RowsAt K H' rv rows ∧ Good rows ∧ rows.length ≤ 6 ∧ (∃ D, Mt.Ds rows D) ∧ Tape H' t l, ?_, ?_⟩
    · refine ⟨_, rfl, t, l, 3, rfl, T2, by decide, by decide, fun m H3 m0 m1 g3 T3 => ⟨rfl, _, rfl, ite2 (fun c => ?_) (fun c => ?_)⟩⟩
      · refine ⟨_, rfl, t, l, rfl, T3, fun v' rows' H4 G' l' dx g4 T4 R4 => ?_⟩
        exact ⟨v', rows', rfl, R4, G', l', dx, T4⟩
      · exact ⟨v, rows, rfl, R2.gr g3 T2, G, by omega, hex, T3⟩
    · rintro σ' H3 ⟨rv, rows, rfl, R3, G, l6, hex, T3⟩
      obtain ⟨D0, d0⟩ := id hex
      have fit := fit6 G l6
      have gp := G.pos
      refine ⟨_, rfl, rows, G, by omega, R3, fun tp d1 H4 s4 _ h1 => ?_⟩
      have T4 := T3.keep s4
      have R4 := R3.same s4
      have t4 : TableAt K C H4 (.ref tp) rows := ⟨tp, d1, rv, rfl, h1, R4⟩
      refine ⟨_, rfl, rv, rows, rfl, R4, G, fit, fun ps lw lv H5 s5 flv hlv hlw lmem lsrt lnd lln => ?_⟩
      have LI : LvI rows ps := ⟨lmem, lnd⟩
      refine ⟨_, rfl, rv, rows, rfl, R4.same s5, G, fit, fun F dl dw H6 hF up s6 fdl hdl hdw => ?_⟩
      have dwl := hdw.len
      rw [List.length_map] at dwl
      have s46 := s5.trans s6
      have Fn : F.length ≤ 6 := by have := hF.num; rw [Mt.liveR_len] at this; omega
      have glt : ∀ g ∈ F, ∀ p ∈ g, p < rows.length := fun g hg p hp => by have := hF.lt hg hp; rwa [Mt.liveR_len] at this
      have hlv6 := s6 _ _ hlv
      have hlw6 := hlw.same s6
      refine ⟨_, rfl, dl, rfl, ⟨_, SqL.of hdl⟩, fun D hD => ?_⟩
      refine lc_list (xs := dw) (fun i H' => H' D = some (.lst ((kS (Mt.liveR rows) (F.take i)).map V.str)) ∧ Same H6 H') ⟨upd_same, same_new hD⟩ (fun i H' _ hp => SqL.of (hp.2 _ _ hdl)) ?_ ?_
      · rintro i y H7 hy ⟨h7, s7⟩
        have iF : i < F.length := by have := (List.getElem?_eq_some_iff.mp hy).1; omega
        obtain ⟨g, hg⟩ : ∃ g, F[i]? = some g := ⟨_, List.getElem?_eq_getElem iF⟩
        have gm := List.mem_of_getElem? hg
        obtain ⟨RR, hRR, pc, cvs, rfl, hpc, hcv⟩ := hdw.get hy
        rw [List.getElem?_map, hg] at hRR
        have eRR : RR = pieceR rows g := (Option.some.inj hRR).symm
        rw [eRR] at hcv
        obtain ⟨a, b, rfl, ha, hb⟩ : ∃ a b, cvs = [V.ref a, V.ref b] ∧ SqT K H6 a ((natI g).map V.int) ∧ SqT K H6 b ((thgR rows g).map V.int) := by
          cases hcv with
          | cons h1 h2 =>
            cases h2 with
            | cons h3 h4 =>
              cases h4
              exact ⟨_, _, rfl, h1, h3⟩
        refine ⟨rfl, _, rfl, _, rfl, _, rfl, rv, lv, pc, a, b, lw, rows, ps, F, g, rfl, (R4.same s46).same s7, G, by omega, hex, s7 _ _ hlv6, hlw6.same s7, LI, lln, sqT_same s7 hpc, sqT_same s7 ha, sqT_same s7 hb, hF, gm, fun H8 s8 => ?_⟩
        refine ⟨_, s8 _ _ h7, small_lt (by unfold kS; rw [List.length_map, List.length_map, List.length_take]; omega), ?_, same_mut (s7.trans s8) hD⟩
        unfold kS
        rw [upd_same, show F.take (i + 1) = F.take i ++ [g] from by rw [List.take_add_one, hg]; rfl, List.map_append, List.map_append]
        rfl
      · rintro H7 ⟨h7, s7⟩
        rw [dwl, List.take_length] at h7
        have s47 := s46.trans s7
        refine ⟨_, rfl, .ref tp, rows, rfl, t4.same s47, G, by omega, hex, fun F2 tl H8 hF2 up2 s8 ftl htl => ?_⟩
        have eF : F2 = F := hF2.one hF up2 up
        subst eF
        have htl : H8 tl = some (.lst ((kS (Mt.liveR rows) F2).map V.str)) := htl
        have s48 := s47.trans s8
        have eS : (!PyData.eqv (dS (kS (Mt.liveR rows) F2)) (dS (kS (Mt.liveR rows) F2))) = false := by rw [eqv_S]; rfl
        refine ⟨_, rfl, .ref tl, .ty "list", .type "list", .type "list", true, rfl, .ty "list", .base (.lst htl), kit_ty (by decide +kernel), true, rfl, ?_⟩
        refine ⟨_, rfl, _, rfl, dS _, dS _, dp_S (SqL.of htl), dp_S (SqL.of (s8 _ _ h7)), sh_S _ _, sh_S _ _, ?_⟩
        rw [eS]
        have ksl : (kS (Mt.liveR rows) F2).length = F2.length := by unfold kS; rw [List.length_map]
        refine ⟨_, rfl, _, rfl, .inl ⟨rfl, _, SqL.of htl⟩, tl, _, _, rfl, rfl, htl, small_lt (by rw [List.length_map, ksl]; omega), ?_⟩
        have s79 : Same H7 (upd H8 tl (.lst ((kS (Mt.liveR rows) F2).map V.str ++ [V.str "ring"]))) := same_mut s8 ftl
        obtain ⟨H9, e9⟩ : ∃ H9, H9 = upd H8 tl (.lst ((kS (Mt.liveR rows) F2).map V.str ++ [V.str "ring"])) := ⟨_, rfl⟩
        rw [← e9] at s79 ⊢
        clear e9
        have s49 := s47.trans s79
        refine ⟨_, rfl, .ref tp, rows, rfl, t4.same s49, G, by omega, hex, fun F3 tl2 H10 hF3 up3 s10 ftl2 htl2 => ?_⟩
        have eF3 : F3 = F2 := hF3.one hF up3 up
        subst eF3
        have htl2 : H10 tl2 = some (.lst ((kS (Mt.liveR rows) F3).map V.str)) := htl2
        have s710 := s79.trans s10
        refine ⟨_, rfl, dS _, dS _, dp_S (SqL.of htl2), dp_S (SqL.of (s710 _ _ h7)), sh_S _ _, sh_S _ _, ?_⟩
        rw [eS]
        have s410 := s47.trans s710
        have s610 := s7.trans s710
        have T10 := T4.keep s410
        have t10 := t4.same s410
        have R10 := R4.same s410
        have hdl10 := s610 _ _ hdl
        have hdw10 := hdw.same s610
        have hlv10 := s610 _ _ hlv6
        have hlw10 := hlw6.same s610
        have hD10 := s710 _ _ h7
        refine ⟨_, rfl, _, rfl, dl, _, rfl, .inl (SqL.of hdl10), _, rfl, by omega, by omega, for_range (lo := 0) (n := ((dw.length : Nat) : Int).toNat) (fun i σ' H' => (∃ x8, σ' = [some (.ref sa), some (.ref t), some rv, some (.ref tp), some (.ref lv), some (.ref dl), some (.ref D), some (.ref tl), x8, none, none]) ∧ Same H10 H') ⟨⟨_, rfl⟩, Same.refl _⟩ ?_ ?_⟩
        · rintro i σ' H11 hi ⟨⟨x8, rfl⟩, s11⟩
          have iF : i < F3.length := by omega
          obtain ⟨g, hg'⟩ : ∃ g, F3[i]? = some g := ⟨_, List.getElem?_eq_getElem iF⟩
          have gm := List.mem_of_getElem? hg'
          have i0 : (0 : Int) + (i : Int) = (i : Int) := Int.zero_add _
          rw [i0]
          refine ⟨_, rfl, _, rfl, D, _, _, .str (kindS (Mt.liveR rows) g), rfl, rfl, SqL.of (s11 _ _ hD10), atI_nat (j := i) (by unfold kS; rw [List.map_map, List.getElem?_map, hg']; rfl), rfl, _, rfl, ite2 (fun hc => ?_) (fun hc => ?_)⟩
          · have kr : kindS (Mt.liveR rows) g = "ring" := by rw [str_dec] at hc; exact of_decide_eq_true hc
            have ndr : ∀ p, (Mt.row (Mt.liveR rows) p).Nodup := fun p => Mt.nd_liveG G p
            have rg := ring_is ndr hF gm (kind_ring kr)
            refine ⟨_, rfl, _, rfl, .ref tp, nV i, rows, F3, rfl, t10.same s11, G, by omega, hex, th_int, hF, up, fun i' g' e1 e2 e3 p st H12 hst s12 hp => ?_, fun nf => ?_, fun i' g' e1 e2 e3 => ?_⟩
            · have ei : i' = i := by injection e1 with e1; omega
              subst ei
              rw [hg'] at e2
              have eg : g' = g := (Option.some.inj e2).symm
              subst eg
              have stm := List.mem_of_getElem? hst
              obtain ⟨j1, j2, j3, j4⟩ := shown_I (ns := rndI (Mt.liveR rows) st g'.length) (fun x hx => by have := rnd_rng G rg (glt g' gm) stm _ x hx; omega) (by rw [rndI_len]; have := hF.len gm; rw [Mt.liveR_len] at this; omega)
              refine ⟨p, dI (rndI (Mt.liveR rows) st g'.length), rfl, dp_rowI hp, j1, j2, j3, j4, ?_⟩
              have s1012 := s11.trans s12
              obtain ⟨z, hz⟩ : ∃ z, dw[i']? = some z := ⟨_, List.getElem?_eq_getElem (by omega)⟩
              obtain ⟨RR, hRR, pc, cvs, rfl, hpc, hcv⟩ := hdw10.get hz
              rw [List.getElem?_map, hg'] at hRR
              have eRR : RR = pieceR rows g' := (Option.some.inj hRR).symm
              rw [eRR] at hcv
              obtain ⟨a, b, rfl, ha, hb⟩ : ∃ a b, cvs = [V.ref a, V.ref b] ∧ SqT K H10 a ((natI g').map V.int) ∧ SqT K H10 b ((thgR rows g').map V.int) := by
                cases hcv with
                | cons h1 h2 =>
                  cases h2 with
                  | cons h3 h4 =>
                    cases h4
                    exact ⟨_, _, rfl, h1, h3⟩
              refine ⟨_, rfl, _, rfl, _, rfl, dl, dw, _, .ref pc, rfl, rfl, SqL.of (s1012 _ _ hdl10), atI_nat hz, pc, _, _, .ref a, rfl, rfl, sqT_same s1012 hpc, rfl, ?_⟩
              refine ⟨lv, a, lw, rows, ps, F3, g', st, rfl, G, by omega, s1012 _ _ hlv10, hlw10.same s1012, LI, lln, sqT_same s1012 ha, hF, gm, rg, hst, fun p2 H13 s13 hp2 => ?_⟩
              refine ⟨p2, dI (rndI (Mt.liveR rows) st g'.length), rfl, dp_rowI hp2, j1, j2, j3, j4, rfl, _, rfl, ?_⟩
              rw [show (!decide (V.str (dI (rndI (Mt.liveR rows) st g'.length)).shown = V.str (dI (rndI (Mt.liveR rows) st g'.length)).shown)) = false from by rw [decide_eq_true rfl]; rfl]
              exact ⟨⟨_, rfl⟩, s1012.trans s13⟩
            · have : numV ((F3.length : Nat) : Int) (nV i) = true := by
                show (decide (0 ≤ (i : Int)) && decide ((i : Int) < (F3.length : Nat))) = true
                rw [decide_eq_true (by omega), decide_eq_true (by omega)]
                rfl
              rw [this] at nf
              cases nf
            · have ei : i' = i := by injection e1 with e1; omega
              subst ei
              rw [hg'] at e2
              have eg : g' = g := (Option.some.inj e2).symm
              subst eg
              exact absurd kr e3
          · have kr : ¬ kindS (Mt.liveR rows) g = "ring" := fun z => by rw [str_dec] at hc; exact hc (decide_eq_true z)
            refine ⟨_, rfl, _, rfl, .ref tp, nV i, rows, F3, rfl, t10.same s11, G, by omega, hex, th_int, hF, up, fun i' g' e1 e2 e3 => ?_, fun nf => ?_, fun i' g' e1 e2 e3 H12 s12 => ?_⟩
            · have ei : i' = i := by injection e1 with e1; omega
              subst ei
              rw [hg'] at e2
              have eg : g' = g := (Option.some.inj e2).symm
              subst eg
              exact absurd e3 kr
            · have : numV ((F3.length : Nat) : Int) (nV i) = true := by
                show (decide (0 ≤ (i : Int)) && decide ((i : Int) < (F3.length : Nat))) = true
                rw [decide_eq_true (by omega), decide_eq_true (by omega)]
                rfl
              rw [this] at nf
              cases nf
            · refine ⟨.str "ring", .str "ring", .str _, .str _, by decide +kernel, by decide +kernel, ?_⟩
              rw [show (!PyData.eqv (.str "ring") (.str "ring")) = false from by decide +kernel]
              exact ⟨_, rfl, ⟨_, rfl⟩, s11.trans s12⟩
        · rintro σ' H11 ⟨⟨x8, rfl⟩, s11⟩
          have T11 := T10.keep s11
          have t11 := t10.same s11
          have R11 := R10.same s11
          have hdl11 := s11 _ _ hdl10
          refine ⟨_, rfl, dl, _, rfl, .inl (SqL.of hdl11), _, rfl, _, rfl, t, l, .ref tp, rfl, T11, ng_tab tc T11 t11, fun yo H12 g12 T12 ngo hz => ⟨by show 2 ≤ sizeLine; decide, fun o3 ho3 => ?_⟩⟩
          have no := T12.free ho3
          have T13 := T12.new (o := .lst [nV dw.length, yo]) ho3
          refine ⟨_, rfl, t, l, 2, rfl, T13, by decide, by decide, fun j H14 j0 j1 g14 T14 => ?_⟩
          have ho14 := g14 _ _ no.1 (upd_same (a := o3))
          have g1214 : Gr t H12 H14 := (Gr.new ho3).trans g14
          have g1114 := g12.trans g1214
          have t14 := t11.gr g1114 T11
          have R14 := R11.gr g1114 T11
          obtain ⟨y, hy1, hy2, hy3⟩ : ∃ y, atI [nV dw.length, yo] j = some y ∧ Th K C H14 y ∧ numV ((F3.length : Nat) : Int) y = false := by
            have hj : j = 0 ∨ j = 1 := by omega
            rcases hj with rfl | rfl
            · exact ⟨_, rfl, th_int, by rw [dwl]; exact numV_selfN⟩
            · exact ⟨_, rfl, ngo 0 H14 g1214, odd_noN (by omega) ⟨_, rfl⟩ hz⟩
          have isN : ∀ i : Nat, y = nV i → ∀ g : List Nat, F3[i]? = some g → False := fun i e g hg => by
            have il := (List.getElem?_eq_some_iff.mp hg).1
            have : numV ((F3.length : Nat) : Int) (nV i) = true := by
              show (decide (0 ≤ (i : Int)) && decide ((i : Int) < (F3.length : Nat))) = true
              rw [decide_eq_true (by omega), decide_eq_true (by omega)]
              rfl
            rw [e, this] at hy3
            cases hy3
          refine ⟨o3, _, j, y, rfl, rfl, SqL.of ho14, hy1, ?_⟩
          refine ⟨_, rfl, _, rfl, .ref tp, y, rows, F3, rfl, t14, G, by omega, hex, hy2, hF, up, fun i g e1 e2 => (isN i e1 g e2).elim, fun _ H15 s15 => ?_, fun i g e1 e2 => (isN i e1 g e2).elim⟩
          refine ⟨.str "number", .str "number", .str _, .str _, by decide +kernel, by decide +kernel, ?_⟩
          rw [show PyData.eqv (.str "number") (.str "number") = true from by decide +kernel]
          obtain ⟨tp', d', v', e', hp', hR'⟩ := t14.same s15
          cases e'
          refine ⟨_, rfl, _, rfl, tp, C, d', _, v', rfl, hp', tc.cl, tc.nR, tf_rows _ _, _, rfl, dR rows, dR rows, hR'.dp, (R14.same s15).dp, sh_R _, sh_R _, ?_⟩
          rw [eqv_R, decide_eq_true rfl]
          exact k _
theorem compose {fa fI fE : Addr} {fd fdI fdE : FuncData} {tk : Tok} {DE : Addr} {D_NoNumber D_NoRing D_NoNumbers : Addr} {f_NoNumber f_NoRing : Addr} {fd_NoNumber fd_NoRing : FuncData} (T : Tx mg) (tc : TC K C) (Tan : mg "any" = none) (hC : mg "Table" = some (.ref C)) (hMR : mg "MOST_ROWS" = some (.int 12 tk)) (EK : ErK K mg DE [("NoNumber", D_NoNumber), ("NoNumbers", D_NoNumbers), ("NoRing", D_NoRing)]) (o_NoNumber : OexC K D_NoNumber) (g_NoNumber : mg "NoNumber" = some (.ref D_NoNumber)) (j_NoNumber : PySem.W.findIn K (.ref D_NoNumber) "__init__" = some (some (.ref f_NoNumber))) (y_NoNumber : PySem.W.typeIn K (.ref f_NoNumber) = some (.type "function")) (F_NoNumber : Fun K "__init__" "NoNumber.__init__" s_NoNumber___init f_NoNumber fd_NoNumber) (o_NoRing : OexC K D_NoRing) (g_NoRing : mg "NoRing" = some (.ref D_NoRing)) (j_NoRing : PySem.W.findIn K (.ref D_NoRing) "__init__" = some (some (.ref f_NoRing))) (y_NoRing : PySem.W.typeIn K (.ref f_NoRing) = some (.type "function")) (F_NoRing : Fun K "__init__" "NoRing.__init__" s_NoRing___init f_NoRing fd_NoRing) (mI : Mk K C fI) (FI : Fun K "__init__" "Table.__init__" s_Table___init fI fdI)
    (qe : PySem.W.findIn K (.ref C) "__eq__" = some (some (.ref fE))) (ie : PySem.W.isFn K (.ref fE) = true) (FE : Fun K "__eq__" "Table.__eq__" s_Table___eq fE fdE)
    
    (A_is_integer : At K mg "is_integer" s_is_integer ["thing"]) (A_is_number : At K mg "is_number" s_is_number ["bound", "thing"]) (A_is_numbers : At K mg "is_numbers" s_is_numbers ["bound", "thing"]) (A_is_ascending : At K mg "is_ascending" s_is_ascending ["bound", "thing"]) (A_check_rows : At K mg "_check_rows" s_check_rows ["rows"]) (A_law_tape : At K mg "_law_tape" s_law_tape ["script"]) (A_law_pick : At K mg "_law_pick" s_law_pick ["tape", "size"]) (A_law_order : At K mg "_law_order" s_law_order ["tape", "many"]) (A_law_moved : At K mg "_law_moved" s_law_moved ["tape", "rows"]) (A_law_blocks : At K mg "_law_blocks" s_law_blocks ["tape", "most"]) (A_law_loose : At K mg "_law_loose" s_law_loose ["tape", "many"]) (A_law_rows : At K mg "_law_rows" s_law_rows ["tape", "most"]) (A_law_dealings : At K mg "_law_dealings" s_law_dealings ["rows"]) (A_law_dealt : At K mg "_law_dealt" s_law_dealt ["tape", "most"]) (A_law_ring : At K mg "_law_ring" s_law_ring ["tape"]) (A_law_live : At K mg "_law_live" s_law_live ["rows"]) (A_law_pieces : At K mg "_law_pieces" s_law_pieces ["rows"]) (A_law_kind : At K mg "_law_kind" s_law_kind ["rows", "live", "piece"]) (A_hand_on : At K mg "_hand_on" s_hand_on ["held", "owner", "came", "thing"]) (A_give : At K mg "_give" s_give ["rows", "held", "owner", "person"]) (A_matched : At K mg "matched" s_matched ["rows"]) (A_owners : At K mg "owners" s_owners ["held"]) (A_reaches : At K mg "reaches" s_reaches ["rows", "held"]) (A_live_rows : At K mg "live_rows" s_live_rows ["rows"]) (A_live_of : At K mg "live_of" s_live_of ["table"]) (A_groups : At K mg "groups" s_groups ["rows"]) (A_is_ring : At K mg "_is_ring" s_is_ring ["live", "people"]) (A_kind_of : At K mg "_kind_of" s_kind_of ["live", "people"]) (A_piece_kinds : At K mg "piece_kinds" s_piece_kinds ["table"]) (A_other_person : At K mg "_other_person" s_other_person ["live", "person", "thing"]) (A_other_thing : At K mg "_other_thing" s_other_thing ["live", "person", "thing"]) (A_round_from : At K mg "_round_from" s_round_from ["live", "start"]) (A_round_of : At K mg "round_of" s_round_of ["table", "number"]) (A_law_told : At K mg "_law_told" s_law_told ["table", "number"]) (A_law_round : At K mg "_law_round" s_law_round ["live", "people"]) (A_law_deep : At K mg "_law_deep" s_law_deep []) (A_law_odd : At K mg "_law_odd" s_law_odd ["tape", "thing"])
    (F : Fun K "law" "law" s_law fa fd) : FnG P w K mg base 9 fa fd ["script"] (spLaw K) := by
  have e_NoNumber : Er0 P w K mg base "NoNumber" D_NoNumber := ⟨o_NoNumber, g_NoNumber, f_NoNumber, fd_NoNumber, j_NoNumber, y_NoNumber, pass_NoNumber F_NoNumber, F_NoNumber.binds fun _ _ _ _ _ _ us hl => match us, hl with | [_], _ => rfl⟩
  have e_NoRing : Er0 P w K mg base "NoRing" D_NoRing := ⟨o_NoRing, g_NoRing, f_NoRing, fd_NoRing, j_NoRing, y_NoRing, pass_NoRing F_NoRing, F_NoRing.binds fun _ _ _ _ _ _ us hl => match us, hl with | [_], _ => rfl⟩
  have R_is_integer : Dfn P w K mg base _ _ 1 (spInteger K C) := ok_is_integer A_is_integer T tc
  have R_is_number : Dfn P w K mg base _ _ 2 (spNumber K C) := ok_is_number A_is_number T R_is_integer
  have R_is_numbers : Dfn P w K mg base _ _ 3 (spNumbers K C) := ok_is_numbers A_is_numbers T R_is_number
  have R_is_ascending : Dfn P w K mg base _ _ 4 (spAsc K C) := ok_is_ascending A_is_ascending T R_is_numbers
  have R_check_rows : Dfn P w K mg base _ _ 5 (spCheck K) := ok_check A_check_rows T hMR R_is_ascending
  have GT : MkT P w K mg base C 6 1 (spInit K C) (spEqT K C) := ⟨hC, tc, ⟨fI, fdI, mI, ok_init FI T tc R_check_rows, FI.binds fun _ _ _ _ _ _ us hl => match us, hl with | [_, _], _ => rfl⟩, ⟨fE, fdE, ok_eq FE T tc hC, FE.binds fun _ _ _ _ _ _ us hl => match us, hl with | [_, _], _ => rfl, qe, ie⟩⟩
  have R_law_tape : Dfn P w K mg base _ _ 1 (spTape K) := ok_tape A_law_tape T
  have R_law_pick : Dfn P w K mg base _ _ 1 (spPick) := ok_pick A_law_pick T
  have R_law_order : Dfn P w K mg base _ _ 2 (spOrder) := ok_order A_law_order T R_law_pick
  have R_law_moved : Dfn P w K mg base _ _ 3 (spMoved K) := ok_moved A_law_moved T R_law_order
  have R_law_blocks : Dfn P w K mg base _ _ 2 (spBlocks K) := ok_blocks A_law_blocks T R_law_pick
  have R_law_loose : Dfn P w K mg base _ _ 3 (spLoose K) := ok_loose A_law_loose T R_law_pick R_law_order
  have R_law_rows : Dfn P w K mg base _ _ 4 (spRows K) := ok_rows A_law_rows T R_law_pick R_law_moved R_law_blocks R_law_loose
  have R_law_dealings : Dfn P w K mg base _ _ 1 (spDeals K) := ok_deals A_law_dealings T
  have R_law_dealt : Dfn P w K mg base _ _ 5 (spDealt K) := ok_dealt A_law_dealt T R_law_rows R_law_order R_law_dealings
  have RN_law_moved : Dfn P w K mg base _ _ 3 (spMovedD K) := ok_movedD A_law_moved T R_law_order
  have R_law_ring : Dfn P w K mg base _ _ 4 (spRing20 K) := ok_ring20 A_law_ring T R_law_pick RN_law_moved
  have R_law_live : Dfn P w K mg base _ _ 2 (spLawLive K) := ok_lawlive A_law_live T R_law_dealings
  have R_law_pieces : Dfn P w K mg base _ _ 3 (spLawPieces K) := ok_lawpieces A_law_pieces T R_law_live
  have R_law_kind : Dfn P w K mg base _ _ 1 (spLKind K) := ok_lkind A_law_kind T
  have R_hand_on : Dfn P w K mg base _ _ 1 (spHand) := ok_hand A_hand_on T
  have R_give : Dfn P w K mg base _ _ 2 (spGive K) := ok_give A_give T R_hand_on
  have R_matched : Dfn P w K mg base _ _ 3 (spMatched K) := ok_matched A_matched T R_give
  have R_owners : Dfn P w K mg base _ _ 1 (spOwners K) := ok_owners A_owners T
  have R_reaches : Dfn P w K mg base _ _ 2 (spReaches K) := ok_reaches A_reaches T R_owners
  have R_live_rows : Dfn P w K mg base _ _ 4 (spLive K) := ok_live A_live_rows T R_matched R_reaches R_owners
  have R_live_of : Dfn P w K mg base _ _ 5 (spLiveOf K C) := ok_live_of A_live_of T tc R_live_rows
  have R_groups : Dfn P w K mg base _ _ 1 (spGroups K) := ok_groups A_groups T Tan
  have R_is_ring : Dfn P w K mg base _ _ 1 (spRingE K) := ok_ringE A_is_ring T
  have R_kind_of : Dfn P w K mg base _ _ 2 (spKindE K) := ok_kindE A_kind_of T R_is_ring
  have R_piece_kinds : Dfn P w K mg base _ _ 6 (spPkE K C) := ok_pkE A_piece_kinds T R_live_of R_groups R_kind_of
  have R_other_person : Dfn P w K mg base _ _ 1 (spOp K) := ok_op A_other_person T
  have R_other_thing : Dfn P w K mg base _ _ 1 (spOt K) := ok_ot A_other_thing T
  have R_round_from : Dfn P w K mg base _ _ 2 (spRnd K) := ok_round_fromE A_round_from T R_other_person R_other_thing
  have RX_round_of : DfnX P w K mg base _ _ 6 (spRof K C D_NoNumber D_NoRing) := ok_rof A_round_of T e_NoNumber e_NoRing R_is_number R_live_of R_groups R_kind_of R_round_from
  have R_law_told : Dfn P w K mg base _ _ 7 (spTold20 K C) := ok_told20 A_law_told T EK RX_round_of
  have R_law_round : Dfn P w K mg base _ _ 1 (spLRound K) := ok_lround A_law_round T
  have R_law_deep : Dfn P w K mg base _ _ 1 (spDeep K C) := ok_lawdeep A_law_deep T
  have R_law_odd : Dfn P w K mg base _ _ 2 (spOddZ K C) := ok_oddz A_law_odd T R_law_deep R_law_pick
  exact ok_law F T tc GT R_law_tape R_law_pick R_law_dealt R_law_ring R_law_live R_law_pieces R_law_kind R_piece_kinds R_law_told R_law_round R_law_odd

end
end Fo

set_option maxRecDepth 100000
set_option maxHeartbeats 4000000
namespace Fo
open PySem PySem.Spec PyProof.Rows L2
theorem kit_own {K : PySem.W.Frag} {C : Addr} {T : String} {b : Bool} (hm : PySem.W.kitMeta T = true) (h : PySem.W.mroIn K C (.type T) = some b) : PySem.W.kitOne K (.ref C) (.type T) = some b := by
  have e : (Value.ref C == Value.type T) = false := by
    rw [beq_eq_false_iff_ne]
    intro q
    cases q
  show (if (Value.ref C == Value.type T) = true then some true else if PySem.W.kitMeta T = true then PySem.W.mroIn K C (.type T) else none) = some b
  rw [e, if_neg (by decide), if_pos hm, h]
theorem at_mk {K : PySem.W.Frag} {h : Heap} {mg : Str → Option Value} (X : K.In h) (G : h.Ns mainGlobals mg) {x : Str} {st : Stmt} {ps : List Str} {f : Addr} {oc : Value} {od an : Option Addr} {sl : Array (Option Value)} {kV dc pm cd ct : Value}
    (a : PySem.W.nsIn K mainGlobals x = some (some (.ref f))) (l : K.lookup f = some ⟨oc, od, .func (PySem.W.fnOf x x (defArgs st) (defBody st) (defScope st) .none kV dc pm an cd ct), sl⟩) (c : PySem.W.codeIn K cd x = true) (k : PySem.W.keepIn K (.ref f) = true)
    (b : ∀ (kV doc pm : Value) (an : Option Addr) (cdv ct : Value) (us : List Value), us.length = ps.length → bindArgs (PySem.W.fnOf x x (defArgs st) (defBody st) (defScope st) Value.none kV doc pm an cdv ct) { pos := us } = pure (ps.zip us)) : At K mg x st ps :=
  ⟨f, _, PySem.W.mg_of X G a, fun_mk (st := st) l c k, (fun_mk (st := st) l c k).binds b⟩
theorem all_mk {l : PySem.W.OpenLaw} {w : World} {K : PySem.W.Frag} {h : Heap} {mg : Str → Option Value} {fa C : Addr} {tk : Tok} (X : K.In h) (G : h.Ns mainGlobals mg) (hfa : mg "law" = some (.ref fa))
    {f1 : Addr} {od1 an1 : Option Addr} {sl1 : Array (Option Value)} {oc1 kV1 dc1 pm1 cd1 ct1 : Value}
    {f2 : Addr} {od2 an2 : Option Addr} {sl2 : Array (Option Value)} {oc2 kV2 dc2 pm2 cd2 ct2 : Value}
    {f3 : Addr} {od3 an3 : Option Addr} {sl3 : Array (Option Value)} {oc3 kV3 dc3 pm3 cd3 ct3 : Value}
    {f4 : Addr} {od4 an4 : Option Addr} {sl4 : Array (Option Value)} {oc4 kV4 dc4 pm4 cd4 ct4 : Value}
    {f5 : Addr} {od5 an5 : Option Addr} {sl5 : Array (Option Value)} {oc5 kV5 dc5 pm5 cd5 ct5 : Value}
    {f6 : Addr} {od6 an6 : Option Addr} {sl6 : Array (Option Value)} {oc6 kV6 dc6 pm6 cd6 ct6 : Value}
    {f7 : Addr} {od7 an7 : Option Addr} {sl7 : Array (Option Value)} {oc7 kV7 dc7 pm7 cd7 ct7 : Value}
    {f8 : Addr} {od8 an8 : Option Addr} {sl8 : Array (Option Value)} {oc8 kV8 dc8 pm8 cd8 ct8 : Value}
    {f9 : Addr} {od9 an9 : Option Addr} {sl9 : Array (Option Value)} {oc9 kV9 dc9 pm9 cd9 ct9 : Value}
    {f10 : Addr} {od10 an10 : Option Addr} {sl10 : Array (Option Value)} {oc10 kV10 dc10 pm10 cd10 ct10 : Value}
    {f11 : Addr} {od11 an11 : Option Addr} {sl11 : Array (Option Value)} {oc11 kV11 dc11 pm11 cd11 ct11 : Value}
    {f12 : Addr} {od12 an12 : Option Addr} {sl12 : Array (Option Value)} {oc12 kV12 dc12 pm12 cd12 ct12 : Value}
    {f13 : Addr} {od13 an13 : Option Addr} {sl13 : Array (Option Value)} {oc13 kV13 dc13 pm13 cd13 ct13 : Value}
    {f14 : Addr} {od14 an14 : Option Addr} {sl14 : Array (Option Value)} {oc14 kV14 dc14 pm14 cd14 ct14 : Value}
    {f15 : Addr} {od15 an15 : Option Addr} {sl15 : Array (Option Value)} {oc15 kV15 dc15 pm15 cd15 ct15 : Value}
    {f16 : Addr} {od16 an16 : Option Addr} {sl16 : Array (Option Value)} {oc16 kV16 dc16 pm16 cd16 ct16 : Value}
    {f17 : Addr} {od17 an17 : Option Addr} {sl17 : Array (Option Value)} {oc17 kV17 dc17 pm17 cd17 ct17 : Value}
    {f18 : Addr} {od18 an18 : Option Addr} {sl18 : Array (Option Value)} {oc18 kV18 dc18 pm18 cd18 ct18 : Value}
    {f19 : Addr} {od19 an19 : Option Addr} {sl19 : Array (Option Value)} {oc19 kV19 dc19 pm19 cd19 ct19 : Value}
    {f20 : Addr} {od20 an20 : Option Addr} {sl20 : Array (Option Value)} {oc20 kV20 dc20 pm20 cd20 ct20 : Value}
    {f21 : Addr} {od21 an21 : Option Addr} {sl21 : Array (Option Value)} {oc21 kV21 dc21 pm21 cd21 ct21 : Value}
    {f22 : Addr} {od22 an22 : Option Addr} {sl22 : Array (Option Value)} {oc22 kV22 dc22 pm22 cd22 ct22 : Value}
    {f23 : Addr} {od23 an23 : Option Addr} {sl23 : Array (Option Value)} {oc23 kV23 dc23 pm23 cd23 ct23 : Value}
    {f24 : Addr} {od24 an24 : Option Addr} {sl24 : Array (Option Value)} {oc24 kV24 dc24 pm24 cd24 ct24 : Value}
    {f25 : Addr} {od25 an25 : Option Addr} {sl25 : Array (Option Value)} {oc25 kV25 dc25 pm25 cd25 ct25 : Value}
    {f26 : Addr} {od26 an26 : Option Addr} {sl26 : Array (Option Value)} {oc26 kV26 dc26 pm26 cd26 ct26 : Value}
    {f27 : Addr} {od27 an27 : Option Addr} {sl27 : Array (Option Value)} {oc27 kV27 dc27 pm27 cd27 ct27 : Value}
    {f28 : Addr} {od28 an28 : Option Addr} {sl28 : Array (Option Value)} {oc28 kV28 dc28 pm28 cd28 ct28 : Value}
    {f29 : Addr} {od29 an29 : Option Addr} {sl29 : Array (Option Value)} {oc29 kV29 dc29 pm29 cd29 ct29 : Value}
    {f30 : Addr} {od30 an30 : Option Addr} {sl30 : Array (Option Value)} {oc30 kV30 dc30 pm30 cd30 ct30 : Value}
    {f31 : Addr} {od31 an31 : Option Addr} {sl31 : Array (Option Value)} {oc31 kV31 dc31 pm31 cd31 ct31 : Value}
    {f32 : Addr} {od32 an32 : Option Addr} {sl32 : Array (Option Value)} {oc32 kV32 dc32 pm32 cd32 ct32 : Value}
    {f33 : Addr} {od33 an33 : Option Addr} {sl33 : Array (Option Value)} {oc33 kV33 dc33 pm33 cd33 ct33 : Value}
    {f34 : Addr} {od34 an34 : Option Addr} {sl34 : Array (Option Value)} {oc34 kV34 dc34 pm34 cd34 ct34 : Value}
    {f35 : Addr} {od35 an35 : Option Addr} {sl35 : Array (Option Value)} {oc35 kV35 dc35 pm35 cd35 ct35 : Value}
    {f36 : Addr} {od36 an36 : Option Addr} {sl36 : Array (Option Value)} {oc36 kV36 dc36 pm36 cd36 ct36 : Value}
    {f37 : Addr} {od37 an37 : Option Addr} {sl37 : Array (Option Value)} {oc37 kV37 dc37 pm37 cd37 ct37 : Value}
    {f38 : Addr} {od38 an38 : Option Addr} {sl38 : Array (Option Value)} {oc38 kV38 dc38 pm38 cd38 ct38 : Value}
    {f39 : Addr} {od39 an39 : Option Addr} {sl39 : Array (Option Value)} {oc39 kV39 dc39 pm39 cd39 ct39 : Value}
    {f40 : Addr} {od40 an40 : Option Addr} {sl40 : Array (Option Value)} {oc40 kV40 dc40 pm40 cd40 ct40 : Value}
    {DE : Addr}
    {B0 N0 : Addr} {nm0 q0 : Str} {bs0 : List Value} {sn0 : List Str} {sub0 : List Value} {ab0 : Bool} {col0 : Option Bool} {dd0 : Option Addr} {m00 m10 m20 m30 m50 : Option Value}
    {fX0 : Addr} {odX0 anX0 : Option Addr} {slX0 : Array (Option Value)} {ocX0 kVX0 dcX0 pmX0 cdX0 ctX0 : Value}
    {B1 N1 : Addr} {nm1 q1 : Str} {bs1 : List Value} {sn1 : List Str} {sub1 : List Value} {ab1 : Bool} {col1 : Option Bool} {dd1 : Option Addr} {m01 m11 m21 m31 m51 : Option Value}
    {fX1 : Addr} {odX1 anX1 : Option Addr} {slX1 : Array (Option Value)} {ocX1 kVX1 dcX1 pmX1 cdX1 ctX1 : Value}
    {B2 N2 : Addr} {nm2 q2 : Str} {bs2 : List Value} {sn2 : List Str} {sub2 : List Value} {ab2 : Bool} {col2 : Option Bool} {dd2 : Option Addr} {m02 m12 m22 m32 m52 : Option Value}
    (aC : PySem.W.nsIn K mainGlobals "Table" = some (some (.ref C)))
    (aI : PySem.W.findIn K (.ref C) "__init__" = some (some (.ref f1)))
    (iI : PySem.W.isFn K (.ref f1) = true)
    (l1 : K.lookup f1 = some ⟨oc1, od1, .func (PySem.W.fnOf "__init__" "Table.__init__" (defArgs s_Table___init) (defBody s_Table___init) (defScope s_Table___init) .none kV1 dc1 pm1 an1 cd1 ct1), sl1⟩)
    (c1 : PySem.W.codeIn K cd1 "Table.__init__" = true)
    (k1 : PySem.W.keepIn K (.ref f1) = true)
    (aE : PySem.W.findIn K (.ref C) "__eq__" = some (some (.ref f2)))
    (iE : PySem.W.isFn K (.ref f2) = true)
    (l2 : K.lookup f2 = some ⟨oc2, od2, .func (PySem.W.fnOf "__eq__" "Table.__eq__" (defArgs s_Table___eq) (defBody s_Table___eq) (defScope s_Table___eq) .none kV2 dc2 pm2 an2 cd2 ct2), sl2⟩)
    (c2 : PySem.W.codeIn K cd2 "Table.__eq__" = true)
    (k2 : PySem.W.keepIn K (.ref f2) = true)
    (aL : PySem.W.nsIn K mainGlobals "law" = some (some (.ref f3)))
    (l3 : K.lookup f3 = some ⟨oc3, od3, .func (PySem.W.fnOf "law" "law" (defArgs s_law) (defBody s_law) (defScope s_law) .none kV3 dc3 pm3 an3 cd3 ct3), sl3⟩)
    (c3 : PySem.W.codeIn K cd3 "law" = true)
    (k3 : PySem.W.keepIn K (.ref f3) = true)
    (a4 : PySem.W.nsIn K mainGlobals "is_integer" = some (some (.ref f4)))
    (l4 : K.lookup f4 = some ⟨oc4, od4, .func (PySem.W.fnOf "is_integer" "is_integer" (defArgs s_is_integer) (defBody s_is_integer) (defScope s_is_integer) .none kV4 dc4 pm4 an4 cd4 ct4), sl4⟩)
    (c4 : PySem.W.codeIn K cd4 "is_integer" = true)
    (k4 : PySem.W.keepIn K (.ref f4) = true)
    (a5 : PySem.W.nsIn K mainGlobals "is_number" = some (some (.ref f5)))
    (l5 : K.lookup f5 = some ⟨oc5, od5, .func (PySem.W.fnOf "is_number" "is_number" (defArgs s_is_number) (defBody s_is_number) (defScope s_is_number) .none kV5 dc5 pm5 an5 cd5 ct5), sl5⟩)
    (c5 : PySem.W.codeIn K cd5 "is_number" = true)
    (k5 : PySem.W.keepIn K (.ref f5) = true)
    (a6 : PySem.W.nsIn K mainGlobals "is_numbers" = some (some (.ref f6)))
    (l6 : K.lookup f6 = some ⟨oc6, od6, .func (PySem.W.fnOf "is_numbers" "is_numbers" (defArgs s_is_numbers) (defBody s_is_numbers) (defScope s_is_numbers) .none kV6 dc6 pm6 an6 cd6 ct6), sl6⟩)
    (c6 : PySem.W.codeIn K cd6 "is_numbers" = true)
    (k6 : PySem.W.keepIn K (.ref f6) = true)
    (a7 : PySem.W.nsIn K mainGlobals "is_ascending" = some (some (.ref f7)))
    (l7 : K.lookup f7 = some ⟨oc7, od7, .func (PySem.W.fnOf "is_ascending" "is_ascending" (defArgs s_is_ascending) (defBody s_is_ascending) (defScope s_is_ascending) .none kV7 dc7 pm7 an7 cd7 ct7), sl7⟩)
    (c7 : PySem.W.codeIn K cd7 "is_ascending" = true)
    (k7 : PySem.W.keepIn K (.ref f7) = true)
    (a8 : PySem.W.nsIn K mainGlobals "_check_rows" = some (some (.ref f8)))
    (l8 : K.lookup f8 = some ⟨oc8, od8, .func (PySem.W.fnOf "_check_rows" "_check_rows" (defArgs s_check_rows) (defBody s_check_rows) (defScope s_check_rows) .none kV8 dc8 pm8 an8 cd8 ct8), sl8⟩)
    (c8 : PySem.W.codeIn K cd8 "_check_rows" = true)
    (k8 : PySem.W.keepIn K (.ref f8) = true)
    (a9 : PySem.W.nsIn K mainGlobals "_law_tape" = some (some (.ref f9)))
    (l9 : K.lookup f9 = some ⟨oc9, od9, .func (PySem.W.fnOf "_law_tape" "_law_tape" (defArgs s_law_tape) (defBody s_law_tape) (defScope s_law_tape) .none kV9 dc9 pm9 an9 cd9 ct9), sl9⟩)
    (c9 : PySem.W.codeIn K cd9 "_law_tape" = true)
    (k9 : PySem.W.keepIn K (.ref f9) = true)
    (a10 : PySem.W.nsIn K mainGlobals "_law_pick" = some (some (.ref f10)))
    (l10 : K.lookup f10 = some ⟨oc10, od10, .func (PySem.W.fnOf "_law_pick" "_law_pick" (defArgs s_law_pick) (defBody s_law_pick) (defScope s_law_pick) .none kV10 dc10 pm10 an10 cd10 ct10), sl10⟩)
    (c10 : PySem.W.codeIn K cd10 "_law_pick" = true)
    (k10 : PySem.W.keepIn K (.ref f10) = true)
    (a11 : PySem.W.nsIn K mainGlobals "_law_order" = some (some (.ref f11)))
    (l11 : K.lookup f11 = some ⟨oc11, od11, .func (PySem.W.fnOf "_law_order" "_law_order" (defArgs s_law_order) (defBody s_law_order) (defScope s_law_order) .none kV11 dc11 pm11 an11 cd11 ct11), sl11⟩)
    (c11 : PySem.W.codeIn K cd11 "_law_order" = true)
    (k11 : PySem.W.keepIn K (.ref f11) = true)
    (a12 : PySem.W.nsIn K mainGlobals "_law_moved" = some (some (.ref f12)))
    (l12 : K.lookup f12 = some ⟨oc12, od12, .func (PySem.W.fnOf "_law_moved" "_law_moved" (defArgs s_law_moved) (defBody s_law_moved) (defScope s_law_moved) .none kV12 dc12 pm12 an12 cd12 ct12), sl12⟩)
    (c12 : PySem.W.codeIn K cd12 "_law_moved" = true)
    (k12 : PySem.W.keepIn K (.ref f12) = true)
    (a13 : PySem.W.nsIn K mainGlobals "_law_blocks" = some (some (.ref f13)))
    (l13 : K.lookup f13 = some ⟨oc13, od13, .func (PySem.W.fnOf "_law_blocks" "_law_blocks" (defArgs s_law_blocks) (defBody s_law_blocks) (defScope s_law_blocks) .none kV13 dc13 pm13 an13 cd13 ct13), sl13⟩)
    (c13 : PySem.W.codeIn K cd13 "_law_blocks" = true)
    (k13 : PySem.W.keepIn K (.ref f13) = true)
    (a14 : PySem.W.nsIn K mainGlobals "_law_loose" = some (some (.ref f14)))
    (l14 : K.lookup f14 = some ⟨oc14, od14, .func (PySem.W.fnOf "_law_loose" "_law_loose" (defArgs s_law_loose) (defBody s_law_loose) (defScope s_law_loose) .none kV14 dc14 pm14 an14 cd14 ct14), sl14⟩)
    (c14 : PySem.W.codeIn K cd14 "_law_loose" = true)
    (k14 : PySem.W.keepIn K (.ref f14) = true)
    (a15 : PySem.W.nsIn K mainGlobals "_law_rows" = some (some (.ref f15)))
    (l15 : K.lookup f15 = some ⟨oc15, od15, .func (PySem.W.fnOf "_law_rows" "_law_rows" (defArgs s_law_rows) (defBody s_law_rows) (defScope s_law_rows) .none kV15 dc15 pm15 an15 cd15 ct15), sl15⟩)
    (c15 : PySem.W.codeIn K cd15 "_law_rows" = true)
    (k15 : PySem.W.keepIn K (.ref f15) = true)
    (a16 : PySem.W.nsIn K mainGlobals "_law_dealings" = some (some (.ref f16)))
    (l16 : K.lookup f16 = some ⟨oc16, od16, .func (PySem.W.fnOf "_law_dealings" "_law_dealings" (defArgs s_law_dealings) (defBody s_law_dealings) (defScope s_law_dealings) .none kV16 dc16 pm16 an16 cd16 ct16), sl16⟩)
    (c16 : PySem.W.codeIn K cd16 "_law_dealings" = true)
    (k16 : PySem.W.keepIn K (.ref f16) = true)
    (a17 : PySem.W.nsIn K mainGlobals "_law_dealt" = some (some (.ref f17)))
    (l17 : K.lookup f17 = some ⟨oc17, od17, .func (PySem.W.fnOf "_law_dealt" "_law_dealt" (defArgs s_law_dealt) (defBody s_law_dealt) (defScope s_law_dealt) .none kV17 dc17 pm17 an17 cd17 ct17), sl17⟩)
    (c17 : PySem.W.codeIn K cd17 "_law_dealt" = true)
    (k17 : PySem.W.keepIn K (.ref f17) = true)
    (a18 : PySem.W.nsIn K mainGlobals "_law_ring" = some (some (.ref f18)))
    (l18 : K.lookup f18 = some ⟨oc18, od18, .func (PySem.W.fnOf "_law_ring" "_law_ring" (defArgs s_law_ring) (defBody s_law_ring) (defScope s_law_ring) .none kV18 dc18 pm18 an18 cd18 ct18), sl18⟩)
    (c18 : PySem.W.codeIn K cd18 "_law_ring" = true)
    (k18 : PySem.W.keepIn K (.ref f18) = true)
    (a19 : PySem.W.nsIn K mainGlobals "_law_live" = some (some (.ref f19)))
    (l19 : K.lookup f19 = some ⟨oc19, od19, .func (PySem.W.fnOf "_law_live" "_law_live" (defArgs s_law_live) (defBody s_law_live) (defScope s_law_live) .none kV19 dc19 pm19 an19 cd19 ct19), sl19⟩)
    (c19 : PySem.W.codeIn K cd19 "_law_live" = true)
    (k19 : PySem.W.keepIn K (.ref f19) = true)
    (a20 : PySem.W.nsIn K mainGlobals "_law_pieces" = some (some (.ref f20)))
    (l20 : K.lookup f20 = some ⟨oc20, od20, .func (PySem.W.fnOf "_law_pieces" "_law_pieces" (defArgs s_law_pieces) (defBody s_law_pieces) (defScope s_law_pieces) .none kV20 dc20 pm20 an20 cd20 ct20), sl20⟩)
    (c20 : PySem.W.codeIn K cd20 "_law_pieces" = true)
    (k20 : PySem.W.keepIn K (.ref f20) = true)
    (a21 : PySem.W.nsIn K mainGlobals "_law_kind" = some (some (.ref f21)))
    (l21 : K.lookup f21 = some ⟨oc21, od21, .func (PySem.W.fnOf "_law_kind" "_law_kind" (defArgs s_law_kind) (defBody s_law_kind) (defScope s_law_kind) .none kV21 dc21 pm21 an21 cd21 ct21), sl21⟩)
    (c21 : PySem.W.codeIn K cd21 "_law_kind" = true)
    (k21 : PySem.W.keepIn K (.ref f21) = true)
    (a22 : PySem.W.nsIn K mainGlobals "_hand_on" = some (some (.ref f22)))
    (l22 : K.lookup f22 = some ⟨oc22, od22, .func (PySem.W.fnOf "_hand_on" "_hand_on" (defArgs s_hand_on) (defBody s_hand_on) (defScope s_hand_on) .none kV22 dc22 pm22 an22 cd22 ct22), sl22⟩)
    (c22 : PySem.W.codeIn K cd22 "_hand_on" = true)
    (k22 : PySem.W.keepIn K (.ref f22) = true)
    (a23 : PySem.W.nsIn K mainGlobals "_give" = some (some (.ref f23)))
    (l23 : K.lookup f23 = some ⟨oc23, od23, .func (PySem.W.fnOf "_give" "_give" (defArgs s_give) (defBody s_give) (defScope s_give) .none kV23 dc23 pm23 an23 cd23 ct23), sl23⟩)
    (c23 : PySem.W.codeIn K cd23 "_give" = true)
    (k23 : PySem.W.keepIn K (.ref f23) = true)
    (a24 : PySem.W.nsIn K mainGlobals "matched" = some (some (.ref f24)))
    (l24 : K.lookup f24 = some ⟨oc24, od24, .func (PySem.W.fnOf "matched" "matched" (defArgs s_matched) (defBody s_matched) (defScope s_matched) .none kV24 dc24 pm24 an24 cd24 ct24), sl24⟩)
    (c24 : PySem.W.codeIn K cd24 "matched" = true)
    (k24 : PySem.W.keepIn K (.ref f24) = true)
    (a25 : PySem.W.nsIn K mainGlobals "owners" = some (some (.ref f25)))
    (l25 : K.lookup f25 = some ⟨oc25, od25, .func (PySem.W.fnOf "owners" "owners" (defArgs s_owners) (defBody s_owners) (defScope s_owners) .none kV25 dc25 pm25 an25 cd25 ct25), sl25⟩)
    (c25 : PySem.W.codeIn K cd25 "owners" = true)
    (k25 : PySem.W.keepIn K (.ref f25) = true)
    (a26 : PySem.W.nsIn K mainGlobals "reaches" = some (some (.ref f26)))
    (l26 : K.lookup f26 = some ⟨oc26, od26, .func (PySem.W.fnOf "reaches" "reaches" (defArgs s_reaches) (defBody s_reaches) (defScope s_reaches) .none kV26 dc26 pm26 an26 cd26 ct26), sl26⟩)
    (c26 : PySem.W.codeIn K cd26 "reaches" = true)
    (k26 : PySem.W.keepIn K (.ref f26) = true)
    (a27 : PySem.W.nsIn K mainGlobals "live_rows" = some (some (.ref f27)))
    (l27 : K.lookup f27 = some ⟨oc27, od27, .func (PySem.W.fnOf "live_rows" "live_rows" (defArgs s_live_rows) (defBody s_live_rows) (defScope s_live_rows) .none kV27 dc27 pm27 an27 cd27 ct27), sl27⟩)
    (c27 : PySem.W.codeIn K cd27 "live_rows" = true)
    (k27 : PySem.W.keepIn K (.ref f27) = true)
    (a28 : PySem.W.nsIn K mainGlobals "live_of" = some (some (.ref f28)))
    (l28 : K.lookup f28 = some ⟨oc28, od28, .func (PySem.W.fnOf "live_of" "live_of" (defArgs s_live_of) (defBody s_live_of) (defScope s_live_of) .none kV28 dc28 pm28 an28 cd28 ct28), sl28⟩)
    (c28 : PySem.W.codeIn K cd28 "live_of" = true)
    (k28 : PySem.W.keepIn K (.ref f28) = true)
    (a29 : PySem.W.nsIn K mainGlobals "groups" = some (some (.ref f29)))
    (l29 : K.lookup f29 = some ⟨oc29, od29, .func (PySem.W.fnOf "groups" "groups" (defArgs s_groups) (defBody s_groups) (defScope s_groups) .none kV29 dc29 pm29 an29 cd29 ct29), sl29⟩)
    (c29 : PySem.W.codeIn K cd29 "groups" = true)
    (k29 : PySem.W.keepIn K (.ref f29) = true)
    (a30 : PySem.W.nsIn K mainGlobals "_is_ring" = some (some (.ref f30)))
    (l30 : K.lookup f30 = some ⟨oc30, od30, .func (PySem.W.fnOf "_is_ring" "_is_ring" (defArgs s_is_ring) (defBody s_is_ring) (defScope s_is_ring) .none kV30 dc30 pm30 an30 cd30 ct30), sl30⟩)
    (c30 : PySem.W.codeIn K cd30 "_is_ring" = true)
    (k30 : PySem.W.keepIn K (.ref f30) = true)
    (a31 : PySem.W.nsIn K mainGlobals "_kind_of" = some (some (.ref f31)))
    (l31 : K.lookup f31 = some ⟨oc31, od31, .func (PySem.W.fnOf "_kind_of" "_kind_of" (defArgs s_kind_of) (defBody s_kind_of) (defScope s_kind_of) .none kV31 dc31 pm31 an31 cd31 ct31), sl31⟩)
    (c31 : PySem.W.codeIn K cd31 "_kind_of" = true)
    (k31 : PySem.W.keepIn K (.ref f31) = true)
    (a32 : PySem.W.nsIn K mainGlobals "piece_kinds" = some (some (.ref f32)))
    (l32 : K.lookup f32 = some ⟨oc32, od32, .func (PySem.W.fnOf "piece_kinds" "piece_kinds" (defArgs s_piece_kinds) (defBody s_piece_kinds) (defScope s_piece_kinds) .none kV32 dc32 pm32 an32 cd32 ct32), sl32⟩)
    (c32 : PySem.W.codeIn K cd32 "piece_kinds" = true)
    (k32 : PySem.W.keepIn K (.ref f32) = true)
    (a33 : PySem.W.nsIn K mainGlobals "_other_person" = some (some (.ref f33)))
    (l33 : K.lookup f33 = some ⟨oc33, od33, .func (PySem.W.fnOf "_other_person" "_other_person" (defArgs s_other_person) (defBody s_other_person) (defScope s_other_person) .none kV33 dc33 pm33 an33 cd33 ct33), sl33⟩)
    (c33 : PySem.W.codeIn K cd33 "_other_person" = true)
    (k33 : PySem.W.keepIn K (.ref f33) = true)
    (a34 : PySem.W.nsIn K mainGlobals "_other_thing" = some (some (.ref f34)))
    (l34 : K.lookup f34 = some ⟨oc34, od34, .func (PySem.W.fnOf "_other_thing" "_other_thing" (defArgs s_other_thing) (defBody s_other_thing) (defScope s_other_thing) .none kV34 dc34 pm34 an34 cd34 ct34), sl34⟩)
    (c34 : PySem.W.codeIn K cd34 "_other_thing" = true)
    (k34 : PySem.W.keepIn K (.ref f34) = true)
    (a35 : PySem.W.nsIn K mainGlobals "_round_from" = some (some (.ref f35)))
    (l35 : K.lookup f35 = some ⟨oc35, od35, .func (PySem.W.fnOf "_round_from" "_round_from" (defArgs s_round_from) (defBody s_round_from) (defScope s_round_from) .none kV35 dc35 pm35 an35 cd35 ct35), sl35⟩)
    (c35 : PySem.W.codeIn K cd35 "_round_from" = true)
    (k35 : PySem.W.keepIn K (.ref f35) = true)
    (a36 : PySem.W.nsIn K mainGlobals "round_of" = some (some (.ref f36)))
    (l36 : K.lookup f36 = some ⟨oc36, od36, .func (PySem.W.fnOf "round_of" "round_of" (defArgs s_round_of) (defBody s_round_of) (defScope s_round_of) .none kV36 dc36 pm36 an36 cd36 ct36), sl36⟩)
    (c36 : PySem.W.codeIn K cd36 "round_of" = true)
    (k36 : PySem.W.keepIn K (.ref f36) = true)
    (a37 : PySem.W.nsIn K mainGlobals "_law_told" = some (some (.ref f37)))
    (l37 : K.lookup f37 = some ⟨oc37, od37, .func (PySem.W.fnOf "_law_told" "_law_told" (defArgs s_law_told) (defBody s_law_told) (defScope s_law_told) .none kV37 dc37 pm37 an37 cd37 ct37), sl37⟩)
    (c37 : PySem.W.codeIn K cd37 "_law_told" = true)
    (k37 : PySem.W.keepIn K (.ref f37) = true)
    (a38 : PySem.W.nsIn K mainGlobals "_law_round" = some (some (.ref f38)))
    (l38 : K.lookup f38 = some ⟨oc38, od38, .func (PySem.W.fnOf "_law_round" "_law_round" (defArgs s_law_round) (defBody s_law_round) (defScope s_law_round) .none kV38 dc38 pm38 an38 cd38 ct38), sl38⟩)
    (c38 : PySem.W.codeIn K cd38 "_law_round" = true)
    (k38 : PySem.W.keepIn K (.ref f38) = true)
    (a39 : PySem.W.nsIn K mainGlobals "_law_deep" = some (some (.ref f39)))
    (l39 : K.lookup f39 = some ⟨oc39, od39, .func (PySem.W.fnOf "_law_deep" "_law_deep" (defArgs s_law_deep) (defBody s_law_deep) (defScope s_law_deep) .none kV39 dc39 pm39 an39 cd39 ct39), sl39⟩)
    (c39 : PySem.W.codeIn K cd39 "_law_deep" = true)
    (k39 : PySem.W.keepIn K (.ref f39) = true)
    (a40 : PySem.W.nsIn K mainGlobals "_law_odd" = some (some (.ref f40)))
    (l40 : K.lookup f40 = some ⟨oc40, od40, .func (PySem.W.fnOf "_law_odd" "_law_odd" (defArgs s_law_odd) (defBody s_law_odd) (defScope s_law_odd) .none kV40 dc40 pm40 an40 cd40 ct40), sl40⟩)
    (c40 : PySem.W.codeIn K cd40 "_law_odd" = true)
    (k40 : PySem.W.keepIn K (.ref f40) = true)
    (aDE : PySem.W.nsIn K mainGlobals "DrawError" = some (some (.ref DE)))
    (aVE : PySem.W.nsIn K mainGlobals "ValueError" = some none)
    (deC : PySem.W.subIn K (.ref DE) (.type "BaseException") = some true)
    (dsC : PySem.W.isClsIn K DE = true)
    (dtC : PySem.W.typeIn K (.ref DE) = some (.type "type"))
    (aB0 : PySem.W.nsIn K mainGlobals "NoNumber" = some (some (.ref B0)))
    (xL0 : K.lookup B0 = some (excClassObj nm0 q0 B0 N0 bs0 [.ref DE, .type "ValueError", .type "Exception", .type "BaseException", .type "object"] true sn0 sub0 ab0 col0 dd0 m00 m10 m20 m30 m50 "ValueError.__new__"))
    (xsa0 : PySem.W.findIn K (.ref B0) "__setattr__" = some (some (.builtin "object.__setattr__")))
    (xga0 : PySem.W.findIn K (.ref B0) "__getattribute__" = some (some (.builtin "BaseException.__getattribute__")))
    (xgg0 : PySem.W.findIn K (.ref B0) "__getattr__" = some none)
    (xca0 : PySem.W.findIn K (.ref B0) "__class__" = some (some (.builtin "object.__class__")))
    (xmo0 : PySem.W.mroIn K B0 (.type "object") = some true)
    (xmv0 : PySem.W.mroIn K B0 (.type "ValueError") = some true)
    (xis0 : PySem.W.isClsIn K B0 = true)
    (xiB0 : PySem.W.findIn K (.ref B0) "__init__" = some (some (.ref fX0)))
    (xtf0 : PySem.W.typeIn K (.ref fX0) = some (.type "function"))
    (lX0 : K.lookup fX0 = some ⟨ocX0, odX0, .func (PySem.W.fnOf "__init__" "NoNumber.__init__" (defArgs s_NoNumber___init) (defBody s_NoNumber___init) (defScope s_NoNumber___init) .none kVX0 dcX0 pmX0 anX0 cdX0 ctX0), slX0⟩)
    (cX0 : PySem.W.codeIn K cdX0 "NoNumber.__init__" = true)
    (kX0 : PySem.W.keepIn K (.ref fX0) = true)
    (xkC0 : PySem.W.keepIn K (.ref B0) = true)
    (xeC0 : PySem.W.subIn K (.ref B0) (.type "BaseException") = some true)
    (xtC0 : PySem.W.typeIn K (.ref B0) = some (.type "type"))
    (dbC0 : PySem.W.subIn K (.ref B0) (.ref DE) = some true)
    (dss0 : PySem.W.subIn K (.ref B0) (.ref B0) = some true)
    (aB1 : PySem.W.nsIn K mainGlobals "NoRing" = some (some (.ref B1)))
    (xL1 : K.lookup B1 = some (excClassObj nm1 q1 B1 N1 bs1 [.ref DE, .type "ValueError", .type "Exception", .type "BaseException", .type "object"] true sn1 sub1 ab1 col1 dd1 m01 m11 m21 m31 m51 "ValueError.__new__"))
    (xsa1 : PySem.W.findIn K (.ref B1) "__setattr__" = some (some (.builtin "object.__setattr__")))
    (xga1 : PySem.W.findIn K (.ref B1) "__getattribute__" = some (some (.builtin "BaseException.__getattribute__")))
    (xgg1 : PySem.W.findIn K (.ref B1) "__getattr__" = some none)
    (xca1 : PySem.W.findIn K (.ref B1) "__class__" = some (some (.builtin "object.__class__")))
    (xmo1 : PySem.W.mroIn K B1 (.type "object") = some true)
    (xmv1 : PySem.W.mroIn K B1 (.type "ValueError") = some true)
    (xis1 : PySem.W.isClsIn K B1 = true)
    (xiB1 : PySem.W.findIn K (.ref B1) "__init__" = some (some (.ref fX1)))
    (xtf1 : PySem.W.typeIn K (.ref fX1) = some (.type "function"))
    (lX1 : K.lookup fX1 = some ⟨ocX1, odX1, .func (PySem.W.fnOf "__init__" "NoRing.__init__" (defArgs s_NoRing___init) (defBody s_NoRing___init) (defScope s_NoRing___init) .none kVX1 dcX1 pmX1 anX1 cdX1 ctX1), slX1⟩)
    (cX1 : PySem.W.codeIn K cdX1 "NoRing.__init__" = true)
    (kX1 : PySem.W.keepIn K (.ref fX1) = true)
    (xkC1 : PySem.W.keepIn K (.ref B1) = true)
    (xeC1 : PySem.W.subIn K (.ref B1) (.type "BaseException") = some true)
    (xtC1 : PySem.W.typeIn K (.ref B1) = some (.type "type"))
    (dbC1 : PySem.W.subIn K (.ref B1) (.ref DE) = some true)
    (dss1 : PySem.W.subIn K (.ref B1) (.ref B1) = some true)
    (aB2 : PySem.W.nsIn K mainGlobals "NoNumbers" = some (some (.ref B2)))
    (xL2 : K.lookup B2 = some (excClassObj nm2 q2 B2 N2 bs2 [.ref DE, .type "ValueError", .type "Exception", .type "BaseException", .type "object"] true sn2 sub2 ab2 col2 dd2 m02 m12 m22 m32 m52 "ValueError.__new__"))
    (xsa2 : PySem.W.findIn K (.ref B2) "__setattr__" = some (some (.builtin "object.__setattr__")))
    (xga2 : PySem.W.findIn K (.ref B2) "__getattribute__" = some (some (.builtin "BaseException.__getattribute__")))
    (xgg2 : PySem.W.findIn K (.ref B2) "__getattr__" = some none)
    (xca2 : PySem.W.findIn K (.ref B2) "__class__" = some (some (.builtin "object.__class__")))
    (xmo2 : PySem.W.mroIn K B2 (.type "object") = some true)
    (xmv2 : PySem.W.mroIn K B2 (.type "ValueError") = some true)
    (xis2 : PySem.W.isClsIn K B2 = true)
    (xeC2 : PySem.W.subIn K (.ref B2) (.type "BaseException") = some true)
    (xtC2 : PySem.W.typeIn K (.ref B2) = some (.type "type"))
    (dbC2 : PySem.W.subIn K (.ref B2) (.ref DE) = some true)
    (dss2 : PySem.W.subIn K (.ref B2) (.ref B2) = some true)
    (dno0_2 : PySem.W.subIn K (.ref B0) (.ref B2) = some false)
    (dno0_1 : PySem.W.subIn K (.ref B0) (.ref B1) = some false)
    (dno2_0 : PySem.W.subIn K (.ref B2) (.ref B0) = some false)
    (dno2_1 : PySem.W.subIn K (.ref B2) (.ref B1) = some false)
    (dno1_0 : PySem.W.subIn K (.ref B1) (.ref B0) = some false)
    (dno1_2 : PySem.W.subIn K (.ref B1) (.ref B2) = some false)
    (pg : PySem.W.plainGet K C Str.empty = true)
    (hd : PySem.W.hasDictIn K C = true)
    (po : PySem.W.plainOver K C = true)
    (sa : PySem.W.findIn K (.ref C) "__setattr__" = some (some (.builtin "object.__setattr__")))
    (mk : PySem.W.makesIn K C = true)
    (kc : PySem.W.keepIn K (.ref C) = true)
    (tha : PySem.W.findIn K (.ref C) "__class__" = some (some (.builtin "object.__class__")))
    (thn : PySem.W.specialIn K (.builtin "object.__class__") "__get__" = some (some (.builtin "getset_descriptor.__get__")))
    (thk : PySem.W.takesIn K (.builtin "object.__class__") = some true)
    (thm : PySem.W.mroIn K C (.type "object") = some true)
    (tne : PySem.W.findIn K (.ref C) "__ne__" = some (some (.builtin "object.__ne__")))
    (n_rows : PySem.W.findIn K (.ref C) "rows" = some none)
    (n_size : PySem.W.findIn K (.ref C) "size" = some none)
    (kI : PySem.W.mroIn K C (.type "int") = some false)
    (kB : PySem.W.mroIn K C (.type "bool") = some false)
    (kT : PySem.W.mroIn K C (.type "tuple") = some false)
    (kS : PySem.W.mroIn K C (.type "str") = some false)
    (kL : PySem.W.mroIn K C (.type "list") = some false)
    (mr : PySem.W.nsIn K mainGlobals "MOST_ROWS" = some (some (.int 12 tk)))
    (z_len : PySem.W.nsIn K mainGlobals "len" = some none)
    (z_list : PySem.W.nsIn K mainGlobals "list" = some none)
    (z_range : PySem.W.nsIn K mainGlobals "range" = some none)
    (z_tuple : PySem.W.nsIn K mainGlobals "tuple" = some none)
    (z_sorted : PySem.W.nsIn K mainGlobals "sorted" = some none)
    (z_int : PySem.W.nsIn K mainGlobals "int" = some none)
    (z_min : PySem.W.nsIn K mainGlobals "min" = some none)
    (z_isinstance : PySem.W.nsIn K mainGlobals "isinstance" = some none)
    (z_all : PySem.W.nsIn K mainGlobals "all" = some none)
    (z_enumerate : PySem.W.nsIn K mainGlobals "enumerate" = some none)
    (z_zip : PySem.W.nsIn K mainGlobals "zip" = some none)
    (z_set : PySem.W.nsIn K mainGlobals "set" = some none)
    (z_repr : PySem.W.nsIn K mainGlobals "repr" = some none)
    (z_str : PySem.W.nsIn K mainGlobals "str" = some none)
    (z_bool : PySem.W.nsIn K mainGlobals "bool" = some none)
    (z_any : PySem.W.nsIn K mainGlobals "any" = some none) :
    ∃ fd : FuncData, (∀ (s : Shared) (v : Value), BindsTo s fd ⟨[v], []⟩ [("script", v)]) ∧ ∀ base : Heap, K.In base → base.Ns mainGlobals mg → FnG l.prog w K mg base 9 fa fd ["script"] (spLaw K) := by
  have e := hfa.symm.trans (PySem.W.mg_of X G aL)
  cases e
  have T : Tx mg := ⟨PySem.W.mg_none_of X G z_len, PySem.W.mg_none_of X G z_list, PySem.W.mg_none_of X G z_range, PySem.W.mg_none_of X G z_tuple, PySem.W.mg_none_of X G z_sorted, PySem.W.mg_none_of X G z_int, PySem.W.mg_none_of X G z_min, PySem.W.mg_none_of X G z_isinstance, PySem.W.mg_none_of X G z_all, PySem.W.mg_none_of X G z_enumerate, PySem.W.mg_none_of X G z_zip, PySem.W.mg_none_of X G z_set, PySem.W.mg_none_of X G z_repr, PySem.W.mg_none_of X G z_str, PySem.W.mg_none_of X G z_bool⟩
  have tc : TC K C := ⟨⟨pg, hd, po, sa⟩, tha, thn, thk, thm, tne, n_rows, n_size, kit_own (by decide +kernel) kI, kit_own (by decide +kernel) kB, kit_own (by decide +kernel) kT, kit_own (by decide +kernel) kS, kit_own (by decide +kernel) kL⟩
  exact ⟨PySem.W.fnOf "law" "law" (defArgs s_law) (defBody s_law) (defScope s_law) .none kV3 dc3 pm3 an3 cd3 ct3, fun s v => .of_eq rfl, fun base _ _ =>
    compose T tc (PySem.W.mg_none_of X G z_any) (PySem.W.mg_of X G aC) (PySem.W.mg_of X G mr) ⟨PySem.W.mg_of X G aDE, PySem.W.mg_none_of X G aVE, (all_cons (PySem.W.mg_of X G aB0) (all_cons (PySem.W.mg_of X G aB2) (all_cons (PySem.W.mg_of X G aB1) all_nil))), (all_cons (exm_own deC dsC dtC dbC0) (all_cons (exm_own deC dsC dtC dbC2) (all_cons (exm_own deC dsC dtC dbC1) all_nil))), (all_cons ⟨xis0, xga0, xgg0, xeC0, xca0, thn, thk, xmo0⟩ (all_cons ⟨xis2, xga2, xgg2, xeC2, xca2, thn, thk, xmo2⟩ (all_cons ⟨xis1, xga1, xgg1, xeC1, xca1, thn, thk, xmo1⟩ all_nil))), (all_cons (all_cons (kit_self.trans (congrArg some (decide_eq_true rfl).symm)) (all_cons ((kit_other xis2 xtC2 dno0_2 dss2).trans (congrArg some (decide_eq_false (show ¬ (("NoNumber" : Str) = "NoNumbers") by decide +kernel)).symm)) (all_cons ((kit_other xis1 xtC1 dno0_1 dss1).trans (congrArg some (decide_eq_false (show ¬ (("NoNumber" : Str) = "NoRing") by decide +kernel)).symm)) all_nil))) (all_cons (all_cons ((kit_other xis0 xtC0 dno2_0 dss0).trans (congrArg some (decide_eq_false (show ¬ (("NoNumbers" : Str) = "NoNumber") by decide +kernel)).symm)) (all_cons (kit_self.trans (congrArg some (decide_eq_true rfl).symm)) (all_cons ((kit_other xis1 xtC1 dno2_1 dss1).trans (congrArg some (decide_eq_false (show ¬ (("NoNumbers" : Str) = "NoRing") by decide +kernel)).symm)) all_nil))) (all_cons (all_cons ((kit_other xis0 xtC0 dno1_0 dss0).trans (congrArg some (decide_eq_false (show ¬ (("NoRing" : Str) = "NoNumber") by decide +kernel)).symm)) (all_cons ((kit_other xis2 xtC2 dno1_2 dss2).trans (congrArg some (decide_eq_false (show ¬ (("NoRing" : Str) = "NoNumbers") by decide +kernel)).symm)) (all_cons (kit_self.trans (congrArg some (decide_eq_true rfl).symm)) all_nil))) all_nil))), (all_cons (kit_own (by decide +kernel) xmv0) (all_cons (kit_own (by decide +kernel) xmv2) (all_cons (kit_own (by decide +kernel) xmv1) all_nil)))⟩ ⟨⟨nm0, q0, N0, bs0, _, sn0, sub0, ab0, col0, dd0, m00, m10, m20, m30, m50, xL0, (show PySem.HandSPX.refsVE [.type "ValueError", .type "Exception", .type "BaseException", .type "object"] = true by decide +kernel)⟩, xsa0, xeC0, xtC0, xkC0⟩ (PySem.W.mg_of X G aB0) xiB0 xtf0 (fun_mk (st := s_NoNumber___init) lX0 cX0 kX0) ⟨⟨nm1, q1, N1, bs1, _, sn1, sub1, ab1, col1, dd1, m01, m11, m21, m31, m51, xL1, (show PySem.HandSPX.refsVE [.type "ValueError", .type "Exception", .type "BaseException", .type "object"] = true by decide +kernel)⟩, xsa1, xeC1, xtC1, xkC1⟩ (PySem.W.mg_of X G aB1) xiB1 xtf1 (fun_mk (st := s_NoRing___init) lX1 cX1 kX1) ⟨mk, aI, iI, kc⟩ (fun_mk (st := s_Table___init) l1 c1 k1) aE iE (fun_mk (st := s_Table___eq) l2 c2 k2)
      (at_mk (ps := ["thing"]) X G a4 l4 c4 k4 fun _ _ _ _ _ _ us hl => match us, hl with | [_], _ => rfl)
      (at_mk (ps := ["bound", "thing"]) X G a5 l5 c5 k5 fun _ _ _ _ _ _ us hl => match us, hl with | [_, _], _ => rfl)
      (at_mk (ps := ["bound", "thing"]) X G a6 l6 c6 k6 fun _ _ _ _ _ _ us hl => match us, hl with | [_, _], _ => rfl)
      (at_mk (ps := ["bound", "thing"]) X G a7 l7 c7 k7 fun _ _ _ _ _ _ us hl => match us, hl with | [_, _], _ => rfl)
      (at_mk (ps := ["rows"]) X G a8 l8 c8 k8 fun _ _ _ _ _ _ us hl => match us, hl with | [_], _ => rfl)
      (at_mk (ps := ["script"]) X G a9 l9 c9 k9 fun _ _ _ _ _ _ us hl => match us, hl with | [_], _ => rfl)
      (at_mk (ps := ["tape", "size"]) X G a10 l10 c10 k10 fun _ _ _ _ _ _ us hl => match us, hl with | [_, _], _ => rfl)
      (at_mk (ps := ["tape", "many"]) X G a11 l11 c11 k11 fun _ _ _ _ _ _ us hl => match us, hl with | [_, _], _ => rfl)
      (at_mk (ps := ["tape", "rows"]) X G a12 l12 c12 k12 fun _ _ _ _ _ _ us hl => match us, hl with | [_, _], _ => rfl)
      (at_mk (ps := ["tape", "most"]) X G a13 l13 c13 k13 fun _ _ _ _ _ _ us hl => match us, hl with | [_, _], _ => rfl)
      (at_mk (ps := ["tape", "many"]) X G a14 l14 c14 k14 fun _ _ _ _ _ _ us hl => match us, hl with | [_, _], _ => rfl)
      (at_mk (ps := ["tape", "most"]) X G a15 l15 c15 k15 fun _ _ _ _ _ _ us hl => match us, hl with | [_, _], _ => rfl)
      (at_mk (ps := ["rows"]) X G a16 l16 c16 k16 fun _ _ _ _ _ _ us hl => match us, hl with | [_], _ => rfl)
      (at_mk (ps := ["tape", "most"]) X G a17 l17 c17 k17 fun _ _ _ _ _ _ us hl => match us, hl with | [_, _], _ => rfl)
      (at_mk (ps := ["tape"]) X G a18 l18 c18 k18 fun _ _ _ _ _ _ us hl => match us, hl with | [_], _ => rfl)
      (at_mk (ps := ["rows"]) X G a19 l19 c19 k19 fun _ _ _ _ _ _ us hl => match us, hl with | [_], _ => rfl)
      (at_mk (ps := ["rows"]) X G a20 l20 c20 k20 fun _ _ _ _ _ _ us hl => match us, hl with | [_], _ => rfl)
      (at_mk (ps := ["rows", "live", "piece"]) X G a21 l21 c21 k21 fun _ _ _ _ _ _ us hl => match us, hl with | [_, _, _], _ => rfl)
      (at_mk (ps := ["held", "owner", "came", "thing"]) X G a22 l22 c22 k22 fun _ _ _ _ _ _ us hl => match us, hl with | [_, _, _, _], _ => rfl)
      (at_mk (ps := ["rows", "held", "owner", "person"]) X G a23 l23 c23 k23 fun _ _ _ _ _ _ us hl => match us, hl with | [_, _, _, _], _ => rfl)
      (at_mk (ps := ["rows"]) X G a24 l24 c24 k24 fun _ _ _ _ _ _ us hl => match us, hl with | [_], _ => rfl)
      (at_mk (ps := ["held"]) X G a25 l25 c25 k25 fun _ _ _ _ _ _ us hl => match us, hl with | [_], _ => rfl)
      (at_mk (ps := ["rows", "held"]) X G a26 l26 c26 k26 fun _ _ _ _ _ _ us hl => match us, hl with | [_, _], _ => rfl)
      (at_mk (ps := ["rows"]) X G a27 l27 c27 k27 fun _ _ _ _ _ _ us hl => match us, hl with | [_], _ => rfl)
      (at_mk (ps := ["table"]) X G a28 l28 c28 k28 fun _ _ _ _ _ _ us hl => match us, hl with | [_], _ => rfl)
      (at_mk (ps := ["rows"]) X G a29 l29 c29 k29 fun _ _ _ _ _ _ us hl => match us, hl with | [_], _ => rfl)
      (at_mk (ps := ["live", "people"]) X G a30 l30 c30 k30 fun _ _ _ _ _ _ us hl => match us, hl with | [_, _], _ => rfl)
      (at_mk (ps := ["live", "people"]) X G a31 l31 c31 k31 fun _ _ _ _ _ _ us hl => match us, hl with | [_, _], _ => rfl)
      (at_mk (ps := ["table"]) X G a32 l32 c32 k32 fun _ _ _ _ _ _ us hl => match us, hl with | [_], _ => rfl)
      (at_mk (ps := ["live", "person", "thing"]) X G a33 l33 c33 k33 fun _ _ _ _ _ _ us hl => match us, hl with | [_, _, _], _ => rfl)
      (at_mk (ps := ["live", "person", "thing"]) X G a34 l34 c34 k34 fun _ _ _ _ _ _ us hl => match us, hl with | [_, _, _], _ => rfl)
      (at_mk (ps := ["live", "start"]) X G a35 l35 c35 k35 fun _ _ _ _ _ _ us hl => match us, hl with | [_, _], _ => rfl)
      (at_mk (ps := ["table", "number"]) X G a36 l36 c36 k36 fun _ _ _ _ _ _ us hl => match us, hl with | [_, _], _ => rfl)
      (at_mk (ps := ["table", "number"]) X G a37 l37 c37 k37 fun _ _ _ _ _ _ us hl => match us, hl with | [_, _], _ => rfl)
      (at_mk (ps := ["live", "people"]) X G a38 l38 c38 k38 fun _ _ _ _ _ _ us hl => match us, hl with | [_, _], _ => rfl)
      (at_mk (ps := []) X G a39 l39 c39 k39 fun _ _ _ _ _ _ us hl => match us, hl with | [], _ => rfl)
      (at_mk (ps := ["tape", "thing"]) X G a40 l40 c40 k40 fun _ _ _ _ _ _ us hl => match us, hl with | [_, _], _ => rfl)
      (fun_mk (st := s_law) l3 c3 k3)⟩
theorem walk {l : PySem.W.OpenLaw} {q : Program} {loose : List Str} {XP : (Str → Option Value) → Heap → Prop} {YP : World → Heap → Prop} {d : DefRec} {K : Params → PySem.W.Frag} (hn : l.most = some 63) (hdf : d.params.defaults = [])
    (hY : ∀ (w : World) (h : Heap), YP w h → (K w.params).In h)
    (F : ∀ (w : World) (mg : Str → Option Value) (fa : Addr) (h : Heap), (K w.params).In h → h.Ns mainGlobals mg → mg d.name = some (.ref fa) →
      ∃ fd : FuncData, (∀ (s : Shared) (u : Value), BindsTo s fd ⟨[u], []⟩ [("script", u)]) ∧ ∀ base : Heap, (K w.params).In base → base.Ns mainGlobals mg → FnG l.prog w (K w.params) mg base 9 fa fd ["script"] (spLaw (K w.params))) :
    PySem.W.WalkO q loose XP YP l.row.toRowW d [] (fun f vs => PySem.call f vs) :=
  walk_ofG (n := 63) (k := 9) (x := "script") (sp := fun w => spLaw (K w.params)) hn (by decide) hdf ⟨rfl, by decide, by decide⟩ hY F fun _ _ a ns hl _ hS => ⟨a, ns, rfl, hS, hl, fun _ => rfl⟩
end Fo

open PySem PySem.W PyProof.Rows in
set_option maxRecDepth 100000 in
set_option maxHeartbeats 0 in
theorem PySem.Challenge.cw_fullorring_k20_whole_kinds_of_pieces_and_holds : PySem.Challenge.rw_fullorring_k20_whole_kinds_of_pieces_and.Holds := by
  w_on; o_law; k_head; (case hw => w_witness2)
  k_fill
  refine Fo.walk (l := PySem.Challenge.rw_fullorring_k20_whole_kinds_of_pieces_and) rfl rfl (fun w h Y => PySem.W.kIn_of Y) ?F
  case F =>
    intro w mg fa h KX G hmg
    refine' Fo.all_mk KX G hmg ?aC ?aI ?iI ?l1 ?c1 ?k1 ?aE ?iE ?l2 ?c2 ?k2 ?aL ?l3 ?c3 ?k3 ?a4 ?l4 ?c4 ?k4 ?a5 ?l5 ?c5 ?k5 ?a6 ?l6 ?c6 ?k6 ?a7 ?l7 ?c7 ?k7 ?a8 ?l8 ?c8 ?k8 ?a9 ?l9 ?c9 ?k9 ?a10 ?l10 ?c10 ?k10 ?a11 ?l11 ?c11 ?k11 ?a12 ?l12 ?c12 ?k12 ?a13 ?l13 ?c13 ?k13 ?a14 ?l14 ?c14 ?k14 ?a15 ?l15 ?c15 ?k15 ?a16 ?l16 ?c16 ?k16 ?a17 ?l17 ?c17 ?k17 ?a18 ?l18 ?c18 ?k18 ?a19 ?l19 ?c19 ?k19 ?a20 ?l20 ?c20 ?k20 ?a21 ?l21 ?c21 ?k21 ?a22 ?l22 ?c22 ?k22 ?a23 ?l23 ?c23 ?k23 ?a24 ?l24 ?c24 ?k24 ?a25 ?l25 ?c25 ?k25 ?a26 ?l26 ?c26 ?k26 ?a27 ?l27 ?c27 ?k27 ?a28 ?l28 ?c28 ?k28 ?a29 ?l29 ?c29 ?k29 ?a30 ?l30 ?c30 ?k30 ?a31 ?l31 ?c31 ?k31 ?a32 ?l32 ?c32 ?k32 ?a33 ?l33 ?c33 ?k33 ?a34 ?l34 ?c34 ?k34 ?a35 ?l35 ?c35 ?k35 ?a36 ?l36 ?c36 ?k36 ?a37 ?l37 ?c37 ?k37 ?a38 ?l38 ?c38 ?k38 ?a39 ?l39 ?c39 ?k39 ?a40 ?l40 ?c40 ?k40 ?aDE ?aVE ?deC ?dsC ?dtC ?aB0 ?xL0 ?xsa0 ?xga0 ?xgg0 ?xca0 ?xmo0 ?xmv0 ?xis0 ?xiB0 ?xtf0 ?lX0 ?cX0 ?kX0 ?xkC0 ?xeC0 ?xtC0 ?dbC0 ?dss0 ?aB1 ?xL1 ?xsa1 ?xga1 ?xgg1 ?xca1 ?xmo1 ?xmv1 ?xis1 ?xiB1 ?xtf1 ?lX1 ?cX1 ?kX1 ?xkC1 ?xeC1 ?xtC1 ?dbC1 ?dss1 ?aB2 ?xL2 ?xsa2 ?xga2 ?xgg2 ?xca2 ?xmo2 ?xmv2 ?xis2 ?xeC2 ?xtC2 ?dbC2 ?dss2 ?dno0_2 ?dno0_1 ?dno2_0 ?dno2_1 ?dno1_0 ?dno1_2 ?pg ?hd ?po ?sa ?mk ?kc ?tha ?thn ?thk ?thm ?tne ?n_rows ?n_size ?kI ?kB ?kT ?kS ?kL ?mr ?z_len ?z_list ?z_range ?z_tuple ?z_sorted ?z_int ?z_min ?z_isinstance ?z_all ?z_enumerate ?z_zip ?z_set ?z_repr ?z_str ?z_bool ?z_any
    (case aC => k_is)
    (case aI => k_is)
    (case iI => k_is)
    (case l1 => k_is)
    (case c1 => k_is)
    (case k1 => k_is)
    (case aE => k_is)
    (case iE => k_is)
    (case l2 => k_is)
    (case c2 => k_is)
    (case k2 => k_is)
    (case aL => k_is)
    (case l3 => k_is)
    (case c3 => k_is)
    (case k3 => k_is)
    (case a4 => k_is)
    (case l4 => k_is)
    (case c4 => k_is)
    (case k4 => k_is)
    (case a5 => k_is)
    (case l5 => k_is)
    (case c5 => k_is)
    (case k5 => k_is)
    (case a6 => k_is)
    (case l6 => k_is)
    (case c6 => k_is)
    (case k6 => k_is)
    (case a7 => k_is)
    (case l7 => k_is)
    (case c7 => k_is)
    (case k7 => k_is)
    (case a8 => k_is)
    (case l8 => k_is)
    (case c8 => k_is)
    (case k8 => k_is)
    (case a9 => k_is)
    (case l9 => k_is)
    (case c9 => k_is)
    (case k9 => k_is)
    (case a10 => k_is)
    (case l10 => k_is)
    (case c10 => k_is)
    (case k10 => k_is)
    (case a11 => k_is)
    (case l11 => k_is)
    (case c11 => k_is)
    (case k11 => k_is)
    (case a12 => k_is)
    (case l12 => k_is)
    (case c12 => k_is)
    (case k12 => k_is)
    (case a13 => k_is)
    (case l13 => k_is)
    (case c13 => k_is)
    (case k13 => k_is)
    (case a14 => k_is)
    (case l14 => k_is)
    (case c14 => k_is)
    (case k14 => k_is)
    (case a15 => k_is)
    (case l15 => k_is)
    (case c15 => k_is)
    (case k15 => k_is)
    (case a16 => k_is)
    (case l16 => k_is)
    (case c16 => k_is)
    (case k16 => k_is)
    (case a17 => k_is)
    (case l17 => k_is)
    (case c17 => k_is)
    (case k17 => k_is)
    (case a18 => k_is)
    (case l18 => k_is)
    (case c18 => k_is)
    (case k18 => k_is)
    (case a19 => k_is)
    (case l19 => k_is)
    (case c19 => k_is)
    (case k19 => k_is)
    (case a20 => k_is)
    (case l20 => k_is)
    (case c20 => k_is)
    (case k20 => k_is)
    (case a21 => k_is)
    (case l21 => k_is)
    (case c21 => k_is)
    (case k21 => k_is)
    (case a22 => k_is)
    (case l22 => k_is)
    (case c22 => k_is)
    (case k22 => k_is)
    (case a23 => k_is)
    (case l23 => k_is)
    (case c23 => k_is)
    (case k23 => k_is)
    (case a24 => k_is)
    (case l24 => k_is)
    (case c24 => k_is)
    (case k24 => k_is)
    (case a25 => k_is)
    (case l25 => k_is)
    (case c25 => k_is)
    (case k25 => k_is)
    (case a26 => k_is)
    (case l26 => k_is)
    (case c26 => k_is)
    (case k26 => k_is)
    (case a27 => k_is)
    (case l27 => k_is)
    (case c27 => k_is)
    (case k27 => k_is)
    (case a28 => k_is)
    (case l28 => k_is)
    (case c28 => k_is)
    (case k28 => k_is)
    (case a29 => k_is)
    (case l29 => k_is)
    (case c29 => k_is)
    (case k29 => k_is)
    (case a30 => k_is)
    (case l30 => k_is)
    (case c30 => k_is)
    (case k30 => k_is)
    (case a31 => k_is)
    (case l31 => k_is)
    (case c31 => k_is)
    (case k31 => k_is)
    (case a32 => k_is)
    (case l32 => k_is)
    (case c32 => k_is)
    (case k32 => k_is)
    (case a33 => k_is)
    (case l33 => k_is)
    (case c33 => k_is)
    (case k33 => k_is)
    (case a34 => k_is)
    (case l34 => k_is)
    (case c34 => k_is)
    (case k34 => k_is)
    (case a35 => k_is)
    (case l35 => k_is)
    (case c35 => k_is)
    (case k35 => k_is)
    (case a36 => k_is)
    (case l36 => k_is)
    (case c36 => k_is)
    (case k36 => k_is)
    (case a37 => k_is)
    (case l37 => k_is)
    (case c37 => k_is)
    (case k37 => k_is)
    (case a38 => k_is)
    (case l38 => k_is)
    (case c38 => k_is)
    (case k38 => k_is)
    (case a39 => k_is)
    (case l39 => k_is)
    (case c39 => k_is)
    (case k39 => k_is)
    (case a40 => k_is)
    (case l40 => k_is)
    (case c40 => k_is)
    (case k40 => k_is)
    (case aDE => k_is)
    (case aVE => k_is)
    (case deC => k_is)
    (case dsC => k_is)
    (case dtC => k_is)
    (case aB0 => k_is)
    (case xL0 => k_is)
    (case xsa0 => k_is)
    (case xga0 => k_is)
    (case xgg0 => k_is)
    (case xca0 => k_is)
    (case xmo0 => k_is)
    (case xmv0 => k_is)
    (case xis0 => k_is)
    (case xiB0 => k_is)
    (case xtf0 => k_is)
    (case lX0 => k_is)
    (case cX0 => k_is)
    (case kX0 => k_is)
    (case xkC0 => k_is)
    (case xeC0 => k_is)
    (case xtC0 => k_is)
    (case dbC0 => k_is)
    (case dss0 => k_is)
    (case aB1 => k_is)
    (case xL1 => k_is)
    (case xsa1 => k_is)
    (case xga1 => k_is)
    (case xgg1 => k_is)
    (case xca1 => k_is)
    (case xmo1 => k_is)
    (case xmv1 => k_is)
    (case xis1 => k_is)
    (case xiB1 => k_is)
    (case xtf1 => k_is)
    (case lX1 => k_is)
    (case cX1 => k_is)
    (case kX1 => k_is)
    (case xkC1 => k_is)
    (case xeC1 => k_is)
    (case xtC1 => k_is)
    (case dbC1 => k_is)
    (case dss1 => k_is)
    (case aB2 => k_is)
    (case xL2 => k_is)
    (case xsa2 => k_is)
    (case xga2 => k_is)
    (case xgg2 => k_is)
    (case xca2 => k_is)
    (case xmo2 => k_is)
    (case xmv2 => k_is)
    (case xis2 => k_is)
    (case xeC2 => k_is)
    (case xtC2 => k_is)
    (case dbC2 => k_is)
    (case dss2 => k_is)
    (case dno0_2 => k_is)
    (case dno0_1 => k_is)
    (case dno2_0 => k_is)
    (case dno2_1 => k_is)
    (case dno1_0 => k_is)
    (case dno1_2 => k_is)
    (case pg => k_is)
    (case hd => k_is)
    (case po => k_is)
    (case sa => k_is)
    (case mk => k_is)
    (case kc => k_is)
    (case tha => k_is)
    (case thn => k_is)
    (case thk => k_is)
    (case thm => k_is)
    (case tne => k_is)
    (case n_rows => k_is)
    (case n_size => k_is)
    (case kI => k_is)
    (case kB => k_is)
    (case kT => k_is)
    (case kS => k_is)
    (case kL => k_is)
    (case mr => k_is)
    (case z_len => k_is)
    (case z_list => k_is)
    (case z_range => k_is)
    (case z_tuple => k_is)
    (case z_sorted => k_is)
    (case z_int => k_is)
    (case z_min => k_is)
    (case z_isinstance => k_is)
    (case z_all => k_is)
    (case z_enumerate => k_is)
    (case z_zip => k_is)
    (case z_set => k_is)
    (case z_repr => k_is)
    (case z_str => k_is)
    (case z_bool => k_is)
    (case z_any => k_is)
