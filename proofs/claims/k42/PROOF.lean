import PyProof.Rows.All
import Wide.All
import OpenK.AllK
import Wide.FinOn
import HandS.ForMost
import HandS.OwnEq
import HandS.SortInts
import HandS.TupAny
import HandS.IsInst
import HandS.Flow
import HandS.Zip
import HandS.TupSets
import KE.GoesEnum
import PyProof.InstNe
import HandS.Conv
import HandS.Star
import HandS.WideBits
import HandS.NoneIn
import HandS.DictComp
import HandS.Steps
import HandS.Sort
import PyProof.DictUpdate
import KE.SortData
import KE.KDictCopyH
import HandS.Walk
import HandS.DictTup
import HandS.Deep
import KE.DataFind
import KE.KDictKeyed
import KE.KeyNested
import HandS.Text
import HandS.Call
import KE.GoesEnumKw
import HandS.Nested
import KE.DataMinKey
import PyProof.DictDisplay
import KE.KNest
import KE.KNestM
import HandS.EndTab
import HandS.RaiseMore
import HandS.Evl
import HandS.SetFor
import HandS.Strs
import PyProof.Rows.SortShellAny
import PyProof.AutoSeq1
import HandS.ExcInit
import HandS.ExcIs
import HandS.ExcField
import HandS.ForExc
import KE.KExcIs
import HandS.Words
import KE.KRevSl
import HandS.Gcd
import HandS.TupMul
import HandS.EndBits
import PySem.Challenge.RW_fullorring_k42_whole_anew_in_every_turn
set_option Elab.async false
set_option maxRecDepth 100000
set_option maxHeartbeats 2000000
namespace PySem
open Sem (wp)
theorem meets_enum_newT (v : Value) (o : Obj) (HH : Heap → Prop) (B : Begins v o HH) :
    Meets (Builtin.«enumerate.__new__» ⟨[.type "enumerate", v], []⟩) (fun _ R s => HH s.heap ∧
      R (.ok (.ret (.ref (s.heap.push o).objs.size))) { s with heap := (s.heap.push o).push { cls := .type "enumerate", data := .fields #[.none, .bool false, .ref s.heap.objs.size, rawInt 0, .none, .none] } }) :=
  .of_wp fun prog w A R s h => by
    obtain ⟨hp, g, d, tk, os⟩ := s; obtain ⟨h1, h⟩ := h
    have hsub := sub_enumerate
    have q1 : ∀ {A' : Around} {E : Value → Shared → Prop} {Q : Value → Shared → Prop}, Q (.ref hp.objs.size) ⟨hp.push o, g, d, tk, os⟩ → wpAny (model prog w) A' (pyIter v) Q E ⟨hp, g, d, tk, os⟩ :=
      fun q => B.iter prog w _ _ ⟨hp, g, d, tk, os⟩ _ h1 q
    wp_walk using q1
    refine wpAny_stack_any fun st => wpAny_pure ?_
    split
    · rename_i c _ _ _ _ _
      cases (c == Value.type "enumerate")
      · wp_walk using q1
        exact ⟨_, rfl, h⟩
      · wp_walk using q1
        exact ⟨_, rfl, h⟩
    · wp_walk using q1
      exact ⟨_, rfl, h⟩
section
variable {prog : Program} {w : World} {A : Around} {E : Value → Shared → Prop} {s : Shared}
theorem call_enum_begins {v : Value} {o : Obj} {HH : Heap → Prop} {Q : Value → Shared → Prop} (B : Begins v o HH) (h1 : HH s.heap)
    (h : ∀ h', IsEnum h' (s.heap.objs.size + 1) s.heap.objs.size 0 .none → h'.get? s.heap.objs.size = some o → h'.objs.size = s.heap.objs.size + 2 →
      (∀ b o, s.heap.get? b = some o → h'.get? b = some o) → Q (.ref (s.heap.objs.size + 1)) { s with heap := h' }) :
    wpAny (model prog w) A (call (.type "enumerate") [v]) Q E s := by
  refine callType_new F.called_enumerate (by decide) (F.typeCall_enumerate_1 _) (F.newCall_enumerate_1 _) (fun obj => F.args_object_init_2 obj _) F.entry_enumerate_new
    (meets_enum_newT v o HH B) ⟨h1, ?_⟩
  have hz : (s.heap.push o).objs.size = s.heap.objs.size + 1 := Heap.size_push ..
  show _ ∧ _
  rw [hz]
  have he : IsEnum ((s.heap.push o).push { cls := .type "enumerate", data := .fields #[.none, .bool false, .ref s.heap.objs.size, rawInt 0, .none, .none] }) (s.heap.objs.size + 1) s.heap.objs.size 0 .none := by
    have := Heap.get?_push_size (s.heap.push o) (o := { cls := .type "enumerate", data := .fields #[.none, .bool false, .ref s.heap.objs.size, rawInt 0, .none, .none] }) rfl
    rw [hz] at this; exact this
  refine ⟨⟨_, he, rfl⟩, h _ he (Heap.get?_push_of_some _ (Heap.get?_push_size _ B.free)) (by rw [Heap.size_push, hz]) fun b o x => Heap.get?_push_of_some _ (Heap.get?_push_of_some _ x)⟩
end
end PySem
namespace L2
open PySem PySem.Spec PyProof.Rows
def IteT (K : PySem.W.Frag) (a : Addr) : It :=
  ⟨fun i H => ∃ (xs : List V) (x : V), SqT K H a xs ∧ xs[i]? = some x, fun i H v H' => ∃ T x, v = .ref T ∧ H T = none ∧ H' = upd H T (.tup [.int (i : Nat), x]) ∧ ∀ xs, SqT K H a xs → xs[i]? = some x, fun i H => ∃ xs : List V, SqT K H a xs ∧ xs.length ≤ i⟩
theorem turn_enumT {P : Program} {w : World} {K : PySem.W.Frag} {elts : List Expr} {kk : Nat} {tpos : Pos} (a e it : Addr) :
    Turn P w K (.Tuple elts kk tpos) (IteT K a) [e, it] e (fun i h => (∃ old, IsEnum h e it ((i : Nat) : Int) old) ∧ h.IsTupleIter it a i ∧ e ≠ it ∧ a ≠ it ∧ a ≠ e) where
  mem := by simp
  obj := fun i h st b hb => by
    obtain ⟨⟨old, he⟩, ⟨o, ho, hc, hd⟩, _⟩ := st
    have e' : b = e ∨ b = it := by simpa using hb
    rcases e' with z | z
    · rw [z]; exact ⟨_, he, fun v q => nomatch q⟩
    · rw [z]; exact ⟨o, ho, fun v q => by rw [hd] at q; cases q⟩
  keep := fun i h h' st k => let ⟨⟨old, he⟩, hi, hne⟩ := st; ⟨⟨old, k e (by simp) _ he⟩, hi.at fun o q => k it (by simp) o q, hne⟩
  item := by
    intro X hP hw hK hc i pins s σ H E I hf st hg
    subst hP hw hK
    obtain ⟨⟨old, he⟩, hit, hne, hai, hae⟩ := st
    obtain ⟨xs, x, hq, hx⟩ := hg
    obtain ⟨its, rv, p, hz⟩ := I.tuple hq
    obtain ⟨u, hu, ru⟩ := rv.get hx
    have hel : e < s.heap.objs.size := Heap.lt_size he
    have hil : it < s.heap.objs.size := by obtain ⟨_, q, _⟩ := hit; exact Heap.lt_size q
    have hilt : i < its.toArray.size := by
      have := (List.getElem?_eq_some_iff.mp hu).1
      simpa using this
    refine wpAny_pyNext_enum_itemD (Draws.tuple (A := X.A.in1) (I.ok.hd hc) it a hai its.toArray) he ⟨hit, p⟩ hilt hne (by simp; exact ⟨hne, fun q => hae q.symm⟩) fun x2 h' tk hP ho hst hT hsz hk => ?_
    have ex : x2 = u := by
      have hP' : its[i]? = some x2 := by simpa using hP
      rw [hu] at hP'
      exact (Option.some.inj hP').symm
    subst ex
    refine ⟨_, rfl, wpAny_letOwnedTupleGo_enum (s := { s with heap := h', toks := tk + 1 }) ho fun h'' he' sb => ?_⟩
    have hT2 : h''.get? s.heap.objs.size = some { cls := .type "tuple", data := .seq #[.int i tk, x2] } := (sb.2 _ (Nat.ne_of_gt hel)).trans hT
    have new : ObjOk X.prog X.w (upd H s.heap.objs.size (.tup [.int (i : Nat), x])) h'' s.heap.objs.size (.tup [.int (i : Nat), x]) :=
      ⟨by show 2 ≤ sizeLine; decide, [.int i tk, x2], .cons ⟨_, rfl⟩ (.cons ru .nil), ⟨_, hT2, rfl, _, rfl⟩⟩
    have I1 : Inv X pins σ (upd H s.heap.objs.size (.tup [.int (i : Nat), x])) { s with heap := h'', toks := tk + 1 } :=
      I.turnedNew (ch := [e, it]) (fun b ob hb q => (sb.2 b (fun z => hb (by simp [z]))).trans (hk b ob (fun z => hb (by simp [z])) (fun z => hb (by simp [z])) q)) hf (Nat.le_refl _) new
    refine ⟨.ref s.heap.objs.size, _, I1, rfl, ⟨_, x, rfl, I.hok.fresh (Nat.le_refl _), rfl, fun ys hy => by rw [I.tuple_inj hy hq]; exact hx⟩, ⟨⟨x2, ?_⟩, hst.1.at fun o q => (sb.2 it (Ne.symm hne)).trans q, hne, hai, hae⟩, fun b hb => ?_⟩
    · have e1 : ((i + 1 : Nat) : Int) = (i : Int) + 1 := by omega
      rw [e1]; exact he'
    · have hb' : b < s.heap.objs.size := by
        have e' : b = e ∨ b = it := by simpa using hb
        rcases e' with z | z
        · rw [z]; exact hel
        · rw [z]; exact hil
      rw [upd_ne (Nat.ne_of_lt hb')]
      exact (hf b hb).1
  done := by
    intro X hP hw hK hc i pins s σ H E I hf st hg
    subst hP hw hK
    obtain ⟨⟨old, he⟩, hit, hne, hai, hae⟩ := st
    obtain ⟨xs, hq, hx⟩ := hg
    obtain ⟨its, rv, p, hz⟩ := I.tuple hq
    obtain ⟨f0, f1, f2, f3, f4, f5⟩ := hf it (by simp)
    have hl := rv.length
    have D : Draws X.prog X.w X.A.in1 it [it, a] i (fun _ _ => True) (fun j h => j = i ∧ h.IsTupleIter it a i ∧ h.IsTuple a its.toArray) :=
      ⟨fun _ _ st => (let ⟨o, ho, _⟩ := st.2.1; ⟨o, ho⟩), fun _ _ _ st hk => ⟨st.1, st.2.1.at fun o e => hk it (by simp) o e, st.2.2.at fun o e => hk a (by simp) o e⟩,
        fun j s Q E hj st hQ => absurd st.1 (Nat.ne_of_lt hj), fun s Q E st hE => wpAny_nextOf_tuple_end (I.ok.hd hc) st.2.1 st.2.2 (by simp; omega) hE⟩
    exact wpAny_pyNext_enum_endD D he ⟨rfl, hit, p⟩ fun h' eb => ⟨rfl, I.turned (t' := s.toks) (fun b o hb q => eb b o hb q) f0 f1 f3 f4 f5⟩
  self := fun A i s Q E st h => let ⟨⟨_, he⟩, _⟩ := st; wpAny_pyIter_enum he h
def iEnumT (K : PySem.W.Frag) (ta : TA) : TI := fun σ H R => ta σ H fun vs H1 => ∃ a xs, vs = [.ref a] ∧ SqT K H1 a xs ∧ R (IteT K a) H1
theorem pi_enumT {X : Cx} {e : Expr} {ta : TA} {p pos tpos : Pos} {elts : List Expr} {kk : Nat} (hg : Gl X "enumerate") (hm : X.mg "enumerate" = none) (ha : PA X [e] ta) (hs : starEach [e] X.env = [(false, eval e X.env)] := by rfl) :
    PI X (.Tuple elts kk tpos) (.Call (.Name "enumerate" p) [e] [] pos) (iEnumT X.K ta) := by
  refine ⟨fun pins s σ H R I h => ?_⟩
  refine Call_ (ld_blt I hg hm boot_enumerate (PyProof.Rows.callWith_type1 (thn (ha.run pos pins s σ H _ I h) fun us s1 ⟨vs, H1, I1, r1, q1⟩ => ?_) hs rfl))
  obtain ⟨a, xs, ex, hq, q⟩ := q1
  subst ex
  cases r1 with
  | cons r rr =>
    cases rr
    cases r
    obtain ⟨its, rv, p', hz⟩ := I1.tuple hq
    have halt : a < s1.heap.objs.size := by obtain ⟨_, q, _⟩ := id p'; exact Heap.lt_size q
    refine call_enum_begins (begins_tuple a its.toArray) p' fun h' he hit hsz hk => wpAny_pyIter_enum he ?_
    have I2 : Inv X pins σ H1 { s1 with heap := h' } := I1.kept (t' := s1.toks) hk
    refine ⟨s1.heap.objs.size + 1, [s1.heap.objs.size + 1, s1.heap.objs.size], _, _, H1, rfl, I2, turn_enumT a (s1.heap.objs.size + 1) s1.heap.objs.size, ⟨⟨.none, he⟩, ⟨_, hit, rfl, rfl⟩, Nat.succ_ne_self _, Nat.ne_of_lt halt, Nat.ne_of_lt (Nat.lt_succ_of_lt halt)⟩, fun b hb => ?_, q⟩
    have e' : b = s1.heap.objs.size + 1 ∨ b = s1.heap.objs.size := by simpa using hb
    have hle : s1.heap.objs.size ≤ b := by
      rcases e' with z | z
      · rw [z]; exact Nat.le_add_right _ _
      · rw [z]; exact Nat.le_refl _
    exact I1.fpOk hle (I1.hok.fresh hle)
end L2
set_option maxRecDepth 100000
set_option maxHeartbeats 2000000
namespace Fo
open PySem PySem.Spec PyProof.Rows L2
structure At (K : PySem.W.Frag) (mg : Str → Option Value) (x : Str) (st : Stmt) (ps : List Str) : Prop where
  ex : ∃ f fd, mg x = some (.ref f) ∧ Fun K x x st f fd ∧ Binds K fd ps []
structure Dfn (P : Program) (w : World) (K : PySem.W.Frag) (mg : Str → Option Value) (base : Heap) (x : Str) (ps : List Str) (k : Nat) (sp : Sp) : Prop where
  ex : ∃ f fd, mg x = some (.ref f) ∧ PySem.W.keepIn K (.ref f) = true ∧ FnOk P w K mg base CX0 k f fd ps sp ∧ Binds K fd ps []
structure Tx (mg : Str → Option Value) : Prop where
  len : mg "len" = none
  list : mg "list" = none
  range : mg "range" = none
  tuple : mg "tuple" = none
  sorted : mg "sorted" = none
  int : mg "int" = none
  min : mg "min" = none
  isinstance : mg "isinstance" = none
  all : mg "all" = none
  enumerate : mg "enumerate" = none
  zip : mg "zip" = none
  set : mg "set" = none
  repr : mg "repr" = none
  str : mg "str" = none
  bool : mg "bool" = none
section
variable {P : Program} {w : World} {K : PySem.W.Frag} {mg : Str → Option Value} {base : Heap}
theorem At.ok {x : Str} {st : Stmt} {N ps : List Str} {k : Nat} {sp : Sp} (a : At K mg x st ps) (S : FnScope N ps (defScope st)) (len : ∀ vs H Q E, sp vs H Q E → vs.length = ps.length)
    (hbody : ∀ (f : Addr) (cdv : Value) (A : Around) (outer : List Env) (s : Shared) (H : Hp) (vs : List V) (Q : VK) (E : XK), Room k (A.deeper (envOfC x (defScope st) s.heap.objs.size f cdv)) → sp vs H Q E →
      ∃ t, PSs (cxOf CX0 P w K mg base N x (defScope st) f cdv A outer s H E).nox (defBody st) t ∧ t { nx := fun _ H' => Q .non H', rt := Q } (start N vs) H) : Dfn P w K mg base x ps (k + 1) sp := by
  obtain ⟨f, fd, hm, F, b⟩ := a.ex
  exact ⟨f, fd, hm, F.kp, F.ok S len (hbody f), b⟩
theorem pe_d {X : Cx} {x : Str} {ps : List Str} {k : Nat} {sp : Sp} {e : Expr} {es : List Expr} {t : TA} {p pos : Pos} (G : Dfn X.prog X.w X.K X.mg X.base x ps k sp) (hr : Room k X.A) (ha : PA X (e :: es) t) (hg : Gl X x := by rfl)
    (hdb : (x == ("__debug__" : Str)) = false := by decide) (he : starEach (e :: es) X.env = (false, eval e X.env) :: starEach es X.env := by rfl) (hpl : (backTo pos (starEach es X.env)).any (·.1) = false := by rfl) :
    PE X (.Call (.Name x p) (e :: es) [] pos) (tCall sp [] E0 t) := by
  obtain ⟨f, fd, hm, kp, F, b⟩ := G.ex
  exact pe_call F hr hg hm kp b .nil pass0 ha hdb he hpl
end
/-- all but what stands at t is kept -/
def Gr (t : Addr) (H H' : Hp) : Prop := ∀ a o, a ≠ t → H a = some o → H' a = some o
theorem Gr.refl {t : Addr} (H : Hp) : Gr t H H := fun _ _ _ h => h
theorem Gr.trans {t : Addr} {H H1 H2 : Hp} (a : Gr t H H1) (b : Gr t H1 H2) : Gr t H H2 := fun c o n h => b c o n (a c o n h)
theorem Gr.new {t : Addr} {H : Hp} {p : Addr} {o : HO} (h : H p = none) : Gr t H (upd H p o) := fun a u _ e => by
  rw [upd_ne (ne_of_none e h)]
  exact e
theorem Gr.put {t : Addr} {H : Hp} {o : HO} : Gr t H (upd H t o) := fun a u n e => by
  rw [upd_ne n]
  exact e
theorem Gr.of {t : Addr} {H H' : Hp} (e : Same H H') : Gr t H H' := fun a o _ h => e a o h
theorem Gr.free {t : Addr} {H H' : Hp} (g : Gr t H H') (ht : H' t ≠ none) {p : Addr} (h : H' p = none) : H p = none := by
  cases q : H p with
  | none => rfl
  | some o =>
    have hne : p ≠ t := fun z => ht (z ▸ h)
    rw [g p o hne q] at h
    cases h
theorem same_new {H : Hp} {p : Addr} {o : HO} (h : H p = none) : Same H (upd H p o) := fun a u e => by
  rw [upd_ne (ne_of_none e h)]
  exact e
/-- an object that H does not know may change -/
theorem same_mut {H H' : Hp} {p : Addr} {o : HO} (e : Same H H') (h : H p = none) : Same H (upd H' p o) := fun a u ha => by
  rw [upd_ne (ne_of_none ha h)]
  exact e a u ha
theorem sqT_same {K : PySem.W.Frag} {H H' : Hp} {a : Addr} {xs : List V} (e : Same H H') (h : SqT K H a xs) : SqT K H' a xs := by
  rcases h with (h | ⟨o, h⟩) | h
  · exact .inl (.inl (e _ _ h))
  · exact .inl (.inr ⟨o, e _ _ h⟩)
  · exact .inr h
def Tape (H : Hp) (t l : Addr) : Prop := ∃ (ns : List Int) (b c d e : Int), H t = some (.lst [.ref l, .int b, .int c, .int d, .int e]) ∧ H l = some (.lst (ns.map V.int)) ∧ 0 ≤ b
theorem ints_ne (ns : List Int) (l : Addr) (r : List V) : (HO.lst (ns.map V.int)) ≠ .lst (.ref l :: r) := by
  intro q
  cases ns with
  | nil => injection q with q; cases q
  | cons x r => injection q with q; injection q with q; cases q
theorem Tape.ne {H : Hp} {t l : Addr} (T : Tape H t l) : l ≠ t := by
  obtain ⟨ns, b, c, d, e, ht, hl, hb⟩ := T
  exact ne_of hl ht (ints_ne _ _ _)
theorem Tape.there {H : Hp} {t l : Addr} (T : Tape H t l) : H t ≠ none := by
  obtain ⟨ns, b, c, d, e, h, _⟩ := T
  rw [h]
  exact fun z => nomatch z
theorem Tape.keep {H H' : Hp} {t l : Addr} (T : Tape H t l) (g : Same H H') : Tape H' t l := by
  obtain ⟨ns, b, c, d, e, h, hl, hb⟩ := T
  exact ⟨ns, b, c, d, e, g _ _ h, g _ _ hl, hb⟩
/-- what is new is neither of the tape's two -/
theorem Tape.free {H : Hp} {t l a : Addr} (T : Tape H t l) (h : H a = none) : a ≠ t ∧ a ≠ l := by
  obtain ⟨ns, b, c, d, e, ht, hl, hb⟩ := T
  exact ⟨(ne_of_none ht h).symm, (ne_of_none hl h).symm⟩
theorem Tape.new {H : Hp} {t l a : Addr} {o : HO} (T : Tape H t l) (h : H a = none) : Tape (upd H a o) t l := T.keep (same_new h)
/-- other objects than the tape's own may change -/
theorem Tape.mut {H : Hp} {t l a : Addr} {u : HO} (T : Tape H t l) (n : a ≠ t ∧ a ≠ l) : Tape (upd H a u) t l := by
  obtain ⟨ns, b, c, d, e, ht, hl, hb⟩ := T
  exact ⟨ns, b, c, d, e, by rw [upd_ne n.1.symm]; exact ht, by rw [upd_ne n.2.symm]; exact hl, hb⟩
theorem Gr.fresh {t l : Addr} {H H' : Hp} (g : Gr t H H') (T : Tape H' t l) {p : Addr} (h : H' p = none) : H p = none := g.free T.there h
abbrev dI (ns : List Int) : PyData := .tuple (ns.map .int)
abbrev dR (rows : List (List Int)) : PyData := .tuple (rows.map dI)
theorem dpAll_ints {K : PySem.W.Frag} {H : Hp} : ∀ (ns : List Int), DpAll K H (ns.map V.int) (ns.map .int)
  | [] => .nil
  | n :: r => .cons (.int n) (dpAll_ints r)
theorem ints_dpAll {K : PySem.W.Frag} {H : Hp} : ∀ {ns : List Int} {vs : List V}, DpAll K H vs (ns.map .int) → vs = ns.map V.int
  | [], _, .nil => rfl
  | n :: r, _, .cons (.int _) h => by rw [ints_dpAll h]; rfl
theorem dp_tup {K : PySem.W.Frag} {H : Hp} {v : V} {ds : List PyData} (h : Dp K H v (.tuple ds)) : ∃ a xs, v = .ref a ∧ SqT K H a xs ∧ DpAll K H xs ds := by
  cases h with
  | tup h r => exact ⟨_, _, rfl, h, r⟩
theorem dp_row {K : PySem.W.Frag} {H : Hp} {v : V} {ns : List Int} (h : Dp K H v (dI ns)) : ∃ a, v = .ref a ∧ SqT K H a (ns.map V.int) := by
  obtain ⟨a, xs, e, h, r⟩ := dp_tup h
  rw [ints_dpAll r] at h
  exact ⟨a, e, h⟩
theorem dp_rowI {K : PySem.W.Frag} {H : Hp} {a : Addr} {ns : List Int} (h : SqT K H a (ns.map V.int)) : Dp K H (.ref a) (dI ns) := .tup h (dpAll_ints ns)
/-- tuples are not changed by what changes at t -/
theorem gr_T {t l : Addr} {K : PySem.W.Frag} {H H' : Hp} (g : Gr t H H') (T : Tape H t l) {a : Addr} {xs : List V} (h : SqT K H a xs) : SqT K H' a xs := by
  obtain ⟨ns, b, c, d, e, ht, hl, hb⟩ := T
  rcases h with (h | ⟨o, h⟩) | h
  · exact .inl (.inl (g _ _ (ne_of h ht (by intro z; cases z)) h))
  · exact .inl (.inr ⟨o, g _ _ (ne_of h ht (by intro z; cases z)) h⟩)
  · exact .inr h
structure Good (rows : List (List Int)) : Prop where
  pos : 1 ≤ rows.length
  asc : ∀ r ∈ rows, r.Pairwise (· < ·)
  rng : ∀ r ∈ rows, ∀ x ∈ r, 0 ≤ x ∧ x < (rows.length : Int)
inductive RowsT (K : PySem.W.Frag) (H : Hp) : List V → List (List Int) → Prop where
  | nil : RowsT K H [] []
  | cons {a : Addr} {vs : List V} {r : List Int} {rs : List (List Int)} : SqT K H a (r.map V.int) → RowsT K H vs rs → RowsT K H (.ref a :: vs) (r :: rs)
theorem rowsT_dp {K : PySem.W.Frag} {H : Hp} : ∀ {vs : List V} {rs : List (List Int)}, RowsT K H vs rs → DpAll K H vs (rs.map dI)
  | _, _, .nil => .nil
  | _, _, .cons h r => .cons (dp_rowI h) (rowsT_dp r)
theorem dp_rowsT {K : PySem.W.Frag} {H : Hp} : ∀ {rs : List (List Int)} {vs : List V}, DpAll K H vs (rs.map dI) → RowsT K H vs rs
  | [], _, .nil => .nil
  | r :: rs, _, .cons h t => by
    obtain ⟨a, rfl, q⟩ := dp_row h
    exact .cons q (dp_rowsT t)
theorem RowsT.same {K : PySem.W.Frag} {H H' : Hp} (g : Same H H') : ∀ {vs : List V} {rs : List (List Int)}, RowsT K H vs rs → RowsT K H' vs rs
  | _, _, .nil => .nil
  | _, _, .cons h r => .cons (sqT_same g h) (r.same g)
theorem RowsT.len {K : PySem.W.Frag} {H : Hp} : ∀ {vs : List V} {rs : List (List Int)}, RowsT K H vs rs → vs.length = rs.length
  | _, _, .nil => rfl
  | _, _, .cons _ r => by rw [List.length_cons, List.length_cons, r.len]
theorem RowsT.snoc {K : PySem.W.Frag} {H : Hp} {a : Addr} {r : List Int} (h : SqT K H a (r.map V.int)) : ∀ {vs : List V} {rs : List (List Int)}, RowsT K H vs rs → RowsT K H (vs ++ [.ref a]) (rs ++ [r])
  | _, _, .nil => .cons h .nil
  | _, _, .cons q t => .cons q (t.snoc h)
theorem RowsT.get {K : PySem.W.Frag} {H : Hp} : ∀ {vs : List V} {rs : List (List Int)} {i : Nat} {r : List Int}, RowsT K H vs rs → rs[i]? = some r → ∃ a, vs[i]? = some (.ref a) ∧ SqT K H a (r.map V.int)
  | _, _, _, _, .nil, e => by simp at e
  | _, _, 0, _, .cons h _, e => by simp at e; subst e; exact ⟨_, rfl, h⟩
  | _, _, i + 1, r, .cons _ t, e => by
    obtain ⟨a, h1, h2⟩ := t.get (i := i) (r := r) (by simpa using e)
    exact ⟨a, by simpa using h1, h2⟩
/-- rows that stand as a tuple at a -/
def RowsAt (K : PySem.W.Frag) (H : Hp) (v : V) (rows : List (List Int)) : Prop := ∃ a vs, v = .ref a ∧ SqT K H a vs ∧ RowsT K H vs rows
theorem RowsAt.same {K : PySem.W.Frag} {H H' : Hp} {v : V} {rows : List (List Int)} (h : RowsAt K H v rows) (g : Same H H') : RowsAt K H' v rows := by
  obtain ⟨a, vs, e, h1, h2⟩ := h
  exact ⟨a, vs, e, sqT_same g h1, h2.same g⟩
theorem RowsAt.dp {K : PySem.W.Frag} {H : Hp} {v : V} {rows : List (List Int)} (h : RowsAt K H v rows) : Dp K H v (dR rows) := by
  obtain ⟨a, vs, rfl, h1, h2⟩ := h
  exact .tup h1 (rowsT_dp h2)
theorem RowsAt.of {K : PySem.W.Frag} {H : Hp} {v : V} {rows : List (List Int)} (h : Dp K H v (dR rows)) : RowsAt K H v rows := by
  obtain ⟨a, vs, rfl, h1, h2⟩ := dp_tup h
  exact ⟨a, vs, rfl, h1, dp_rowsT h2⟩
theorem sorted_strict {l : List Int} (h : l.Pairwise (· ≤ ·)) (hn : l.Nodup) : l.Pairwise (· < ·) := by
  have := List.Pairwise.and h hn
  exact this.imp fun {a b} q => by
    have := q.1
    have := q.2
    omega
def rangeI (n : Int) : List Int := (List.range n.toNat).map fun (i : Nat) => (i : Int)
theorem rangeI_len (n : Int) : (rangeI n).length = n.toNat := by unfold rangeI; rw [List.length_map, List.length_range]
theorem rangeI_nodup (n : Int) : (rangeI n).Nodup := by
  unfold rangeI
  exact List.Pairwise.map _ (fun (a b : Nat) (h : a ≠ b) (q : (a : Int) = (b : Int)) => h (by omega)) List.nodup_range
theorem mem_rangeI {n x : Int} : x ∈ rangeI n ↔ 0 ≤ x ∧ x < n := by
  unfold rangeI
  rw [List.mem_map]
  constructor
  · rintro ⟨i, hi, rfl⟩
    have := List.mem_range.mp hi
    omega
  · intro h
    exact ⟨x.toNat, List.mem_range.mpr (by omega), by omega⟩
theorem rgV_rangeI (n : Int) : rgV 0 n = (rangeI n).map V.int := by
  unfold rgV rangeI
  rw [List.map_map, Int.sub_zero]
  apply List.map_congr_left
  intro i _
  show V.int (0 + (i : Int)) = V.int (i : Int)
  rw [Int.zero_add]
theorem map_eraseIdx' {α β : Type} (f : α → β) : ∀ (l : List α) (i : Nat), (l.map f).eraseIdx i = (l.eraseIdx i).map f
  | [], _ => rfl
  | _ :: _, 0 => rfl
  | x :: r, i + 1 => by
    show f x :: (r.map f).eraseIdx i = f x :: (r.eraseIdx i).map f
    rw [map_eraseIdx' f r i]
theorem inV_ints (x : Int) (ns : List Int) : inV (.int x) (ns.map V.int) = decide (x ∈ ns) := by
  induction ns with
  | nil => rfl
  | cons y r ih =>
    show (y == x || (r.map V.int).any fun z => eqV z (.int x)) = decide (x ∈ y :: r)
    have ih' : ((r.map V.int).any fun z => eqV z (.int x)) = decide (x ∈ r) := ih
    rw [ih']
    by_cases h : y = x
    · subst h
      simp
    · have h' : ¬ x = y := fun q => h q.symm
      simp [h, h']
theorem all_flat_ints (ns : List Int) : (ns.map V.int).all flatV = true := by
  rw [List.all_eq_true]
  intro x hx
  obtain ⟨n, _, rfl⟩ := List.mem_map.mp hx
  rfl
theorem seq_at {n : Nat} {k : Int} (h0 : 0 ≤ k) (h1 : k < n) : seqIndex? k n = some k.toNat := by
  have h : ixN n k = some k.toNat := by
    unfold ixN
    rw [if_pos h0, if_pos h1]
  exact (ixN_seq h).1
theorem nodup_of_lt {l : List Int} (h : l.Pairwise (· < ·)) : l.Nodup := h.imp fun {a b} q z => by omega
def rLenS (K : PySem.W.Frag) : List V → Hp → VK → Prop := fun xs H Q => ∃ p ys, xs = [.ref p] ∧ (SqL K H p ys ∨ SqT K H p ys) ∧ Q (.int ys.length) H
theorem c_len {X : Cx} : CallR X (.builtin "len") (rLenS X.K) := call_len_seq
def rListOf (K : PySem.W.Frag) : List V → Hp → VK → Prop := fun xs H Q => ∃ p ys, xs = [.ref p] ∧ (SqL K H p ys ∨ SqT K H p ys) ∧ ∀ l, H l = none → Q (.ref l) (upd H l (.lst ys))
theorem c_list {X : Cx} : CallR X (.type "list") (rListOf X.K) := call_list_of
def rTupOf (K : PySem.W.Frag) : List V → Hp → VK → Prop := fun xs H Q => ∃ p ys, xs = [.ref p] ∧ ((SqL K H p ys ∧ ∀ l, H l = none → Q (.ref l) (upd H l (.tup ys))) ∨ (SqT K H p ys ∧ Q (.ref p) H))
theorem c_tuple {X : Cx} : CallR X (.type "tuple") (rTupOf X.K) := call_tuple_of
def rIntOf : List V → Hp → VK → Prop := fun xs H Q => (∃ i, xs = [.int i] ∧ Q (.int i) H) ∨ ∃ k, xs = [.bl k] ∧ Q (.int (if k then 1 else 0)) H
theorem c_int {X : Cx} : CallR X (.type "int") rIntOf := call_int1
def rMin2 : List V → Hp → VK → Prop := fun xs H Q => ∃ i j, xs = [.int i, .int j] ∧ Q (.int (if j < i then j else i)) H
theorem c_min {X : Cx} (hc : X.calm = true) : CallR X (.builtin "min") rMin2 := call_min2 hc
theorem perm_erase {α : Type} : ∀ (l : List α) (i : Nat) (h : i < l.length), (l[i] :: l.eraseIdx i).Perm l
  | _ :: _, 0, _ => List.Perm.refl _
  | x :: r, i + 1, h => by
    have h' : i < r.length := by simpa using h
    show (r[i] :: x :: r.eraseIdx i).Perm (x :: r)
    exact (List.Perm.swap x r[i] _).trans ((perm_erase r i h').cons x)
theorem small_lt {n : Nat} (h : n ≤ 100000) : n < sizeLine := Nat.lt_of_le_of_lt h (by decide)
theorem small_le {n : Nat} (h : n ≤ 100000) : n ≤ sizeLine := Nat.le_trans h (by decide)
/-- ascending rows -/
theorem asc_of {row l : List Int} (hp : row.Perm l) (hs : row.Pairwise (· ≤ ·)) (hn : l.Nodup) : row.Pairwise (· < ·) := sorted_strict hs (hp.symm.nodup hn)
theorem nodup_snoc {row : List Int} {j : Int} (hp : row.Nodup) (h : j ∉ row) : (row ++ [j]).Nodup := by
  show (row ++ [j]).Pairwise (· ≠ ·)
  rw [List.pairwise_append]
  exact ⟨hp, List.pairwise_singleton _ _, fun a ha b hb q => by rw [List.mem_singleton.mp hb] at q; exact h (q ▸ ha)⟩
theorem map_snoc (row : List Int) (j : Int) : row.map V.int ++ [V.int j] = (row ++ [j]).map V.int := by rw [List.map_append]; rfl
/-- a list that changes is no row -/
theorem sqT_put {K : PySem.W.Frag} {H : Hp} {a f : Addr} {xs vs ws : List V} (h : SqT K H a xs) (e : H f = some (.lst vs)) : SqT K (upd H f (.lst ws)) a xs := by
  rcases h with (h | ⟨o, h⟩) | h
  · exact .inl (.inl (by rw [upd_ne (ne_of h e (by intro z; cases z))]; exact h))
  · exact .inl (.inr ⟨o, by rw [upd_ne (ne_of h e (by intro z; cases z))]; exact h⟩)
  · exact .inr h
theorem RowsT.put {K : PySem.W.Frag} {H : Hp} {f : Addr} {us ws : List V} (e : H f = some (.lst us)) : ∀ {vs : List V} {rs : List (List Int)}, RowsT K H vs rs → RowsT K (upd H f (.lst ws)) vs rs
  | _, _, .nil => .nil
  | _, _, .cons h r => .cons (sqT_put h e) (r.put e)
theorem row_len : ∀ {r : List Int} {lo hi : Int}, r.Pairwise (· < ·) → (∀ x ∈ r, lo ≤ x ∧ x < hi) → (r.length : Int) ≤ (hi - lo).toNat
  | [], lo, hi, _, _ => Int.natCast_nonneg _
  | x :: r, lo, hi, h, hb => by
    have h1 := hb x List.mem_cons_self
    have h2 := row_len (r := r) (lo := x + 1) (hi := hi) (List.pairwise_cons.mp h).2 fun y hy => by
      have := (List.pairwise_cons.mp h).1 y hy
      have := (hb y (List.mem_cons_of_mem _ hy)).2
      omega
    rw [List.length_cons]
    omega
end Fo
set_option maxRecDepth 100000
set_option maxHeartbeats 2000000
namespace PySem.W
open PySem PySem.Spec PyProof.Rows Builtin
end PySem.W
namespace Fo
open PySem PySem.Spec PyProof.Rows L2
/-- the class of the tables, by what the text's top leaves of it -/
structure TC (K : PySem.W.Frag) (C : Addr) : Prop where
  cl : Cls K C
  ha : PySem.W.findIn K (.ref C) "__class__" = some (some (.builtin "object.__class__"))
  hn : PySem.W.specialIn K (.builtin "object.__class__") "__get__" = some (some (.builtin "getset_descriptor.__get__"))
  htk : PySem.W.takesIn K (.builtin "object.__class__") = some true
  hm : PySem.W.mroIn K C (.type "object") = some true
  ne : PySem.W.findIn K (.ref C) "__ne__" = some (some (.builtin "object.__ne__"))
  nR : NoAttr K C "rows"
  nS : NoAttr K C "size"
  kI : PySem.W.kitOne K (.ref C) (.type "int") = some false
  kB : PySem.W.kitOne K (.ref C) (.type "bool") = some false
  kT : PySem.W.kitOne K (.ref C) (.type "tuple") = some false
  kS : PySem.W.kitOne K (.ref C) (.type "str") = some false
  kL : PySem.W.kitOne K (.ref C) (.type "list") = some false
theorem TC.ty {K : PySem.W.Frag} {C : Addr} (c : TC K C) {H : Hp} {a dx : Addr} {fs : List (Str × V)} (h : H a = some (.ins C dx fs)) : TyX K H (.ref a) (.ref C) := .base (.ins h c.cl c.ha c.hn c.htk c.hm)
theorem for_enumT {K : PySem.W.Frag} {a : Addr} {xs : List V} {g : TG} {tb : TS} {D : Ends} {σ : L2.St} {H : Hp} (Pv : Nat → L2.St → Hp → Prop) (h0 : Pv 0 σ H) (hl : ∀ i σ H, i ≤ xs.length → Pv i σ H → SqT K H a xs)
    (hs : ∀ i x σ H T, xs[i]? = some x → Pv i σ H → H T = none → g (.ref T) σ (upd H T (.tup [.int (i : Nat), x])) fun σ2 H2 => tb { D with nx := Pv (i + 1), ct := Pv (i + 1), bk := D.nx } σ2 H2) (hd : ∀ σ H, Pv xs.length σ H → D.nx σ H) :
    ∃ W : Nat → Nat → L2.St → Hp → Prop, (∃ m, W 0 m σ H) ∧ ∀ i m σ H, W i m σ H →
      ((IteT K a).stop i H ∧ D.nx σ H) ∨ ((IteT K a).go i H ∧ ∃ N : L2.St → Hp → Prop, (∀ σ' H', N σ' H' → ∃ m', m' < m ∧ W (i + 1) m' σ' H') ∧ ∀ x H', (IteT K a).yld i H x H' → g x σ H' fun σ2 H2 => tb { D with nx := N, ct := N, bk := D.nx } σ2 H2) := by
  refine ⟨fun i m σ H => m = xs.length - i ∧ i ≤ xs.length ∧ Pv i σ H, ⟨xs.length, by simp, Nat.zero_le _, h0⟩, ?_⟩
  rintro i m σ H ⟨rfl, hi, p⟩
  have q := hl i σ H hi p
  by_cases hlt : i < xs.length
  · refine .inr ⟨⟨xs, xs[i], q, by simp [hlt]⟩, Pv (i + 1), fun σ' H' p' => ⟨xs.length - (i + 1), by omega, rfl, hlt, p'⟩, fun x H' y => ?_⟩
    obtain ⟨T, x', rfl, nT, rfl, y⟩ := y
    exact hs i x' σ H T (y xs q) p nT
  · have e : i = xs.length := by omega
    subst e
    exact .inl ⟨⟨xs, q, Nat.le_refl _⟩, hd σ H p⟩
theorem lc_enumT {K : PySem.W.Frag} {a : Addr} {xs : List V} {g : TG} {tt : TT} {te : TE} {vs : List Nat} {σ : L2.St} {H1 : Hp} {D : Addr} {Qd : Hp → Prop} (Pv : Nat → Hp → Prop) (h0 : Pv 0 (upd H1 D (.lst []))) (hl : ∀ i H, i ≤ xs.length → Pv i H → SqT K H a xs)
    (hs : ∀ i x H T, xs[i]? = some x → Pv i H → H T = none → g (.ref T) (wipe σ vs) (upd H T (.tup [.int (i : Nat), x])) fun σ2 H2 => wipe σ2 vs = wipe σ vs ∧ tt σ2 H2 fun b H3 =>
      if b = true then te σ2 H3 fun y H4 => ∃ acc, H4 D = some (.lst acc) ∧ acc.length < sizeLine ∧ Pv (i + 1) (upd H4 D (.lst (acc ++ [y]))) else Pv (i + 1) H3) (hd : ∀ H, Pv xs.length H → Qd H) :
    ∃ W : Nat → Nat → Hp → Prop, (∃ m, W 0 m (upd H1 D (.lst []))) ∧ ∀ i m H, W i m H →
      ((IteT K a).stop i H ∧ Qd H) ∨ ((IteT K a).go i H ∧ ∃ Nx : Hp → Prop, (∀ H', Nx H' → ∃ m', m' < m ∧ W (i + 1) m' H') ∧ ∀ x H', (IteT K a).yld i H x H' → g x (wipe σ vs) H' fun σ2 H2 => wipe σ2 vs = wipe σ vs ∧ tt σ2 H2 fun b H3 =>
        if b = true then te σ2 H3 fun y H4 => ∃ acc, H4 D = some (.lst acc) ∧ acc.length < sizeLine ∧ Nx (upd H4 D (.lst (acc ++ [y]))) else Nx H3) := by
  refine ⟨fun i m H => m = xs.length - i ∧ i ≤ xs.length ∧ Pv i H, ⟨xs.length, by simp, Nat.zero_le _, h0⟩, ?_⟩
  rintro i m H ⟨rfl, hi, p⟩
  have q := hl i H hi p
  by_cases hlt : i < xs.length
  · refine .inr ⟨⟨xs, xs[i], q, by simp [hlt]⟩, Pv (i + 1), fun H' p' => ⟨xs.length - (i + 1), by omega, rfl, hlt, p'⟩, fun x H' y => ?_⟩
    obtain ⟨T, x', rfl, nT, rfl, y⟩ := y
    exact hs i x' H T (y xs q) p nT
  · have e : i = xs.length := by omega
    subst e
    exact .inl ⟨⟨xs, q, Nat.le_refl _⟩, hd H p⟩
theorem lc_zipT {K : PySem.W.Frag} {a b : Addr} {xs ys : List V} {g : TG} {tt : TT} {te : TE} {vs : List Nat} {σ : L2.St} {H1 : Hp} {D : Addr} {Qd : Hp → Prop} (hle : ys.length ≤ xs.length) (Pv : Nat → Hp → Prop) (h0 : Pv 0 (upd H1 D (.lst []))) (hl : ∀ i H, i ≤ ys.length → Pv i H → SqT K H a xs ∧ SqT K H b ys)
    (hs : ∀ i x y H T, xs[i]? = some x → ys[i]? = some y → Pv i H → H T = none → g (.ref T) (wipe σ vs) (upd H T (.tup [x, y])) fun σ2 H2 => wipe σ2 vs = wipe σ vs ∧ tt σ2 H2 fun c H3 =>
      if c = true then te σ2 H3 fun y H4 => ∃ acc, H4 D = some (.lst acc) ∧ acc.length < sizeLine ∧ Pv (i + 1) (upd H4 D (.lst (acc ++ [y]))) else Pv (i + 1) H3) (hd : ∀ H, Pv ys.length H → Qd H) :
    ∃ W : Nat → Nat → Hp → Prop, (∃ m, W 0 m (upd H1 D (.lst []))) ∧ ∀ i m H, W i m H →
      ((RZ.ItzT K a b).stop i H ∧ Qd H) ∨ ((RZ.ItzT K a b).go i H ∧ ∃ Nx : Hp → Prop, (∀ H', Nx H' → ∃ m', m' < m ∧ W (i + 1) m' H') ∧ ∀ x H', (RZ.ItzT K a b).yld i H x H' → g x (wipe σ vs) H' fun σ2 H2 => wipe σ2 vs = wipe σ vs ∧ tt σ2 H2 fun c H3 =>
        if c = true then te σ2 H3 fun y H4 => ∃ acc, H4 D = some (.lst acc) ∧ acc.length < sizeLine ∧ Nx (upd H4 D (.lst (acc ++ [y]))) else Nx H3) := by
  refine ⟨fun i m H => m = ys.length - i ∧ i ≤ ys.length ∧ Pv i H, ⟨ys.length, by simp, Nat.zero_le _, h0⟩, ?_⟩
  rintro i m H ⟨rfl, hi, p⟩
  obtain ⟨q1, q2⟩ := hl i H hi p
  by_cases hlt : i < ys.length
  · have hlt2 : i < xs.length := Nat.lt_of_lt_of_le hlt hle
    refine .inr ⟨⟨xs, ys, xs[i], ys[i], q1, q2, by simp [hlt2], by simp [hlt]⟩, Pv (i + 1), fun H' p' => ⟨ys.length - (i + 1), by omega, rfl, hlt, p'⟩, fun x H' y => ?_⟩
    obtain ⟨T, x', y', rfl, nT, rfl, z1, z2⟩ := y
    exact hs i x' y' H T (z1 xs q1) (z2 ys q2) p nT
  · have e : i = ys.length := by omega
    subst e
    exact .inl ⟨⟨xs, ys, q1, q2, .inr (Nat.le_refl _)⟩, hd H p⟩
def isIntV : V → Bool
  | .int _ => true
  | _ => false
def numV (b : Int) : V → Bool
  | .int i => decide (0 ≤ i) && decide (i < b)
  | _ => false
/-- a thing whose kind is known: of a built-in type, or of the tables' class -/
def Th (K : PySem.W.Frag) (C : Addr) (H : Hp) (x : V) : Prop := ∃ t, TyX K H x t ∧ (∀ c, t = .ref c → c = C)
theorem tyX_same {K : PySem.W.Frag} {H H' : Hp} (e : Same H H') {x : V} {t : Value} (h : TyX K H x t) : TyX K H' x t := by
  cases h with
  | base b =>
    cases b with
    | non => exact .base .non
    | bl b => exact .base (.bl b)
    | int i => exact .base (.int i)
    | str x => exact .base (.str x)
    | flt x => exact .base (.flt x)
    | lst h => exact .base (.lst (e _ _ h))
    | frz h => exact .base (.frz (e _ _ h))
    | tup h => exact .base (.tup (e _ _ h))
    | dK h => exact .base (.dK (e _ _ h))
    | dT h => exact .base (.dT (e _ _ h))
    | ins h a b c d f => exact .base (.ins (e _ _ h) a b c d f)
  | byt b => exact .byt b
  | set h => exact .set (e _ _ h)
  | kList a b => exact .kList a b
  | kTuple a b => exact .kTuple a b
  | kDict a b => exact .kDict a b
  | fTuple h => exact .fTuple (e _ _ h)
  | fDict h => exact .fDict (e _ _ h)
theorem Th.same {K : PySem.W.Frag} {C : Addr} {H H' : Hp} (e : Same H H') {x : V} (h : Th K C H x) : Th K C H' x := by
  obtain ⟨t, a, b⟩ := h
  exact ⟨t, tyX_same e a, b⟩
theorem th_int {K : PySem.W.Frag} {C : Addr} {H : Hp} {i : Int} : Th K C H (.int i) := ⟨_, .base (.int i), fun _ q => nomatch q⟩
theorem th_kit {K : PySem.W.Frag} {C : Addr} (c : TC K C) {H : Hp} {x : V} (h : Th K C H x) : ∃ t b1 b2, TyX K H x t ∧ PySem.W.kitOne K t (.type "int") = some b1 ∧ PySem.W.kitOne K t (.type "bool") = some b2 ∧ (b1 && !b2) = isIntV x := by
  obtain ⟨t, ty, ht⟩ := h
  have go : ∀ (n : String) (b1 b2 : Bool), t = .type n → kitB n "int" = some b1 → kitB n "bool" = some b2 → (b1 && !b2) = isIntV x → ∃ t b1 b2, TyX K H x t ∧ PySem.W.kitOne K t (.type "int") = some b1 ∧ PySem.W.kitOne K t (.type "bool") = some b2 ∧ (b1 && !b2) = isIntV x :=
    fun n b1 b2 e h1 h2 h3 => ⟨t, b1, b2, ty, by rw [e]; exact kit_ty h1, by rw [e]; exact kit_ty h2, h3⟩
  cases ty with
  | base b =>
    cases b with
    | non => exact go "NoneType" false false rfl (by decide +kernel) (by decide +kernel) rfl
    | bl b => exact go "bool" true true rfl (by decide +kernel) (by decide +kernel) rfl
    | int i => exact go "int" true false rfl (by decide +kernel) (by decide +kernel) rfl
    | str x => exact go "str" false false rfl (by decide +kernel) (by decide +kernel) rfl
    | flt x => exact go "float" false false rfl (by decide +kernel) (by decide +kernel) rfl
    | lst h => exact go "list" false false rfl (by decide +kernel) (by decide +kernel) rfl
    | frz h => exact go "list" false false rfl (by decide +kernel) (by decide +kernel) rfl
    | tup h => exact go "tuple" false false rfl (by decide +kernel) (by decide +kernel) rfl
    | dK h => exact go "dict" false false rfl (by decide +kernel) (by decide +kernel) rfl
    | dT h => exact go "dict" false false rfl (by decide +kernel) (by decide +kernel) rfl
    | @ins a C' dx fs h a1 b1 c1 d1 f1 =>
      have e := ht C' rfl
      subst e
      exact ⟨_, false, false, .base (.ins h a1 b1 c1 d1 f1), c.kI, c.kB, rfl⟩
  | byt b => exact go "bytes" false false rfl (by decide +kernel) (by decide +kernel) rfl
  | set h => exact go "set" false false rfl (by decide +kernel) (by decide +kernel) rfl
  | kList a b => exact go "list" false false rfl (by decide +kernel) (by decide +kernel) rfl
  | kTuple a b => exact go "tuple" false false rfl (by decide +kernel) (by decide +kernel) rfl
  | kDict a b => exact go "dict" false false rfl (by decide +kernel) (by decide +kernel) rfl
  | fTuple h => exact go "tuple" false false rfl (by decide +kernel) (by decide +kernel) rfl
  | fDict h => exact go "dict" false false rfl (by decide +kernel) (by decide +kernel) rfl
theorem tyX_sqT {K : PySem.W.Frag} {H : Hp} {a : Addr} {xs : List V} (h : SqT K H a xs) : TyX K H (.ref a) (.type "tuple") := by
  rcases h with (h | ⟨o, h⟩) | ⟨o, its, n, h, hc, _⟩
  · exact .base (.tup h)
  · exact .fTuple h
  · exact .kTuple h hc
/-- a thing as the judges look at it: a tuple of things, or no tuple -/
inductive Tg (K : PySem.W.Frag) (C : Addr) (H : Hp) : V → Option (List V) → Prop
  | tup {a : Addr} {xs : List V} (h : SqT K H a xs) (hi : ∀ y ∈ xs, Th K C H y) (hz : xs.length ≤ 100000) : Tg K C H (.ref a) (some xs)
  | no {x : V} {t : Value} (ty : TyX K H x t) (hk : PySem.W.kitOne K t (.type "tuple") = some false) : Tg K C H x none
theorem Tg.same {K : PySem.W.Frag} {C : Addr} {H H' : Hp} (e : Same H H') {x : V} {o : Option (List V)} (h : Tg K C H x o) : Tg K C H' x o := by
  cases h with
  | tup h hi hz => exact .tup (sqT_same e h) (fun y hy => (hi y hy).same e) hz
  | no ty hk => exact .no (tyX_same e ty) hk
theorem Tg.ints {K : PySem.W.Frag} {C : Addr} {H : Hp} {a : Addr} {ns : List Int} (h : SqT K H a (ns.map V.int)) (hz : ns.length ≤ 100000) : Tg K C H (.ref a) (some (ns.map V.int)) := .tup h (fun y hy => by
  obtain ⟨n, _, rfl⟩ := List.mem_map.mp hy
  exact th_int) (by rw [List.length_map]; exact hz)
/-- whether it is an ascending tuple of numbers below b -/
def ascV (b : Int) : List V → Bool
  | [] => true
  | [x] => numV b x
  | x :: y :: r => numV b x && (match x, y with | .int i, .int j => decide (i < j) | _, _ => false) && ascV b (y :: r)
def ltV : V → V → Bool
  | .int i, .int j => decide (i < j)
  | _, _ => false
theorem ascV_eq (b : Int) : ∀ xs : List V, ascV b xs = (xs.all (numV b) && ((xs.zip (xs.drop 1)).all fun p => ltV p.1 p.2))
  | [] => rfl
  | [x] => by
    show numV b x = _
    simp [List.all]
  | x :: y :: r => by
    have ih := ascV_eq b (y :: r)
    have e : ascV b (x :: y :: r) = (numV b x && ltV x y && ascV b (y :: r)) := by
      cases x <;> cases y <;> rfl
    rw [e, ih]
    simp only [List.drop_succ_cons, List.drop_zero, List.zip_cons_cons, List.all_cons]
    cases numV b x <;> cases ltV x y <;> cases numV b y <;> cases (List.all r (numV b)) <;> simp
theorem ascV_ints {b : Int} : ∀ {ns : List Int}, ns.Pairwise (· < ·) → (∀ x ∈ ns, 0 ≤ x ∧ x < b) → ascV b (ns.map V.int) = true
  | [], _, _ => rfl
  | [x], _, h => by
    have := h x List.mem_cons_self
    show (decide (0 ≤ x) && decide (x < b)) = true
    simp [this.1, this.2]
  | x :: y :: r, hp, h => by
    have ih := ascV_ints (ns := y :: r) (List.pairwise_cons.mp hp).2 fun z hz => h z (List.mem_cons_of_mem _ hz)
    have h1 := h x List.mem_cons_self
    have h2 := (List.pairwise_cons.mp hp).1 y List.mem_cons_self
    show ((decide (0 ≤ x) && decide (x < b)) && decide (x < y) && ascV b ((y :: r).map V.int)) = true
    rw [ih]
    simp [h1.1, h1.2, h2]
theorem all_num_ints {b : Int} {xs : List V} (h : xs.all (numV b) = true) : ∃ ns : List Int, xs = ns.map V.int ∧ ∀ x ∈ ns, 0 ≤ x ∧ x < b := by
  induction xs with
  | nil => exact ⟨[], rfl, fun _ h => (by cases h)⟩
  | cons x r ih =>
    rw [List.all_cons, Bool.and_eq_true] at h
    obtain ⟨ns, e, hb⟩ := ih h.2
    cases x with
    | int i =>
      have h1 : (decide (0 ≤ i) && decide (i < b)) = true := h.1
      rw [Bool.and_eq_true, decide_eq_true_eq, decide_eq_true_eq] at h1
      refine ⟨i :: ns, by rw [e]; rfl, fun x hx => ?_⟩
      rcases List.mem_cons.mp hx with q | q
      · rw [q]; exact h1
      · exact hb x q
    | _ => exact absurd h.1 (by simp [numV])
def tf (v : V) (n : Nat) : List (Str × V) := putF "size" (.int (n : Int)) (putF "rows" v [])
theorem rs_ne : ¬ (("rows" : Str) = "size") := by decide +kernel
theorem tf_rows (v : V) (n : Nat) : (tf v n).lookup ("rows" : Str) = some v := by
  unfold tf
  rw [lookup_putF, if_neg rs_ne, lookup_putF, if_pos rfl]
theorem tf_size (v : V) (n : Nat) : (tf v n).lookup ("size" : Str) = some (.int (n : Int)) := by
  unfold tf
  rw [lookup_putF, if_pos rfl]
theorem tf_eq (v : V) (n : Nat) : tf v n = ([("rows", v), ("size", V.int (n : Int))] : List (Str × V)) := by
  show (if ("rows" : Str) = "size" then [(("rows" : Str), V.int (n : Int))] else (("rows" : Str), v) :: putF "size" (V.int (n : Int)) []) = _
  rw [if_neg rs_ne]
  all_goals rfl
theorem tf_put (v u : V) (n m : Nat) : putF "size" (.int (m : Int)) (putF "rows" u (tf v n)) = tf u m := by
  rw [tf_eq, tf_eq]
  have e1 : putF "rows" u [("rows", v), ("size", V.int (n : Int))] = ([("rows", u), ("size", V.int (n : Int))] : List (Str × V)) := by
    show (if ("rows" : Str) = "rows" then (("rows" : Str), u) :: [(("size" : Str), V.int (n : Int))] else _) = _
    rw [if_pos rfl]
  rw [e1]
  show (if ("rows" : Str) = "size" then _ else (("rows" : Str), u) :: (if ("size" : Str) = "size" then [(("size" : Str), V.int (m : Int))] else _)) = _
  rw [if_neg rs_ne, if_pos rfl]
def TableAt (K : PySem.W.Frag) (C : Addr) (H : Hp) (x : V) (rows : List (List Int)) : Prop := ∃ p dx v, x = .ref p ∧ H p = some (.ins C dx (tf v rows.length)) ∧ RowsAt K H v rows
theorem TableAt.same {K : PySem.W.Frag} {C : Addr} {H H' : Hp} {x : V} {rows : List (List Int)} (h : TableAt K C H x rows) (e : Same H H') : TableAt K C H' x rows := by
  obtain ⟨p, dx, v, ex, hp, hr⟩ := h
  exact ⟨p, dx, v, ex, e _ _ hp, hr.same e⟩
/-- what changes at an instance is no tuple -/
theorem sqT_ins {K : PySem.W.Frag} {H H' : Hp} {a p C dx : Addr} {fs : List (Str × V)} {xs : List V} (h : SqT K H a xs) (e : H p = some (.ins C dx fs)) (k : ∀ b o, b ≠ p → H b = some o → H' b = some o) : SqT K H' a xs := by
  rcases h with (h | ⟨o, h⟩) | h
  · exact .inl (.inl (k _ _ (ne_of h e (by intro z; cases z)) h))
  · exact .inl (.inr ⟨o, k _ _ (ne_of h e (by intro z; cases z)) h⟩)
  · exact .inr h
theorem RowsT.ins {K : PySem.W.Frag} {H H' : Hp} {p C dx : Addr} {fs : List (Str × V)} (e : H p = some (.ins C dx fs)) (k : ∀ b o, b ≠ p → H b = some o → H' b = some o) : ∀ {vs : List V} {rs : List (List Int)}, RowsT K H vs rs → RowsT K H' vs rs
  | _, _, .nil => .nil
  | _, _, .cons h r => .cons (sqT_ins h e k) (r.ins e k)
theorem RowsAt.ins {K : PySem.W.Frag} {H H' : Hp} {p C dx : Addr} {fs : List (Str × V)} {v : V} {rows : List (List Int)} (h : RowsAt K H v rows) (e : H p = some (.ins C dx fs)) (k : ∀ b o, b ≠ p → H b = some o → H' b = some o) : RowsAt K H' v rows := by
  obtain ⟨a, vs, ev, h1, h2⟩ := h
  exact ⟨a, vs, ev, sqT_ins h1 e k, h2.ins e k⟩
theorem PE.imp {X : Cx} {e : Expr} {t t' : TE} (h : PE X e t) (i : ∀ σ H Q, t' σ H Q → t σ H Q) : PE X e t' := ⟨fun pins s σ H Q I q => h.run pins s σ H Q I (i σ H Q q)⟩
/-- the class, ready to be called and compared -/
structure MkT (P : Program) (w : World) (K : PySem.W.Frag) (mg : Str → Option Value) (base : Heap) (C : Addr) (n m : Nat) (spI spE : Sp) : Prop where
  mgC : mg "Table" = some (.ref C)
  tc : TC K C
  ini : ∃ f fd, Mk K C f ∧ FnOk P w K mg base CX0 n f fd ["self", "rows"] spI ∧ Binds K fd ["self", "rows"] []
  eqm : ∃ f fd, FnOk P w K mg base CX0 m f fd ["self", "other"] spE ∧ Binds K fd ["self", "other"] [] ∧ PySem.W.findIn K (.ref C) "__eq__" = some (some (.ref f)) ∧ PySem.W.isFn K (.ref f) = true
def spInit (K : PySem.W.Frag) (C : Addr) : Sp := fun vs H Q _ => ∃ (p dx : Addr) (v : V) (rows : List (List Int)), vs = [.ref p, v] ∧ H p = some (.ins C dx []) ∧ Good rows ∧ rows.length ≤ 12 ∧ RowsAt K H v rows ∧ ∀ H' : Hp, (∀ b o, b ≠ p → H b = some o → H' b = some o) → H' p = some (.ins C dx (tf v rows.length)) → Q .non H'
def tTable (K : PySem.W.Frag) (C : Addr) (te : TE) : TE := fun σ H Q => te σ H fun v H1 => ∃ rows, Good rows ∧ rows.length ≤ 12 ∧ RowsAt K H1 v rows ∧ ∀ p dx H2, Same H1 H2 → H1 p = none → H2 p = some (.ins C dx (tf v rows.length)) → Q (.ref p) H2
def tUp (te : TE) : TE := fun σ H Q => ∃ Q' : VK, te σ H Q' ∧ ∀ v H1, Q' v H1 → Q v H1
theorem pe_up {X : Cx} {e : Expr} {te : TE} (h : PE X e te) : PE X e (tUp te) := ⟨fun pins s σ H Q I ⟨Q', h1, h2⟩ => thn (h.run pins s σ H Q' I h1) fun u s1 ⟨v, H1, I1, r, q⟩ => ⟨v, H1, I1, r, h2 v H1 q⟩⟩
theorem pe_makeTable {X : Cx} {C : Addr} {n m : Nat} {spE : Sp} {e : Expr} {te : TE} {p pos : Pos} (G : MkT X.prog X.w X.K X.mg X.base C n m (spInit X.K C) spE) (hr : Room (n + 1) X.A) (ha : PE X e te) (hg : Gl X "Table" := by rfl)
    (hst : starEach [e] X.env = (false, eval e X.env) :: starEach [] X.env := by rfl) : PE X (.Call (.Name "Table" p) [e] [] pos) (tTable X.K C te) := by
  obtain ⟨f, fd, M, F, b⟩ := G.ini
  have base := pe_make (X := X) (x := "Table") (p := p) (pos := pos) M F hr hg G.mgC b .nil (pass0 (X := X)) (pa_cons (pe_up ha) pa_nil hst) (by decide) hst rfl
  refine PE.imp base fun σ H Q h => ⟨_, h, fun v H1 ⟨rows, hG, hl, hR, k⟩ x dx nx ndx ne => ?_⟩
  have hdx : (upd (upd H1 dx (.own x)) x (.ins C dx [])) x = some (.ins C dx []) := upd_same
  have s1 : Same H1 (upd (upd H1 dx (.own x)) x (.ins C dx [])) := (same_new ndx).trans (same_new (by rw [upd_ne ne.symm]; exact nx))
  refine ⟨x, dx, v, rows, rfl, hdx, hG, hl, hR.same s1, fun H' k1 k2 => ⟨rfl, k x dx H' (fun b o e => ?_) nx k2⟩⟩
  have nb : b ≠ x := ne_of_none e nx
  exact k1 _ _ nb (s1 _ _ e)
/-- what == promises -/
def spEqT (K : PySem.W.Frag) (C : Addr) : Sp := fun vs H Q _ => ∃ (x y : V) (r1 r2 : List (List Int)), vs = [x, y] ∧ TableAt K C H x r1 ∧ TableAt K C H y r2 ∧ ∀ H', Same H H' → Q (.bl (decide (r1 = r2))) H'
theorem TableAt.tyx {K : PySem.W.Frag} {C : Addr} (c : TC K C) {H : Hp} {x : V} {rows : List (List Int)} (h : TableAt K C H x rows) : TyX K H x (.ref C) := by
  obtain ⟨p, dx, v, rfl, hp, _⟩ := h
  exact c.ty hp
theorem eqv_I (a b : List Int) : PyData.eqv (dI a) (dI b) = decide (a = b) := by
  show PyData.eqv (.tuple _) (.tuple _) = _
  rw [PyData.eqv]
  exact PySem.W.ked_eqvAll a b
theorem eqvAll_R : ∀ (r1 r2 : List (List Int)), PyData.eqvAll (r1.map dI) (r2.map dI) = decide (r1 = r2)
  | [], [] => by simp [PyData.eqvAll]
  | [], _ :: _ => by simp [PyData.eqvAll]
  | _ :: _, [] => by simp [PyData.eqvAll]
  | x :: xs, y :: ys => by
    rw [List.map_cons, List.map_cons, PyData.eqvAll, eqv_I, eqvAll_R xs ys, ← Bool.decide_and]
    exact decide_eq_decide.mpr (by rw [List.cons.injEq])
theorem eqv_R (r1 r2 : List (List Int)) : PyData.eqv (dR r1) (dR r2) = decide (r1 = r2) := by
  show PyData.eqv (.tuple _) (.tuple _) = _
  rw [PyData.eqv]
  exact eqvAll_R r1 r2
theorem lay_ints : ∀ ns : List Int, PyData.canLayAll0 (ns.map PyData.int) = true
  | [] => by rw [List.map_nil, PyData.canLayAll0]
  | n :: r => by rw [List.map_cons, PyData.canLayAll0, lay_ints r, PyData.canLay0]; rfl
theorem dep_ints : ∀ ns : List Int, PyData.depthAll (ns.map PyData.int) = 0
  | [] => by rw [List.map_nil, PyData.depthAll]
  | n :: r => by rw [List.map_cons, PyData.depthAll, dep_ints r, PyData.depth]; rfl
theorem lay_rows : ∀ rs : List (List Int), PyData.canLayAll0 (rs.map dI) = true
  | [] => by rw [List.map_nil, PyData.canLayAll0]
  | n :: r => by
    rw [List.map_cons, PyData.canLayAll0, lay_rows r]
    show (PyData.canLay0 (.tuple _) && true) = true
    rw [PyData.canLay0, lay_ints]
    rfl
theorem dep_rows : ∀ rs : List (List Int), PyData.depthAll (rs.map dI) ≤ 1
  | [] => by rw [List.map_nil, PyData.depthAll]; decide
  | n :: r => by
    rw [List.map_cons, PyData.depthAll]
    refine Nat.max_le.mpr ⟨?_, dep_rows r⟩
    show PyData.depth (.tuple _) ≤ 1
    rw [PyData.depth, dep_ints]
    decide
theorem sh_R (rs : List (List Int)) : SeqAt.shaped (dR rs) = true := by
  show SeqAt.shaped (.tuple _) = true
  unfold SeqAt.shaped
  rw [PyData.canLay0, PyData.depth, lay_rows, Bool.true_and]
  exact decide_eq_true (by have := dep_rows rs; omega)
end Fo
set_option maxRecDepth 100000
set_option maxHeartbeats 2000000
namespace Fo
open PySem PySem.Spec PyProof.Rows L2
def Sq (b : Bool) (K : PySem.W.Frag) (H : Hp) (a : Addr) (xs : List V) : Prop := match b with
  | true => SqL K H a xs
  | false => SqT K H a xs
theorem Sq.same {b : Bool} {K : PySem.W.Frag} {H H' : Hp} {a : Addr} {xs : List V} (h : Sq b K H a xs) (e : Same H H') : Sq b K H' a xs := by
  cases b with
  | true => exact e.seq h
  | false => exact sqT_same e h
theorem Sq.or {b : Bool} {K : PySem.W.Frag} {H : Hp} {a : Addr} {xs : List V} (h : Sq b K H a xs) : SqL K H a xs ∨ SqT K H a xs := by
  cases b with
  | true => exact .inl h
  | false => exact .inr h
def iAlt (w1 w2 : TI) : TI := fun σ H R => w1 σ H R ∨ w2 σ H R
def rAlt (r1 r2 : R2) : R2 := fun x y H Q => r1 x y H Q ∨ r2 x y H Q
section
variable {X : Cx}
theorem pi_alt {tg e : Expr} {w1 w2 : TI} (h1 : PI X tg e w1) (h2 : PI X tg e w2) : PI X tg e (iAlt w1 w2) := ⟨fun pins s σ H R I h => h.elim (h1.run pins s σ H R I) (h2.run pins s σ H R I)⟩
theorem ix_sq : IxR X (rAlt (rIxL X.K) (rIxT X.K)) := by
  intro ev es pins s σ H x y v u Q I rx ry h pl
  rcases h with h | h
  · exact ix_list ev es pins s σ H x y v u Q I rx ry h pl
  · exact ix_tup ev es pins s σ H x y v u Q I rx ry h pl
end
section
variable {K : PySem.W.Frag}
def ItS (b : Bool) (K : PySem.W.Frag) (a : Addr) : It := match b with
  | true => Itl K a
  | false => Itt K a
def ItES (b : Bool) (K : PySem.W.Frag) (a : Addr) : It := match b with
  | true => Ite K a
  | false => IteT K a
theorem alt_it {b : Bool} {a : Addr} {te : TE} {σ : L2.St} {H H1 : Hp} {R : It → Hp → Prop} {xs : List V} (ht : ∀ Q : VK, Q (.ref a) H1 → te σ H Q) (hq : Sq b K H1 a xs) (hR : R (ItS b K a) H1) : iAlt (iList K te) (iTup K te) σ H R := by
  cases b with
  | true => exact .inl (ht _ ⟨a, rfl, ⟨xs, hq⟩, hR⟩)
  | false => exact .inr (ht _ ⟨a, rfl, ⟨xs, hq⟩, hR⟩)
theorem alt_en {b : Bool} {a : Addr} {ta : TA} {σ : L2.St} {H H1 : Hp} {R : It → Hp → Prop} {xs : List V} (ht : ∀ Q : List V → Hp → Prop, Q [.ref a] H1 → ta σ H Q) (hq : Sq b K H1 a xs) (hR : R (ItES b K a) H1) : iAlt (iEnum K ta) (iEnumT K ta) σ H R := by
  cases b with
  | true => exact .inl (ht _ ⟨a, xs, rfl, hq, hR⟩)
  | false => exact .inr (ht _ ⟨a, xs, rfl, hq, hR⟩)
theorem alt_ix {b : Bool} {a : Addr} {i : Int} {v : V} {H : Hp} {Q : VK} {xs : List V} (hq : Sq b K H a xs) (h : atI xs i = some v) (q : Q v H) : rAlt (rIxL K) (rIxT K) (.ref a) (.int i) H Q := by
  cases b with
  | true => exact .inl ⟨a, xs, i, v, rfl, rfl, hq, h, q⟩
  | false => exact .inr ⟨a, xs, i, v, rfl, rfl, hq, h, q⟩
theorem for_sq {b : Bool} {a : Addr} {xs : List V} {g : TG} {tb : TS} {D : Ends} {σ : L2.St} {H : Hp} (Pv : Nat → L2.St → Hp → Prop) (h0 : Pv 0 σ H) (hl : ∀ i σ H, i ≤ xs.length → Pv i σ H → Sq b K H a xs)
    (hs : ∀ i x σ H, xs[i]? = some x → Pv i σ H → g x σ H fun σ2 H2 => tb { D with nx := Pv (i + 1), ct := Pv (i + 1), bk := D.nx } σ2 H2) (hd : ∀ σ H, Pv xs.length σ H → D.nx σ H) :
    ∃ W : Nat → Nat → L2.St → Hp → Prop, (∃ m, W 0 m σ H) ∧ ∀ i m σ H, W i m σ H →
      ((ItS b K a).stop i H ∧ D.nx σ H) ∨ ((ItS b K a).go i H ∧ ∃ N : L2.St → Hp → Prop, (∀ σ' H', N σ' H' → ∃ m', m' < m ∧ W (i + 1) m' σ' H') ∧ ∀ x H', (ItS b K a).yld i H x H' → g x σ H' fun σ2 H2 => tb { D with nx := N, ct := N, bk := D.nx } σ2 H2) := by
  cases b with
  | true => exact for_list Pv h0 hl hs hd
  | false => exact for_tup Pv h0 hl hs hd
theorem lc_sq {b : Bool} {a : Addr} {xs : List V} {g : TG} {tt : TT} {te : TE} {vs : List Nat} {σ : L2.St} {H1 : Hp} {D : Addr} {Qd : Hp → Prop} (Pv : Nat → Hp → Prop) (h0 : Pv 0 (upd H1 D (.lst []))) (hl : ∀ i H, i ≤ xs.length → Pv i H → Sq b K H a xs)
    (hs : ∀ i x H, xs[i]? = some x → Pv i H → g x (wipe σ vs) H fun σ2 H2 => wipe σ2 vs = wipe σ vs ∧ tt σ2 H2 fun c H3 =>
      if c = true then te σ2 H3 fun y H4 => ∃ acc, H4 D = some (.lst acc) ∧ acc.length < sizeLine ∧ Pv (i + 1) (upd H4 D (.lst (acc ++ [y]))) else Pv (i + 1) H3) (hd : ∀ H, Pv xs.length H → Qd H) :
    ∃ W : Nat → Nat → Hp → Prop, (∃ m, W 0 m (upd H1 D (.lst []))) ∧ ∀ i m H, W i m H →
      ((ItS b K a).stop i H ∧ Qd H) ∨ ((ItS b K a).go i H ∧ ∃ Nx : Hp → Prop, (∀ H', Nx H' → ∃ m', m' < m ∧ W (i + 1) m' H') ∧ ∀ x H', (ItS b K a).yld i H x H' → g x (wipe σ vs) H' fun σ2 H2 => wipe σ2 vs = wipe σ vs ∧ tt σ2 H2 fun c H3 =>
        if c = true then te σ2 H3 fun y H4 => ∃ acc, H4 D = some (.lst acc) ∧ acc.length < sizeLine ∧ Nx (upd H4 D (.lst (acc ++ [y]))) else Nx H3) := by
  cases b with
  | true => exact lc_list Pv h0 hl hs hd
  | false => exact lc_tup Pv h0 hl hs hd
theorem for_enumL {a : Addr} {xs : List V} {g : TG} {tb : TS} {D : Ends} {σ : L2.St} {H : Hp} (Pv : Nat → L2.St → Hp → Prop) (h0 : Pv 0 σ H) (hl : ∀ i σ H, i ≤ xs.length → Pv i σ H → SqL K H a xs)
    (hs : ∀ i x σ H T, xs[i]? = some x → Pv i σ H → H T = none → g (.ref T) σ (upd H T (.tup [.int (i : Nat), x])) fun σ2 H2 => tb { D with nx := Pv (i + 1), ct := Pv (i + 1), bk := D.nx } σ2 H2) (hd : ∀ σ H, Pv xs.length σ H → D.nx σ H) :
    ∃ W : Nat → Nat → L2.St → Hp → Prop, (∃ m, W 0 m σ H) ∧ ∀ i m σ H, W i m σ H →
      ((Ite K a).stop i H ∧ D.nx σ H) ∨ ((Ite K a).go i H ∧ ∃ N : L2.St → Hp → Prop, (∀ σ' H', N σ' H' → ∃ m', m' < m ∧ W (i + 1) m' σ' H') ∧ ∀ x H', (Ite K a).yld i H x H' → g x σ H' fun σ2 H2 => tb { D with nx := N, ct := N, bk := D.nx } σ2 H2) := by
  refine ⟨fun i m σ H => m = xs.length - i ∧ i ≤ xs.length ∧ Pv i σ H, ⟨xs.length, by simp, Nat.zero_le _, h0⟩, ?_⟩
  rintro i m σ H ⟨rfl, hi, p⟩
  have q := hl i σ H hi p
  by_cases hlt : i < xs.length
  · refine .inr ⟨⟨xs, xs[i], q, by simp [hlt]⟩, Pv (i + 1), fun σ' H' p' => ⟨xs.length - (i + 1), by omega, rfl, hlt, p'⟩, fun x H' y => ?_⟩
    obtain ⟨T, x', rfl, nT, rfl, y⟩ := y
    exact hs i x' σ H T (y xs q) p nT
  · have e : i = xs.length := by omega
    subst e
    exact .inl ⟨⟨xs, q, Nat.le_refl _⟩, hd σ H p⟩
theorem lc_enumL {a : Addr} {xs : List V} {g : TG} {tt : TT} {te : TE} {vs : List Nat} {σ : L2.St} {H1 : Hp} {D : Addr} {Qd : Hp → Prop} (Pv : Nat → Hp → Prop) (h0 : Pv 0 (upd H1 D (.lst []))) (hl : ∀ i H, i ≤ xs.length → Pv i H → SqL K H a xs)
    (hs : ∀ i x H T, xs[i]? = some x → Pv i H → H T = none → g (.ref T) (wipe σ vs) (upd H T (.tup [.int (i : Nat), x])) fun σ2 H2 => wipe σ2 vs = wipe σ vs ∧ tt σ2 H2 fun b H3 =>
      if b = true then te σ2 H3 fun y H4 => ∃ acc, H4 D = some (.lst acc) ∧ acc.length < sizeLine ∧ Pv (i + 1) (upd H4 D (.lst (acc ++ [y]))) else Pv (i + 1) H3) (hd : ∀ H, Pv xs.length H → Qd H) :
    ∃ W : Nat → Nat → Hp → Prop, (∃ m, W 0 m (upd H1 D (.lst []))) ∧ ∀ i m H, W i m H →
      ((Ite K a).stop i H ∧ Qd H) ∨ ((Ite K a).go i H ∧ ∃ Nx : Hp → Prop, (∀ H', Nx H' → ∃ m', m' < m ∧ W (i + 1) m' H') ∧ ∀ x H', (Ite K a).yld i H x H' → g x (wipe σ vs) H' fun σ2 H2 => wipe σ2 vs = wipe σ vs ∧ tt σ2 H2 fun b H3 =>
        if b = true then te σ2 H3 fun y H4 => ∃ acc, H4 D = some (.lst acc) ∧ acc.length < sizeLine ∧ Nx (upd H4 D (.lst (acc ++ [y]))) else Nx H3) := by
  refine ⟨fun i m H => m = xs.length - i ∧ i ≤ xs.length ∧ Pv i H, ⟨xs.length, by simp, Nat.zero_le _, h0⟩, ?_⟩
  rintro i m H ⟨rfl, hi, p⟩
  have q := hl i H hi p
  by_cases hlt : i < xs.length
  · refine .inr ⟨⟨xs, xs[i], q, by simp [hlt]⟩, Pv (i + 1), fun H' p' => ⟨xs.length - (i + 1), by omega, rfl, hlt, p'⟩, fun x H' y => ?_⟩
    obtain ⟨T, x', rfl, nT, rfl, y⟩ := y
    exact hs i x' H T (y xs q) p nT
  · have e : i = xs.length := by omega
    subst e
    exact .inl ⟨⟨xs, q, Nat.le_refl _⟩, hd H p⟩
theorem for_enS {b : Bool} {a : Addr} {xs : List V} {g : TG} {tb : TS} {D : Ends} {σ : L2.St} {H : Hp} (Pv : Nat → L2.St → Hp → Prop) (h0 : Pv 0 σ H) (hl : ∀ i σ H, i ≤ xs.length → Pv i σ H → Sq b K H a xs)
    (hs : ∀ i x σ H T, xs[i]? = some x → Pv i σ H → H T = none → g (.ref T) σ (upd H T (.tup [.int (i : Nat), x])) fun σ2 H2 => tb { D with nx := Pv (i + 1), ct := Pv (i + 1), bk := D.nx } σ2 H2) (hd : ∀ σ H, Pv xs.length σ H → D.nx σ H) :
    ∃ W : Nat → Nat → L2.St → Hp → Prop, (∃ m, W 0 m σ H) ∧ ∀ i m σ H, W i m σ H →
      ((ItES b K a).stop i H ∧ D.nx σ H) ∨ ((ItES b K a).go i H ∧ ∃ N : L2.St → Hp → Prop, (∀ σ' H', N σ' H' → ∃ m', m' < m ∧ W (i + 1) m' σ' H') ∧ ∀ x H', (ItES b K a).yld i H x H' → g x σ H' fun σ2 H2 => tb { D with nx := N, ct := N, bk := D.nx } σ2 H2) := by
  cases b with
  | true => exact for_enumL Pv h0 hl hs hd
  | false => exact for_enumT Pv h0 hl hs hd
theorem lc_enS {b : Bool} {a : Addr} {xs : List V} {g : TG} {tt : TT} {te : TE} {vs : List Nat} {σ : L2.St} {H1 : Hp} {D : Addr} {Qd : Hp → Prop} (Pv : Nat → Hp → Prop) (h0 : Pv 0 (upd H1 D (.lst []))) (hl : ∀ i H, i ≤ xs.length → Pv i H → Sq b K H a xs)
    (hs : ∀ i x H T, xs[i]? = some x → Pv i H → H T = none → g (.ref T) (wipe σ vs) (upd H T (.tup [.int (i : Nat), x])) fun σ2 H2 => wipe σ2 vs = wipe σ vs ∧ tt σ2 H2 fun c H3 =>
      if c = true then te σ2 H3 fun y H4 => ∃ acc, H4 D = some (.lst acc) ∧ acc.length < sizeLine ∧ Pv (i + 1) (upd H4 D (.lst (acc ++ [y]))) else Pv (i + 1) H3) (hd : ∀ H, Pv xs.length H → Qd H) :
    ∃ W : Nat → Nat → Hp → Prop, (∃ m, W 0 m (upd H1 D (.lst []))) ∧ ∀ i m H, W i m H →
      ((ItES b K a).stop i H ∧ Qd H) ∨ ((ItES b K a).go i H ∧ ∃ Nx : Hp → Prop, (∀ H', Nx H' → ∃ m', m' < m ∧ W (i + 1) m' H') ∧ ∀ x H', (ItES b K a).yld i H x H' → g x (wipe σ vs) H' fun σ2 H2 => wipe σ2 vs = wipe σ vs ∧ tt σ2 H2 fun c H3 =>
        if c = true then te σ2 H3 fun y H4 => ∃ acc, H4 D = some (.lst acc) ∧ acc.length < sizeLine ∧ Nx (upd H4 D (.lst (acc ++ [y]))) else Nx H3) := by
  cases b with
  | true => exact lc_enumL Pv h0 hl hs hd
  | false => exact lc_enumT Pv h0 hl hs hd
end
inductive RowsB (b : Bool) (K : PySem.W.Frag) (H : Hp) : List V → List (List Int) → Prop
  | nil : RowsB b K H [] []
  | cons {a : Addr} {vs : List V} {r : List Int} {rs : List (List Int)} : Sq b K H a (r.map V.int) → RowsB b K H vs rs → RowsB b K H (.ref a :: vs) (r :: rs)
theorem RowsB.same {b : Bool} {K : PySem.W.Frag} {H H' : Hp} (g : Same H H') : ∀ {vs : List V} {rs : List (List Int)}, RowsB b K H vs rs → RowsB b K H' vs rs
  | _, _, .nil => .nil
  | _, _, .cons h r => .cons (h.same g) (r.same g)
theorem RowsB.len {b : Bool} {K : PySem.W.Frag} {H : Hp} : ∀ {vs : List V} {rs : List (List Int)}, RowsB b K H vs rs → vs.length = rs.length
  | _, _, .nil => rfl
  | _, _, .cons _ r => by rw [List.length_cons, List.length_cons, r.len]
theorem RowsB.get {b : Bool} {K : PySem.W.Frag} {H : Hp} : ∀ {vs : List V} {rs : List (List Int)} {i : Nat} {v : V}, RowsB b K H vs rs → vs[i]? = some v → ∃ a r, v = .ref a ∧ rs[i]? = some r ∧ Sq b K H a (r.map V.int)
  | _, _, _, _, .nil, e => by simp at e
  | _, _, 0, v, .cons (a := a) (r := r) h _, e => by
    have e' : some (V.ref a) = some v := e
    cases e'
    exact ⟨a, r, rfl, rfl, h⟩
  | _, _, i + 1, v, .cons _ t, e => t.get (i := i) e
theorem RowsB.at_ {b : Bool} {K : PySem.W.Frag} {H : Hp} {vs : List V} {rs : List (List Int)} {i : Nat} {r : List Int} (h : RowsB b K H vs rs) (e : rs[i]? = some r) : ∃ a, vs[i]? = some (.ref a) ∧ Sq b K H a (r.map V.int) := by
  have hi : i < vs.length := by rw [h.len]; exact (List.getElem?_eq_some_iff.mp e).1
  obtain ⟨a, r', e1, e2, e3⟩ := h.get (List.getElem?_eq_getElem hi)
  rw [e] at e2
  cases e2
  exact ⟨a, by rw [List.getElem?_eq_getElem hi, e1], e3⟩
theorem RowsB.snoc {b : Bool} {K : PySem.W.Frag} {H : Hp} {a : Addr} {r : List Int} (h : Sq b K H a (r.map V.int)) : ∀ {vs : List V} {rs : List (List Int)}, RowsB b K H vs rs → RowsB b K H (vs ++ [.ref a]) (rs ++ [r])
  | _, _, .nil => .cons h .nil
  | _, _, .cons q t => .cons q (t.snoc h)
def RowsQ (b : Bool) (K : PySem.W.Frag) (H : Hp) (v : V) (rows : List (List Int)) : Prop := ∃ a vs, v = .ref a ∧ Sq b K H a vs ∧ RowsB b K H vs rows
theorem RowsQ.same {b : Bool} {K : PySem.W.Frag} {H H' : Hp} {v : V} {rows : List (List Int)} (h : RowsQ b K H v rows) (g : Same H H') : RowsQ b K H' v rows := by
  obtain ⟨a, vs, e, h1, h2⟩ := h
  exact ⟨a, vs, e, h1.same g, h2.same g⟩
theorem rowsB_T {K : PySem.W.Frag} {H : Hp} : ∀ {vs : List V} {rs : List (List Int)}, RowsT K H vs rs → RowsB false K H vs rs
  | _, _, .nil => .nil
  | _, _, .cons h r => .cons h (rowsB_T r)
theorem RowsAt.q {K : PySem.W.Frag} {H : Hp} {v : V} {rows : List (List Int)} (h : RowsAt K H v rows) : RowsQ false K H v rows := by
  obtain ⟨a, vs, e, h1, h2⟩ := h
  exact ⟨a, vs, e, h1, rowsB_T h2⟩
end Fo
set_option maxRecDepth 100000
set_option maxHeartbeats 1000000
namespace Mt
open Classical
abbrev Rows := List (List Int)
def row (rows : Rows) (p : Nat) : List Int := rows[p]?.getD []
theorem row_lt {rows : Rows} {p : Nat} {t : Int} (h : t ∈ row rows p) : p < rows.length := by
  unfold row at h
  cases e : rows[p]? with
  | none => rw [e] at h; cases h
  | some r => exact (List.getElem?_eq_some_iff.mp e).1
theorem row_get {rows : Rows} {p : Nat} {r : List Int} (h : rows[p]? = some r) : row rows p = r := by
  unfold row
  rw [h]
  rfl
def fset {α β : Type} [DecidableEq α] (f : α → β) (a : α) (b : β) : α → β := fun x => if x = a then b else f x
theorem fset_same {α β : Type} [DecidableEq α] {f : α → β} {a : α} {b : β} : fset f a b a = b := if_pos rfl
theorem fset_ne {α β : Type} [DecidableEq α] {f : α → β} {a x : α} {b : β} (h : x ≠ a) : fset f a b x = f x := if_neg h
theorem len_le {α : Type} [DecidableEq α] : ∀ {l1 l2 : List α}, l1.Nodup → (∀ x ∈ l1, x ∈ l2) → l1.length ≤ l2.length
  | [], _, _, _ => Nat.zero_le _
  | x :: l1, l2, hn, hs => by
    have hx := hs x List.mem_cons_self
    have h2 := List.nodup_cons.mp hn
    have ih := len_le (l1 := l1) (l2 := l2.erase x) h2.2 fun y hy => (List.mem_erase_of_ne (fun (e : y = x) => h2.1 (e ▸ hy))).mpr (hs y (List.mem_cons_of_mem _ hy))
    rw [List.length_erase_of_mem hx] at ih
    have : 0 < l2.length := List.length_pos_of_mem hx
    rw [List.length_cons]
    omega
theorem all_in {α : Type} [DecidableEq α] {l1 l2 : List α} (hn : l1.Nodup) (hs : ∀ x ∈ l1, x ∈ l2) (hl : l2.length ≤ l1.length) : ∀ y ∈ l2, y ∈ l1 := by
  intro y hy
  refine Classical.byContradiction fun hc => ?_
  have h := len_le (l2 := l2.erase y) hn fun x hx => (List.mem_erase_of_ne (fun (e : x = y) => hc (e ▸ hx))).mpr (hs x hx)
  rw [List.length_erase_of_mem hy] at h
  have : 0 < l2.length := List.length_pos_of_mem hy
  omega
theorem nodup_map {α β : Type} {f : α → β} : ∀ {l : List α}, l.Nodup → (∀ x ∈ l, ∀ y ∈ l, f x = f y → x = y) → (l.map f).Nodup
  | [], _, _ => List.nodup_nil
  | x :: l, hn, hi => by
    have h2 := List.nodup_cons.mp hn
    rw [List.map_cons, List.nodup_cons]
    refine ⟨fun hm => ?_, nodup_map h2.2 fun a ha b hb => hi a (List.mem_cons_of_mem _ ha) b (List.mem_cons_of_mem _ hb)⟩
    obtain ⟨y, hy, e⟩ := List.mem_map.mp hm
    have := hi y (List.mem_cons_of_mem _ hy) x List.mem_cons_self e
    exact h2.1 (this ▸ hy)
/-- no map into itself that is one to one leaves one out -/
theorem no_room {n : Nat} {R : Nat → Prop} {f : Nat → Nat} {p : Nat} (hp : p < n) (hR : R p) (hf : ∀ x, x < n → R x → f x < n ∧ R (f x) ∧ f x ≠ p) (hi : ∀ x y, x < n → y < n → R x → R y → f x = f y → x = y) : False := by
  obtain ⟨L, eL⟩ : ∃ L, L = (List.range n).filter (fun x => decide (R x)) := ⟨_, rfl⟩
  have memL : ∀ x, x ∈ L ↔ x < n ∧ R x := fun x => by
    rw [eL, List.mem_filter, List.mem_range, decide_eq_true_iff]
  have nd : L.Nodup := by rw [eL]; exact List.Pairwise.filter _ List.nodup_range
  have nm : (L.map f).Nodup := nodup_map nd fun x hx y hy e => hi x y ((memL x).mp hx).1 ((memL y).mp hy).1 ((memL x).mp hx).2 ((memL y).mp hy).2 e
  have hs : ∀ y ∈ L.map f, y ∈ L.erase p := fun y hy => by
    obtain ⟨x, hx, rfl⟩ := List.mem_map.mp hy
    have h := (memL x).mp hx
    obtain ⟨a, b, c⟩ := hf x h.1 h.2
    exact (List.mem_erase_of_ne c).mpr ((memL _).mpr ⟨a, b⟩)
  have h := len_le nm hs
  have hpL : p ∈ L := (memL p).mpr ⟨hp, hR⟩
  rw [List.length_map, List.length_erase_of_mem hpL] at h
  have : 0 < L.length := List.length_pos_of_mem hpL
  omega
structure Ds (rows : Rows) (D : List Int) : Prop where
  len : D.length = rows.length
  tie : ∀ (p : Nat) (t : Int), D[p]? = some t → t ∈ row rows p
  nd : D.Nodup
theorem Ds.get {rows : Rows} {D : List Int} (d : Ds rows D) {p : Nat} (h : p < rows.length) : ∃ t, D[p]? = some t ∧ t ∈ row rows p := by
  have h' : p < D.length := by rw [d.len]; exact h
  exact ⟨_, List.getElem?_eq_getElem h', d.tie p _ (List.getElem?_eq_getElem h')⟩
theorem nodup_get {α : Type} {l : List α} (h : l.Nodup) {i j : Nat} {x : α} (hi : l[i]? = some x) (hj : l[j]? = some x) : i = j := by
  have hi' := (List.getElem?_eq_some_iff.mp hi)
  have hj' := (List.getElem?_eq_some_iff.mp hj)
  obtain ⟨a, ea⟩ := hi'
  obtain ⟨b, eb⟩ := hj'
  refine Classical.byContradiction fun hc => ?_
  have pw := List.pairwise_iff_getElem.mp h
  rcases Nat.lt_or_gt_of_ne hc with z | z
  · exact pw i j a b z (ea.trans eb.symm)
  · exact pw j i b a z (eb.trans ea.symm)
structure MS where
  h : Nat → Option Int
  o : Int → Option Nat
structure Valid (rows : Rows) (m : MS) : Prop where
  inv : ∀ p t, m.h p = some t ↔ m.o t = some p
  tie : ∀ p t, m.h p = some t → t ∈ row rows p
def Closed (rows : Rows) (m : MS) (R : Nat → Prop) : Prop := ∀ q, R q → ∀ t ∈ row rows q, ∃ q', R q' ∧ m.h q' = some t
theorem Valid.inj {rows : Rows} {m : MS} (v : Valid rows m) {p q : Nat} {t : Int} (h1 : m.h p = some t) (h2 : m.h q = some t) : p = q := by
  have a := (v.inv p t).mp h1
  have b := (v.inv q t).mp h2
  rw [a] at b
  exact Option.some.inj b
theorem no_dealing {rows : Rows} {m : MS} {R : Nat → Prop} {p : Nat} (v : Valid rows m) (hp : p < rows.length) (hR : R p) (c : Closed rows m R) (h0 : m.h p = none) {D : List Int} (d : Ds rows D) : False := by
  refine no_room (n := rows.length) (R := R) (p := p) (f := fun x => (m.o (D[x]?.getD 0)).getD 0) hp hR (fun x hx rx => ?_) (fun x y hx hy rx ry e => ?_)
  · obtain ⟨t, e, ht⟩ := d.get hx
    obtain ⟨q, rq, hq⟩ := c x rx t ht
    have ho := (v.inv q t).mp hq
    show (m.o (D[x]?.getD 0)).getD 0 < _ ∧ R ((m.o (D[x]?.getD 0)).getD 0) ∧ (m.o (D[x]?.getD 0)).getD 0 ≠ p
    rw [e]
    show (m.o t).getD 0 < _ ∧ R ((m.o t).getD 0) ∧ (m.o t).getD 0 ≠ p
    rw [ho]
    refine ⟨row_lt (v.tie q t hq), rq, fun z => ?_⟩
    have z' : q = p := z
    rw [z', h0] at hq
    cases hq
  · obtain ⟨t, e1, ht⟩ := d.get hx
    obtain ⟨s, e2, hs⟩ := d.get hy
    obtain ⟨q, rq, hq⟩ := c x rx t ht
    obtain ⟨r, rr, hr⟩ := c y ry s hs
    have e' : (m.o (D[x]?.getD 0)).getD 0 = (m.o (D[y]?.getD 0)).getD 0 := e
    rw [e1, e2] at e'
    have e'' : (m.o t).getD 0 = (m.o s).getD 0 := e'
    rw [(v.inv q t).mp hq, (v.inv r s).mp hr] at e''
    have e3 : q = r := e''
    subst e3
    rw [hq] at hr
    cases hr
    exact nodup_get d.nd e1 e2
abbrev Came := Int → Option Nat
def scan (o : Int → Option Nat) (one : Nat) : List Int → Came → List Nat → Option Int × Came × List Nat
  | [], c, w => (none, c, w)
  | t :: l, c, w => if (c t).isSome = true then scan o one l c w else match o t with
    | none => (some t, fset c t (some one), w)
    | some q => scan o one l (fset c t (some one)) (w ++ [q])
inductive Walk (rows : Rows) (o : Int → Option Nat) : Came → List Nat → Option Int → Came → Prop
  | nil {c : Came} : Walk rows o c [] none c
  | found {c c' : Came} {w w' : List Nat} {one : Nat} {t : Int} : scan o one (row rows one) c w = (some t, c', w') → Walk rows o c (w ++ [one]) (some t) c'
  | more {c c' c2 : Came} {w w' : List Nat} {one : Nat} {x : Option Int} : scan o one (row rows one) c w = (none, c', w') → Walk rows o c' w' x c2 → Walk rows o c (w ++ [one]) x c2
structure ScanOk (o : Int → Option Nat) (one : Nat) (l : List Int) (c : Came) (w : List Nat) (x : Option Int) (c' : Came) (w' : List Nat) : Prop where
  ext : ∀ t y, c t = some y → c' t = some y
  new : ∀ t y, c' t = some y → c t = some y ∨ (y = one ∧ t ∈ l ∧ c t = none ∧ ((∃ q, o t = some q ∧ q ∈ w') ∨ x = some t))
  found : ∀ t, x = some t → o t = none ∧ c' t = some one ∧ t ∈ l
  all : x = none → ∀ t ∈ l, c' t ≠ none
  sub : ∀ q ∈ w, q ∈ w'
  wn : ∀ q ∈ w', q ∈ w ∨ ∃ t, c' t = some one ∧ o t = some q
theorem scan_ok {o : Int → Option Nat} {one : Nat} : ∀ (l : List Int) (c : Came) (w : List Nat), ScanOk o one l c w (scan o one l c w).1 (scan o one l c w).2.1 (scan o one l c w).2.2
  | [], c, w => ⟨fun _ _ h => h, fun _ _ h => .inl h, fun _ h => (by cases h), fun _ _ h => (by cases h), fun _ h => h, fun _ h => .inl h⟩
  | t :: l, c, w => by
    by_cases hc : (c t).isSome = true
    · have e : scan o one (t :: l) c w = scan o one l c w := by
        show (if (c t).isSome = true then scan o one l c w else _) = _
        rw [if_pos hc]
      rw [e]
      have ih := scan_ok (o := o) (one := one) l c w
      refine ⟨ih.ext, fun s y h => ?_, fun s h => ?_, fun h s hs => ?_, ih.sub, ih.wn⟩
      · rcases ih.new s y h with a | ⟨a, b, d, f⟩
        · exact .inl a
        · exact .inr ⟨a, List.mem_cons_of_mem _ b, d, f⟩
      · obtain ⟨a, b, d⟩ := ih.found s h
        exact ⟨a, b, List.mem_cons_of_mem _ d⟩
      · rcases List.mem_cons.mp hs with q | q
        · obtain ⟨y, hy⟩ := Option.isSome_iff_exists.mp hc
          rw [q, ih.ext t y hy]
          exact fun z => nomatch z
        · exact ih.all h s q
    · have cn : c t = none := by
        cases z : c t with
        | none => rfl
        | some y => rw [z] at hc; exact absurd rfl hc
      cases ho : o t with
      | none =>
        have e : scan o one (t :: l) c w = (some t, fset c t (some one), w) := by
          show (if (c t).isSome = true then _ else match o t with | none => _ | some q => _) = _
          rw [if_neg hc, ho]
        rw [e]
        refine ⟨fun s y h => ?_, fun s y h => ?_, fun s h => ?_, fun h => (by cases h), fun _ h => h, fun _ h => .inl h⟩
        · show fset c t (some one) s = some y
          rw [fset_ne (fun z => by rw [z, cn] at h; cases h)]
          exact h
        · have h' : fset c t (some one) s = some y := h
          by_cases z : s = t
          · rw [z, fset_same] at h'
            cases h'
            exact .inr ⟨rfl, by rw [z]; exact List.mem_cons_self, by rw [z]; exact cn, .inr (by rw [z])⟩
          · rw [fset_ne z] at h'
            exact .inl h'
        · cases h
          exact ⟨ho, fset_same, List.mem_cons_self⟩
      | some q =>
        have e : scan o one (t :: l) c w = scan o one l (fset c t (some one)) (w ++ [q]) := by
          show (if (c t).isSome = true then _ else match o t with | none => _ | some q => _) = _
          rw [if_neg hc, ho]
        rw [e]
        have ih := scan_ok (o := o) (one := one) l (fset c t (some one)) (w ++ [q])
        have ct : (scan o one l (fset c t (some one)) (w ++ [q])).2.1 t = some one := ih.ext t one fset_same
        refine ⟨fun s y h => ?_, fun s y h => ?_, fun s h => ?_, fun h s hs => ?_, fun r h => ih.sub r (List.mem_append_left _ h), fun r h => ?_⟩
        · exact ih.ext s y (by rw [fset_ne (fun z => by rw [z, cn] at h; cases h)]; exact h)
        · by_cases z : s = t
          · rw [z] at h ⊢
            rw [ct] at h
            cases h
            exact .inr ⟨rfl, List.mem_cons_self, cn, .inl ⟨q, ho, ih.sub q (List.mem_append_right _ List.mem_cons_self)⟩⟩
          · rcases ih.new s y h with a | ⟨a, b, d, f⟩
            · rw [fset_ne z] at a
              exact .inl a
            · rw [fset_ne z] at d
              exact .inr ⟨a, List.mem_cons_of_mem _ b, d, f⟩
        · obtain ⟨a, b, d⟩ := ih.found s h
          exact ⟨a, b, List.mem_cons_of_mem _ d⟩
        · rcases List.mem_cons.mp hs with z | z
          · rw [z, ct]
            exact fun z => nomatch z
          · exact ih.all h s z
        · rcases ih.wn r h with a | a
          · rcases List.mem_append.mp a with b | b
            · exact .inl b
            · rw [List.mem_singleton.mp b]
              exact .inr ⟨t, ct, ho⟩
          · exact .inr a
theorem scan_is {o : Int → Option Nat} {one : Nat} {l : List Int} {c c' : Came} {w w' : List Nat} {x : Option Int} (h : scan o one l c w = (x, c', w')) : ScanOk o one l c w x c' w' := by
  have := scan_ok (o := o) (one := one) l c w
  rw [h] at this
  exact this
/-- how a thing was come to: k steps from p -/
inductive Chain (c : Came) (h : Nat → Option Int) (p : Nat) : Nat → Int → Prop
  | start {t : Int} : c t = some p → Chain c h p 0 t
  | step {k : Nat} {t s : Int} {q : Nat} : c t = some q → h q = some s → Chain c h p k s → Chain c h p (k + 1) t
theorem Chain.ext {c c' : Came} {h : Nat → Option Int} {p : Nat} (e : ∀ t y, c t = some y → c' t = some y) : ∀ {k : Nat} {t : Int}, Chain c h p k t → Chain c' h p k t
  | _, _, .start a => .start (e _ _ a)
  | _, _, .step a b d => .step (e _ _ a) b (d.ext e)
theorem Chain.one {c : Came} {h : Nat → Option Int} {p : Nat} (hp : h p = none) : ∀ {k j : Nat} {t : Int}, Chain c h p k t → Chain c h p j t → k = j
  | _, _, _, .start _, .start _ => rfl
  | _, _, _, .start a, .step b d _ => by
    rw [a] at b
    cases b
    rw [hp] at d
    cases d
  | _, _, _, .step b d _, .start a => by
    rw [a] at b
    cases b
    rw [hp] at d
    cases d
  | _, _, _, .step a b d, .step a' b' d' => by
    rw [a] at a'
    cases a'
    rw [b] at b'
    cases b'
    rw [d.one hp d']
def Vis (o : Int → Option Nat) (p : Nat) (c : Came) (q : Nat) : Prop := q = p ∨ ∃ t x, c t = some x ∧ o t = some q
structure WInv (rows : Rows) (m : MS) (p : Nat) (c : Came) (w : List Nat) : Prop where
  a : ∀ t x, c t = some x → t ∈ row rows x ∧ ∃ q, m.o t = some q
  b : ∀ t x, c t = some x → ∃ k, Chain c m.h p k t
  v : ∀ q ∈ w, Vis m.o p c q
  d : ∀ q, Vis m.o p c q → q ∉ w → ∀ t ∈ row rows q, c t ≠ none
theorem WInv.init {rows : Rows} {m : MS} {p : Nat} : WInv rows m p (fun _ => none) [p] :=
  ⟨fun _ _ h => (by cases h), fun _ _ h => (by cases h), fun q h => .inl (List.mem_singleton.mp h), fun q h n => by
    rcases h with h | ⟨t, x, h, _⟩
    · exact absurd (List.mem_singleton.mpr h) n
    · cases h⟩
theorem chain_of {rows : Rows} {m : MS} {p one : Nat} {c c' : Came} {w : List Nat} {t : Int} (v : Valid rows m) (i : WInv rows m p c w) (h1 : Vis m.o p c one) (e : ∀ t y, c t = some y → c' t = some y) (ht : c' t = some one) : ∃ k, Chain c' m.h p k t := by
  rcases h1 with h1 | ⟨s, x, hs, ho⟩
  · exact ⟨0, .start (by rw [← h1]; exact ht)⟩
  · obtain ⟨k, hk⟩ := i.b s x hs
    exact ⟨k + 1, .step ht ((v.inv one s).mpr ho) (hk.ext e)⟩
theorem WInv.next {rows : Rows} {m : MS} {p one : Nat} {c c' : Came} {w w' : List Nat} (v : Valid rows m) (i : WInv rows m p c (w ++ [one])) (h : scan m.o one (row rows one) c w = (none, c', w')) : WInv rows m p c' w' := by
  have s := scan_is h
  have h1 : Vis m.o p c one := i.v one (List.mem_append_right _ List.mem_cons_self)
  have up : ∀ q, Vis m.o p c q → Vis m.o p c' q := fun q z => z.imp id fun ⟨t, x, a, b⟩ => ⟨t, x, s.ext _ _ a, b⟩
  refine ⟨fun t x ht => ?_, fun t x ht => ?_, fun q hq => ?_, fun q hv hq t ht => ?_⟩
  · rcases s.new t x ht with a | ⟨a, b, d, f⟩
    · exact i.a t x a
    · rw [a]
      rcases f with ⟨q, f, _⟩ | f
      · exact ⟨b, q, f⟩
      · cases f
  · rcases s.new t x ht with a | ⟨a, b, d, f⟩
    · obtain ⟨k, hk⟩ := i.b t x a
      exact ⟨k, hk.ext s.ext⟩
    · rw [a] at ht
      exact chain_of v i h1 s.ext ht
  · rcases s.wn q hq with a | ⟨t, a, b⟩
    · exact up q (i.v q (List.mem_append_left _ a))
    · exact .inr ⟨t, one, a, b⟩
  · by_cases hone : q = one
    · rw [hone] at ht
      exact s.all rfl t ht
    · have hv' : Vis m.o p c q := by
        rcases hv with z | ⟨u, x, hu, ho⟩
        · exact .inl z
        · rcases s.new u x hu with a | ⟨a, b, d, f⟩
          · exact .inr ⟨u, x, a, ho⟩
          · rcases f with ⟨r, f, fr⟩ | f
            · rw [ho] at f
              cases f
              exact absurd fr hq
            · cases f
      have hq' : q ∉ w ++ [one] := fun z => by
        rcases List.mem_append.mp z with z | z
        · exact hq (s.sub q z)
        · exact hone (List.mem_singleton.mp z)
      have := i.d q hv' hq' t ht
      cases z : c t with
      | none => exact absurd z this
      | some y => rw [s.ext t y z]; exact fun z => nomatch z
theorem walk_none {rows : Rows} {m : MS} {p : Nat} (v : Valid rows m) {c c' : Came} {w : List Nat} {x : Option Int} (h : Walk rows m.o c w x c') : x = none → WInv rows m p c w → WInv rows m p c' [] := by
  induction h with
  | nil => exact fun _ i => i
  | found h => exact fun e => nomatch e
  | more h _ ih => exact fun e i => ih e (i.next v h)
theorem walk_closed {rows : Rows} {m : MS} {p : Nat} (v : Valid rows m) {c' : Came} (h : Walk rows m.o (fun _ => none) [p] none c') : Closed rows m (Vis m.o p c') := by
  have i := walk_none v h rfl WInv.init
  intro q hq t ht
  have hc := i.d q hq (by simp) t ht
  cases z : c' t with
  | none => exact absurd z hc
  | some x =>
    obtain ⟨_, r, hr⟩ := i.a t x z
    exact ⟨r, .inr ⟨t, x, z, hr⟩, (v.inv r t).mpr hr⟩
structure Found (rows : Rows) (m : MS) (p : Nat) (c : Came) (t : Int) : Prop where
  free : m.o t = none
  tie : ∀ s x, c s = some x → s ∈ row rows x
  chain : ∃ k, Chain c m.h p k t
theorem walk_found {rows : Rows} {m : MS} {p : Nat} (v : Valid rows m) {c c' : Came} {w : List Nat} {x : Option Int} (h : Walk rows m.o c w x c') : ∀ t, x = some t → WInv rows m p c w → Found rows m p c' t := by
  induction h with
  | nil => exact fun _ e => nomatch e
  | found h =>
    intro t e i
    cases e
    have s := scan_is h
    have f := s.found _ rfl
    refine ⟨f.1, fun u y hu => ?_, chain_of v i (i.v _ (List.mem_append_right _ List.mem_cons_self)) s.ext f.2.1⟩
    rcases s.new u y hu with a | ⟨a, b, _⟩
    · exact (i.a u y a).1
    · rw [a]; exact b
  | more h _ ih => exact fun t e i => ih t e (i.next v h)
def put (m : MS) (q : Nat) (t : Int) : MS := ⟨fset m.h q (some t), fset m.o t (some q)⟩
inductive Hand (c : Came) : MS → Int → MS → Prop
  | last {m : MS} {t : Int} {q : Nat} : c t = some q → m.h q = none → Hand c m t (put m q t)
  | more {m m' : MS} {t s : Int} {q : Nat} : c t = some q → m.h q = some s → Hand c (put m q t) s m' → Hand c m t m'
/-- while things are handed on: m behind m0, t in hand, k steps left -/
structure HInv (rows : Rows) (m0 : MS) (p : Nat) (c : Came) (m : MS) (t : Int) (k : Nat) : Prop where
  ch : Chain c m0.h p k t
  ho : ∀ x s, m.h x = some s → m.o s = some x
  oh : ∀ x s, m.o s = some x → m.h x = some s ∨ s = t
  no : ∀ x, m.h x ≠ some t
  tie : ∀ x s, m.h x = some s → s ∈ row rows x
  dom : ∀ x, m.h x = none ↔ m0.h x = none
  old : ∀ x, m.h x ≠ m0.h x → ∃ s j, m0.h x = some s ∧ Chain c m0.h p j s ∧ k ≤ j
  cl : ∀ R, Closed rows m0 R → (∀ q, c t = some q → ¬ R q) ∧ ∀ x, R x → m.h x = m0.h x
theorem HInv.init {rows : Rows} {m : MS} {p : Nat} {c : Came} {t : Int} (v : Valid rows m) (f : Found rows m p c t) : ∃ k, HInv rows m p c m t k := by
  obtain ⟨k, hk⟩ := f.chain
  refine ⟨k, hk, fun x s h => (v.inv x s).mp h, fun x s h => .inl ((v.inv x s).mpr h), fun x h => ?_, v.tie, fun _ => Iff.rfl, fun x h => absurd rfl h, fun R hR => ⟨fun q hq rq => ?_, fun _ _ => rfl⟩⟩
  · have := (v.inv x t).mp h
    rw [f.free] at this
    cases this
  · obtain ⟨r, _, hr⟩ := hR q rq t (f.tie t q hq)
    have := (v.inv r t).mp hr
    rw [f.free] at this
    cases this
theorem HInv.at_ {rows : Rows} {m0 m : MS} {p : Nat} {c : Came} {t : Int} {k : Nat} (hp : m0.h p = none) (i : HInv rows m0 p c m t k) : ∃ q, c t = some q ∧ m.h q = m0.h q ∧ ((k = 0 ∧ q = p) ∨ ∃ s j, k = j + 1 ∧ m0.h q = some s ∧ Chain c m0.h p j s) := by
  have ch := i.ch
  cases ch with
  | start a =>
    refine ⟨p, a, ?_, .inl ⟨rfl, rfl⟩⟩
    rw [hp]
    exact (i.dom p).mpr hp
  | @step j _ s q a b d =>
    refine ⟨q, a, ?_, .inr ⟨s, j, rfl, b, d⟩⟩
    refine Classical.byContradiction fun hc => ?_
    obtain ⟨s', j', h1, h2, h3⟩ := i.old q hc
    rw [b] at h1
    cases h1
    have := d.one hp h2
    omega
theorem HInv.more {rows : Rows} {m0 m : MS} {p : Nat} {c : Came} {t s : Int} {k j q : Nat} (v0 : Valid rows m0) (hp : m0.h p = none) (tie : ∀ s x, c s = some x → s ∈ row rows x) (i : HInv rows m0 p c m t k) (hc : c t = some q) (e : m.h q = m0.h q) (hk : k = j + 1) (hs : m0.h q = some s) (hch : Chain c m0.h p j s) : HInv rows m0 p c (put m q t) s j := by
  have hms : m.h q = some s := e.trans hs
  have nst : s ≠ t := fun z => i.no q (by rw [hms, z])
  refine ⟨hch, fun x r h => ?_, fun x r h => ?_, fun x h => ?_, fun x r h => ?_, fun x => ?_, fun x h => ?_, fun R hR => ?_⟩
  · have h' : fset m.h q (some t) x = some r := h
    show fset m.o t (some q) r = some x
    by_cases z : x = q
    · rw [z, fset_same] at h'
      cases h'
      rw [fset_same, z]
    · rw [fset_ne z] at h'
      rw [fset_ne (fun y => i.no x (by rw [h', y]))]
      exact i.ho x r h'
  · have h' : fset m.o t (some q) r = some x := h
    show fset m.h q (some t) x = some r ∨ r = s
    by_cases z : r = t
    · rw [z, fset_same] at h'
      cases h'
      rw [fset_same, z]
      exact .inl rfl
    · rw [fset_ne z] at h'
      by_cases y : x = q
      · rcases i.oh x r h' with a | a
        · rw [y, hms] at a
          exact .inr (Option.some.inj a).symm
        · exact absurd a z
      · rw [fset_ne y]
        rcases i.oh x r h' with a | a
        · exact .inl a
        · exact absurd a z
  · have h' : fset m.h q (some t) x = some s := h
    by_cases z : x = q
    · rw [z, fset_same] at h'
      exact nst (Option.some.inj h').symm
    · rw [fset_ne z] at h'
      have a := i.ho x s h'
      have b := i.ho q s hms
      rw [a] at b
      exact z (Option.some.inj b)
  · have h' : fset m.h q (some t) x = some r := h
    by_cases z : x = q
    · rw [z, fset_same] at h'
      cases h'
      rw [z]
      exact tie t q hc
    · rw [fset_ne z] at h'
      exact i.tie x r h'
  · show fset m.h q (some t) x = none ↔ _
    by_cases z : x = q
    · rw [z, fset_same, hs]
      exact ⟨fun y => (by cases y), fun y => (by cases y)⟩
    · rw [fset_ne z]
      exact i.dom x
  · have h' : fset m.h q (some t) x ≠ m0.h x := h
    by_cases z : x = q
    · exact ⟨s, j, by rw [z]; exact hs, hch, Nat.le_refl _⟩
    · rw [fset_ne z] at h'
      obtain ⟨a, b, d, f, g⟩ := i.old x h'
      exact ⟨a, b, d, f, by omega⟩
  · obtain ⟨a, b⟩ := i.cl R hR
    refine ⟨fun r hr rr => ?_, fun x rx => ?_⟩
    · obtain ⟨y, ry, hy⟩ := hR r rr s (tie s r hr)
      have := v0.inj hy hs
      rw [this] at ry
      exact a q hc ry
    · show fset m.h q (some t) x = _
      rw [fset_ne (fun z => a q hc (by rw [← z]; exact rx))]
      exact b x rx
structure Given (rows : Rows) (m0 : MS) (p : Nat) (m : MS) : Prop where
  valid : Valid rows m
  got : m.h p ≠ none
  dom : ∀ x, x ≠ p → (m.h x = none ↔ m0.h x = none)
  cl : ∀ R, Closed rows m0 R → ∀ x, R x → m.h x = m0.h x
theorem HInv.last {rows : Rows} {m0 m : MS} {p : Nat} {c : Came} {t : Int} {k q : Nat} (hp : m0.h p = none) (tie : ∀ s x, c s = some x → s ∈ row rows x) (i : HInv rows m0 p c m t k) (hc : c t = some q) (hq : m.h q = none) : Given rows m0 p (put m q t) := by
  have hqp : q = p := by
    obtain ⟨r, h1, h2, h3⟩ := i.at_ hp
    rw [hc] at h1
    cases h1
    rcases h3 with ⟨_, e⟩ | ⟨s, j, _, e, _⟩
    · exact e
    · rw [h2, e] at hq
      cases hq
  refine ⟨⟨fun x r => ⟨fun h => ?_, fun h => ?_⟩, fun x r h => ?_⟩, ?_, fun x hx => ?_, fun R hR x rx => ?_⟩
  · have h' : fset m.h q (some t) x = some r := h
    show fset m.o t (some q) r = some x
    by_cases z : x = q
    · rw [z, fset_same] at h'
      cases h'
      rw [fset_same, z]
    · rw [fset_ne z] at h'
      rw [fset_ne (fun y => i.no x (by rw [h', y]))]
      exact i.ho x r h'
  · have h' : fset m.o t (some q) r = some x := h
    show fset m.h q (some t) x = some r
    by_cases z : r = t
    · rw [z, fset_same] at h'
      cases h'
      rw [fset_same, z]
    · rw [fset_ne z] at h'
      rcases i.oh x r h' with a | a
      · rw [fset_ne (fun y => by rw [y, hq] at a; cases a)]
        exact a
      · exact absurd a z
  · have h' : fset m.h q (some t) x = some r := h
    by_cases z : x = q
    · rw [z, fset_same] at h'
      cases h'
      rw [z]
      exact tie t q hc
    · rw [fset_ne z] at h'
      exact i.tie x r h'
  · show fset m.h q (some t) p ≠ none
    rw [hqp, fset_same]
    exact fun z => nomatch z
  · show fset m.h q (some t) x = none ↔ _
    rw [fset_ne (by rw [hqp]; exact hx)]
    exact i.dom x
  · obtain ⟨a, b⟩ := i.cl R hR
    show fset m.h q (some t) x = _
    rw [fset_ne (fun z => a q hc (by rw [← z]; exact rx))]
    exact b x rx
theorem hand_given {rows : Rows} {m0 : MS} {p : Nat} {c : Came} (v0 : Valid rows m0) (hp : m0.h p = none) (tie : ∀ s x, c s = some x → s ∈ row rows x) {m m' : MS} {t : Int} (h : Hand c m t m') : ∀ k, HInv rows m0 p c m t k → Given rows m0 p m' := by
  induction h with
  | last a b => exact fun k i => i.last hp tie a b
  | @more m m' t u r a b _ ih =>
    intro k i
    obtain ⟨r', h1, h2, h3⟩ := i.at_ hp
    rw [a] at h1
    obtain rfl := Option.some.inj h1
    rcases h3 with ⟨_, e⟩ | ⟨s, j, e1, e2, e3⟩
    · rw [h2, e, hp] at b
      cases b
    · have e4 : m0.h r = some _ := h2.symm.trans b
      rw [e2] at e4
      cases e4
      exact ih j (i.more v0 hp tie a h2 e1 e2 e3)
theorem hand_ex {rows : Rows} {m0 : MS} {p : Nat} {c : Came} (v0 : Valid rows m0) (hp : m0.h p = none) (tie : ∀ s x, c s = some x → s ∈ row rows x) : ∀ (k : Nat) {m : MS} {t : Int}, HInv rows m0 p c m t k → ∃ m', Hand c m t m'
  | 0, m, t, i => by
    obtain ⟨r, h1, h2, h3⟩ := i.at_ hp
    rcases h3 with ⟨_, e⟩ | ⟨s, j, e1, _⟩
    · exact ⟨_, .last h1 (by rw [h2, e, hp])⟩
    · omega
  | k + 1, m, t, i => by
    obtain ⟨r, h1, h2, h3⟩ := i.at_ hp
    rcases h3 with ⟨e, _⟩ | ⟨s, j, e1, e2, e3⟩
    · omega
    · have ej : j = k := by omega
      subst ej
      obtain ⟨m', hm⟩ := hand_ex v0 hp tie j (i.more v0 hp tie h1 h2 rfl e2 e3)
      exact ⟨m', .more h1 (h2.trans e2) hm⟩
end Mt
set_option maxRecDepth 100000
set_option maxHeartbeats 1000000
namespace Mt
open Classical
theorem filt_lt {α : Type} {P Q : α → Bool} (h : ∀ x, P x = true → Q x = true) : ∀ {l : List α} {t : α}, t ∈ l → Q t = true → P t = false → (l.filter P).length + 1 ≤ (l.filter Q).length
  | x :: l, t, ht, hq, hp => by
    have mono : ∀ l : List α, (l.filter P).length ≤ (l.filter Q).length := fun l => by
      induction l with
      | nil => exact Nat.le_refl _
      | cons y l ih =>
        cases hy : P y with
        | true => rw [List.filter_cons_of_pos hy, List.filter_cons_of_pos (h y hy), List.length_cons, List.length_cons]; omega
        | false =>
          rw [List.filter_cons_of_neg (by rw [hy]; decide)]
          cases hz : Q y with
          | true => rw [List.filter_cons_of_pos hz, List.length_cons]; omega
          | false => rw [List.filter_cons_of_neg (by rw [hz]; decide)]; exact ih
    rcases List.mem_cons.mp ht with e | e
    · rw [← e, List.filter_cons_of_neg (by rw [hp]; decide), List.filter_cons_of_pos hq, List.length_cons]
      have := mono l
      omega
    · have ih := filt_lt h e hq hp
      cases hy : P x with
      | true => rw [List.filter_cons_of_pos hy, List.filter_cons_of_pos (h x hy), List.length_cons, List.length_cons]; omega
      | false =>
        rw [List.filter_cons_of_neg (by rw [hy]; decide)]
        cases hz : Q x with
        | true => rw [List.filter_cons_of_pos hz, List.length_cons]; omega
        | false => rw [List.filter_cons_of_neg (by rw [hz]; decide)]; exact ih
/-- how much is left to do: things not come to, and people waiting -/
def todo (U : List Int) (c : Came) (w : List Nat) : Nat := (U.filter fun t => (c t).isNone).length + w.length
theorem scan_todo {o : Int → Option Nat} {one : Nat} {U : List Int} : ∀ (l : List Int) (c : Came) (w : List Nat), (∀ t ∈ l, t ∈ U) → (scan o one l c w).1 = none → todo U (scan o one l c w).2.1 (scan o one l c w).2.2 ≤ todo U c w
  | [], c, w, _, _ => Nat.le_refl _
  | t :: l, c, w, hU, hn => by
    by_cases hc : (c t).isSome = true
    · have e : scan o one (t :: l) c w = scan o one l c w := by
        show (if (c t).isSome = true then scan o one l c w else _) = _
        rw [if_pos hc]
      rw [e] at hn ⊢
      exact scan_todo l c w (fun s hs => hU s (List.mem_cons_of_mem _ hs)) hn
    · cases ho : o t with
      | none =>
        have e : scan o one (t :: l) c w = (some t, fset c t (some one), w) := by
          show (if (c t).isSome = true then _ else match o t with | none => _ | some q => _) = _
          rw [if_neg hc, ho]
        rw [e] at hn
        cases hn
      | some q =>
        have e : scan o one (t :: l) c w = scan o one l (fset c t (some one)) (w ++ [q]) := by
          show (if (c t).isSome = true then _ else match o t with | none => _ | some q => _) = _
          rw [if_neg hc, ho]
        rw [e] at hn ⊢
        refine Nat.le_trans (scan_todo l _ _ (fun s hs => hU s (List.mem_cons_of_mem _ hs)) hn) ?_
        unfold todo
        rw [List.length_append, List.length_singleton]
        have := filt_lt (P := fun s => (fset c t (some one) s).isNone) (Q := fun s => (c s).isNone) (l := U) (t := t) (fun x hx => by
          by_cases z : x = t
          · rw [z, fset_same] at hx
            cases hx
          · rw [fset_ne z] at hx
            exact hx) (hU t List.mem_cons_self) (by
          cases z : c t with
          | none => rfl
          | some y => rw [z] at hc; exact absurd rfl hc) (by rw [fset_same]; rfl)
        omega
theorem scan_todo' {o : Int → Option Nat} {one : Nat} {U : List Int} {l : List Int} {c c' : Came} {w w' : List Nat} (hU : ∀ t ∈ l, t ∈ U) (h : scan o one l c w = (none, c', w')) : todo U c' w' ≤ todo U c w := by
  have := scan_todo (o := o) (one := one) (U := U) l c w hU
  rw [h] at this
  exact this rfl
theorem todo_snoc {U : List Int} {c : Came} {w : List Nat} {q : Nat} : todo U c (w ++ [q]) = todo U c w + 1 := by
  unfold todo
  rw [List.length_append, List.length_singleton]
  omega
def things (rows : Rows) : List Int := rows.flatten
theorem mem_things {rows : Rows} {p : Nat} {t : Int} (h : t ∈ row rows p) : t ∈ things rows := by
  unfold row at h
  cases e : rows[p]? with
  | none => rw [e] at h; cases h
  | some r =>
    rw [e] at h
    exact List.mem_flatten.mpr ⟨r, List.mem_of_getElem? e, h⟩
theorem walk_ex {rows : Rows} {o : Int → Option Nat} : ∀ (n : Nat) (c : Came) (w : List Nat), todo (things rows) c w ≤ n → ∃ x c', Walk rows o c w x c'
  | n, c, w, h => by
    rcases List.eq_nil_or_concat w with e | ⟨w0, q, e⟩
    · rw [e]
      exact ⟨none, c, .nil⟩
    · rw [List.concat_eq_append] at e
      subst e
      cases n with
      | zero => rw [todo_snoc] at h; omega
      | succ n =>
        rw [todo_snoc] at h
        rcases hs : scan o q (row rows q) c w0 with ⟨x, c', w'⟩
        cases x with
        | some t => exact ⟨some t, c', .found hs⟩
        | none =>
          have := scan_todo' (U := things rows) (fun t ht => mem_things ht) hs
          obtain ⟨x, c2, hw⟩ := walk_ex (rows := rows) (o := o) n c' w' (by omega)
          exact ⟨x, c2, .more hs hw⟩
inductive Give (rows : Rows) (m : MS) (p : Nat) : MS → Prop
  | no {c : Came} : Walk rows m.o (fun _ => none) [p] none c → Give rows m p m
  | yes {c : Came} {t : Int} {m' : MS} : Walk rows m.o (fun _ => none) [p] (some t) c → Hand c m t m' → Give rows m p m'
theorem give_ex {rows : Rows} {m : MS} {p : Nat} (v : Valid rows m) (hp : m.h p = none) : ∃ m', Give rows m p m' := by
  obtain ⟨x, c, hw⟩ := walk_ex (rows := rows) (o := m.o) _ (fun _ => none) [p] (Nat.le_refl _)
  cases x with
  | none => exact ⟨m, .no hw⟩
  | some t =>
    have f := walk_found v hw t rfl WInv.init
    obtain ⟨k, i⟩ := HInv.init v f
    obtain ⟨m', hm⟩ := hand_ex v hp f.tie k i
    exact ⟨m', .yes hw hm⟩
theorem give_ok {rows : Rows} {m m' : MS} {p : Nat} (v : Valid rows m) (hp : m.h p = none) (g : Give rows m p m') : Given rows m p m' ∨ (m' = m ∧ ∃ R, R p ∧ Closed rows m R) := by
  cases g with
  | no hw => exact .inr ⟨rfl, _, .inl rfl, walk_closed v hw⟩
  | yes hw hh =>
    have f := walk_found v hw _ rfl WInv.init
    obtain ⟨k, i⟩ := HInv.init v f
    exact .inl (hand_given v hp f.tie hh k i)
theorem walk_one {rows : Rows} {o : Int → Option Nat} {c c1 : Came} {w : List Nat} {x : Option Int} (a : Walk rows o c w x c1) : ∀ {y : Option Int} {c2 : Came}, Walk rows o c w y c2 → x = y ∧ c1 = c2 := by
  induction a with
  | nil =>
    intro y c2 b
    generalize ew : ([] : List Nat) = w' at b
    cases b with
    | nil => exact ⟨rfl, rfl⟩
    | found h => exact absurd ew (by simp)
    | more h _ => exact absurd ew (by simp)
  | @found c c' w w' one t h =>
    intro y c2 b
    generalize ew : w ++ [one] = w2 at b
    cases b with
    | nil => exact absurd ew (by simp)
    | found h2 =>
      obtain ⟨e1, e2⟩ := List.append_inj' ew rfl
      cases e2
      subst e1
      rw [h] at h2
      cases h2
      exact ⟨rfl, rfl⟩
    | more h2 _ =>
      obtain ⟨e1, e2⟩ := List.append_inj' ew rfl
      cases e2
      subst e1
      rw [h] at h2
      cases h2
  | @more c c' c2 w w' one x h _ ih =>
    intro y c3 b
    generalize ew : w ++ [one] = w2 at b
    cases b with
    | nil => exact absurd ew (by simp)
    | found h2 =>
      obtain ⟨e1, e2⟩ := List.append_inj' ew rfl
      cases e2
      subst e1
      rw [h] at h2
      cases h2
    | more h2 b2 =>
      obtain ⟨e1, e2⟩ := List.append_inj' ew rfl
      cases e2
      subst e1
      rw [h] at h2
      cases h2
      exact ih b2
theorem hand_one {c : Came} {m m1 : MS} {t : Int} (a : Hand c m t m1) : ∀ {m2 : MS}, Hand c m t m2 → m1 = m2 := by
  induction a with
  | last a b =>
    intro m2 h
    cases h with
    | last a2 b2 => rw [a] at a2; cases a2; rfl
    | more a2 b2 _ => rw [a] at a2; cases a2; rw [b] at b2; cases b2
  | more a b _ ih =>
    intro m2 h
    cases h with
    | last a2 b2 => rw [a] at a2; cases a2; rw [b] at b2; cases b2
    | more a2 b2 h2 => rw [a] at a2; cases a2; rw [b] at b2; cases b2; exact ih h2
theorem give_one {rows : Rows} {m m1 m2 : MS} {p : Nat} (a : Give rows m p m1) (b : Give rows m p m2) : m1 = m2 := by
  cases a with
  | no h =>
    cases b with
    | no h2 => rfl
    | yes h2 k2 => exact absurd (walk_one h h2).1 (by simp)
  | yes h k =>
    cases b with
    | no h2 => exact absurd (walk_one h h2).1 (by simp)
    | yes h2 k2 =>
      obtain ⟨e1, e2⟩ := walk_one h h2
      cases e1
      subst e2
      exact hand_one k k2
def m0 : MS := ⟨fun _ => none, fun _ => none⟩
inductive Upto (rows : Rows) : Nat → MS → Prop
  | zero : Upto rows 0 m0
  | succ {k : Nat} {m m' : MS} : Upto rows k m → Give rows m k m' → Upto rows (k + 1) m'
structure UpOk (rows : Rows) (k : Nat) (m : MS) : Prop where
  valid : Valid rows m
  late : ∀ p, k ≤ p → m.h p = none
  cl : ∀ p, p < k → m.h p = none → ∃ R, R p ∧ Closed rows m R
theorem upto_ok {rows : Rows} {k : Nat} {m : MS} (u : Upto rows k m) : UpOk rows k m := by
  induction u with
  | zero => exact ⟨⟨fun p t => ⟨fun h => (by cases h), fun h => (by cases h)⟩, fun p t h => (by cases h)⟩, fun _ _ => rfl, fun p h => absurd h (Nat.not_lt_zero _)⟩
  | @succ k m m' _ g ih =>
    have hk := ih.late k (Nat.le_refl _)
    rcases give_ok ih.valid hk g with a | ⟨rfl, R, r, c⟩
    · refine ⟨a.valid, fun p hp => (a.dom p (by omega)).mpr (ih.late p (by omega)), fun p hp hn => ?_⟩
      by_cases e : p = k
      · rw [e] at hn
        exact absurd hn a.got
      · obtain ⟨R, r, c⟩ := ih.cl p (by omega) ((a.dom p e).mp hn)
        refine ⟨R, r, fun q rq t ht => ?_⟩
        obtain ⟨q', r', hq'⟩ := c q rq t ht
        exact ⟨q', r', (a.cl R c q' r').trans hq'⟩
    · refine ⟨ih.valid, fun p hp => ih.late p (by omega), fun p hp hn => ?_⟩
      by_cases e : p = k
      · rw [e]
        exact ⟨R, r, c⟩
      · exact ih.cl p (by omega) hn
theorem upto_one {rows : Rows} : ∀ {k : Nat} {a b : MS}, Upto rows k a → Upto rows k b → a = b
  | 0, _, _, .zero, .zero => rfl
  | k + 1, _, _, .succ u g, .succ v h => by
    have := upto_one u v
    subst this
    exact give_one g h
def Full (rows : Rows) (m : MS) : Prop := ∀ p, p < rows.length → m.h p ≠ none
def dealt (n : Nat) (m : MS) : List Int := (List.range n).map fun p => (m.h p).getD 0
theorem dealt_get {n p : Nat} {m : MS} (h : p < n) : (dealt n m)[p]? = some ((m.h p).getD 0) := by
  unfold dealt
  rw [List.getElem?_map, List.getElem?_range h]
  rfl
theorem dealt_ok {rows : Rows} {m : MS} (v : Valid rows m) (f : Full rows m) : Ds rows (dealt rows.length m) ∧ ∀ p t, m.h p = some t → (dealt rows.length m)[p]? = some t := by
  have ln : (dealt rows.length m).length = rows.length := by unfold dealt; rw [List.length_map, List.length_range]
  have get : ∀ p t, m.h p = some t → (dealt rows.length m)[p]? = some t := fun p t h => by
    rw [dealt_get (row_lt (v.tie p t h)), h]
    rfl
  have back : ∀ p t, (dealt rows.length m)[p]? = some t → m.h p = some t := fun p t h => by
    have hp : p < rows.length := by
      have := (List.getElem?_eq_some_iff.mp h).1
      omega
    cases e : m.h p with
    | none => exact absurd e (f p hp)
    | some s =>
      rw [get p s e] at h
      exact h
  refine ⟨⟨ln, fun p t h => v.tie p t (back p t h), ?_⟩, get⟩
  unfold dealt
  refine nodup_map List.nodup_range fun x hx y hy e => ?_
  have hx' := List.mem_range.mp hx
  have hy' := List.mem_range.mp hy
  cases ex : m.h x with
  | none => exact absurd ex (f x hx')
  | some s =>
    cases ey : m.h y with
    | none => exact absurd ey (f y hy')
    | some t =>
      rw [ex, ey] at e
      have e' : s = t := e
      rw [e'] at ex
      exact v.inj ex ey
/-- either all are served, or there is no dealing -/
theorem full_or {rows : Rows} {m : MS} (o : UpOk rows rows.length m) : Full rows m ∨ ∃ p, p < rows.length ∧ m.h p = none ∧ ∀ D, ¬ Ds rows D := by
  by_cases f : Full rows m
  · exact .inl f
  · obtain ⟨p, hp⟩ := Classical.not_forall.mp f
    obtain ⟨h1, h2⟩ := Classical.not_imp.mp hp
    have h3 : m.h p = none := Classical.byContradiction h2
    obtain ⟨R, r, c⟩ := o.cl p h1 h3
    exact .inr ⟨p, h1, h3, fun D d => no_dealing o.valid h1 r c h3 d⟩
inductive Reach (rows : Rows) (o : Int → Option Nat) (q : Nat) : Nat → Prop
  | refl : Reach rows o q q
  | step {x y : Nat} {s : Int} : Reach rows o q x → s ∈ row rows x → o s = some y → Reach rows o q y
def Few (rows : Rows) : Prop := ∃ U : List Int, U.length ≤ rows.length ∧ ∀ p, ∀ t ∈ row rows p, t ∈ U
theorem owned {rows : Rows} {m : MS} (v : Valid rows m) (f : Full rows m) (few : Few rows) {p : Nat} {t : Int} (h : t ∈ row rows p) : ∃ q, m.o t = some q := by
  obtain ⟨U, hl, hU⟩ := few
  obtain ⟨d, get⟩ := dealt_ok v f
  have h1 := all_in d.nd (l2 := U) (fun x hx => by
    obtain ⟨i, hi⟩ := List.getElem?_of_mem hx
    exact hU i x (d.tie i x hi)) (by rw [d.len]; exact hl) t (hU p t h)
  obtain ⟨i, hi⟩ := List.getElem?_of_mem h1
  have hin : i < rows.length := row_lt (d.tie i t hi)
  cases e : m.h i with
  | none => exact absurd e (f i hin)
  | some s =>
    rw [get i s e] at hi
    cases hi
    exact ⟨i, (v.inv i t).mp e⟩
theorem reach_of {rows : Rows} {m : MS} {D : List Int} {p q : Nat} {t : Int} (v : Valid rows m) (f : Full rows m) (few : Few rows) (d : Ds rows D) (hD : D[p]? = some t) (ho : m.o t = some q) : Reach rows m.o q p := by
  refine Classical.byContradiction fun hc => ?_
  have hq : q < rows.length := row_lt (v.tie q t ((v.inv q t).mpr ho))
  have own : ∀ x, x < rows.length → ∃ s y, D[x]? = some s ∧ s ∈ row rows x ∧ m.o s = some y := fun x hx => by
    obtain ⟨s, e, hs⟩ := d.get hx
    obtain ⟨y, hy⟩ := owned v f few hs
    exact ⟨s, y, e, hs, hy⟩
  refine no_room (n := rows.length) (R := Reach rows m.o q) (p := q) (f := fun x => (m.o (D[x]?.getD 0)).getD 0) hq .refl (fun x hx rx => ?_) (fun x y hx hy rx ry e => ?_)
  · obtain ⟨s, y, e, hs, hy⟩ := own x hx
    show (m.o (D[x]?.getD 0)).getD 0 < _ ∧ Reach rows m.o q ((m.o (D[x]?.getD 0)).getD 0) ∧ (m.o (D[x]?.getD 0)).getD 0 ≠ q
    rw [e]
    show (m.o s).getD 0 < _ ∧ Reach rows m.o q ((m.o s).getD 0) ∧ (m.o s).getD 0 ≠ q
    rw [hy]
    refine ⟨row_lt (v.tie y s ((v.inv y s).mpr hy)), .step rx hs hy, fun z => ?_⟩
    have z' : y = q := z
    rw [z'] at hy
    have a := (v.inv q s).mpr hy
    have b := (v.inv q t).mpr ho
    rw [a] at b
    cases b
    exact hc (nodup_get d.nd e hD ▸ rx)
  · obtain ⟨s, u, e1, hs, hu⟩ := own x hx
    obtain ⟨s', u', e2, hs', hu'⟩ := own y hy
    have e' : (m.o (D[x]?.getD 0)).getD 0 = (m.o (D[y]?.getD 0)).getD 0 := e
    rw [e1, e2] at e'
    have e'' : (m.o s).getD 0 = (m.o s').getD 0 := e'
    rw [hu, hu'] at e''
    have e3 : u = u' := e''
    subst e3
    have a := (v.inv u s).mpr hu
    have b := (v.inv u s').mpr hu'
    rw [a] at b
    cases b
    exact nodup_get d.nd e1 e2
def narrow (rows : Rows) (p : Nat) (t : Int) : Rows := rows.mapIdx fun x r => if x = p then [t] else r.filter (fun s => decide (s ≠ t))
theorem narrow_len {rows : Rows} {p : Nat} {t : Int} : (narrow rows p t).length = rows.length := List.length_mapIdx
theorem narrow_get {rows : Rows} {p : Nat} {t : Int} (x : Nat) : (narrow rows p t)[x]? = rows[x]?.map fun r => if x = p then [t] else r.filter (fun s => decide (s ≠ t)) := List.getElem?_mapIdx
theorem row_narrow {rows : Rows} {p : Nat} {t : Int} {x : Nat} (h : x < rows.length) : row (narrow rows p t) x = if x = p then [t] else (row rows x).filter (fun s => decide (s ≠ t)) := by
  unfold row
  rw [narrow_get, List.getElem?_eq_getElem h]
  rfl
theorem mem_narrow {rows : Rows} {p : Nat} {t : Int} {x : Nat} {s : Int} (h : x < rows.length) : s ∈ row (narrow rows p t) x ↔ (x = p ∧ s = t) ∨ (x ≠ p ∧ s ∈ row rows x ∧ s ≠ t) := by
  rw [row_narrow h]
  by_cases e : x = p
  · rw [if_pos e, List.mem_singleton]
    exact ⟨fun z => .inl ⟨e, z⟩, fun z => z.elim (fun z => z.2) fun z => absurd e z.1⟩
  · rw [if_neg e, List.mem_filter, decide_eq_true_iff]
    exact ⟨fun z => .inr ⟨e, z⟩, fun z => z.elim (fun z => absurd z.1 e) fun z => z.2⟩
theorem ds_narrow {rows : Rows} {p : Nat} {t : Int} {D : List Int} (hp : p < rows.length) (ht : t ∈ row rows p) : Ds (narrow rows p t) D ↔ Ds rows D ∧ D[p]? = some t := by
  constructor
  · intro d
    have ln : D.length = rows.length := by rw [d.len, narrow_len]
    have hpt : D[p]? = some t := by
      obtain ⟨s, e, hs⟩ := d.get (p := p) (by rw [narrow_len]; exact hp)
      rcases (mem_narrow hp).mp hs with a | a
      · rw [e, a.2]
      · exact absurd rfl a.1
    refine ⟨⟨ln, fun x s e => ?_, d.nd⟩, hpt⟩
    have hx : x < rows.length := by
      have := (List.getElem?_eq_some_iff.mp e).1
      omega
    rcases (mem_narrow hx).mp (d.tie x s e) with a | a
    · rw [a.1, a.2]; exact ht
    · exact a.2.1
  · rintro ⟨d, hpt⟩
    refine ⟨by rw [narrow_len]; exact d.len, fun x s e => ?_, d.nd⟩
    have hx : x < rows.length := by
      have := (List.getElem?_eq_some_iff.mp e).1
      rw [d.len] at this
      exact this
    refine (mem_narrow hx).mpr ?_
    by_cases z : x = p
    · rw [z, hpt] at e
      exact .inl ⟨z, (Option.some.inj e).symm⟩
    · exact .inr ⟨z, d.tie x s e, fun y => z (nodup_get d.nd (by rw [y] at e; exact e) hpt)⟩
/-- a tie is in a dealing if the one who holds its thing comes to the person -/
theorem dealing_of {rows : Rows} {m : MS} {p q : Nat} {t : Int} (v : Valid rows m) (f : Full rows m) (ht : t ∈ row rows p) (ho : m.o t = some q) (r : Reach rows m.o q p) : ∃ D, Ds rows D ∧ D[p]? = some t := by
  have hp : p < rows.length := row_lt ht
  have hqt := (v.inv q t).mpr ho
  have hq : q < rows.length := row_lt (v.tie q t hqt)
  by_cases e : q = p
  · obtain ⟨d, get⟩ := dealt_ok v f
    exact ⟨_, d, get p t (by rw [← e]; exact hqt)⟩
  · obtain ⟨g, hg⟩ : ∃ g, m.h p = some g := by
      cases z : m.h p with
      | none => exact absurd z (f p hp)
      | some g => exact ⟨g, rfl⟩
    have hgt : g ≠ t := fun z => e (v.inj hqt (by rw [← z]; exact hg))
    obtain ⟨N, eN⟩ : ∃ N : MS, N = ⟨fset (fset m.h q none) p (some t), fset (fset m.o g none) t (some p)⟩ := ⟨_, rfl⟩
    have Nh : ∀ x, N.h x = if x = p then some t else if x = q then none else m.h x := fun x => by rw [eN]; rfl
    have No : ∀ s, N.o s = if s = t then some p else if s = g then none else m.o s := fun s => by rw [eN]; rfl
    have vN : Valid (narrow rows p t) N := by
      refine ⟨fun x s => ?_, fun x s h => ?_⟩
      · rw [Nh, No]
        by_cases a : x = p
        · rw [if_pos a]
          by_cases b : s = t
          · rw [if_pos b, a, b]
            exact ⟨fun _ => rfl, fun _ => rfl⟩
          · rw [if_neg b]
            refine ⟨fun z => absurd (Option.some.inj z).symm b, fun z => ?_⟩
            by_cases c : s = g
            · rw [if_pos c] at z; cases z
            · rw [if_neg c] at z
              have := (v.inv x s).mpr z
              rw [a, hg] at this
              exact absurd (Option.some.inj this).symm c
        · rw [if_neg a]
          by_cases b : s = t
          · rw [if_pos b]
            refine ⟨fun z => ?_, fun z => absurd (Option.some.inj z).symm a⟩
            by_cases c : x = q
            · rw [if_pos c] at z; cases z
            · rw [if_neg c, b] at z
              exact absurd (v.inj z hqt) c
          · rw [if_neg b]
            by_cases c : x = q
            · rw [if_pos c]
              refine ⟨fun z => (by cases z), fun z => ?_⟩
              by_cases d : s = g
              · rw [if_pos d] at z; cases z
              · rw [if_neg d] at z
                have := (v.inv x s).mpr z
                rw [c, hqt] at this
                exact absurd (Option.some.inj this).symm b
            · rw [if_neg c]
              by_cases d : s = g
              · rw [if_pos d]
                refine ⟨fun z => ?_, fun z => (by cases z)⟩
                rw [d] at z
                exact absurd (v.inj z hg) a
              · rw [if_neg d]
                exact v.inv x s
      · rw [Nh] at h
        by_cases a : x = p
        · rw [if_pos a] at h
          cases h
          exact (mem_narrow (by rw [a]; exact hp)).mpr (.inl ⟨a, rfl⟩)
        · rw [if_neg a] at h
          by_cases c : x = q
          · rw [if_pos c] at h; cases h
          · rw [if_neg c] at h
            have hs := v.tie x s h
            exact (mem_narrow (row_lt hs)).mpr (.inr ⟨a, hs, fun z => c (v.inj (by rw [z] at h; exact h) hqt)⟩)
    have hNq : N.h q = none := by rw [Nh, if_neg e, if_pos rfl]
    obtain ⟨m', g'⟩ := give_ex vN hNq
    rcases give_ok vN hNq g' with a | ⟨_, R, rq, c⟩
    · have full : Full (narrow rows p t) m' := fun x hx => by
        by_cases z : x = q
        · rw [z]; exact a.got
        · intro y
          have := (a.dom x z).mp y
          rw [Nh] at this
          by_cases w : x = p
          · rw [if_pos w] at this; cases this
          · rw [if_neg w, if_neg z] at this
            rw [narrow_len] at hx
            exact f x hx this
      have d := (dealt_ok a.valid full).1
      have := (ds_narrow hp ht).mp d
      exact ⟨_, this.1, this.2⟩
    · exfalso
      have all : ∀ x, Reach rows m.o q x → R x ∧ x ≠ p := fun x hx => by
        induction hx with
        | refl => exact ⟨rq, e⟩
        | @step x y s _ hs hy ih =>
          have hys := (v.inv y s).mpr hy
          by_cases z : s = t
          · rw [z, ho] at hy
            cases hy
            exact ⟨rq, e⟩
          · obtain ⟨y', ry', hy'⟩ := c x ih.1 s ((mem_narrow (row_lt hs)).mpr (.inr ⟨ih.2, hs, z⟩))
            rw [Nh] at hy'
            by_cases w : y' = p
            · rw [if_pos w] at hy'
              exact absurd (Option.some.inj hy').symm z
            · rw [if_neg w] at hy'
              by_cases u : y' = q
              · rw [if_pos u] at hy'; cases hy'
              · rw [if_neg u] at hy'
                have := v.inj hy' hys
                rw [← this]
                exact ⟨ry', w⟩
      exact (all p r).2 rfl
def Live (rows : Rows) (p : Nat) (t : Int) : Prop := ∃ D, Ds rows D ∧ D[p]? = some t
theorem live_iff {rows : Rows} {m : MS} {p q : Nat} {t : Int} (v : Valid rows m) (f : Full rows m) (few : Few rows) (ht : t ∈ row rows p) (ho : m.o t = some q) : Live rows p t ↔ Reach rows m.o q p :=
  ⟨fun ⟨_, d, e⟩ => reach_of v f few d e ho, fun r => dealing_of v f ht ho r⟩
/-- the rows without the ties that are in no dealing -/
noncomputable def liveR (rows : Rows) : Rows := rows.mapIdx fun p r => r.filter (fun t => decide (Live rows p t))
theorem liveR_len {rows : Rows} : (liveR rows).length = rows.length := List.length_mapIdx
theorem row_liveR {rows : Rows} {p : Nat} : row (liveR rows) p = (row rows p).filter (fun t => decide (Live rows p t)) := by
  unfold row liveR
  rw [List.getElem?_mapIdx]
  cases rows[p]? with
  | none => rfl
  | some r => rfl
theorem mem_liveR {rows : Rows} {p : Nat} {t : Int} : t ∈ row (liveR rows) p ↔ Live rows p t := by
  rw [row_liveR, List.mem_filter, decide_eq_true_iff]
  exact ⟨fun h => h.2, fun h => ⟨by obtain ⟨D, d, e⟩ := h; exact d.tie p t e, h⟩⟩
theorem ds_liveR {rows : Rows} {D : List Int} : Ds (liveR rows) D ↔ Ds rows D := by
  constructor
  · intro d
    refine ⟨by rw [d.len, liveR_len], fun p t e => ?_, d.nd⟩
    obtain ⟨D', d', e'⟩ := mem_liveR.mp (d.tie p t e)
    exact d'.tie p t e'
  · intro d
    exact ⟨by rw [liveR_len]; exact d.len, fun p t e => mem_liveR.mpr ⟨D, d, e⟩, d.nd⟩
end Mt
set_option maxRecDepth 100000
set_option maxHeartbeats 2000000
namespace Fo
open PySem PySem.Spec PyProof.Rows L2
section
variable {X : Cx}
theorem pip_of {op : Operator} {r : R2} (h : OpR X (inplaceOp op) r) : PIp X op r := fun pins s σ H x y v u Q I r1 r2 q => h pins s σ H x y v u Q I r1 r2 q
def rGetL (K : PySem.W.Frag) : V → V → Hp → VK → Prop := fun o i H Q => ∃ p xs k v, o = .ref p ∧ i = .int k ∧ 0 ≤ k ∧ SqL K H p xs ∧ atI xs k = some v ∧ Q v H
theorem get_list : PGet X (rGetL X.K) := by
  intro pins s σ H o i ov iv Q I ro ri h
  obtain ⟨p, xs, k, z, rfl, rfl, k0, hq, he, q⟩ := h
  cases ro
  obtain ⟨t, rfl⟩ := ri
  obtain ⟨its, r, pl, hz⟩ := I.list hq
  obtain ⟨j, h1, h2, h3, h4, h5⟩ := atI_get he
  obtain ⟨w, ew, rw'⟩ := r.get h2
  have hl := r.length
  have hn := line63
  have hj : k.toNat = j := by
    rw [seqIndex_of k0 h5] at h1
    exact Option.some.inj h1
  exact wpAny_getItem_list pl.isList k0 (by omega) (by rw [hj]; simpa using ew) ⟨z, H, I, rw', q⟩
end
theorem while_m {c : TT} {tb : TS} {D : Ends} {σ : L2.St} {H : Hp} (Pv : Nat → L2.St → Hp → Prop) (h0 : ∃ m, Pv m σ H)
    (hs : ∀ m σ H, Pv m σ H → c σ H fun b H1 => if b = true then tb { D with nx := fun σ' H' => ∃ j, j < m ∧ Pv j σ' H', ct := fun σ' H' => ∃ j, j < m ∧ Pv j σ' H', bk := D.nx } σ H1 else D.nx σ H1)
    (mono : ∀ σ H Q Q', (∀ b H1, Q b H1 → Q' b H1) → c σ H Q → c σ H Q') : tWhile c tb D σ H := by
  refine ⟨Pv, h0, fun m σ H p => mono σ H _ _ (fun b H1 q => ?_) (hs m σ H p)⟩
  cases b with
  | true => exact ⟨_, fun σ' H' h => h, q⟩
  | false => exact q
abbrev nV (q : Nat) : V := .int (q : Int)
def DR (H : Hp) (a : Addr) (f : Int → Option Nat) : Prop := ∃ kvs : List (Key × V), H a = some (.dK kvs) ∧ (∀ t : Int, valV kvs (.inl t) = (f t).map nV) ∧ (kvs.map (·.1)).Nodup ∧ ∀ k ∈ kvs.map (·.1), ∃ t : Int, k = .inl t ∧ f t ≠ none
theorem DR.new {H : Hp} {p : Addr} : DR (upd H p (.dK [])) p (fun _ => none) := ⟨[], upd_same, fun _ => rfl, List.nodup_nil, fun _ h => (by cases h)⟩
theorem DR.at_ {H H' : Hp} {a : Addr} {f : Int → Option Nat} (d : DR H a f) (h : ∀ o, H a = some o → H' a = some o) : DR H' a f := by
  obtain ⟨kvs, e, r⟩ := d
  exact ⟨kvs, h _ e, r⟩
theorem DR.isd {H : Hp} {a : Addr} {f : Int → Option Nat} (d : DR H a f) : ∃ kvs, H a = some (.dK kvs) := by
  obtain ⟨kvs, e, r⟩ := d
  exact ⟨kvs, e⟩
theorem keys_put {kvs : List (Key × V)} {k : Key} {v : V} : ∀ j ∈ (putK kvs k v).map (·.1), j = k ∨ j ∈ kvs.map (·.1) := by
  intro j hj
  unfold putK at hj
  by_cases c : (kvs.any fun kv => decide (kv.1 = k)) = true
  · rw [if_pos c, List.map_map] at hj
    right
    obtain ⟨kv, h1, h2⟩ := List.mem_map.mp hj
    refine List.mem_map.mpr ⟨kv, h1, ?_⟩
    rw [← h2]
    show kv.1 = (if kv.1 = k then (kv.1, v) else kv).1
    by_cases z : kv.1 = k
    · rw [if_pos z]
    · rw [if_neg z]
  · rw [if_neg c, List.map_append] at hj
    rcases List.mem_append.mp hj with h | h
    · exact .inr h
    · exact .inl (by simpa using h)
theorem nodup_put {kvs : List (Key × V)} {k : Key} {v : V} (h : (kvs.map (·.1)).Nodup) : ((putK kvs k v).map (·.1)).Nodup := by
  unfold putK
  by_cases c : (kvs.any fun kv => decide (kv.1 = k)) = true
  · rw [if_pos c, List.map_map]
    have e : kvs.map ((·.1) ∘ fun kv => if kv.1 = k then (kv.1, v) else kv) = kvs.map (·.1) := List.map_congr_left fun kv _ => by
      show (if kv.1 = k then (kv.1, v) else kv).1 = kv.1
      by_cases z : kv.1 = k
      · rw [if_pos z]
      · rw [if_neg z]
    rw [e]
    exact h
  · rw [if_neg c, List.map_append]
    refine List.nodup_append.mpr ⟨h, List.nodup_cons.mpr ⟨fun z => (by cases z), List.nodup_nil⟩, fun x hx y hy => ?_⟩
    have ey : y = k := by simpa using hy
    rw [ey]
    intro z
    apply c
    rw [List.any_eq_true]
    obtain ⟨kv, h1, h2⟩ := List.mem_map.mp hx
    exact ⟨kv, h1, decide_eq_true (by rw [h2, z])⟩
theorem DR.len {H : Hp} {a : Addr} {f : Int → Option Nat} {U : List Int} {kvs : List (Key × V)} (hn : (kvs.map (·.1)).Nodup) (hk : ∀ k ∈ kvs.map (·.1), ∃ t : Int, k = .inl t ∧ f t ≠ none) (hU : ∀ t, f t ≠ none → t ∈ U) : kvs.length ≤ U.length := by
  have := Mt.len_le (l2 := U.map (Sum.inl : Int → Key)) hn fun k hk' => by
    obtain ⟨t, e, h⟩ := hk k hk'
    exact List.mem_map.mpr ⟨t, hU t h, e.symm⟩
  rw [List.length_map, List.length_map] at this
  exact this
theorem DR.get {H : Hp} {a : Addr} {f : Int → Option Nat} (d : DR H a f) (t : Int) : DGet H a (.int t) ((f t).map nV) := by
  obtain ⟨kvs, e, h, _⟩ := d
  rw [← h t]
  exact DGet.k (k := .inl t) e
theorem DR.put {H : Hp} {a : Addr} {f : Int → Option Nat} {U : List Int} (d : DR H a f) (t : Int) (q : Nat) (hU : ∀ t, f t ≠ none → t ∈ U) (hl : U.length ≤ 100000) : ∃ H', DPut H a (.int t) (nV q) H' ∧ DR H' a (Mt.fset f t (some q)) ∧ ∀ b, b ≠ a → H' b = H b := by
  obtain ⟨kvs, e, h, hn, hk⟩ := d
  have ln := DR.len (H := H) (a := a) hn hk hU
  refine ⟨_, DPut.k (k := .inl t) e (small_lt (by omega)), ⟨_, upd_same, fun s => ?_, nodup_put hn, fun k hk' => ?_⟩, fun b hb => upd_ne hb⟩
  · rw [valV_put]
    by_cases z : s = t
    · rw [if_pos (by rw [z]), z, Mt.fset_same]
      rfl
    · rw [if_neg (fun y => z (by injection y)), Mt.fset_ne z]
      exact h s
  · rcases keys_put k hk' with z | z
    · exact ⟨t, z, by rw [Mt.fset_same]; exact fun y => nomatch y⟩
    · obtain ⟨s, e1, e2⟩ := hk k z
      refine ⟨s, e1, ?_⟩
      by_cases y : s = t
      · rw [y, Mt.fset_same]; exact fun y => nomatch y
      · rw [Mt.fset_ne y]; exact e2
/-- all but two places are kept -/
def Keep2 (a b : Addr) (H H' : Hp) : Prop := ∀ c o, c ≠ a → c ≠ b → H c = some o → H' c = some o
theorem Keep2.refl {a b : Addr} {H : Hp} : Keep2 a b H H := fun _ _ _ _ h => h
theorem Keep2.trans {a b : Addr} {H H1 H2 : Hp} (x : Keep2 a b H H1) (y : Keep2 a b H1 H2) : Keep2 a b H H2 := fun c o h1 h2 e => y c o h1 h2 (x c o h1 h2 e)
theorem Keep2.same {a b : Addr} {H H' : Hp} (s : Same H H') : Keep2 a b H H' := fun c o _ _ e => s c o e
theorem same_keep2 {a b : Addr} {H0 H H' : Hp} (s : Same H0 H) (k : Keep2 a b H H') (ha : H0 a = none) (hb : H0 b = none) : Same H0 H' := fun c o e => k c o (ne_of_none e ha) (ne_of_none e hb) (s c o e)
/-- who holds what, as a list -/
abbrev oI : Option Int → V
  | none => .non
  | some t => .int t
def heldV (n : Nat) (h : Nat → Option Int) : List V := (List.range n).map fun p => oI (h p)
theorem heldV_len {n : Nat} {h : Nat → Option Int} : (heldV n h).length = n := by unfold heldV; rw [List.length_map, List.length_range]
theorem heldV_get {n p : Nat} {h : Nat → Option Int} (hp : p < n) : (heldV n h)[p]? = some (oI (h p)) := by
  unfold heldV
  rw [List.getElem?_map, List.getElem?_range hp]
  rfl
theorem heldV_set {n q : Nat} {h : Nat → Option Int} {t : Int} : (heldV n h).set q (.int t) = heldV n (Mt.fset h q (some t)) := by
  apply List.ext_getElem?
  intro i
  rw [List.getElem?_set, heldV_len]
  by_cases hq : q = i
  · rw [if_pos hq]
    subst hq
    by_cases hn : q < n
    · rw [if_pos hn, heldV_get hn, Mt.fset_same]
    · rw [if_neg hn]
      symm
      rw [List.getElem?_eq_none_iff, heldV_len]
      omega
  · rw [if_neg hq]
    by_cases hn : i < n
    · rw [heldV_get hn, heldV_get hn, Mt.fset_ne (Ne.symm hq)]
    · rw [List.getElem?_eq_none (by rw [heldV_len]; omega), List.getElem?_eq_none (by rw [heldV_len]; omega)]
/-- handing on in so many steps -/
inductive HandN (c : Mt.Came) : Nat → Mt.MS → Int → Mt.MS → Prop
  | last {m : Mt.MS} {t : Int} {q : Nat} : c t = some q → m.h q = none → HandN c 0 m t (Mt.put m q t)
  | more {k : Nat} {m m' : Mt.MS} {t s : Int} {q : Nat} : c t = some q → m.h q = some s → HandN c k (Mt.put m q t) s m' → HandN c (k + 1) m t m'
theorem hand_n {c : Mt.Came} {m m' : Mt.MS} {t : Int} (h : Mt.Hand c m t m') : ∃ k, HandN c k m t m' := by
  induction h with
  | last a b => exact ⟨0, .last a b⟩
  | more a b _ ih =>
    obtain ⟨k, hk⟩ := ih
    exact ⟨k + 1, .more a b hk⟩
end Fo
namespace Fo
open PySem PySem.Spec PyProof.Rows L2
theorem dc_enumL {K : PySem.W.Frag} {a : Addr} {xs : List V} {g : TG} {tt : TT} {tk tv : TE} {vs : List Nat} {σ : L2.St} {H1 : Hp} {D : Addr} {Qd : Hp → Prop} (Pv : Nat → Hp → Prop) (h0 : Pv 0 (upd H1 D (.dK []))) (hl : ∀ i H, i ≤ xs.length → Pv i H → SqL K H a xs)
    (hs : ∀ i x H T, xs[i]? = some x → Pv i H → H T = none → g (.ref T) (wipe σ vs) (upd H T (.tup [.int (i : Nat), x])) fun σ2 H2 => wipe σ2 vs = wipe σ vs ∧ tt σ2 H2 fun b H3 =>
      if b = true then tk σ2 H3 fun y H4 => tv σ2 H4 fun z H5 => ∃ kvs k, y = kV k ∧ H5 D = some (.dK kvs) ∧ kvs.length < sizeLine ∧ Pv (i + 1) (upd H5 D (.dK (putK kvs k z))) else Pv (i + 1) H3) (hd : ∀ H, Pv xs.length H → Qd H) :
    ∃ W : Nat → Nat → Hp → Prop, (∃ m, W 0 m (upd H1 D (.dK []))) ∧ ∀ i m H, W i m H →
      ((Ite K a).stop i H ∧ Qd H) ∨ ((Ite K a).go i H ∧ ∃ Nx : Hp → Prop, (∀ H', Nx H' → ∃ m', m' < m ∧ W (i + 1) m' H') ∧ ∀ x H', (Ite K a).yld i H x H' → g x (wipe σ vs) H' fun σ2 H2 => wipe σ2 vs = wipe σ vs ∧ tt σ2 H2 fun b H3 =>
        if b = true then tk σ2 H3 fun y H4 => tv σ2 H4 fun z H5 => ∃ kvs k, y = kV k ∧ H5 D = some (.dK kvs) ∧ kvs.length < sizeLine ∧ Nx (upd H5 D (.dK (putK kvs k z))) else Nx H3) := by
  refine ⟨fun i m H => m = xs.length - i ∧ i ≤ xs.length ∧ Pv i H, ⟨xs.length, by simp, Nat.zero_le _, h0⟩, ?_⟩
  rintro i m H ⟨rfl, hi, p⟩
  have q := hl i H hi p
  by_cases hlt : i < xs.length
  · refine .inr ⟨⟨xs, xs[i], q, by simp [hlt]⟩, Pv (i + 1), fun H' p' => ⟨xs.length - (i + 1), by omega, rfl, hlt, p'⟩, fun x H' y => ?_⟩
    obtain ⟨T, x', rfl, nT, rfl, y⟩ := y
    exact hs i x' H T (y xs q) p nT
  · have e : i = xs.length := by omega
    subst e
    exact .inl ⟨⟨xs, q, Nat.le_refl _⟩, hd H p⟩
/-- a list of numbers, by a function -/
def numL (n : Nat) (M : Nat → Nat) : List V := (List.range n).map fun p => nV (M p)
theorem numL_len {n : Nat} {M : Nat → Nat} : (numL n M).length = n := by unfold numL; rw [List.length_map, List.length_range]
theorem numL_get {n p : Nat} {M : Nat → Nat} (hp : p < n) : (numL n M)[p]? = some (nV (M p)) := by
  unfold numL
  rw [List.getElem?_map, List.getElem?_range hp]
  rfl
theorem numL_set {n q N : Nat} {M : Nat → Nat} : (numL n M).set q (nV N) = numL n (Mt.fset M q N) := by
  apply List.ext_getElem?
  intro i
  rw [List.getElem?_set, numL_len]
  by_cases hq : q = i
  · rw [if_pos hq]
    subst hq
    by_cases hn : q < n
    · rw [if_pos hn, numL_get hn, Mt.fset_same]
    · rw [if_neg hn]
      symm
      rw [List.getElem?_eq_none_iff, numL_len]
      omega
  · rw [if_neg hq]
    by_cases hn : i < n
    · rw [numL_get hn, numL_get hn, Mt.fset_ne (Ne.symm hq)]
    · rw [List.getElem?_eq_none (by rw [numL_len]; omega), List.getElem?_eq_none (by rw [numL_len]; omega)]
theorem numL_snoc {n N : Nat} {M : Nat → Nat} : numL n M ++ [nV N] = numL (n + 1) (Mt.fset M n N) := by
  unfold numL
  rw [List.range_succ, List.map_append]
  congr 1
  · exact List.map_congr_left fun p hp => by
      have := List.mem_range.mp hp
      rw [Mt.fset_ne (by omega)]
  · show _ = [nV (Mt.fset M n N n)]
    rw [Mt.fset_same]
def rOdd : R2 := fun x y H Q => ∃ n : Nat, x = .int (n : Int) ∧ y = .int 1 ∧ Q (.int ((n % 2 : Nat) : Int)) H
theorem two_pow_nat (k : Nat) : ((2 : Int) ^ k) = ((2 ^ k : Nat) : Int) := by
  induction k with
  | zero => rfl
  | succ k ih => rw [Int.pow_succ, ih, Nat.pow_succ]; omega
theorem or_nat (a b : Nat) : Builtin.bitOr (a : Int) (b : Int) = ((a ||| b : Nat) : Int) := by
  rw [bitOr_nn (by omega) (by omega)]
  rfl
theorem shr_nat (a k : Nat) : (a : Int) / 2 ^ k = ((a / 2 ^ k : Nat) : Int) := by
  rw [two_pow_nat]
  rfl
end Fo
namespace Fo
open PySem PySem.Spec PyProof.Rows L2
def rNotN : R2 := fun x y H Q => y = .non ∧ Q (.bl (!decide (x = .non))) H
end Fo
namespace Fo
open PySem PySem.Spec PyProof.Rows L2
def retScope (s : Stmt) : Scope := match (defBody s).getLast? with
  | some (.Return (some (.ListComp _ _ sc _)) _) => sc
  | some (.Return (some (.Call _ [.ListComp _ _ sc _] _ _)) _) => sc
  | _ => defScope s
def envQ (sc : Scope) : Env := { scope := sc, locals := 0, globals := 0, cells := [], qual := "", func := none, code := .none, frame := none, builtins := 0 }
theorem non_in (n : Nat) (h : Nat → Option Int) : inV .non (heldV n h) = decide (∃ p, p < n ∧ h p = none) := by
  unfold inV heldV
  rw [List.any_map]
  by_cases c : ∃ p, p < n ∧ h p = none
  · rw [decide_eq_true c, List.any_eq_true]
    obtain ⟨p, h1, h2⟩ := c
    exact ⟨p, List.mem_range.mpr h1, by show eqV (oI (h p)) .non = true; rw [h2]; rfl⟩
  · rw [decide_eq_false c]
    rw [Bool.eq_false_iff]
    intro q
    rw [List.any_eq_true] at q
    obtain ⟨p, h1, h2⟩ := q
    cases e : h p with
    | none => exact c ⟨p, List.mem_range.mp h1, e⟩
    | some t =>
      have h2' : eqV (oI (h p)) .non = true := h2
      rw [e] at h2'
      cases h2'
theorem held_flat (n : Nat) (h : Nat → Option Int) : (heldV n h).all flatV = true := by
  unfold heldV
  rw [List.all_map, List.all_eq_true]
  intro p _
  show flatV (oI (h p)) = true
  cases h p <;> rfl
end Fo
set_option maxRecDepth 100000
set_option maxHeartbeats 4000000
namespace Fo
open PySem PySem.Spec PyProof.Rows L2
section
variable {X : Cx}
def rDUpd : V → List V → Hp → VK → Prop := fun x vs H Q => ∃ (d o : Addr) (kvs more : List (Key × V)), x = .ref d ∧ vs = [.ref o] ∧ d ≠ o ∧ H d = some (.dK kvs) ∧ H o = some (.dK more) ∧ kvs.length + more.length ≤ sizeLine ∧ Q .non (upd H d (.dK (mergeK kvs more)))
theorem mtd_update : MtR X "dict.update" rDUpd := by
  intro pins s σ H x vs v us Q I rx rv h
  obtain ⟨d, o, kvs, more, rfl, rfl, ne, e, eo, hl, q⟩ := h
  obtain rfl : v = Value.ref d := rx
  obtain ⟨u, rfl, ru⟩ := rv.one
  obtain rfl : u = Value.ref o := ru
  obtain ⟨z1, hd1, vs1, rel1, dd1⟩ := dk_of I.hok e
  obtain ⟨z2, hd2, vs2, rel2, dd2⟩ := dk_of I.hok eo
  refine call_meetsIn PySem.F.slot_dict_update dd1.typeIs PySem.F.entry_dict_update (PySem.F.args_dict_update_2 _ _) (meets_dict_update (mixKind X.prog X.w) d o ne hd2) ⟨vs1, vs2, dd1, dd2, by rw [← rel1.length, ← rel2.length]; exact hl, fun h' d1 d2 hs => ?_⟩
  have he : ∃ q, h'.get? d = some q := let ⟨q, _, _, hq, _⟩ := d1; ⟨q, hq⟩
  have hz : (mergeK kvs more).length ≤ sizeLine := Nat.le_trans (length_mergeK more kvs) hl
  exact ⟨.non, _, d_write (t' := s.toks) I (by rw [e]; exact True.intro) hs he (dk_new hz hd1 (rel2.merge rel1) d1), rfl, q⟩
theorem pe_dupdate {o e : Expr} {to : TE} {t : TA} {es : List Expr} {apos cpos : Pos} (ho : PE X o to) (ha : PA X (e :: es) t)
    (hbase : attributeBase o "update" X.env (eval o X.env) = eval o X.env := by rfl)
    (hfew : ((backTo cpos (starEach (e :: es) X.env)).all (fun x => !x.1) && (backToKw cpos (keywordEach [] X.env)).all (fun x => x.1.isSome)
      && decide ((e :: es).length + ([] : List Keyword).length + (if ([] : List Keyword).isEmpty then 0 else 1) < 30)) = true := by rfl)
    (hline : (apos.endLine == cpos.line) = true := by rfl) (hs : starEach (e :: es) X.env = (false, eval e X.env) :: starEach es X.env := by rfl) (hplain : (backTo cpos (starEach es X.env)).any (·.1) = false := by rfl) :
    PE X (.Call (.Attribute o "update" apos) (e :: es) [] cpos) (tBM X.K "dict" rDUpd to t) :=
  pe_bm PySem.F.plainAttrs_dict PySem.F.slot_dict_update PySem.F.type_dict_update mtd_update ho ha hbase hfew hline hs hplain
def rSortedLL (K : PySem.W.Frag) : List V → Hp → VK → Prop := fun vs H Q => ∃ (a : Addr) (bs : List (Addr × List Int)), vs = [V.ref a] ∧ SqL K H a (bs.map fun b => V.ref b.1) ∧ (∀ b ∈ bs, SqL K H b.1 (b.2.map V.int)) ∧
  ∀ (os : List (Addr × List Int)) p, os.Perm bs → (os.map fun b => b.2).Pairwise (· ≤ ·) → H p = none → Q (.ref p) (upd H p (.lst (os.map fun b => V.ref b.1)))
theorem refs_of {bs : List (Addr × List Int)} {its : List Value} (h : Vals (bs.map fun b => V.ref b.1) its) : its = bs.map fun b => Value.ref b.1 := by
  induction bs generalizing its with
  | nil => cases h; rfl
  | cons b bs ih =>
    cases h with
    | cons r t =>
      rw [ih t, show _ = Value.ref b.1 from r]
      rfl
theorem refs_to : ∀ bs : List (Addr × List Int), Vals (bs.map fun b => V.ref b.1) (bs.map fun b => Value.ref b.1)
  | [] => .nil
  | b :: bs => .cons rfl (refs_to bs)
theorem each_refs : ∀ bs : List (Addr × List Int), PySem.W.EachIs (fun v (b : Addr × List Int) => v = Value.ref b.1) (bs.map fun b => Value.ref b.1) bs
  | [] => .nil
  | b :: bs => .cons rfl (each_refs bs)
theorem each_back {bs : List (Addr × List Int)} {out : List Value} (h : PySem.W.EachIs (fun v (b : Addr × List Int) => v = Value.ref b.1) out bs) : out = bs.map fun b => Value.ref b.1 := by
  induction h with
  | nil => rfl
  | cons h _ ih => rw [ih, h]; rfl
theorem each_of {R : Value → (Addr × List Int) → Prop} : ∀ {bs : List (Addr × List Int)}, (∀ b ∈ bs, R (Value.ref b.1) b) → PySem.W.EachIs R (bs.map fun b => Value.ref b.1) bs
  | [], _ => .nil
  | b :: bs, h => .cons (h b List.mem_cons_self) (each_of fun c hc => h c (List.mem_cons_of_mem _ hc))
theorem cr_sortedLL (hu : X.A.units + 64 < cLine) : CallR X (.builtin "sorted") (rSortedLL X.K) := by
  intro pins s σ H vs us Q I r h
  obtain ⟨a, bs, rfl, hs, hb, q⟩ := h
  obtain ⟨its, rv, hl, hz⟩ := I.list hs
  obtain ⟨u, rfl, ru⟩ := r.one
  obtain rfl : u = Value.ref a := ru
  have ei := refs_of rv
  subst ei
  have bl : bs.length ≤ sizeLine := by
    have := hz
    simpa using this
  refine PySem.W.sorted_data (R := fun v (b : Addr × List Int) => v = Value.ref b.1) (enc := fun b => .list (b.2.map .int)) hl.isList (each_refs bs) (each_of fun b hm => ?_) (PySem.W.AllAlike.of fun b b' => ?_) (PySem.W.Sortable.others fun b => ⟨fun z => (by cases z), fun xs z => (by cases z)⟩) bl (fun b _ => ?_) fun out ho eo => ?_
  · exact Dp.reads I (.list (b.2.map .int)) (V.ref b.1) (Value.ref b.1) (.lst (hb b hm) (dpAll_ints _)) rfl
  · exact PySem.W.alike_ints _ _
  · show X.A.units + 2 + (PyData.list (b.2.map .int)).depth < cLine
    rw [PyData.depth, PySem.W.depth_ints]
    omega
  · obtain ⟨n, hn⟩ := sortedAll_at s.heap (bs.map fun b => Value.ref b.1) out.toArray
    rw [PySem.W.dataLe_rows] at eo
    have eo' := each_back eo
    have pm := List.mergeSort_perm bs fun p q => decide (p.2 ≤ q.2)
    have hf := I.hok.fresh (Nat.le_succ s.heap.objs.size)
    refine ⟨.ref (s.heap.objs.size + 1), _, I.laid (t' := s.toks) (o := .lst ((bs.mergeSort fun p q => decide (p.2 ≤ q.2)).map fun b => V.ref b.1)) (fun b o e => sortedAll_old e) (Nat.le_succ _) ⟨?_, out, n, ?_, hn⟩, rfl, q (bs.mergeSort fun p q => decide (p.2 ≤ q.2)) _ pm ?_ hf⟩
    · rw [List.length_map, pm.length_eq]; exact bl
    · rw [eo']
      exact refs_to _
    · rw [List.pairwise_map]
      refine (List.pairwise_mergeSort (fun a b c h1 h2 => ?_) (fun a b => ?_) bs).imp fun h => of_decide_eq_true h
      · exact decide_eq_true (List.le_trans (of_decide_eq_true h1) (of_decide_eq_true h2))
      · by_cases h : a.2 ≤ b.2
        · rw [decide_eq_true h]; rfl
        · rw [decide_eq_true (List.le_of_lt (List.not_le.mp h)), Bool.or_true]
end
section
variable {X : Cx}
/-- name = {k: v for ..} on one line, the name a local -/
theorem ps_setDc {i : Nat} {y : Str} {py : Pos} {kx vx tg iter : Expr} {ifs : List Expr} {scope : Scope} {own : List (Str × Nat)} {pos spos : Pos} {wi : TI} {g : TG} {tt : TT} {tk tv : TE} (hc : X.calm = true) (hN : X.N.Nodup) (hy : X.N[i]? = some y) (hyl : X.env.scope.names.lookup y = some .local)
    (hsw : swapsWith (.DictComp kx vx [⟨tg, iter, ifs, 0⟩] scope pos) (some (.Name y py)) spos.line X.env = pure true) (hi : PI X tg iter wi) (ok : BlkOk X.N X.env.scope scope own)
    (hg : ∀ (s : Shared) (H : Hp) (C : Addr) (cl : List (Str × Addr)) (fp : List Addr), PG (X.blk s H scope (compEnvC scope cl C X.env) fp) tg g) (ht : ∀ (s : Shared) (H : Hp) (C : Addr) (cl : List (Str × Addr)) (fp : List Addr), PTs (X.blk s H scope (compEnvC scope cl C X.env) fp) ifs tt)
    (hk : ∀ (s : Shared) (H : Hp) (C : Addr) (cl : List (Str × Addr)) (fp : List Addr), PE (X.blk s H scope (compEnvC scope cl C X.env) fp) kx tk)
    (he : ∀ (s : Shared) (H : Hp) (C : Addr) (cl : List (Str × Addr)) (fp : List Addr), PE (X.blk s H scope (compEnvC scope cl C X.env) fp) vx tv) (hs : ∀ x, foldedSetIterable iter X.env x = pure x := by intro _; rfl) :
    PS X (.Assign [.Name y py] (.DictComp kx vx [⟨tg, iter, ifs, 0⟩] scope pos) spos) (tAsg (tDc wi g tt tk tv (own.map (·.2))) (gName i)) := by
  refine ⟨fun pins s σ H D I h => ?_⟩
  rw [exec_Assign_Name_used _ _ _ _ hsw]
  refine wpAny_bind (wpAny_standAt (wpAny_bind ?_))
  show wpAny _ X.A (do let _ ← comprehension (.DictComp kx vx [⟨tg, iter, ifs, 0⟩] scope pos) scope X.env (firstIterPos [⟨tg, iter, ifs, 0⟩] pos) newDict false (eval iter X.env) (some (assign (.Name y py) X.env))) _ _ s
  have h : tDc wi g tt tk tv (own.map (·.2)) σ H (fun x H1 => gName i x σ H1 D.nx) := h
  refine wpAny_bind (thn (dc_core (Qf := fun _ s' => SP X pins D .next s') hc hN I hi ok hg ht hk he hs h fun L C s' m H' I' q hn f => ?_) fun _ s' hq => wpAny_pure (wpAny_pure hq))
  show wpAny _ _ (assign (.Name y py) X.env (.ref L)) _ _ _
  refine wpAny_assign_Name (store_ok2 (v := V.ref L) I' hN hy (.inl hyl) rfl (fun s2 I2 ⟨a, sb, ha⟩ => ?_) (.inr hyl))
  obtain ⟨f0, f1, f2, f3, f4, f5⟩ := f
  have haC : C ≠ a := by
    rcases ha with z | z
    · rw [z]; exact f1
    · exact fun e => f4 y a z e.symm
  refine ⟨m, hn.sameBut sb haC, fun h3 sb3 => ?_⟩
  exact ⟨_, H', I2.turned (t' := s2.toks) (fun b o hb e => (sb3.2 b hb).trans e) f0 f1 f3 f4 f5, q⟩
theorem swD_true {kx vx : Expr} {gs : List Comprehension} {scope : Scope} {pos py : Pos} {y : Str} {l : Nat} {env : Env} (hk : env.scope.kind = .function) (hy : env.scope.names.lookup y = some .local) (hl : (py.line == pos.line) = true)
    (ha : (scope.names.any fun (n, k) => n == y && (k == .local || k == .cell)) = false) : swapsWith (.DictComp kx vx gs scope pos) (some (.Name y py)) l env = pure true := by
  have ky : env.kindOf y = some .local := hy
  have hb : env.blockKind = .function := by unfold Env.blockKind; rw [hk]; rfl
  unfold swapsWith
  simp only [hb, ky, ha, Expr.pos, hl]
  rfl
end
end Fo
set_option maxRecDepth 100000
set_option maxHeartbeats 1000000
namespace Mt
open Classical
theorem Reach.trans {rows : Rows} {o : Int → Option Nat} {a b c : Nat} (x : Reach rows o a b) (y : Reach rows o b c) : Reach rows o a c := by
  induction y with
  | refl => exact x
  | step _ h1 h2 ih => exact .step ih h1 h2
def S0 (rows : Rows) (o : Int → Option Nat) (p q : Nat) : Prop := q = p ∨ ∃ t ∈ row rows p, o t = some q
def WS (rows : Rows) (o : Int → Option Nat) : Nat → Nat → Nat → Prop
  | 0 => S0 rows o
  | k + 1 => fun p q => WS rows o k p q ∨ (WS rows o k p k ∧ WS rows o k k q)
theorem ws_up {rows : Rows} {o : Int → Option Nat} {p q : Nat} : ∀ {k j : Nat}, k ≤ j → WS rows o k p q → WS rows o j p q
  | k, 0, h, w => by
    have : k = 0 := by omega
    rw [this] at w
    exact w
  | k, j + 1, h, w => by
    by_cases e : k = j + 1
    · rw [e] at w; exact w
    · exact .inl (ws_up (k := k) (j := j) (by omega) w)
theorem ws_reach {rows : Rows} {o : Int → Option Nat} : ∀ {k p q : Nat}, WS rows o k p q → Reach rows o p q
  | 0, p, q, h => by
    rcases h with h | ⟨t, h1, h2⟩
    · rw [h]; exact .refl
    · exact .step .refl h1 h2
  | k + 1, p, q, h => by
    rcases h with h | ⟨h1, h2⟩
    · exact ws_reach h
    · exact (ws_reach h1).trans (ws_reach h2)
theorem ws_mid {rows : Rows} {o : Int → Option Nat} : ∀ {k p m q : Nat}, m < k → WS rows o k p m → WS rows o k m q → WS rows o k p q
  | 0, _, _, _, h, _, _ => absurd h (Nat.not_lt_zero _)
  | k + 1, p, m, q, h, a, b => by
    by_cases e : m = k
    · subst e
      have a' : WS rows o m p m := a.elim id fun z => z.1
      have b' : WS rows o m m q := b.elim id fun z => z.2
      exact .inr ⟨a', b'⟩
    · have hm : m < k := by omega
      rcases a with a | ⟨a1, a2⟩
      · rcases b with b | ⟨b1, b2⟩
        · exact .inl (ws_mid hm a b)
        · exact .inr ⟨ws_mid hm a b1, b2⟩
      · rcases b with b | ⟨b1, b2⟩
        · exact .inr ⟨a1, ws_mid hm a2 b⟩
        · exact .inr ⟨a1, b2⟩
theorem reach_ws {rows : Rows} {o : Int → Option Nat} {p q : Nat} (h : Reach rows o p q) : WS rows o rows.length p q := by
  induction h with
  | refl => exact ws_up (Nat.zero_le _) (.inl rfl)
  | @step x y s _ h1 h2 ih => exact ws_mid (row_lt h1) ih (ws_up (Nat.zero_le _) (.inr ⟨s, h1, h2⟩))
theorem ws_iff {rows : Rows} {o : Int → Option Nat} {p q : Nat} : WS rows o rows.length p q ↔ Reach rows o p q := ⟨ws_reach, reach_ws⟩
/-- a number whose bits say who is in -/
def Bits (N : Nat) (S : Nat → Prop) : Prop := ∀ q, N.testBit q = true ↔ S q
theorem bits_one (p : Nat) : Bits (2 ^ p) (fun q => q = p) := fun q => by
  rw [Nat.testBit_two_pow, decide_eq_true_iff]
  exact ⟨fun h => h.symm, fun h => h.symm⟩
theorem bits_or {N M : Nat} {S T : Nat → Prop} (a : Bits N S) (b : Bits M T) : Bits (N ||| M) (fun q => S q ∨ T q) := fun q => by
  rw [Nat.testBit_or, Bool.or_eq_true, a q, b q]
theorem Bits.congr {N : Nat} {S T : Nat → Prop} (a : Bits N S) (h : ∀ q, S q ↔ T q) : Bits N T := fun q => (a q).trans (h q)
theorem bit_of (N p : Nat) : N / 2 ^ p % 2 = if N.testBit p = true then 1 else 0 := by
  rw [Nat.testBit_eq_decide_div_mod_eq]
  have := Nat.mod_two_eq_zero_or_one (N / 2 ^ p)
  rcases this with h | h <;> rw [h] <;> simp
theorem ws_step {rows : Rows} {o : Int → Option Nat} {k j : Nat} {N M : Nat} (a : Bits N (WS rows o k j)) (b : Bits M (WS rows o k k)) (h : N.testBit k = true) : Bits (N ||| M) (WS rows o (k + 1) j) :=
  (bits_or a b).congr fun q => ⟨fun z => z.elim .inl fun z => .inr ⟨(a k).mp h, z⟩, fun z => z.elim .inl fun z => .inr z.2⟩
theorem ws_stay {rows : Rows} {o : Int → Option Nat} {k j : Nat} {N : Nat} (a : Bits N (WS rows o k j)) (h : ¬ N.testBit k = true) : Bits N (WS rows o (k + 1) j) :=
  a.congr fun q => ⟨.inl, fun z => z.elim id fun z => absurd ((a k).mpr z.1) h⟩
theorem ws_self {rows : Rows} {o : Int → Option Nat} {k : Nat} {N : Nat} (a : Bits N (WS rows o (k + 1) k)) : Bits N (WS rows o k k) :=
  a.congr fun q => ⟨fun z => z.elim id fun z => z.2, .inl⟩
def reached (n N : Nat) : List Nat := (List.range n).filter fun q => N.testBit q
end Mt
set_option maxRecDepth 100000
set_option maxHeartbeats 1000000
namespace Mt
open Classical
structure Least (rows : Rows) (E : List Int) : Prop where
  ds : Ds rows E
  le : ∀ (D : List Int), Ds rows D → ∀ q : Nat, (∀ j : Nat, j < q → D[j]? = E[j]?) → ∀ x y : Int, E[q]? = some x → D[q]? = some y → x ≤ y
theorem Least.one {rows : Rows} {A B : List Int} (a : Least rows A) (b : Least rows B) : A = B := by
  have h : ∀ q : Nat, ∀ j : Nat, j < q → A[j]? = B[j]? := by
    intro q
    induction q with
    | zero => exact fun j hj => absurd hj (Nat.not_lt_zero _)
    | succ q ih =>
      intro j hj
      by_cases e : j = q
      · subst e
        by_cases hn : j < rows.length
        · obtain ⟨x, hx, _⟩ := a.ds.get hn
          obtain ⟨y, hy, _⟩ := b.ds.get hn
          have h1 := a.le B b.ds j (fun i hi => (ih i hi).symm) x y hx hy
          have h2 := b.le A a.ds j ih y x hy hx
          rw [hx, hy]
          congr 1
          omega
        · rw [List.getElem?_eq_none (by rw [a.ds.len]; omega), List.getElem?_eq_none (by rw [b.ds.len]; omega)]
      · exact ih j (by omega)
  exact List.ext_getElem? fun j => h (j + 1) j (Nat.lt_succ_self j)
/-- behind the choices of the first i people -/
structure Gree (rows : Rows) (i : Nat) (L : Rows) : Prop where
  len : L.length = rows.length
  ex : ∃ D, Ds L D
  live : ∀ p, ∀ t ∈ row L p, Live L p t
  sub : ∀ D, Ds L D → Ds rows D
  asc : ∀ p, (row L p).Pairwise (· < ·)
  one : ∀ q, q < i → q < rows.length → ∃ e, row L q = [e]
  cmp : ∀ D, Ds rows D → (∀ q, q < i → ∀ e, row L q = [e] → D[q]? = some e) → Ds L D
  min : ∀ q, q < i → ∀ e, row L q = [e] → ∀ D, Ds rows D → (∀ j, j < q → ∀ f, row L j = [f] → D[j]? = some f) → ∀ y, D[q]? = some y → e ≤ y
theorem pair_filter {r : List Int} {f : Int → Bool} (h : r.Pairwise (· < ·)) : (r.filter f).Pairwise (· < ·) := List.Pairwise.filter _ h
theorem Gree.init {rows : Rows} (asc : ∀ p, (row rows p).Pairwise (· < ·)) (ex : ∃ D, Ds rows D) : Gree rows 0 (liveR rows) where
  len := liveR_len
  ex := by obtain ⟨D, d⟩ := ex; exact ⟨D, ds_liveR.mpr d⟩
  live := fun p t h => by
    obtain ⟨D, d, e⟩ := mem_liveR.mp h
    exact ⟨D, ds_liveR.mpr d, e⟩
  sub := fun D d => ds_liveR.mp d
  asc := fun p => by rw [row_liveR]; exact pair_filter (asc p)
  one := fun q h => absurd h (Nat.not_lt_zero _)
  cmp := fun D d _ => ds_liveR.mpr d
  min := fun q h => absurd h (Nat.not_lt_zero _)
theorem single_live {L : Rows} {q : Nat} {e : Int} {D : List Int} (h : row L q = [e]) (d : Ds L D) (hq : q < L.length) : D[q]? = some e := by
  obtain ⟨t, ht, hm⟩ := d.get hq
  rw [h] at hm
  rw [ht, List.mem_singleton.mp hm]
theorem first_le {r : List Int} {t y : Int} {l : List Int} (h : r.Pairwise (· < ·)) (e : r = t :: l) (hy : y ∈ r) : t ≤ y := by
  rw [e] at h hy
  rcases List.mem_cons.mp hy with z | z
  · omega
  · have := (List.pairwise_cons.mp h).1 y z
    omega
/-- the person takes the first thing -/
theorem Gree.take {rows L : Rows} {i : Nat} {t : Int} {l : List Int} (g : Gree rows i L) (hi : i < rows.length) (h : row L i = t :: l) : Gree rows (i + 1) (liveR (narrow L i t)) := by
  have hiL : i < L.length := by rw [g.len]; exact hi
  have ht : t ∈ row L i := by rw [h]; exact List.mem_cons_self
  have ex2 : ∃ D, Ds (narrow L i t) D := by
    obtain ⟨D, d, e⟩ := g.live i t ht
    exact ⟨D, (ds_narrow hiL ht).mpr ⟨d, e⟩⟩
  have len2 : (liveR (narrow L i t)).length = rows.length := by rw [liveR_len, narrow_len, g.len]
  have dsn : ∀ D, Ds (liveR (narrow L i t)) D ↔ Ds L D ∧ D[i]? = some t := fun D => ds_liveR.trans (ds_narrow hiL ht)
  have rown : ∀ p, p < rows.length → ∀ s, s ∈ row (liveR (narrow L i t)) p ↔ ∃ D, Ds L D ∧ D[i]? = some t ∧ D[p]? = some s := fun p hp s => by
    rw [mem_liveR]
    constructor
    · rintro ⟨D, d, e⟩
      obtain ⟨a, b⟩ := (ds_narrow hiL ht).mp d
      exact ⟨D, a, b, e⟩
    · rintro ⟨D, a, b, e⟩
      exact ⟨D, (ds_narrow hiL ht).mpr ⟨a, b⟩, e⟩
  have asc2 : ∀ p, (row (liveR (narrow L i t)) p).Pairwise (· < ·) := fun p => by
    rw [row_liveR]
    refine pair_filter ?_
    by_cases hp : p < L.length
    · rw [row_narrow hp]
      by_cases e : p = i
      · rw [if_pos e]; exact List.pairwise_singleton _ _
      · rw [if_neg e]; exact pair_filter (g.asc p)
    · have : row (narrow L i t) p = [] := by
        unfold row
        rw [narrow_get, List.getElem?_eq_none (by omega)]
        rfl
      rw [this]
      exact .nil
  have one_of : ∀ p, p < rows.length → ∀ e, (∀ D, Ds L D → D[i]? = some t → D[p]? = some e) → row (liveR (narrow L i t)) p = [e] := fun p hp e he => by
    have all : ∀ s ∈ row (liveR (narrow L i t)) p, s = e := fun s hs => by
      obtain ⟨D, a, b, c⟩ := (rown p hp s).mp hs
      have := he D a b
      rw [c] at this
      exact Option.some.inj this
    have mem : e ∈ row (liveR (narrow L i t)) p := by
      obtain ⟨D, d, b⟩ := g.live i t ht
      exact (rown p hp e).mpr ⟨D, d, b, he D d b⟩
    have as := asc2 p
    cases hr : row (liveR (narrow L i t)) p with
    | nil => rw [hr] at mem; cases mem
    | cons a r =>
      rw [hr] at all as
      have ea := all a List.mem_cons_self
      cases r with
      | nil => rw [ea]
      | cons b r =>
        have eb := all b (List.mem_cons_of_mem _ List.mem_cons_self)
        have := (List.pairwise_cons.mp as).1 b List.mem_cons_self
        omega
  have old : ∀ q, q < i → q < rows.length → ∀ e, row L q = [e] → row (liveR (narrow L i t)) q = [e] := fun q hq hn e he =>
    one_of q hn e fun D d _ => single_live he d (by rw [g.len]; exact hn)
  have new : row (liveR (narrow L i t)) i = [t] := one_of i hi t fun D _ b => b
  refine ⟨len2, ?_, fun p s hs => ?_, fun D d => g.sub D ((dsn D).mp d).1, asc2, fun q hq hn => ?_, fun D d hD => ?_, fun q hq e he D d hD y hy => ?_⟩
  · obtain ⟨D, d⟩ := ex2
    exact ⟨D, ds_liveR.mpr d⟩
  · obtain ⟨D, d, e⟩ := mem_liveR.mp hs
    exact ⟨D, ds_liveR.mpr d, e⟩
  · by_cases z : q = i
    · rw [z]; exact ⟨t, new⟩
    · obtain ⟨e, he⟩ := g.one q (by omega) hn
      exact ⟨e, old q (by omega) hn e he⟩
  · refine (dsn D).mpr ⟨g.cmp D d fun q hq e he => hD q (by omega) e ?_, hD i (Nat.lt_succ_self i) t new⟩
    have hn : q < rows.length := by omega
    exact old q hq hn e he
  · have hn : q < rows.length := by omega
    have back : ∀ j, j < i → j < rows.length → ∀ f, row L j = [f] → row (liveR (narrow L i t)) j = [f] := old
    by_cases z : q = i
    · subst z
      rw [new] at he
      cases he
      have dl := g.cmp D d fun j hj f hf => hD j hj f (old j hj (by omega) f hf)
      obtain ⟨y', e1, m1⟩ := dl.get hiL
      rw [hy] at e1
      cases e1
      exact first_le (g.asc q) h m1
    · have hq2 : q < i := by omega
      obtain ⟨f, hf⟩ := g.one q hq2 hn
      have := old q hq2 hn f hf
      rw [this] at he
      cases he
      exact g.min q hq2 e hf D d (fun j hj f hf => hD j hj f (old j (by omega) (by omega) f hf)) y hy
def ext (found : List (List Int)) (r : List Int) : List (List Int) := found.flatMap fun d => (r.filter fun t => decide (t ∉ d)).map fun t => d ++ [t]
def deals (rows : Rows) : List (List Int) := rows.foldl ext [[]]
theorem mem_ext {found : List (List Int)} {r : List Int} {x : List Int} : x ∈ ext found r ↔ ∃ d ∈ found, ∃ t ∈ r, t ∉ d ∧ x = d ++ [t] := by
  unfold ext
  rw [List.mem_flatMap]
  constructor
  · rintro ⟨d, hd, hx⟩
    obtain ⟨t, ht, e⟩ := List.mem_map.mp hx
    have := List.mem_filter.mp ht
    exact ⟨d, hd, t, this.1, of_decide_eq_true this.2, e.symm⟩
  · rintro ⟨d, hd, t, ht, hn, e⟩
    exact ⟨d, hd, List.mem_map.mpr ⟨t, List.mem_filter.mpr ⟨ht, decide_eq_true hn⟩, e.symm⟩⟩
theorem deals_snoc {rows : Rows} {r : List Int} : deals (rows ++ [r]) = ext (deals rows) r := by
  unfold deals
  rw [List.foldl_append]
  rfl
theorem row_app {rows : Rows} {r : List Int} {p : Nat} (h : p < rows.length) : row (rows ++ [r]) p = row rows p := by
  unfold row
  rw [List.getElem?_append_left h]
theorem row_last {rows : Rows} {r : List Int} : row (rows ++ [r]) rows.length = r := by
  unfold row
  rw [List.getElem?_append_right (Nat.le_refl _), Nat.sub_self]
  rfl
theorem ds_snoc {rows : Rows} {r : List Int} {x : List Int} : Ds (rows ++ [r]) x ↔ ∃ d t, Ds rows d ∧ t ∈ r ∧ t ∉ d ∧ x = d ++ [t] := by
  constructor
  · intro h
    have hl : x.length = rows.length + 1 := by rw [h.len, List.length_append]; rfl
    rcases List.eq_nil_or_concat x with e | ⟨d, t, e⟩
    · rw [e] at hl; cases hl
    · rw [List.concat_eq_append] at e
      subst e
      have dl : d.length = rows.length := by
        rw [List.length_append, List.length_singleton] at hl
        omega
      have nd := List.nodup_append.mp h.nd
      refine ⟨d, t, ⟨dl, fun p s hs => ?_, nd.1⟩, ?_, fun hm => nd.2.2 t hm t List.mem_cons_self rfl, rfl⟩
      · have hp : p < d.length := (List.getElem?_eq_some_iff.mp hs).1
        have := h.tie p s (by rw [List.getElem?_append_left hp]; exact hs)
        rw [row_app (by omega)] at this
        exact this
      · have := h.tie d.length t (by rw [List.getElem?_append_right (Nat.le_refl _), Nat.sub_self]; rfl)
        rw [dl, row_last] at this
        exact this
  · rintro ⟨d, t, h, ht, hn, rfl⟩
    refine ⟨by rw [List.length_append, List.length_append, h.len]; rfl, fun p s hs => ?_, ?_⟩
    · by_cases hp : p < d.length
      · rw [List.getElem?_append_left hp] at hs
        rw [row_app (by rw [← h.len]; exact hp)]
        exact h.tie p s hs
      · rw [List.getElem?_append_right (by omega)] at hs
        have hp2 : p - d.length = 0 := by
          have := (List.getElem?_eq_some_iff.mp hs).1
          rw [List.length_singleton] at this
          omega
        rw [hp2] at hs
        have hs' : some t = some s := hs
        cases hs'
        have : p = rows.length := by rw [← h.len]; omega
        rw [this, row_last]
        exact ht
    · exact List.nodup_append.mpr ⟨h.nd, List.nodup_cons.mpr ⟨fun z => (by cases z), List.nodup_nil⟩, fun x hx y hy => by rw [List.mem_singleton.mp hy]; exact fun e => hn (e ▸ hx)⟩
theorem rev_ind {α : Type} {P : List α → Prop} (h0 : P []) (h1 : ∀ l x, P l → P (l ++ [x])) : ∀ l, P l := by
  intro l
  have : ∀ n, ∀ l : List α, l.length = n → P l := by
    intro n
    induction n with
    | zero => intro l hl; rw [List.length_eq_zero_iff.mp hl]; exact h0
    | succ n ih =>
      intro l hl
      rcases List.eq_nil_or_concat l with e | ⟨d, t, e⟩
      · rw [e] at hl; cases hl
      · rw [List.concat_eq_append] at e
        rw [e] at hl ⊢
        rw [List.length_append, List.length_singleton] at hl
        exact h1 d t (ih d (by omega))
  exact this _ l rfl
theorem mem_deals {rows : Rows} : ∀ x, x ∈ deals rows ↔ Ds rows x := by
  refine rev_ind (P := fun rows => ∀ x, x ∈ deals rows ↔ Ds rows x) ?_ ?_ rows
  · intro x
    show x ∈ [[]] ↔ _
    rw [List.mem_singleton]
    constructor
    · rintro rfl
      exact ⟨rfl, fun p t h => by simp at h, List.nodup_nil⟩
    · intro h
      exact List.length_eq_zero_iff.mp h.len
  · intro rows r ih x
    rw [deals_snoc, mem_ext, ds_snoc]
    constructor
    · rintro ⟨d, hd, t, ht, hn, e⟩
      exact ⟨d, t, (ih d).mp hd, ht, hn, e⟩
    · rintro ⟨d, t, hd, ht, hn, e⟩
      exact ⟨d, (ih d).mpr hd, t, ht, hn, e⟩
/-- smaller at the first place where they differ -/
def Lx (a b : List Int) : Prop := ∃ (q : Nat) (x y : Int), (∀ j : Nat, j < q → a[j]? = b[j]?) ∧ a[q]? = some x ∧ b[q]? = some y ∧ x < y
theorem lx_app {a b u v : List Int} (h : Lx a b) : Lx (a ++ u) (b ++ v) := by
  obtain ⟨q, x, y, h1, h2, h3, h4⟩ := h
  have ha := (List.getElem?_eq_some_iff.mp h2).1
  have hb := (List.getElem?_eq_some_iff.mp h3).1
  refine ⟨q, x, y, fun j hj => ?_, ?_, ?_, h4⟩
  · rw [List.getElem?_append_left (by omega), List.getElem?_append_left (by omega)]
    exact h1 j hj
  · rw [List.getElem?_append_left ha]; exact h2
  · rw [List.getElem?_append_left hb]; exact h3
theorem lx_last {d : List Int} {s t : Int} (h : s < t) : Lx (d ++ [s]) (d ++ [t]) := by
  refine ⟨d.length, s, t, fun j hj => ?_, ?_, ?_, h⟩
  · rw [List.getElem?_append_left hj, List.getElem?_append_left hj]
  · rw [List.getElem?_append_right (Nat.le_refl _), Nat.sub_self]; rfl
  · rw [List.getElem?_append_right (Nat.le_refl _), Nat.sub_self]; rfl
theorem pair_flat {f : List Int → List (List Int)} : ∀ {l : List (List Int)}, l.Pairwise Lx → (∀ d ∈ l, (f d).Pairwise Lx) → (∀ a ∈ l, ∀ b ∈ l, Lx a b → ∀ x ∈ f a, ∀ y ∈ f b, Lx x y) → (l.flatMap f).Pairwise Lx
  | [], _, _, _ => .nil
  | d :: l, hp, h1, h2 => by
    rw [List.flatMap_cons, List.pairwise_append]
    have hc := List.pairwise_cons.mp hp
    refine ⟨h1 d List.mem_cons_self, pair_flat hc.2 (fun e he => h1 e (List.mem_cons_of_mem _ he)) (fun a ha b hb => h2 a (List.mem_cons_of_mem _ ha) b (List.mem_cons_of_mem _ hb)), fun x hx y hy => ?_⟩
    obtain ⟨e, he, hy⟩ := List.mem_flatMap.mp hy
    exact h2 d List.mem_cons_self e (List.mem_cons_of_mem _ he) (hc.1 e he) x hx y hy
theorem ext_lx {found : List (List Int)} {r : List Int} (hf : found.Pairwise Lx) (hr : r.Pairwise (· < ·)) : (ext found r).Pairwise Lx := by
  unfold ext
  refine pair_flat hf (fun d _ => ?_) (fun a _ b _ hab x hx y hy => ?_)
  · rw [List.pairwise_map]
    exact (pair_filter hr).imp fun {s t} h => lx_last h
  · obtain ⟨s, _, rfl⟩ := List.mem_map.mp hx
    obtain ⟨t, _, rfl⟩ := List.mem_map.mp hy
    exact lx_app hab
theorem deals_lx {rows : Rows} (asc : ∀ r ∈ rows, r.Pairwise (· < ·)) : (deals rows).Pairwise Lx := by
  revert asc
  refine rev_ind (P := fun rows => (∀ r ∈ rows, r.Pairwise (· < ·)) → (deals rows).Pairwise Lx) ?_ ?_ rows
  · intro _
    exact List.pairwise_singleton _ _
  · intro rows r ih asc
    rw [deals_snoc]
    exact ext_lx (ih fun x hx => asc x (List.mem_append_left _ hx)) (asc r (List.mem_append_right _ List.mem_cons_self))
end Mt
namespace Mt
theorem sum_append (a b : List Nat) : (a ++ b).sum = a.sum + b.sum := by
  induction a with
  | nil => simp
  | cons x a ih => rw [List.cons_append, List.sum_cons, List.sum_cons, ih]; omega
theorem sum_flat {α : Type} (f : α → List Nat) : ∀ l : List α, (l.flatMap f).sum = (l.map fun x => (f x).sum).sum
  | [] => rfl
  | x :: l => by rw [List.flatMap_cons, sum_append, List.map_cons, List.sum_cons, sum_flat f l]
theorem sum_zero {α : Type} {f : α → Nat} : ∀ {l : List α}, (∀ x ∈ l, f x = 0) → (l.map f).sum = 0
  | [], _ => rfl
  | x :: l, h => by rw [List.map_cons, List.sum_cons, h x List.mem_cons_self, sum_zero fun y hy => h y (List.mem_cons_of_mem _ hy)]
theorem sum_congr {α : Type} {f g : α → Nat} : ∀ {l : List α}, (∀ x ∈ l, f x = g x) → (l.map f).sum = (l.map g).sum
  | [], _ => rfl
  | x :: l, h => by rw [List.map_cons, List.map_cons, List.sum_cons, List.sum_cons, h x List.mem_cons_self, sum_congr fun y hy => h y (List.mem_cons_of_mem _ hy)]
theorem sum_if {α : Type} {p : α → Bool} {f : α → Nat} : ∀ l : List α, ((l.filter p).map f).sum = (l.map fun x => if p x = true then f x else 0).sum
  | [] => rfl
  | x :: l => by
    rw [List.map_cons, List.sum_cons, ← sum_if l]
    by_cases h : p x = true
    · rw [List.filter_cons_of_pos h, List.map_cons, List.sum_cons, if_pos h]
    · rw [List.filter_cons_of_neg h, if_neg h, Nat.zero_add]
theorem sum_add {α : Type} {f g : α → Nat} : ∀ l : List α, (l.map fun x => f x + g x).sum = (l.map f).sum + (l.map g).sum
  | [] => rfl
  | x :: l => by rw [List.map_cons, List.map_cons, List.map_cons, List.sum_cons, List.sum_cons, List.sum_cons, sum_add l]; omega
theorem sum_swap {α β : Type} {f : α → β → Nat} : ∀ (a : List α) (b : List β), (a.map fun x => (b.map fun y => f x y).sum).sum = (b.map fun y => (a.map fun x => f x y).sum).sum
  | [], b => (sum_zero fun y _ => rfl).symm
  | x :: a, b => by
    rw [List.map_cons, List.sum_cons, sum_swap a b, ← sum_add]
    rfl
theorem sum_mul {α : Type} {f : α → Nat} (c : Nat) : ∀ l : List α, (l.map fun x => f x * c).sum = (l.map f).sum * c
  | [] => (Nat.zero_mul c).symm
  | x :: l => by rw [List.map_cons, List.map_cons, List.sum_cons, List.sum_cons, sum_mul c l, Nat.add_mul]
theorem sum_const {α : Type} {f : α → Nat} {c : Nat} : ∀ {l : List α}, (∀ x ∈ l, f x = c) → (l.map f).sum = l.length * c
  | [], _ => (Nat.zero_mul c).symm
  | x :: l, h => by rw [List.map_cons, List.sum_cons, h x List.mem_cons_self, sum_const fun y hy => h y (List.mem_cons_of_mem _ hy), List.length_cons, Nat.add_mul, Nat.one_mul]; omega
/-- in how many ways each row takes a thing, none twice, none of S -/
def cnt : List Int → Rows → Nat
  | _, [] => 1
  | S, r :: rs => ((r.filter fun t => decide (t ∉ S)).map fun t => cnt (t :: S) rs).sum
theorem cnt_congr : ∀ {rows : Rows} {S S' : List Int}, (∀ r ∈ rows, ∀ t ∈ r, t ∈ S ↔ t ∈ S') → cnt S rows = cnt S' rows
  | [], _, _, _ => rfl
  | r :: rs, S, S', h => by
    unfold cnt
    have e : (r.filter fun t => decide (t ∉ S)) = r.filter fun t => decide (t ∉ S') := List.filter_congr fun t ht => decide_eq_decide.mpr (not_congr (h r List.mem_cons_self t ht))
    rw [e]
    refine sum_congr fun t _ => cnt_congr fun q hq u hu => ?_
    rw [List.mem_cons, List.mem_cons, h q (List.mem_cons_of_mem _ hq) u hu]
theorem cnt_deals : ∀ (rows : Rows) (found : List (List Int)), (rows.foldl ext found).length = (found.map fun d => cnt d rows).sum
  | [], found => by
    show found.length = (found.map fun _ => 1).sum
    rw [sum_const (c := 1) fun _ _ => rfl, Nat.mul_one]
  | r :: rs, found => by
    show (rs.foldl ext (ext found r)).length = _
    rw [cnt_deals rs]
    unfold ext
    rw [List.map_flatMap, sum_flat]
    refine sum_congr fun d _ => ?_
    rw [List.map_map]
    show _ = ((r.filter fun t => decide (t ∉ d)).map fun t => cnt (t :: d) rs).sum
    exact sum_congr fun t _ => cnt_congr fun q _ u _ => by
      show u ∈ d ++ [t] ↔ _
      rw [List.mem_append, List.mem_singleton, List.mem_cons]
      exact Or.comm
theorem deals_cnt (rows : Rows) : (deals rows).length = cnt [] rows := by
  have := cnt_deals rows [[]]
  rwa [List.map_singleton, List.sum_singleton] at this
theorem cnt_swap {S : List Int} {a b : List Int} {rs : Rows} : cnt S (a :: b :: rs) = cnt S (b :: a :: rs) := by
  have e : ∀ a b : List Int, cnt S (a :: b :: rs) = (a.map fun t => (b.map fun u => if t ∉ S ∧ u ∉ S ∧ u ≠ t then cnt (u :: t :: S) rs else 0).sum).sum := fun a b => by
    show ((a.filter fun t => decide (t ∉ S)).map fun t => ((b.filter fun u => decide (u ∉ t :: S)).map fun u => cnt (u :: t :: S) rs).sum).sum = _
    rw [sum_if]
    refine sum_congr fun t _ => ?_
    by_cases h : t ∉ S
    · rw [if_pos (decide_eq_true h), sum_if]
      refine sum_congr fun u _ => ?_
      by_cases h2 : u ∉ t :: S
      · rw [if_pos (decide_eq_true h2), if_pos ⟨h, fun z => h2 (List.mem_cons_of_mem _ z), fun z => h2 (z ▸ List.mem_cons_self)⟩]
      · rw [if_neg (by simpa using h2), if_neg]
        rintro ⟨_, x, y⟩
        exact h2 fun z => (List.mem_cons.mp z).elim y x
    · rw [if_neg (by simpa using h)]
      exact (sum_zero fun u _ => if_neg fun z => h z.1).symm
  rw [e a b, e b a, sum_swap]
  refine sum_congr fun u _ => sum_congr fun t _ => ?_
  by_cases h : t ∉ S ∧ u ∉ S ∧ u ≠ t
  · rw [if_pos h, if_pos ⟨h.2.1, h.1, fun z => h.2.2 z.symm⟩]
    exact cnt_congr fun q _ x _ => by
      simp only [List.mem_cons]
      constructor <;> rintro (x | x | x) <;> simp [x]
  · rw [if_neg h, if_neg fun z => h ⟨z.2.1, z.1, fun y => z.2.2 y.symm⟩]
theorem cnt_perm {A B : Rows} (h : A.Perm B) : ∀ S, cnt S A = cnt S B := by
  induction h with
  | nil => exact fun _ => rfl
  | cons x _ ih => exact fun S => sum_congr fun t _ => ih _
  | swap x y l => exact fun S => cnt_swap
  | trans _ _ a b => exact fun S => (a S).trans (b S)
theorem cnt_app : ∀ {A B : Rows} {S : List Int}, (∀ a ∈ A, ∀ b ∈ B, ∀ t ∈ a, t ∉ b) → cnt S (A ++ B) = cnt S A * cnt S B
  | [], B, S, _ => (Nat.one_mul _).symm
  | r :: A, B, S, h => by
    show ((r.filter fun t => decide (t ∉ S)).map fun t => cnt (t :: S) (A ++ B)).sum = ((r.filter fun t => decide (t ∉ S)).map fun t => cnt (t :: S) A).sum * cnt S B
    rw [← sum_mul]
    refine sum_congr fun t ht => ?_
    rw [cnt_app fun a ha => h a (List.mem_cons_of_mem _ ha)]
    congr 1
    exact cnt_congr fun q hq u hu => by
      rw [List.mem_cons]
      exact ⟨fun z => z.elim (fun e => absurd hu (e ▸ h r List.mem_cons_self q hq t (List.mem_filter.mp ht).1)) id, .inr⟩
end Mt
namespace Mt
structure Hap where
  ppl : List Nat
  place : Nat
  most : Nat
deriving DecidableEq
/-- how many of a heap are used in a state -/
def dg (s : Nat) (h : Hap) : Nat := s / h.place % (h.most + 1)
theorem up_mod {q m : Nat} (h : q % (m + 1) < m) : (q + 1) % (m + 1) = q % (m + 1) + 1 ∧ (q + 1) / (m + 1) = q / (m + 1) := by
  have e := Nat.div_add_mod q (m + 1)
  have hl : q % (m + 1) + 1 < m + 1 := by omega
  have e2 : q + 1 = (m + 1) * (q / (m + 1)) + (q % (m + 1) + 1) := by omega
  constructor
  · rw [e2, Nat.mul_add_mod, Nat.mod_eq_of_lt hl]
  · rw [e2, Nat.mul_add_div (Nat.succ_pos _), Nat.div_eq_of_lt hl, Nat.add_zero]
theorem dg_up {s : Nat} {a : Hap} (hp : 0 < a.place) (h : dg s a < a.most) : dg (s + a.place) a = dg s a + 1 := by
  unfold dg at h ⊢
  rw [Nat.add_div_right _ hp]
  exact (up_mod h).1
theorem dg_low {s : Nat} {a b : Hap} (hp : 0 < a.place) (h : a.place * (a.most + 1) ∣ b.place) : dg (s + b.place) a = dg s a := by
  obtain ⟨c, e⟩ := h
  unfold dg
  rw [e, Nat.mul_assoc, Nat.add_mul_div_left _ _ hp, Nat.add_mul_mod_self_left]
theorem dg_high {s : Nat} {a b : Hap} (hp : 0 < a.place) (h : a.place * (a.most + 1) ∣ b.place) (hl : dg s a < a.most) : dg (s + a.place) b = dg s b := by
  obtain ⟨c, e⟩ := h
  unfold dg at hl ⊢
  rw [e, ← Nat.div_div_eq_div_mul, ← Nat.div_div_eq_div_mul, ← Nat.div_div_eq_div_mul, ← Nat.div_div_eq_div_mul, Nat.add_div_right _ hp, (up_mod hl).2]
def pplOf (R : Rows) (t : Int) : List Nat := (List.range R.length).filter fun p => decide (t ∈ row R p)
/-- things in heaps -/
structure Heaped (R : Rows) (T : List Int) (hs : List Hap) : Prop where
  rnd : ∀ p, (row R p).Nodup
  nd : T.Nodup
  sub : ∀ p, ∀ t ∈ row R p, t ∈ T
  len : T.length = R.length
  knd : (hs.map Hap.ppl).Nodup
  key : ∀ t ∈ T, ∃ h ∈ hs, h.ppl = pplOf R t
  most : ∀ h ∈ hs, h.most = (T.filter fun t => decide (pplOf R t = h.ppl)).length
  pos : ∀ h ∈ hs, 0 < h.place
  pair : hs.Pairwise fun a b => a.place * (a.most + 1) ∣ b.place
def usedN (R : Rows) (T : List Int) (k : List Nat) (S : List Int) : Nat := (T.filter fun t => decide (pplOf R t = k ∧ t ∈ S)).length
def Enc (R : Rows) (T : List Int) (hs : List Hap) (s : Nat) (S : List Int) : Prop := ∀ h ∈ hs, dg s h = usedN R T h.ppl S
theorem filt_split {α : Type} (p q : α → Bool) : ∀ l : List α, (l.filter p).length = (l.filter fun x => p x && q x).length + (l.filter fun x => p x && !q x).length
  | [] => rfl
  | x :: l => by
    have ih := filt_split p q l
    cases hp : p x <;> cases hq : q x <;> simp [List.filter_cons, hp, hq] <;> omega
theorem used_left {R : Rows} {T : List Int} {k : List Nat} {S : List Int} : (T.filter fun t => decide (pplOf R t = k)).length = usedN R T k S + (T.filter fun t => decide (pplOf R t = k ∧ t ∉ S)).length := by
  rw [filt_split _ (fun t => decide (t ∈ S))]
  unfold usedN
  congr 1
  · congr 1
    refine List.filter_congr fun t _ => ?_
    rw [Bool.eq_iff_iff]
    simp
  · congr 1
    refine List.filter_congr fun t _ => ?_
    rw [Bool.eq_iff_iff]
    simp
theorem used_same {R : Rows} {T : List Int} {k : List Nat} {S : List Int} {t : Int} (h : pplOf R t ≠ k) : usedN R T k (t :: S) = usedN R T k S := by
  unfold usedN
  congr 1
  refine List.filter_congr fun u _ => decide_eq_decide.mpr ⟨fun ⟨a, b⟩ => ⟨a, (List.mem_cons.mp b).elim (fun e => absurd (e ▸ a) h) id⟩, fun ⟨a, b⟩ => ⟨a, List.mem_cons_of_mem _ b⟩⟩
theorem left_one {R : Rows} {S : List Int} {t : Int} (hS : t ∉ S) : ∀ {T : List Int}, T.Nodup → t ∈ T → (T.filter fun u => decide (pplOf R u = pplOf R t ∧ u ∈ t :: S)).length = (T.filter fun u => decide (pplOf R u = pplOf R t ∧ u ∈ S)).length + 1
  | [], _, h => by cases h
  | x :: T, nd, h => by
    have hx := List.nodup_cons.mp nd
    by_cases e : x = t
    · subst e
      have same : (T.filter fun u => decide (pplOf R u = pplOf R x ∧ u ∈ x :: S)) = T.filter fun u => decide (pplOf R u = pplOf R x ∧ u ∈ S) := List.filter_congr fun u hu => decide_eq_decide.mpr ⟨fun ⟨a, b⟩ => ⟨a, (List.mem_cons.mp b).elim (fun e => absurd (e ▸ hu) hx.1) id⟩, fun ⟨a, b⟩ => ⟨a, List.mem_cons_of_mem _ b⟩⟩
      rw [List.filter_cons_of_pos (by simp), List.filter_cons_of_neg (by simp [hS]), same, List.length_cons]
    · have ht : t ∈ T := (List.mem_cons.mp h).elim (fun y => absurd y.symm e) id
      have ih := left_one (R := R) hS hx.2 ht
      by_cases c : pplOf R x = pplOf R t ∧ x ∈ S
      · rw [List.filter_cons_of_pos (by simp [c.1, c.2]), List.filter_cons_of_pos (by simp [c.1, c.2]), List.length_cons, List.length_cons, ih]
      · rw [List.filter_cons_of_neg (by simpa [e] using c), List.filter_cons_of_neg (by simpa using c), ih]
theorem Enc.step {R : Rows} {T : List Int} {hs : List Hap} (W : Heaped R T hs) {s : Nat} {S : List Int} (e : Enc R T hs s S) {t : Int} (ht : t ∈ T) (hS : t ∉ S) {h : Hap} (hh : h ∈ hs) (hk : h.ppl = pplOf R t) : dg s h < h.most ∧ Enc R T hs (s + h.place) (t :: S) := by
  have lt : dg s h < h.most := by
    rw [e h hh, W.most h hh, used_left (S := S)]
    have : 0 < (T.filter fun u => decide (pplOf R u = h.ppl ∧ u ∉ S)).length := List.length_pos_of_mem (List.mem_filter.mpr ⟨ht, decide_eq_true ⟨hk.symm, hS⟩⟩)
    omega
  refine ⟨lt, fun b hb => ?_⟩
  by_cases eb : b = h
  · subst eb
    rw [dg_up (W.pos b hb) lt, e b hb]
    unfold usedN
    rw [hk, left_one hS W.nd ht]
  · have nk : pplOf R t ≠ b.ppl := fun z => eb (by
      have hn := W.knd
      obtain ⟨i, hi⟩ := List.getElem?_of_mem hb
      obtain ⟨j, hj⟩ := List.getElem?_of_mem hh
      have := nodup_get hn (i := i) (j := j) (x := b.ppl) (by rw [List.getElem?_map, hi]; rfl) (by rw [List.getElem?_map, hj]; show some h.ppl = _; rw [hk, z])
      subst this
      rw [hi] at hj
      exact Option.some.inj hj)
    rw [used_same nk, ← e b hb]
    obtain ⟨i, hi⟩ := List.getElem?_of_mem hb
    obtain ⟨j, hj⟩ := List.getElem?_of_mem hh
    obtain ⟨li, ei⟩ := List.getElem?_eq_some_iff.mp hi
    obtain ⟨lj, ej⟩ := List.getElem?_eq_some_iff.mp hj
    have pw := List.pairwise_iff_getElem.mp W.pair
    rcases Nat.lt_trichotomy i j with z | z | z
    · have := pw i j li lj z
      rw [ei, ej] at this
      exact dg_low (W.pos b hb) this
    · subst z
      exact absurd (ei.symm.trans ej) eb
    · have := pw j i lj li z
      rw [ei, ej] at this
      exact dg_high (W.pos h hh) this lt
end Mt
namespace Mt
def Tied (rows : Rows) (p q : Nat) : Prop := ∃ t, t ∈ row rows p ∧ t ∈ row rows q
theorem Tied.symm {rows : Rows} {p q : Nat} (h : Tied rows p q) : Tied rows q p := let ⟨t, a, b⟩ := h; ⟨t, b, a⟩
inductive Conn (rows : Rows) (p : Nat) : Nat → Prop
  | refl : Conn rows p p
  | step {q r : Nat} : Conn rows p q → Tied rows q r → Conn rows p r
theorem Conn.trans {rows : Rows} {p q r : Nat} (a : Conn rows p q) (b : Conn rows q r) : Conn rows p r := by
  induction b with
  | refl => exact a
  | step _ h ih => exact .step ih h
theorem Conn.one {rows : Rows} {p q : Nat} (h : Tied rows p q) : Conn rows p q := .step .refl h
theorem Conn.symm {rows : Rows} {p q : Nat} (a : Conn rows p q) : Conn rows q p := by
  induction a with
  | refl => exact .refl
  | step _ h ih => exact (Conn.one h.symm).trans ih
theorem pair_all {α : Type} {R : α → α → Prop} (sym : ∀ a b, R a b → R b a) : ∀ {l : List α}, l.Pairwise R → ∀ a ∈ l, ∀ b ∈ l, a ≠ b → R a b
  | [], _, a, h, _, _, _ => by cases h
  | x :: l, hp, a, ha, b, hb, ne => by
    have hp' := List.pairwise_cons.mp hp
    rcases List.mem_cons.mp ha with e1 | h1
    · rcases List.mem_cons.mp hb with e2 | h2
      · exact absurd (e1.trans e2.symm) ne
      · rw [e1]
        exact hp'.1 b h2
    · rcases List.mem_cons.mp hb with e2 | h2
      · rw [e2]
        exact sym _ _ (hp'.1 a h1)
      · exact pair_all sym hp'.2 a h1 b h2 ne
theorem flat_split {α : Type} (p : List α → Bool) : ∀ F : List (List α), ((F.filter fun g => !p g).flatten ++ (F.filter p).flatten).Perm F.flatten
  | [] => .refl _
  | g :: F => by
    have ih := flat_split p F
    cases h : p g
    · rw [List.filter_cons_of_pos (by simp [h]), List.filter_cons_of_neg (by simp [h]), List.flatten_cons, List.flatten_cons, List.append_assoc]
      exact ih.append_left g
    · rw [List.filter_cons_of_neg (by simp [h]), List.filter_cons_of_pos (by simp [h]), List.flatten_cons, List.flatten_cons]
      refine (List.perm_append_comm.trans ?_)
      rw [List.append_assoc]
      exact (List.perm_append_comm.trans ih).append_left g
structure Parts (rows : Rows) (i : Nat) (F : List (List Nat)) : Prop where
  perm : F.flatten.Perm (List.range i)
  ne : ∀ g ∈ F, g ≠ []
  apart : F.Pairwise fun a b => ∀ p ∈ a, ∀ q ∈ b, ¬ Tied rows p q
  conn : ∀ g ∈ F, ∀ p ∈ g, ∀ q ∈ g, Conn rows p q
theorem Parts.init {rows : Rows} : Parts rows 0 [] := ⟨.refl _, fun _ h => (by cases h), .nil, fun _ h => (by cases h)⟩
theorem Parts.step {rows : Rows} {i : Nat} {F : List (List Nat)} (h : Parts rows i F) {hit : List Nat → Bool} (hh : ∀ g ∈ F, hit g = true ↔ ∃ p ∈ g, Tied rows i p) : Parts rows (i + 1) ((F.filter fun g => !hit g) ++ [i :: (F.filter hit).flatten]) where
  perm := by
    rw [List.flatten_append, List.flatten_singleton, List.range_succ]
    have e : ((F.filter fun g => !hit g).flatten ++ i :: (F.filter hit).flatten).Perm (((F.filter fun g => !hit g).flatten ++ (F.filter hit).flatten) ++ [i]) := by
      rw [List.append_assoc]
      refine List.Perm.append_left _ ?_
      exact List.perm_append_comm (l₁ := [i]) (l₂ := (F.filter hit).flatten)
    exact e.trans (((flat_split hit F).trans h.perm).append_right [i])
  ne := fun g hg => by
    rcases List.mem_append.mp hg with hg | hg
    · exact h.ne g (List.mem_filter.mp hg).1
    · rw [List.mem_singleton.mp hg]
      exact fun z => by cases z
  apart := by
    refine List.pairwise_append.mpr ⟨h.apart.sublist List.filter_sublist, List.pairwise_singleton _ _, fun a ha b hb p hp q hq => ?_⟩
    rw [List.mem_singleton.mp hb] at hq
    obtain ⟨ha, na⟩ := List.mem_filter.mp ha
    have na' : ¬ hit a = true := by simpa using na
    rcases List.mem_cons.mp hq with rfl | hq
    · exact fun z => na' ((hh a ha).mpr ⟨p, hp, z.symm⟩)
    · obtain ⟨c, hc, hqc⟩ := List.mem_flatten.mp hq
      obtain ⟨hc, hitc⟩ := List.mem_filter.mp hc
      exact pair_all (R := fun a b => ∀ p ∈ a, ∀ q ∈ b, ¬ Tied rows p q) (fun a b h p hp q hq z => h q hq p hp z.symm) h.apart a ha c hc (fun z => na' (z ▸ hitc)) p hp q hqc
  conn := fun g hg => by
    rcases List.mem_append.mp hg with hg | hg
    · exact h.conn g (List.mem_filter.mp hg).1
    · rw [List.mem_singleton.mp hg]
      have from_i : ∀ p ∈ i :: (F.filter hit).flatten, Conn rows i p := fun p hp => by
        rcases List.mem_cons.mp hp with rfl | hp
        · exact .refl
        · obtain ⟨c, hc, hpc⟩ := List.mem_flatten.mp hp
          obtain ⟨hc, hitc⟩ := List.mem_filter.mp hc
          obtain ⟨p0, h0, ht⟩ := (hh c hc).mp hitc
          exact (Conn.one ht).trans (h.conn c hc p0 h0 p hpc)
      exact fun p hp q hq => (from_i p hp).symm.trans (from_i q hq)
/-- ascending lists of the people whom things hang together -/
structure Groups (rows : Rows) (G : List (List Nat)) : Prop where
  asc : ∀ g ∈ G, g.Pairwise (· < ·)
  perm : G.flatten.Perm (List.range rows.length)
  ne : ∀ g ∈ G, g ≠ []
  apart : G.Pairwise fun a b => ∀ p ∈ a, ∀ q ∈ b, ¬ Tied rows p q
  conn : ∀ g ∈ G, ∀ p ∈ g, ∀ q ∈ g, Conn rows p q
theorem Groups.lt {rows : Rows} {G : List (List Nat)} (h : Groups rows G) {g : List Nat} (hg : g ∈ G) {p : Nat} (hp : p ∈ g) : p < rows.length :=
  List.mem_range.mp (h.perm.mem_iff.mp (List.mem_flatten.mpr ⟨g, hg, hp⟩))
theorem Groups.nd {rows : Rows} {G : List (List Nat)} (h : Groups rows G) {g : List Nat} (hg : g ∈ G) : g.Nodup := (h.asc g hg).imp fun {a b} z => Nat.ne_of_lt z
theorem Groups.tied {rows : Rows} {G : List (List Nat)} (h : Groups rows G) {g : List Nat} (hg : g ∈ G) {p q : Nat} (hp : p ∈ g) (hq : q < rows.length) (ht : Tied rows p q) : q ∈ g := by
  obtain ⟨c, hc, hqc⟩ := List.mem_flatten.mp (h.perm.mem_iff.mpr (List.mem_range.mpr hq))
  by_cases e : g = c
  · rw [e]; exact hqc
  · exact absurd ht (pair_all (R := fun a b => ∀ p ∈ a, ∀ q ∈ b, ¬ Tied rows p q) (fun a b h p hp q hq z => h q hq p hp z.symm) h.apart g hg c hc e p hp q hqc)
/-- from the parts: each put in order, and the whole in some order -/
theorem Parts.groups {rows : Rows} {F G : List (List Nat)} (h : Parts rows rows.length F) {srt : List Nat → List Nat} (hs : ∀ g ∈ F, (srt g).Perm g ∧ (srt g).Pairwise (· < ·)) (hp : G.Perm (F.map srt)) : Groups rows G := by
  have back : ∀ g ∈ G, ∃ f ∈ F, g = srt f := fun g hg => by
    obtain ⟨f, hf, e⟩ := List.mem_map.mp (hp.mem_iff.mp hg)
    exact ⟨f, hf, e.symm⟩
  refine ⟨fun g hg => ?_, ?_, fun g hg => ?_, ?_, fun g hg p hpg q hqg => ?_⟩
  · obtain ⟨f, hf, rfl⟩ := back g hg
    exact (hs f hf).2
  · refine (hp.flatten).trans (List.Perm.trans ?_ h.perm)
    have : ∀ F' : List (List Nat), (∀ g ∈ F', (srt g).Perm g) → ((F'.map srt).flatten).Perm F'.flatten := fun F' => by
      induction F' with
      | nil => exact fun _ => .refl _
      | cons g F' ih =>
        intro hF
        rw [List.map_cons, List.flatten_cons, List.flatten_cons]
        exact (hF g List.mem_cons_self).append (ih fun c hc => hF c (List.mem_cons_of_mem _ hc))
    exact this F fun g hg => (hs g hg).1
  · obtain ⟨f, hf, rfl⟩ := back g hg
    exact fun z => h.ne f hf (by
      have := (hs f hf).1
      rw [z] at this
      exact this.nil_eq.symm)
  · have sym : ∀ a b : List Nat, (∀ p ∈ a, ∀ q ∈ b, ¬ Tied rows p q) → ∀ p ∈ b, ∀ q ∈ a, ¬ Tied rows p q := fun a b h p hp q hq z => h q hq p hp z.symm
    refine (hp.pairwise_iff (fun {a b} => sym a b)).mpr ?_
    rw [List.pairwise_map]
    exact (List.Pairwise.and_mem.mp h.apart).imp fun {a b} ⟨ha, hb, hab⟩ p hp q hq => hab p ((hs a ha).1.mem_iff.mp hp) q ((hs b hb).1.mem_iff.mp hq)
  · obtain ⟨f, hf, rfl⟩ := back g hg
    exact h.conn f hf p ((hs f hf).1.mem_iff.mp hpg) q ((hs f hf).1.mem_iff.mp hqg)
def prodN (l : List Nat) : Nat := l.foldl (· * ·) 1
theorem foldl_mul (l : List Nat) : ∀ a : Nat, l.foldl (· * ·) a = a * prodN l := by
  induction l with
  | nil => exact fun a => (Nat.mul_one a).symm
  | cons x l ih =>
    intro a
    show l.foldl (· * ·) (a * x) = a * l.foldl (· * ·) (1 * x)
    rw [ih, ih (1 * x), Nat.one_mul, Nat.mul_assoc]
theorem prodN_cons {l : List Nat} {a : Nat} : prodN (a :: l) = a * prodN l := by
  show l.foldl (· * ·) (1 * a) = _
  rw [foldl_mul, Nat.one_mul]
theorem rows_range (rows : Rows) : (List.range rows.length).map (row rows) = rows := by
  refine List.ext_getElem? fun i => ?_
  rw [List.getElem?_map]
  by_cases h : i < rows.length
  · rw [List.getElem?_range h, List.getElem?_eq_getElem h]
    show some (row rows i) = _
    rw [row_get (List.getElem?_eq_getElem h)]
  · rw [List.getElem?_eq_none (by rw [List.length_range]; omega), List.getElem?_eq_none (by omega)]
    rfl
theorem cnt_groups {rows : Rows} : ∀ {G : List (List Nat)}, (G.Pairwise fun a b => ∀ p ∈ a, ∀ q ∈ b, ¬ Tied rows p q) → cnt [] (G.flatten.map (row rows)) = prodN (G.map fun g => cnt [] (g.map (row rows)))
  | [], _ => rfl
  | g :: G, h => by
    have h' := List.pairwise_cons.mp h
    rw [List.flatten_cons, List.map_append, List.map_cons, prodN_cons, cnt_app, cnt_groups h'.2]
    intro a ha b hb t hta htb
    obtain ⟨p, hp, rfl⟩ := List.mem_map.mp ha
    obtain ⟨q, hq, rfl⟩ := List.mem_map.mp hb
    obtain ⟨c, hc, hqc⟩ := List.mem_flatten.mp hq
    exact h'.1 c hc p hp q hqc ⟨t, hta, htb⟩
theorem Groups.cnt {rows : Rows} {G : List (List Nat)} (h : Groups rows G) : cnt [] rows = prodN (G.map fun g => Mt.cnt [] (g.map (row rows))) := by
  rw [← cnt_groups h.apart]
  have := cnt_perm (h.perm.map (row rows)) []
  rw [rows_range] at this
  exact this.symm
/-- a group has as many things as people -/
theorem Groups.things {rows : Rows} {G : List (List Nat)} (h : Groups rows G) (few : Few rows) {D : List Int} (d : Ds rows D) {g : List Nat} (hg : g ∈ G) {T : List Int} (nd : T.Nodup) (mem : ∀ t, t ∈ T ↔ ∃ p ∈ g, t ∈ row rows p) : T.length = g.length := by
  obtain ⟨U, hU, hm⟩ := few
  have n2 : (g.map fun p => D[p]?.getD 0).Nodup := nodup_map (h.nd hg) fun x hx y hy e => by
    obtain ⟨t, e1, _⟩ := d.get (h.lt hg hx)
    obtain ⟨u, e2, _⟩ := d.get (h.lt hg hy)
    rw [e1, e2] at e
    have e' : t = u := e
    rw [e'] at e1
    exact nodup_get d.nd e1 e2
  have a := len_le n2 (l2 := T) fun z hz => by
    obtain ⟨p, hp, rfl⟩ := List.mem_map.mp hz
    obtain ⟨t, e1, ht⟩ := d.get (h.lt hg hp)
    rw [e1]
    exact (mem t).mpr ⟨p, hp, ht⟩
  have all := all_in d.nd (l2 := U) (fun x hx => by
    obtain ⟨i, hi⟩ := List.getElem?_of_mem hx
    exact hm i x (d.tie i x hi)) (by rw [d.len]; exact hU)
  have b := len_le nd (l2 := g.map fun p => D[p]?.getD 0) fun t ht => by
    obtain ⟨p, hp, hr⟩ := (mem t).mp ht
    obtain ⟨q, hq⟩ := List.getElem?_of_mem (all t (hm p t hr))
    have hql : q < rows.length := row_lt (d.tie q t hq)
    exact List.mem_map.mpr ⟨q, h.tied hg hp hql ⟨t, hr, d.tie q t hq⟩, by rw [hq]; rfl⟩
  rw [List.length_map] at a b
  omega
end Mt
namespace Mt
section
variable {κ : Type} [DecidableEq κ]
def getN : List (κ × Nat) → κ → Nat
  | [], _ => 0
  | (s, w) :: r, k => if s = k then w else getN r k
/-- the sum of the counts, each by its key's weight -/
def wt (F : κ → Nat) (st : List (κ × Nat)) : Nat := (st.map fun q => q.2 * F q.1).sum
end
structure Sts (M : Nat) (st : List (Nat × Nat)) : Prop where
  nd : (st.map (·.1)).Nodup
  lt : ∀ s ∈ st.map (·.1), s < M
theorem Sts.len {M : Nat} {st : List (Nat × Nat)} (h : Sts M st) : st.length ≤ M := by
  have := len_le h.nd (l2 := List.range M) fun x hx => List.mem_range.mpr (h.lt x hx)
  rwa [List.length_map, List.length_range] at this
theorem Sts.nil {M : Nat} : Sts M [] := ⟨List.nodup_nil, fun _ h => by cases h⟩
end Mt
set_option maxRecDepth 100000
set_option maxHeartbeats 4000000
set_option maxRecDepth 100000
set_option maxHeartbeats 4000000
set_option maxRecDepth 100000
set_option maxHeartbeats 4000000
namespace Fo
open PySem PySem.Spec PyProof.Rows L2
def rowN (r : List Int) : NestedKey := .tup (r.map .num)
def keyN (R : List (List Int)) : NestedKey := .tup (R.map rowN)
/-- a tuple of tuples of ints, made by the program -/
inductive RowsE (H : Hp) : List V → List (List Int) → Prop
  | nil : RowsE H [] []
  | cons {a : Addr} {vs : List V} {r : List Int} {R : List (List Int)} : H a = some (.tup (r.map V.int)) → RowsE H vs R → RowsE H (.ref a :: vs) (r :: R)
def TupR (H : Hp) (a : Addr) (R : List (List Int)) : Prop := ∃ vs, H a = some (.tup vs) ∧ RowsE H vs R
/-- tuples stay -/
def KeepT (H H' : Hp) : Prop := ∀ a xs, H a = some (.tup xs) → H' a = some (.tup xs)
theorem RowsE.keep {H H' : Hp} (e : KeepT H H') : ∀ {vs : List V} {R : List (List Int)}, RowsE H vs R → RowsE H' vs R
  | _, _, .nil => .nil
  | _, _, .cons h r => .cons (e _ _ h) (r.keep e)
theorem TupR.keep {H H' : Hp} (e : KeepT H H') {a : Addr} {R : List (List Int)} (h : TupR H a R) : TupR H' a R := let ⟨vs, h1, h2⟩ := h; ⟨vs, e _ _ h1, h2.keep e⟩
theorem KeepT.of {H H' : Hp} (e : Same H H') : KeepT H H' := fun a xs h => e _ _ h
section
variable {P : Program} {w : World}
/-- a dict of such keys, by its entries -/
def KnO (P : Program) (w : World) (d : Addr) (xs : List (NestedKey × Addr × Value)) : HO := .ext fun h => ∃ o es ep, h.get? d = some o ∧ o.ExactDict ∧ o.data = .dict es ep ∧ es.toList = xs.map (entryOfKey (nestedKind P w))
/-- counts by tuples of tuples -/
def NK (P : Program) (w : World) (H : Hp) (d : Addr) (kv : List (List (List Int) × Nat)) : Prop := ∃ xs : List (NestedKey × Addr × Value), H d = some (KnO P w d xs) ∧ (d == sysModules) = false ∧ kv.length ≤ sizeLine ∧ (kv.map (·.1)).Nodup ∧
  Paired (fun (p : List (List Int) × Nat) (x : NestedKey × Addr × Value) => x.1 = keyN p.1 ∧ TupR H x.2.1 p.1 ∧ RelV (V.int ((p.2 : Nat) : Int)) x.2.2) kv xs
theorem NK.keep {H H' : Hp} {d : Addr} {kv : List (List (List Int) × Nat)} (h : NK P w H d kv) (e : H' d = H d) (k : KeepT H H') : NK P w H' d kv := by
  obtain ⟨xs, h1, h2, h3, h4, h5⟩ := h
  exact ⟨xs, by rw [e]; exact h1, h2, h3, h4, Paired.mapP h5 fun p x z => ⟨z.1, z.2.1.keep k, z.2.2⟩⟩
theorem NK.same {H H' : Hp} {d : Addr} {kv : List (List (List Int) × Nat)} (h : NK P w H d kv) (e : Same H H') : NK P w H' d kv := by
  obtain ⟨xs, h1, h2, h3, h4, h5⟩ := h
  exact ⟨xs, e _ _ h1, h2, h3, h4, Paired.mapP h5 fun p x z => ⟨z.1, z.2.1.keep (.of e), z.2.2⟩⟩
end
end Fo
set_option maxRecDepth 100000
set_option maxHeartbeats 2000000
namespace L2
open PySem PySem.Spec PyProof.Rows
end L2
set_option maxRecDepth 100000
set_option maxHeartbeats 4000000
namespace Fo
open PySem PySem.Spec PyProof.Rows L2 LamX NdefX
theorem rd_ext {H H' : Hp} {a : Addr} {xs : List V} (e : ExtN H H') (h : Rd H a (.lst xs)) : Rd H' a (.lst xs) := by
  rcases h with h | ⟨o, h⟩
  · exact .inl (e _ _ h fun ps z => by cases z)
  · exact .inr ⟨o, e _ _ h fun ps z => by cases z⟩
theorem sqL_ext {K : PySem.W.Frag} {H H' : Hp} {a : Addr} {xs : List V} (e : ExtN H H') (h : SqL K H a xs) : SqL K H' a xs := by
  rcases h with h | h
  · exact .inl (rd_ext e h)
  · exact .inr h
end Fo
set_option maxRecDepth 100000
set_option maxHeartbeats 4000000
set_option maxRecDepth 100000
set_option maxHeartbeats 4000000
namespace Fo
open PySem PySem.Spec PyProof.Rows L2 LamX
structure FunC (K : PySem.W.Frag) (x qual : Str) (st : Stmt) (f : Addr) (fd : FuncData) (c : Addr) : Prop where
  ex : ∃ (oc : Value) (od : Option Addr) (kV doc pm : Value) (an : Option Addr) (ct : Value) (osl : Array (Option Value)),
    fd = PySem.W.fnOf x qual (defArgs st) (defBody st) (defScope st) .none kV doc pm an (.ref c) ct ∧ K.lookup f = some ⟨oc, od, .func fd, osl⟩ ∧ PySem.W.codeIn K (.ref c) qual = true
  kp : PySem.W.keepIn K (.ref f) = true
structure AtC (K : PySem.W.Frag) (mg : Str → Option Value) (x : Str) (st : Stmt) (ps : List Str) (c : Addr) : Prop where
  ex : ∃ f fd, mg x = some (.ref f) ∧ FunC K x x st f fd c ∧ Binds K fd ps []
theorem AtC.of {K : PySem.W.Frag} {mg : Str → Option Value} {x : Str} {st : Stmt} {ps : List Str} {h : Heap} {c P : Addr} (A : At K mg x st ps) (X : K.In h) (G : h.Ns mainGlobals mg) (ht : PySem.W.tabIn K x = some (c, P)) : AtC K mg x st ps c := by
  obtain ⟨f, fd, hm, F, b⟩ := A.ex
  obtain ⟨oc, od, kV, doc, pm, an, cdv, ct, osl, rfl, lk, hcd⟩ := id F.ex
  have e := PySem.W.law_code X G ht hm (X _ _ lk) rfl
  have e' : cdv = .ref c := e
  subst e'
  exact ⟨f, _, hm, ⟨⟨oc, od, kV, doc, pm, an, ct, osl, rfl, lk, hcd⟩, F.kp⟩, b⟩
section
variable {P : Program} {w : World} {K : PySem.W.Frag} {mg : Str → Option Value} {base : Heap}
theorem AtC.ok {x : Str} {st : Stmt} {N ps : List Str} {k : Nat} {sp : Sp} {c : Addr} (a : AtC K mg x st ps c) (S : FnScope N ps (defScope st)) (len : ∀ vs H Q E, sp vs H Q E → vs.length = ps.length)
    (hbody : ∀ (f : Addr) (A : Around) (outer : List Env) (s : Shared) (H : Hp) (vs : List V) (Q : VK) (E : XK), Room k (A.deeper (envOfC x (defScope st) s.heap.objs.size f (.ref c))) → sp vs H Q E →
      ∃ t, PSs (cxOf CX0 P w K mg base N x (defScope st) f (.ref c) A outer s H E).nox (defBody st) t ∧ t { nx := fun _ H' => Q .non H', rt := Q } (start N vs) H) : Dfn P w K mg base x ps (k + 1) sp := by
  obtain ⟨f, fd, hm, F, b⟩ := a.ex
  obtain ⟨oc, od, kV, doc, pm, an, ct, osl, rfl, lk, hcd⟩ := F.ex
  exact ⟨f, _, hm, F.kp, fn_of lk hcd S len fun A outer s H vs Q E hr hsp => (by
    obtain ⟨t, h, q⟩ := hbody f A outer s H vs Q E hr hsp
    exact ⟨t, h.nox, q⟩), b⟩
end
/-- nothing but a table stands at p -/
def Fz (H : Hp) (p : Addr) : Prop := ∀ o, H p = some o → ∃ ps, o = .tbl ps
theorem Fz.of {H : Hp} {p : Addr} (h : H p = none) : Fz H p := fun o e => by rw [h] at e; cases e
theorem _root_.LamX.ExtN.fz {H H' : Hp} (e : ExtN H H') {p : Addr} (h : Fz H' p) : Fz H p := fun o ho => by
  by_cases q : ∃ ps, o = .tbl ps
  · exact q
  · exact h o (e p o ho fun ps z => q ⟨ps, z⟩)
theorem _root_.LamX.ExtN.free {H H' : Hp} (e : ExtN H H') {p : Addr} (h : H' p = none) : Fz H p := e.fz (Fz.of h)
theorem _root_.LamX.ExtN.same {H H' : Hp} (e : Same H H') : ExtN H H' := fun b o h _ => e b o h
theorem _root_.LamX.ExtN.mut {H H' : Hp} {p : Addr} {o : HO} (e : ExtN H H') (h : Fz H p) : ExtN H (upd H' p o) := fun b u hb n => by
  have ne : b ≠ p := fun z => by
    obtain ⟨ps, q⟩ := h u (z ▸ hb)
    exact n ps q
  rw [upd_ne ne]
  exact e b u hb n
theorem Fz.ne {H : Hp} {p b : Addr} {o : HO} (h : Fz H p) (e : H b = some o) (n : ∀ ps, o ≠ .tbl ps) : b ≠ p := fun z => by
  obtain ⟨ps, q⟩ := h o (z ▸ e)
  exact n ps q
theorem sqT_ext {K : PySem.W.Frag} {H H' : Hp} {a : Addr} {xs : List V} (e : ExtN H H') (h : SqT K H a xs) : SqT K H' a xs := by
  rcases h with (h | ⟨o, h⟩) | h
  · exact .inl (.inl (e _ _ h fun ps z => by cases z))
  · exact .inl (.inr ⟨o, e _ _ h fun ps z => by cases z⟩)
  · exact .inr h
theorem Sq.ext {b : Bool} {K : PySem.W.Frag} {H H' : Hp} {a : Addr} {xs : List V} (h : Sq b K H a xs) (e : ExtN H H') : Sq b K H' a xs := by
  cases b with
  | true => exact sqL_ext e h
  | false => exact sqT_ext e h
theorem RowsT.ext {K : PySem.W.Frag} {H H' : Hp} (g : ExtN H H') : ∀ {vs : List V} {rs : List (List Int)}, RowsT K H vs rs → RowsT K H' vs rs
  | _, _, .nil => .nil
  | _, _, .cons h r => .cons (sqT_ext g h) (r.ext g)
theorem RowsB.ext {b : Bool} {K : PySem.W.Frag} {H H' : Hp} (g : ExtN H H') : ∀ {vs : List V} {rs : List (List Int)}, RowsB b K H vs rs → RowsB b K H' vs rs
  | _, _, .nil => .nil
  | _, _, .cons h r => .cons (h.ext g) (r.ext g)
theorem RowsQ.ext {b : Bool} {K : PySem.W.Frag} {H H' : Hp} {v : V} {rows : List (List Int)} (h : RowsQ b K H v rows) (g : ExtN H H') : RowsQ b K H' v rows := by
  obtain ⟨a, vs, e, h1, h2⟩ := h
  exact ⟨a, vs, e, h1.ext g, h2.ext g⟩
theorem RowsAt.ext {K : PySem.W.Frag} {H H' : Hp} {v : V} {rows : List (List Int)} (h : RowsAt K H v rows) (g : ExtN H H') : RowsAt K H' v rows := by
  obtain ⟨a, vs, e, h1, h2⟩ := h
  exact ⟨a, vs, e, sqT_ext g h1, h2.ext g⟩
theorem TableAt.ext {K : PySem.W.Frag} {C : Addr} {H H' : Hp} {x : V} {rows : List (List Int)} (h : TableAt K C H x rows) (g : ExtN H H') : TableAt K C H' x rows := by
  obtain ⟨p, dx, v, e, h1, h2⟩ := h
  exact ⟨p, dx, v, e, g _ _ h1 (fun ps z => by cases z), h2.ext g⟩
theorem Tape.ext {H H' : Hp} {t l : Addr} (T : Tape H t l) (g : ExtN H H') : Tape H' t l := by
  obtain ⟨ns, b, c, d, e, h, hl, hb⟩ := T
  exact ⟨ns, b, c, d, e, g _ _ h (fun ps z => by cases z), g _ _ hl (fun ps z => by cases z), hb⟩
theorem KeepT.ext {H H' : Hp} (e : ExtN H H') : KeepT H H' := fun a xs h => e _ _ h fun ps z => by cases z
theorem NK.ext {P : Program} {w : World} {H H' : Hp} {d : Addr} {kv : List (List (List Int) × Nat)} (h : NK P w H d kv) (e : ExtN H H') : NK P w H' d kv := by
  obtain ⟨xs, h1, r⟩ := id h
  exact h.keep ((e _ _ h1 fun ps z => by unfold KnO at z; cases z).trans h1.symm) (KeepT.ext e)
theorem _root_.LamX.TabS.same {H H' : Hp} {P : Addr} {q : Str} (t : TabS H P q) (e : Same H H') : TabS H' P q := t.ext e
theorem _root_.LamX.TabS.put {H : Hp} {P p : Addr} {q : Str} {o u : HO} (t : TabS H P q) (h : H p = some u) (n1 : ∀ ps, u ≠ .tbl ps) (n2 : ∀ c q, u ≠ CodeO c q) : TabS (upd H p o) P q := by
  obtain ⟨ps, h1, h2, h3⟩ := t
  have ne : P ≠ p := fun z => by rw [z, h] at h1; exact n1 ps (Option.some.inj h1)
  refine ⟨ps, by rw [upd_ne ne]; exact h1, h2, fun pos cv hc => ?_⟩
  obtain ⟨c, e1, e2⟩ := h3 pos cv hc
  refine ⟨c, e1, ?_⟩
  have ne2 : c ≠ p := fun z => by rw [z, h] at e2; exact n2 p q (Option.some.inj e2)
  rw [upd_ne ne2]
  exact e2
theorem code_ne {c : Addr} {q : Str} {u : HO} (h : ∀ f, u ≠ .ext f) : u ≠ CodeO c q := fun z => by
  unfold CodeO at z
  exact h _ z
theorem _root_.LamX.TabS.lst {H : Hp} {P p : Addr} {q : Str} {o : HO} {xs : List V} (t : TabS H P q) (h : H p = some (.lst xs)) : TabS (upd H p o) P q := t.put h (fun ps z => by cases z) fun c q => code_ne fun f z => by cases z
def Vol (b : Addr) (o : HO) : Prop := (∃ ps, o = .tbl ps) ∨ ∃ P w xs, o = KnO P w b xs
theorem vol_tup {b : Addr} {xs : List V} : ¬ Vol b (.tup xs) := fun h => h.elim (fun ⟨_, z⟩ => by cases z) fun ⟨_, _, _, z⟩ => by unfold KnO at z; cases z
theorem vol_lst {b : Addr} {xs : List V} : ¬ Vol b (.lst xs) := fun h => h.elim (fun ⟨_, z⟩ => by cases z) fun ⟨_, _, _, z⟩ => by unfold KnO at z; cases z
theorem vol_ins {b C dx : Addr} {fs : List (Str × V)} : ¬ Vol b (.ins C dx fs) := fun h => h.elim (fun ⟨_, z⟩ => by cases z) fun ⟨_, _, _, z⟩ => by unfold KnO at z; cases z
theorem vol_frz {b : Addr} {o : Obj} {u : HO} : ¬ Vol b (.frz o u) := fun h => h.elim (fun ⟨_, z⟩ => by cases z) fun ⟨_, _, _, z⟩ => by unfold KnO at z; cases z
/-- all but tables and such dicts stay -/
def ExtK (H H' : Hp) : Prop := ∀ b o, H b = some o → ¬ Vol b o → H' b = some o
theorem ExtK.refl (H : Hp) : ExtK H H := fun _ _ h _ => h
theorem ExtK.trans {H H1 H2 : Hp} (a : ExtK H H1) (b : ExtK H1 H2) : ExtK H H2 := fun c o h n => b c o (a c o h n) n
theorem ExtK.same {H H' : Hp} (e : Same H H') : ExtK H H' := fun b o h _ => e b o h
theorem ExtK.of {H H' : Hp} (e : ExtN H H') : ExtK H H' := fun b o h n => e b o h fun ps z => n (.inl ⟨ps, z⟩)
def Fk (H : Hp) (p : Addr) : Prop := ∀ o, H p = some o → Vol p o
theorem Fk.of {H : Hp} {p : Addr} (h : H p = none) : Fk H p := fun o e => by rw [h] at e; cases e
theorem ExtK.fk {H H' : Hp} (e : ExtK H H') {p : Addr} (h : Fk H' p) : Fk H p := fun o ho => Classical.byContradiction fun n => n (h o (e p o ho n))
theorem ExtK.free {H H' : Hp} (e : ExtK H H') {p : Addr} (h : H' p = none) : Fk H p := e.fk (Fk.of h)
theorem ExtK.mut {H H' : Hp} {p : Addr} {o : HO} (e : ExtK H H') (h : Fk H p) : ExtK H (upd H' p o) := fun b u hb n => by
  have ne : b ≠ p := fun z => n (by rw [z] at hb ⊢; exact h u hb)
  rw [upd_ne ne]
  exact e b u hb n
theorem Fk.ne {H : Hp} {p b : Addr} {o : HO} (h : Fk H p) (e : H b = some o) (n : ¬ Vol b o) : b ≠ p := fun z => n (by rw [z] at e ⊢; exact h o e)
theorem sqT_k {K : PySem.W.Frag} {H H' : Hp} {a : Addr} {xs : List V} (e : ExtK H H') (h : SqT K H a xs) : SqT K H' a xs := by
  rcases h with (h | ⟨o, h⟩) | h
  · exact .inl (.inl (e _ _ h vol_tup))
  · exact .inl (.inr ⟨o, e _ _ h vol_frz⟩)
  · exact .inr h
theorem sqL_k {K : PySem.W.Frag} {H H' : Hp} {a : Addr} {xs : List V} (e : ExtK H H') (h : SqL K H a xs) : SqL K H' a xs := by
  rcases h with (h | ⟨o, h⟩) | h
  · exact .inl (.inl (e _ _ h vol_lst))
  · exact .inl (.inr ⟨o, e _ _ h vol_frz⟩)
  · exact .inr h
theorem Sq.k {b : Bool} {K : PySem.W.Frag} {H H' : Hp} {a : Addr} {xs : List V} (h : Sq b K H a xs) (e : ExtK H H') : Sq b K H' a xs := by
  cases b with
  | true => exact sqL_k e h
  | false => exact sqT_k e h
theorem RowsT.k {K : PySem.W.Frag} {H H' : Hp} (g : ExtK H H') : ∀ {vs : List V} {rs : List (List Int)}, RowsT K H vs rs → RowsT K H' vs rs
  | _, _, .nil => .nil
  | _, _, .cons h r => .cons (sqT_k g h) (r.k g)
theorem RowsB.k {b : Bool} {K : PySem.W.Frag} {H H' : Hp} (g : ExtK H H') : ∀ {vs : List V} {rs : List (List Int)}, RowsB b K H vs rs → RowsB b K H' vs rs
  | _, _, .nil => .nil
  | _, _, .cons h r => .cons (h.k g) (r.k g)
theorem RowsQ.k {b : Bool} {K : PySem.W.Frag} {H H' : Hp} {v : V} {rows : List (List Int)} (h : RowsQ b K H v rows) (g : ExtK H H') : RowsQ b K H' v rows := by
  obtain ⟨a, vs, e, h1, h2⟩ := h
  exact ⟨a, vs, e, h1.k g, h2.k g⟩
theorem RowsAt.k {K : PySem.W.Frag} {H H' : Hp} {v : V} {rows : List (List Int)} (h : RowsAt K H v rows) (g : ExtK H H') : RowsAt K H' v rows := by
  obtain ⟨a, vs, e, h1, h2⟩ := h
  exact ⟨a, vs, e, sqT_k g h1, h2.k g⟩
theorem TableAt.k {K : PySem.W.Frag} {C : Addr} {H H' : Hp} {x : V} {rows : List (List Int)} (h : TableAt K C H x rows) (g : ExtK H H') : TableAt K C H' x rows := by
  obtain ⟨p, dx, v, e, h1, h2⟩ := h
  exact ⟨p, dx, v, e, g _ _ h1 vol_ins, h2.k g⟩
theorem Tape.k {H H' : Hp} {t l : Addr} (T : Tape H t l) (g : ExtK H H') : Tape H' t l := by
  obtain ⟨ns, b, c, d, e, h, hl, hb⟩ := T
  exact ⟨ns, b, c, d, e, g _ _ h vol_lst, g _ _ hl vol_lst, hb⟩
theorem NK.ne {P : Program} {w : World} {H : Hp} {d b : Addr} {kv : List (List (List Int) × Nat)} {o : HO} (h : NK P w H d kv) (e : H b = some o) (n : ¬ Vol b o) : b ≠ d := fun z => by
  obtain ⟨xs, h1, _⟩ := h
  rw [z, h1] at e
  cases e
  exact n (.inr ⟨P, w, xs, by rw [z]⟩)
def ExtT (t : Addr) (H H' : Hp) : Prop := ∀ b o, b ≠ t → H b = some o → ¬ Vol b o → H' b = some o
theorem ExtT.refl {t : Addr} (H : Hp) : ExtT t H H := fun _ _ _ h _ => h
theorem ExtT.trans {t : Addr} {H H1 H2 : Hp} (a : ExtT t H H1) (b : ExtT t H1 H2) : ExtT t H H2 := fun c o n h v => b c o n (a c o n h v) v
theorem ExtT.k {t : Addr} {H H' : Hp} (e : ExtK H H') : ExtT t H H' := fun b o _ h v => e b o h v
theorem ExtT.same {t : Addr} {H H' : Hp} (e : Same H H') : ExtT t H H' := fun b o _ h _ => e b o h
theorem ExtT.mut {t : Addr} {H H' : Hp} {p : Addr} {o : HO} (e : ExtT t H H') (h : Fk H p) : ExtT t H (upd H' p o) := fun b u n hb v => by
  have ne : b ≠ p := fun z => v (by rw [z] at hb ⊢; exact h u hb)
  rw [upd_ne ne]
  exact e b u n hb v
theorem ExtT.fk {t l : Addr} {H H' : Hp} (e : ExtT t H H') (T : Tape H' t l) {p : Addr} (h : H' p = none) : Fk H p := fun o ho => Classical.byContradiction fun v => by
  have n : p ≠ t := fun z => T.there (by rw [← z]; exact h)
  rw [e p o n ho v] at h
  cases h
theorem sqT_t {K : PySem.W.Frag} {t l : Addr} {H H' : Hp} {a : Addr} {xs : List V} (e : ExtT t H H') (T : Tape H t l) (h : SqT K H a xs) : SqT K H' a xs := by
  obtain ⟨ns, b, c, d, f, ht, hl, hb⟩ := T
  rcases h with (h | ⟨o, h⟩) | h
  · exact .inl (.inl (e _ _ (ne_of h ht (by intro z; cases z)) h vol_tup))
  · exact .inl (.inr ⟨o, e _ _ (ne_of h ht (by intro z; cases z)) h vol_frz⟩)
  · exact .inr h
theorem RowsT.t {K : PySem.W.Frag} {t l : Addr} {H H' : Hp} (g : ExtT t H H') (T : Tape H t l) : ∀ {vs : List V} {rs : List (List Int)}, RowsT K H vs rs → RowsT K H' vs rs
  | _, _, .nil => .nil
  | _, _, .cons h r => .cons (sqT_t g T h) (r.t g T)
theorem RowsAt.t {K : PySem.W.Frag} {t l : Addr} {H H' : Hp} {v : V} {rows : List (List Int)} (h : RowsAt K H v rows) (g : ExtT t H H') (T : Tape H t l) : RowsAt K H' v rows := by
  obtain ⟨a, vs, e, h1, h2⟩ := h
  exact ⟨a, vs, e, sqT_t g T h1, h2.t g T⟩
theorem TableAt.t {K : PySem.W.Frag} {C t l : Addr} {H H' : Hp} {x : V} {rows : List (List Int)} (h : TableAt K C H x rows) (g : ExtT t H H') (T : Tape H t l) : TableAt K C H' x rows := by
  obtain ⟨p, dx, v, e, h1, h2⟩ := h
  obtain ⟨ns, b, c, d, f, ht, hl, hb⟩ := id T
  exact ⟨p, dx, v, e, g _ _ (ne_of h1 ht (by intro z; cases z)) h1 vol_ins, h2.t g T⟩
end Fo
set_option maxRecDepth 100000
set_option maxHeartbeats 2000000
namespace Fo
open PySem PySem.Spec PyProof.Rows L2
structure FnG (P : Program) (w : World) (K : PySem.W.Frag) (mg : Str → Option Value) (base : Heap) (k : Nat) (f : Addr) (fd : FuncData) (ps : List Str) (sp : Sp) : Prop where
  len : ∀ (vs : List V) (H : Hp) (Q : VK) (E : XK), sp vs H Q E → vs.length = ps.length
  run : ∀ (A : Around) (outer : List Env) (s : Shared) (H : Hp) (args : Args) (us : List Value) (vs : List V) (Q : VK) (E : XK), Room k A → A.guards = some [] → Env0 P w K mg base A outer s H →
    BindsTo s fd args (ps.zip us) → Vals vs us → sp vs H Q E → codeAny (model P w) A (Code.call (.ref f) args) (CR CX0 outer P w H s Q E) s
end Fo
set_option maxRecDepth 100000
set_option maxHeartbeats 2000000
set_option maxRecDepth 100000
set_option maxHeartbeats 2000000
namespace PySem.W
open PySem PySem.Spec PyProof.Rows Builtin
end PySem.W
namespace Fo
open PySem PySem.Spec PyProof.Rows L2
theorem FnOk.imp {P : Program} {w : World} {K : PySem.W.Frag} {mg : Str → Option Value} {base : Heap} {CX : CXT} {k : Nat} {f : Addr} {fd : FuncData} {ps : List Str} {sp sp' : Sp} (F : FnOk P w K mg base CX k f fd ps sp) (h : ∀ vs H Q E, sp' vs H Q E → sp vs H Q E) : FnOk P w K mg base CX k f fd ps sp' :=
  ⟨fun vs H Q E q => F.len vs H Q E (h _ _ _ _ q), fun A outer s H args us vs Q E hr e0 hb r q => F.run A outer s H args us vs Q E hr e0 hb r (h _ _ _ _ q)⟩
end Fo
set_option maxRecDepth 100000
set_option maxHeartbeats 4000000
namespace PySem.W
open PySem PySem.Spec PyProof.Rows Builtin PyProof
end PySem.W
namespace Fo
open PySem PySem.Spec PyProof.Rows L2
inductive Nx (K : PySem.W.Frag) (C : Addr) (H : Hp) : V → Prop
  | non : Nx K C H .non
  | bl (b : Bool) : Nx K C H (.bl b)
  | int (i : Int) : Nx K C H (.int i)
  | str (x : Str) : Nx K C H (.str x)
  | lst {a : Addr} {xs : List V} (h : SqL K H a xs) : Nx K C H (.ref a)
  | tup {a : Addr} {xs : List V} (h : SqT K H a xs) : Nx K C H (.ref a)
  | dK {a : Addr} {es : List (Key × V)} (h : H a = some (.dK es)) : Nx K C H (.ref a)
  | tab {x : V} {rows : List (List Int)} (h : TableAt K C H x rows) : Nx K C H x
end Fo
set_option maxRecDepth 100000
set_option maxHeartbeats 4000000
namespace Fo
open PySem PySem.Spec PyProof.Rows L2 LamX
def Po (H : Hp) (t l : Addr) : Prop := ∃ (sd c : Int) (cs : List Int), H t = some (.lst [.int sd, .int c, .ref l]) ∧ H l = some (.lst (cs.map V.int))
/-- all but the pool's two stay -/
def Gs (t l : Addr) (H H' : Hp) : Prop := ∀ b o, b ≠ t → b ≠ l → H b = some o → H' b = some o
theorem Gs.refl {t l : Addr} (H : Hp) : Gs t l H H := fun _ _ _ _ h => h
theorem Gs.trans {t l : Addr} {H H1 H2 : Hp} (a : Gs t l H H1) (b : Gs t l H1 H2) : Gs t l H H2 := fun c o n m h => b c o n m (a c o n m h)
theorem Gs.of {t l : Addr} {H H' : Hp} (e : Same H H') : Gs t l H H' := fun b o _ _ h => e b o h
theorem Gs.new {t l p : Addr} {H : Hp} {o : HO} (h : H p = none) : Gs t l H (upd H p o) := .of (same_new h)
theorem Gs.mut {t l p : Addr} {H H' : Hp} {o : HO} (e : Gs t l H H') (h : H p = none) : Gs t l H (upd H' p o) := fun a u n m ha => by
  rw [upd_ne (ne_of_none ha h)]
  exact e a u n m ha
theorem ints_nep (ns : List Int) (l : Addr) (x y : Int) : (HO.lst (ns.map V.int)) ≠ .lst [.int x, .int y, .ref l] := by
  intro q
  injection q with q
  match ns, q with
  | [], q => cases q
  | [_], q => cases q
  | [_, _], q => cases q
  | [_, _, _], q => cases q
  | _ :: _ :: _ :: _ :: _, q => cases q
theorem Po.ne {H : Hp} {t l : Addr} (T : Po H t l) : l ≠ t := by
  obtain ⟨sd, c, cs, ht, hl⟩ := T
  exact ne_of hl ht (ints_nep _ _ _ _)
theorem Po.there {H : Hp} {t l : Addr} (T : Po H t l) : H t ≠ none ∧ H l ≠ none := by
  obtain ⟨sd, c, cs, ht, hl⟩ := T
  exact ⟨by rw [ht]; exact (fun z => nomatch z), by rw [hl]; exact (fun z => nomatch z)⟩
theorem Po.keep {H H' : Hp} {t l : Addr} (T : Po H t l) (g : Same H H') : Po H' t l := by
  obtain ⟨sd, c, cs, ht, hl⟩ := T
  exact ⟨sd, c, cs, g _ _ ht, g _ _ hl⟩
theorem Po.k {H H' : Hp} {t l : Addr} (T : Po H t l) (g : ExtK H H') : Po H' t l := by
  obtain ⟨sd, c, cs, ht, hl⟩ := T
  exact ⟨sd, c, cs, g _ _ ht vol_lst, g _ _ hl vol_lst⟩
theorem Po.free {H : Hp} {t l a : Addr} (T : Po H t l) (h : H a = none) : a ≠ t ∧ a ≠ l := by
  obtain ⟨sd, c, cs, ht, hl⟩ := T
  exact ⟨(ne_of_none ht h).symm, (ne_of_none hl h).symm⟩
theorem Po.fk {H : Hp} {t l a : Addr} (T : Po H t l) (h : Fk H a) : a ≠ t ∧ a ≠ l := by
  obtain ⟨sd, c, cs, ht, hl⟩ := T
  exact ⟨(h.ne ht vol_lst).symm, (h.ne hl vol_lst).symm⟩
theorem Po.new {H : Hp} {t l a : Addr} {o : HO} (T : Po H t l) (h : H a = none) : Po (upd H a o) t l := T.keep (same_new h)
theorem Po.mut {H : Hp} {t l a : Addr} {u : HO} (T : Po H t l) (n : a ≠ t ∧ a ≠ l) : Po (upd H a u) t l := by
  obtain ⟨sd, c, cs, ht, hl⟩ := T
  exact ⟨sd, c, cs, by rw [upd_ne n.1.symm]; exact ht, by rw [upd_ne n.2.symm]; exact hl⟩
theorem Gs.fresh {t l : Addr} {H H' : Hp} (g : Gs t l H H') (T : Po H' t l) {p : Addr} (h : H' p = none) : H p = none := by
  cases q : H p with
  | none => rfl
  | some o =>
    obtain ⟨n, m⟩ := T.free h
    rw [g p o n m q] at h
    cases h
/-- what is no list is not changed -/
theorem Gs.at {t l : Addr} {H H' : Hp} (g : Gs t l H H') (T : Po H t l) {b : Addr} {o : HO} (h : H b = some o) (n : ∀ xs, o ≠ .lst xs) : H' b = some o := by
  obtain ⟨sd, c, cs, ht, hl⟩ := T
  exact g _ _ (ne_of h ht (n _)) (ne_of h hl (n _)) h
theorem gs_T {t l : Addr} {K : PySem.W.Frag} {H H' : Hp} (g : Gs t l H H') (T : Po H t l) {a : Addr} {xs : List V} (h : SqT K H a xs) : SqT K H' a xs := by
  rcases h with (h | ⟨o, h⟩) | h
  · exact .inl (.inl (g.at T h fun _ z => by cases z))
  · exact .inl (.inr ⟨o, g.at T h fun _ z => by cases z⟩)
  · exact .inr h
theorem RowsT.gs {t l : Addr} {K : PySem.W.Frag} {H H' : Hp} (g : Gs t l H H') (T : Po H t l) : ∀ {vs : List V} {rs : List (List Int)}, RowsT K H vs rs → RowsT K H' vs rs
  | _, _, .nil => .nil
  | _, _, .cons h r => .cons (gs_T g T h) (r.gs g T)
theorem RowsAt.gs {t l : Addr} {K : PySem.W.Frag} {H H' : Hp} {v : V} {rows : List (List Int)} (h : RowsAt K H v rows) (g : Gs t l H H') (T : Po H t l) : RowsAt K H' v rows := by
  obtain ⟨a, vs, e, h1, h2⟩ := h
  exact ⟨a, vs, e, gs_T g T h1, h2.gs g T⟩
theorem TableAt.gs {t l : Addr} {K : PySem.W.Frag} {C : Addr} {H H' : Hp} {x : V} {rows : List (List Int)} (h : TableAt K C H x rows) (g : Gs t l H H') (T : Po H t l) : TableAt K C H' x rows := by
  obtain ⟨p, dx, v, e, h1, h2⟩ := h
  exact ⟨p, dx, v, e, g.at T h1 (fun _ z => by cases z), h2.gs g T⟩
def Gp (t l : Addr) (H H' : Hp) : Prop := ∀ b o, b ≠ t → b ≠ l → H b = some o → ¬ Vol b o → H' b = some o
theorem Gp.refl {t l : Addr} (H : Hp) : Gp t l H H := fun _ _ _ _ h _ => h
theorem Gp.trans {t l : Addr} {H H1 H2 : Hp} (a : Gp t l H H1) (b : Gp t l H1 H2) : Gp t l H H2 := fun c o n m h v => b c o n m (a c o n m h v) v
theorem Gp.k {t l : Addr} {H H' : Hp} (e : ExtK H H') : Gp t l H H' := fun b o _ _ h v => e b o h v
theorem Gp.same {t l : Addr} {H H' : Hp} (e : Same H H') : Gp t l H H' := fun b o _ _ h _ => e b o h
theorem Gp.of {t l : Addr} {H H' : Hp} (g : Gs t l H H') : Gp t l H H' := fun b o n m h _ => g b o n m h
theorem Gp.mut {t l : Addr} {H H' : Hp} {p : Addr} {o : HO} (e : Gp t l H H') (h : Fk H p) : Gp t l H (upd H' p o) := fun b u n m hb v => by
  have ne : b ≠ p := fun z => v (by rw [z] at hb ⊢; exact h u hb)
  rw [upd_ne ne]
  exact e b u n m hb v
theorem Gp.fk {t l : Addr} {H H' : Hp} (e : Gp t l H H') (T : Po H' t l) {p : Addr} (h : H' p = none) : Fk H p := fun o ho => Classical.byContradiction fun v => by
  obtain ⟨n, m⟩ := T.free h
  rw [e p o n m ho v] at h
  cases h
theorem Gp.at {t l : Addr} {H H' : Hp} (g : Gp t l H H') (T : Po H t l) {b : Addr} {o : HO} (h : H b = some o) (v : ¬ Vol b o) (n : ∀ xs, o ≠ .lst xs) : H' b = some o := by
  obtain ⟨sd, c, cs, ht, hl⟩ := T
  exact g _ _ (ne_of h ht (n _)) (ne_of h hl (n _)) h v
theorem sqT_p {K : PySem.W.Frag} {t l : Addr} {H H' : Hp} {a : Addr} {xs : List V} (g : Gp t l H H') (T : Po H t l) (h : SqT K H a xs) : SqT K H' a xs := by
  rcases h with (h | ⟨o, h⟩) | h
  · exact .inl (.inl (g.at T h vol_tup fun _ z => by cases z))
  · exact .inl (.inr ⟨o, g.at T h vol_frz fun _ z => by cases z⟩)
  · exact .inr h
theorem RowsT.p {K : PySem.W.Frag} {t l : Addr} {H H' : Hp} (g : Gp t l H H') (T : Po H t l) : ∀ {vs : List V} {rs : List (List Int)}, RowsT K H vs rs → RowsT K H' vs rs
  | _, _, .nil => .nil
  | _, _, .cons h r => .cons (sqT_p g T h) (r.p g T)
theorem RowsAt.p {K : PySem.W.Frag} {t l : Addr} {H H' : Hp} {v : V} {rows : List (List Int)} (h : RowsAt K H v rows) (g : Gp t l H H') (T : Po H t l) : RowsAt K H' v rows := by
  obtain ⟨a, vs, e, h1, h2⟩ := h
  exact ⟨a, vs, e, sqT_p g T h1, h2.p g T⟩
theorem TableAt.p {K : PySem.W.Frag} {C t l : Addr} {H H' : Hp} {x : V} {rows : List (List Int)} (h : TableAt K C H x rows) (g : Gp t l H H') (T : Po H t l) : TableAt K C H' x rows := by
  obtain ⟨p, dx, v, e, h1, h2⟩ := h
  exact ⟨p, dx, v, e, g.at T h1 vol_ins (fun _ z => by cases z), h2.p g T⟩
end Fo
namespace Fo
open PySem PySem.Spec PyProof.Rows L2
def rAbs : List V → Hp → VK → Prop := fun xs H Q => ∃ i, xs = [.int i] ∧ Q (.int (if i < 0 then -i else i)) H
theorem cr_abs {X : Cx} : CallR X (.builtin "abs") rAbs := call_abs
end Fo
set_option maxRecDepth 100000
set_option maxHeartbeats 4000000
namespace Fo
open PySem PySem.Spec PyProof.Rows L2
def top (i : Nat) : Stmt := PySem.Challenge.pw_fullorring_k42_whole_anew_in_every_turn.main.body.getD i (.Pass ⟨0, 0, 0, 0⟩)
abbrev s_law_pool : Stmt := top 49
abbrev n_law_pool : List Str := ["script", "seed", "cell"]
theorem sc_law_pool : FnScope n_law_pool ["script"] (defScope s_law_pool) := ⟨rfl, rfl, rfl, by decide +kernel, rfl, by decide +kernel, by decide +kernel⟩
abbrev s_law_draw : Stmt := top 50
abbrev n_law_draw : List Str := ["pool", "many", "cells", "digit", "mixed"]
theorem sc_law_draw : FnScope n_law_draw ["pool", "many"] (defScope s_law_draw) := ⟨rfl, rfl, rfl, by decide +kernel, rfl, by decide +kernel, by decide +kernel⟩
abbrev s_law_mixed : Stmt := top 52
abbrev n_law_mixed : List Str := ["pool", "things", "left", "k"]
theorem sc_law_mixed : FnScope n_law_mixed ["pool", "things"] (defScope s_law_mixed) := ⟨rfl, rfl, rfl, by decide +kernel, rfl, by decide +kernel, by decide +kernel⟩
theorem cut_ints (ns : List Int) (lo hi : Option Int) : cutV (ns.map V.int) lo hi = ((ns.drop (HT.sIx ns.length 0 lo)).take (HT.sIx ns.length ns.length hi - HT.sIx ns.length 0 lo)).map V.int := by
  unfold cutV
  rw [List.length_map, List.map_take, List.map_drop]
theorem ix0 {n : Nat} (h : 0 < n) : ixN n 0 = some 0 := by
  unfold ixN
  rw [if_pos (by decide), if_pos (by omega)]
  rfl
section
variable {P : Program} {w : World} {K : PySem.W.Frag} {mg : Str → Option Value} {base : Heap}
def spPool (K : PySem.W.Frag) : Sp := fun vs H Q _ => ∃ (a : Addr) (ns : List Int), vs = [.ref a] ∧ SqL K H a (ns.map V.int) ∧ ns.length ≤ 63 ∧ ∀ t l H', Same H H' → H t = none → H l = none → Po H' t l → Q (.ref t) H'
theorem ok_pool (A : At K mg "_law_pool" s_law_pool ["script"]) (T : Tx mg) (Tsum : mg "sum" = none) (Tabs : mg "abs" = none) : Dfn P w K mg base "_law_pool" ["script"] 1 (spPool K) := by
  refine A.ok sc_law_pool (fun vs H Q E h => ?_) (fun f cdv A outer s H vs Q E hr h => ?_)
  · obtain ⟨a, ns, rfl, _⟩ := h
    rfl
  · obtain ⟨a, ns, rfl, hS, hl, k⟩ := h
    refine ⟨_, (pss_cons (ps_set (i := 1) sc_law_pool.nd rfl (Or.inl rfl) (pe_op op_add (pe_op op_add (pe_op op_mod (pe_callTy c_int (by rfl) T.int (by decide +kernel) (pa_cons (pe_callB (cr_sum rfl) (by rfl) Tsum (by decide +kernel) (pa_cons (pe_slice sl_list (pv 0) po_none (po_some pe_int)) pa_nil)) pa_nil)) pe_int) (pe_callB c_len (by rfl) T.len (by decide +kernel) (pa_cons (pv 0) pa_nil))) pe_int))
      (pss_cons (ps_for PassesOwn.never rfl (pi_list (pe_slice sl_list (pv 0) po_none (po_some pe_int))) (pg_name (i := 2) sc_law_pool.nd rfl (Or.inl rfl))
      (pss_one (ps_set (i := 1) sc_law_pool.nd rfl (Or.inl rfl) (pe_op op_mod (pe_callTy c_int (by rfl) T.int (by decide +kernel) (pa_cons (pe_op op_add (pe_op op_add (pe_op op_mul (pv 1) pe_int) (pe_op op_mod (pe_callTy c_int (by rfl) T.int (by decide +kernel) (pa_cons (pv 2) pa_nil)) pe_int)) pe_int) pa_nil)) pe_int))))
      (pss_one (ps_ret (pe_lst (pa_cons (pv 1) (pa_cons pe_int (pa_cons (pe_lc (own := [("cell", 2)]) (g := (gName 2)) (tt := (tTest (tOp (rI0 fun i j => V.bl (decide (j ≤ i))) (tCB rAbs (tCons (tVar 2) tNil)) (tOp (rI CPow fun i j => V.int (i ^ j.toNat)) (tC (V.int 10)) (tC (V.int 18)))))) (te := (tCB rAbs (tCons (tVar 2) tNil))) (by rfl) sc_law_pool.nd (pi_list (pe_slice sl_list (pv 0) po_none (po_some pe_int))) (blkOk_by (own := [("cell", 2)]) (N := n_law_pool) (sc := (defScope s_law_pool)) (by decide +kernel)) (fun _ _ _ _ _ => (pg_name (i := 2) sc_law_pool.nd rfl (Or.inl rfl))) (fun _ _ _ _ _ => (pts_one (pt_cmpR op_ge (pe_callB cr_abs (by rfl) Tabs (by decide +kernel) (pa_cons (pv 2) pa_nil)) (pe_op op_pow pe_int pe_int) (nomark _)))) (fun _ _ _ _ _ => (pe_callB cr_abs (by rfl) Tabs (by decide +kernel) (pa_cons (pv 2) pa_nil)))) pa_nil)))))))), ?_⟩
    refine ⟨_, rfl, _, rfl, a, _, rfl, hS, fun p hp => ?_⟩
    have s1 := same_new (o := .lst (cutV (ns.map V.int) none (some 1))) hp
    refine ⟨p, _, rfl, SqL.of (by rw [upd_same, cut_ints]), .inl ⟨_, rfl, ?_⟩⟩
    refine ⟨_, _, rfl, rfl, by show (0 : Int) < 1000003; decide, ?_⟩
    refine ⟨_, rfl, a, _, rfl, .inl (s1.seq hS), ?_⟩
    refine ⟨_, _, rfl, rfl, _, _, rfl, rfl, ?_⟩
    obtain ⟨H1, e1⟩ : ∃ H1, H1 = upd H p (.lst (cutV (ns.map V.int) none (some 1))) := ⟨_, rfl⟩
    rw [← e1] at s1 ⊢
    refine ⟨_, rfl, _, rfl, a, _, rfl, s1.seq hS, fun p2 hp2 => ?_⟩
    have s2 := s1.trans (same_new (o := .lst (cutV (ns.map V.int) none (some 63))) hp2)
    obtain ⟨ms, ems⟩ : ∃ ms : List Int, cutV (ns.map V.int) none (some 63) = ms.map V.int := ⟨_, cut_ints _ _ _⟩
    have ml : ms.length ≤ 63 := by
      have := cutV_length (ns.map V.int) none (some 63)
      rw [ems, List.length_map, List.length_map] at this
      omega
    rw [ems] at s2 ⊢
    obtain ⟨H2, e2⟩ : ∃ H2, H2 = upd H1 p2 (.lst (ms.map V.int)) := ⟨_, rfl⟩
    rw [← e2] at s2 ⊢
    have hp2' : H2 p2 = some (.lst (ms.map V.int)) := by rw [e2]; exact upd_same
    refine ⟨p2, rfl, ⟨_, SqL.of hp2'⟩, for_list (xs := ms.map V.int) (fun i σ' H' => (∃ sd x2, σ' = [some (.ref a), some (.int sd), x2]) ∧ H' = H2) ⟨⟨_, _, rfl⟩, rfl⟩ (fun i σ' H' _ hp => by rw [hp.2]; exact SqL.of hp2') ?_ ?_⟩
    · rintro i z σ' H' hz ⟨⟨sd, x2, rfl⟩, rfl⟩
      obtain ⟨c, rfl⟩ : ∃ c : Int, z = .int c := by
        rw [List.getElem?_map] at hz
        cases q : ms[i]? with
        | none => rw [q] at hz; cases hz
        | some c => rw [q] at hz; exact ⟨c, (Option.some.inj hz).symm⟩
      refine ⟨_, rfl, _, _, rfl, rfl, .inr (by decide), ?_⟩
      refine ⟨_, rfl, .inl ⟨_, rfl, _, _, rfl, rfl, by show (0 : Int) < 2147483629; decide, ?_⟩⟩
      refine ⟨_, _, rfl, rfl, _, _, rfl, rfl, .inl ⟨_, rfl, _, _, rfl, rfl, by show (0 : Int) < 2147483647; decide, ?_⟩⟩
      exact ⟨⟨_, _, rfl⟩, rfl⟩
    · rintro σ' H' ⟨⟨sd, x2, rfl⟩, rfl⟩
      refine ⟨_, rfl, _, rfl, _, rfl, a, _, rfl, s2.seq hS, fun p3 hp3 => ?_⟩
      rw [ems]
      have s3 := s2.trans (same_new (o := .lst (ms.map V.int)) hp3)
      refine ⟨p3, rfl, ⟨_, SqL.of upd_same⟩, fun l hl => ?_⟩
      have npl : p3 ≠ l := ne_of_none upd_same hl
      have hl0 : H l = none := s3.free hl
      refine lc_list (xs := ms.map V.int) (fun i H' => ∃ acc : List Int, H' l = some (.lst (acc.map V.int)) ∧ acc.length ≤ i ∧ Same H H' ∧ H' p3 = some (.lst (ms.map V.int))) ⟨[], upd_same, Nat.le_refl _, same_mut s3 hl0, by rw [upd_ne npl, upd_same]⟩ (fun i H' _ hp => SqL.of hp.choose_spec.2.2.2) ?_ ?_
      · rintro i z H' hz ⟨acc, h1, h2, h3, h4⟩
        have il := (List.getElem?_eq_some_iff.mp hz).1
        rw [List.length_map] at il
        obtain ⟨c, rfl⟩ : ∃ c : Int, z = .int c := by
          rw [List.getElem?_map] at hz
          cases q : ms[i]? with
          | none => rw [q] at hz; cases hz
          | some c => rw [q] at hz; exact ⟨c, (Option.some.inj hz).symm⟩
        refine ⟨rfl, _, rfl, _, rfl, _, _, rfl, rfl, by unfold CPow; decide, _, _, rfl, rfl, _, rfl, ?_⟩
        refine ite2 (fun _ => ?_) (fun _ => ?_)
        · refine ⟨_, rfl, _, rfl, _, h1, small_lt (by rw [List.length_map]; omega), acc ++ [_], by rw [upd_same, List.map_append]; rfl, by rw [List.length_append]; exact Nat.succ_le_succ h2, same_mut h3 hl0, by rw [upd_ne npl]; exact h4⟩
        · exact ⟨acc, h1, by omega, h3, h4⟩
      · rintro H' ⟨acc, h1, h2, h3, h4⟩
        refine ⟨by show 3 ≤ sizeLine; decide, fun t ht => ?_⟩
        have nlt : l ≠ t := ne_of_none h1 ht
        exact k t l _ (same_mut h3 (h3.free ht)) (h3.free ht) hl0 ⟨sd, 0, acc, upd_same, by rw [upd_ne nlt]; exact h1⟩
def spDraw : Sp := fun vs H Q _ => ∃ (t l : Addr) (n : Int), vs = [.ref t, .int n] ∧ Po H t l ∧ 0 < n ∧ n < 1073741824 ∧ ∀ (k : Int) (H' : Hp), 0 ≤ k → k < n → Gs t l H H' → Po H' t l → Q (.int k) H'
theorem ok_draw (A : At K mg "_law_draw" s_law_draw ["pool", "many"]) (T : Tx mg) : Dfn P w K mg base "_law_draw" ["pool", "many"] 1 spDraw := by
  refine A.ok sc_law_draw (fun vs H Q E h => ?_) (fun f cdv A outer s H vs Q E hr h => ?_)
  · obtain ⟨t, l, n, rfl, _⟩ := h
    rfl
  · obtain ⟨t, l, n, rfl, ⟨sd, c, cs, hT, hL⟩, hn, hn2, k⟩ := h
    have hlt : l ≠ t := ne_of hL hT (ints_nep _ _ _ _)
    refine ⟨_, (pss_cons (ps_asg (pe_op op_add (pe_ix ix_list (pv 0) pe_int (fun _ _ => rfl)) pe_int) (pg_sub (pv 0) pe_int set_list))
      (pss_cons (ps_set (i := 2) sc_law_draw.nd rfl (Or.inl rfl) (pe_ix ix_list (pv 0) pe_int (fun _ _ => rfl)))
      (pss_cons (ps_if (pt_cmpR op_gt (pe_callB c_len (by rfl) T.len (by decide +kernel) (pa_cons (pv 2) pa_nil)) pe_int (nomark _)) (pss_cons (ps_set (i := 3) sc_law_draw.nd rfl (Or.inl rfl) (pe_op op_mod (pe_callTy c_int (by rfl) T.int (by decide +kernel) (pa_cons (pe_ix ix_list (pv 2) pe_int (fun _ _ => rfl)) pa_nil)) (pv 1)))
      (pss_cons (ps_asg (pe_op op_fdiv (pe_callTy c_int (by rfl) T.int (by decide +kernel) (pa_cons (pe_ix ix_list (pv 2) pe_int (fun _ _ => rfl)) pa_nil)) (pv 1)) (pg_sub (pv 2) pe_int set_list))
      (pss_cons (ps_if (pt_cmpR op_eq (pe_ix ix_list (pv 2) pe_int (fun _ _ => rfl)) pe_int (nomark _)) (pss_one (ps_expr (pe_bm PySem.F.plainAttrs_list PySem.F.slot_list_pop PySem.F.type_list_pop mt_popAt (pv 2) (pa_cons pe_int pa_nil)))) pss_nil)
      (pss_one (ps_ret (pv 3)))))) pss_nil)
      (pss_cons (ps_set (i := 4) sc_law_draw.nd rfl (Or.inl rfl) (pe_op op_mod (pe_callTy c_int (by rfl) T.int (by decide +kernel) (pa_cons (pe_op op_mul (pe_op op_add (pe_ix ix_list (pv 0) pe_int (fun _ _ => rfl)) (pe_op op_mul pe_int (pe_ix ix_list (pv 0) pe_int (fun _ _ => rfl)))) pe_int) pa_nil)) pe_int))
      (pss_cons (ps_set (i := 4) sc_law_draw.nd rfl (Or.inl rfl) (pe_op op_mod (pe_callTy c_int (by rfl) T.int (by decide +kernel) (pa_cons (pe_op op_mul (pv 4) (pe_op op_add (pe_op op_fdiv (pv 4) pe_int) pe_int)) pa_nil)) pe_int))
      (pss_cons (ps_set (i := 4) sc_law_draw.nd rfl (Or.inl rfl) (pe_op op_mod (pe_callTy c_int (by rfl) T.int (by decide +kernel) (pa_cons (pe_op op_mul (pv 4) (pe_op op_add (pe_op op_fdiv (pv 4) pe_int) pe_int)) pa_nil)) pe_int))
      (pss_one (ps_ret (pe_op op_mod (pe_callTy c_int (by rfl) T.int (by decide +kernel) (pa_cons (pe_op op_fdiv (pv 4) pe_int) pa_nil)) (pv 1)))))))))), ?_⟩
    refine ⟨_, rfl, t, _, _, _, rfl, rfl, SqL.of hT, rfl, _, _, rfl, rfl, _, rfl, t, _, _, 1, rfl, rfl, hT, rfl, ?_⟩
    have hT1 : (upd H t (.lst [.int sd, .int (c + 1), .ref l])) t = some (.lst [.int sd, .int (c + 1), .ref l]) := upd_same
    have hL1 : (upd H t (.lst [.int sd, .int (c + 1), .ref l])) l = some (.lst (cs.map V.int)) := by rw [upd_ne hlt]; exact hL
    refine ⟨_, rfl, t, _, _, _, rfl, rfl, SqL.of hT1, rfl, ?_⟩
    refine ⟨_, rfl, l, _, rfl, .inl (SqL.of hL1), _, _, rfl, rfl, _, rfl, ?_⟩
    refine ite2 (fun hc => ?_) (fun _ => ?_)
    · have cpos : 0 < cs.length := by
        have := of_decide_eq_true hc
        rw [List.length_map] at this
        omega
      obtain ⟨c0, cr, rfl⟩ : ∃ c0 cr, cs = c0 :: cr := by
        cases cs with
        | nil => cases cpos
        | cons c0 cr => exact ⟨c0, cr, rfl⟩
      have ha0 : atI ((c0 :: cr).map V.int) 0 = some (V.int c0) := atI_nat (j := 0) (by rfl)
      refine ⟨_, rfl, l, _, _, _, rfl, rfl, SqL.of hL1, ha0, .inl ⟨_, rfl, _, rfl, _, _, rfl, rfl, hn, ?_⟩⟩
      refine ⟨_, rfl, l, _, _, _, rfl, rfl, SqL.of hL1, ha0, .inl ⟨_, rfl, _, rfl, _, _, rfl, rfl, ⟨hn, hn2⟩, ?_⟩⟩
      refine ⟨_, rfl, l, _, _, 0, rfl, rfl, hL1, ix0 (by rw [List.length_map]; exact Nat.succ_pos _), ?_⟩
      have hL2 : (upd (upd H t (.lst [.int sd, .int (c + 1), .ref l])) l (.lst (((c0 :: cr).map V.int).set 0 (V.int (c0 / n))))) l = some (.lst (((c0 / n) :: cr).map V.int)) := upd_same
      have ha1 : atI (((c0 / n) :: cr).map V.int) 0 = some (V.int (c0 / n)) := atI_nat (j := 0) (by rfl)
      have fin0 : ∀ (cs2 : List Int), Q (.int (c0 % n)) (upd (upd H t (.lst [.int sd, .int (c + 1), .ref l])) l (.lst (cs2.map V.int))) := fun cs2 => 
        k _ _ (Int.emod_nonneg _ (by omega)) (Int.emod_lt_of_pos _ hn) (fun b o n m h => by rw [upd_ne m, upd_ne n]; exact h) ⟨sd, c + 1, cs2, by rw [upd_ne hlt.symm]; exact upd_same, upd_same⟩
      have fin : ∀ (cs2 : List Int) (u1 : HO), Q (.int (c0 % n)) (upd (upd (upd H t (.lst [.int sd, .int (c + 1), .ref l])) l u1) l (.lst (cs2.map V.int))) := fun cs2 u1 => by
        rw [upd_upd]
        exact fin0 cs2
      refine ⟨_, rfl, l, _, _, _, rfl, rfl, SqL.of hL2, ha1, rfl, _, rfl, ?_⟩
      refine ite2 (fun _ => ?_) (fun _ => ?_)
      · refine ⟨_, rfl, .inl ⟨rfl, _, SqL.of hL2⟩, l, _, 0, 0, _, rfl, rfl, hL2, by decide, by decide, seq_at (by decide) (by rw [List.length_map, List.length_cons]; omega), by rfl, ?_⟩
        exact ⟨_, rfl, fin cr _⟩
      · exact ⟨_, rfl, fin0 ((c0 / n) :: cr)⟩
    · have m3 : ∀ (x d : Int), 0 < d → 0 ≤ x % d ∧ x % d < d := fun x d h => ⟨Int.emod_nonneg _ (by omega), Int.emod_lt_of_pos _ h⟩
      refine ⟨_, rfl, t, _, _, _, rfl, rfl, SqL.of hT1, rfl, _, rfl, t, _, _, _, rfl, rfl, SqL.of hT1, rfl, _, _, rfl, rfl, .inl ⟨by decide, by decide⟩, _, _, rfl, rfl, ?_⟩
      refine ⟨_, _, rfl, rfl, .inr (by decide), .inl ⟨_, rfl, _, _, rfl, rfl, by show (0 : Int) < 2147483647; decide, ?_⟩⟩
      have q1 := m3 ((sd + 7919 * (c + 1)) * 48271) 2147483647 (by decide)
      generalize ((sd + 7919 * (c + 1)) * 48271) % 2147483647 = u at q1 ⊢
      refine ⟨_, rfl, _, rfl, _, _, rfl, rfl, ⟨by decide, by decide⟩, _, _, rfl, rfl, _, _, rfl, rfl, .inl ⟨by omega, by omega⟩, .inl ⟨_, rfl, _, _, rfl, rfl, by show (0 : Int) < 2147483647; decide, ?_⟩⟩
      have q2 := m3 (u * (u / 1009 + 69621)) 2147483647 (by decide)
      generalize (u * (u / 1009 + 69621)) % 2147483647 = v at q2 ⊢
      refine ⟨_, rfl, _, rfl, _, _, rfl, rfl, ⟨by decide, by decide⟩, _, _, rfl, rfl, _, _, rfl, rfl, .inl ⟨by omega, by omega⟩, .inl ⟨_, rfl, _, _, rfl, rfl, by show (0 : Int) < 2147483399; decide, ?_⟩⟩
      refine ⟨_, rfl, _, _, rfl, rfl, ⟨by decide, by decide⟩, .inl ⟨_, rfl, _, rfl, _, _, rfl, rfl, hn, ?_⟩⟩
      exact k _ _ (m3 _ _ hn).1 (m3 _ _ hn).2 (fun b o n m h => by rw [upd_ne n]; exact h) ⟨sd, c + 1, cs, hT1, hL1⟩
/-- a mixing: from a list of ints of any kind, each once -/
def spMixed (K : PySem.W.Frag) : Sp := fun vs H Q _ => ∃ (t l q : Addr) (ns : List Int), vs = [.ref t, .ref q] ∧ Po H t l ∧ SqL K H q (ns.map V.int) ∧ ns.length ≤ 1000 ∧ ∀ (p : Addr) (xs : List Int) (H' : Hp), xs.Perm ns → H p = none → H' p = some (.lst (xs.map V.int)) → Gs t l H H' → Po H' t l → Q (.ref p) H'
theorem ok_mixed (A : At K mg "_law_mixed" s_law_mixed ["pool", "things"]) (T : Tx mg) (G_law_draw : Dfn P w K mg base "_law_draw" ["pool", "many"] 1 spDraw) : Dfn P w K mg base "_law_mixed" ["pool", "things"] 2 (spMixed K) := by
  refine A.ok sc_law_mixed (fun vs H Q E h => ?_) (fun f cdv A outer s H vs Q E hr h => ?_)
  · obtain ⟨t, l, q, ns, rfl, _⟩ := h
    rfl
  · obtain ⟨t, l, q0, ns, rfl, hT, hq0, hn, k⟩ := h
    refine ⟨_, (pss_cons (ps_set (i := 2) sc_law_mixed.nd rfl (Or.inr rfl) (pe_callTy c_list (by rfl) T.list (by decide +kernel) (pa_cons (pv 1) pa_nil)))
      (pss_one (ps_ret (pe_lc (own := [("k", 3)]) (g := (gName 3)) (tt := tYes) (te := (tBM K "list" rPopAt (tVar 2) (tCons (tCall spDraw [] E0 (tCons (tVar 0) (tCons (tCB (rLenS K) (tCons (tVar 2) tNil)) tNil))) tNil))) (by rfl) sc_law_mixed.nd (pi_range1 rfl T.range (pa_cons (pe_callB c_len (by rfl) T.len (by decide +kernel) (pa_cons (pv 2) pa_nil)) pa_nil)) (blkOk_by (own := [("k", 3)]) (N := n_law_mixed) (sc := (defScope s_law_mixed)) (by decide +kernel)) (fun _ _ _ _ _ => (pg_name (i := 3) sc_law_mixed.nd rfl (Or.inl rfl))) (fun _ _ _ _ _ => pts_nil) (fun _ _ _ _ _ => (pe_bm PySem.F.plainAttrs_list PySem.F.slot_list_pop PySem.F.type_list_pop mt_popAt (pv 2) (pa_cons (pe_d G_law_draw (hr.mono (by decide)) (pa_cons (pv 0) (pa_cons (pe_callB c_len (by rfl) T.len (by decide +kernel) (pa_cons (pv 2) pa_nil)) pa_nil))) pa_nil))))))), ?_⟩
    refine ⟨_, rfl, q0, _, rfl, .inl hq0, fun q hq => ?_⟩
    have nq := hT.free hq
    refine ⟨_, rfl, q, _, rfl, .inl (SqL.of upd_same), ?_⟩
    rw [List.length_map]
    refine ⟨_, rfl, by omega, by omega, fun D hD => ?_⟩
    have nqD : q ≠ D := ne_of_none upd_same hD
    have hD0 : H D = none := by
      rw [upd_ne nqD.symm] at hD
      exact hD
    have nD := hT.free hD0
    refine lc_range (lo := 0) (n := ns.length) (fun i H' => ∃ acc left : List Int, (acc ++ left).Perm ns ∧ acc.length = i ∧ left.length = ns.length - i ∧ H' D = some (.lst (acc.map V.int)) ∧ H' q = some (.lst (left.map V.int)) ∧ Gs t l H H' ∧ Po H' t l)
      ⟨[], ns, List.Perm.refl _, rfl, rfl, upd_same, by rw [upd_ne nqD, upd_same], (Gs.new hq).mut hD0, (hT.new hq).new hD⟩ ?_ ?_
    · rintro i H1 hi ⟨acc, left, pm, la, ll, hDa, hqa, g1, T1⟩
      have lp : 0 < left.length := by omega
      refine ⟨rfl, _, rfl, .inl ⟨rfl, _, SqL.of hqa⟩, _, rfl, _, rfl, q, _, rfl, .inl (SqL.of hqa), t, l, _, rfl, T1, by rw [List.length_map]; omega, by rw [List.length_map]; omega, fun x H2 x0 x1 g2 T2 => ?_⟩
      rw [List.length_map] at x1
      have hqb : H2 q = some (.lst (left.map V.int)) := g2 _ _ nq.1 nq.2 hqa
      have hDb : H2 D = some (.lst (acc.map V.int)) := g2 _ _ nD.1 nD.2 hDa
      have xl : x.toNat < left.length := by omega
      have hy : (left.map V.int)[x.toNat]? = some (.int left[x.toNat]) := by
        rw [List.getElem?_map, List.getElem?_eq_getElem xl]
        rfl
      refine ⟨q, _, x, x.toNat, _, rfl, rfl, hqb, by omega, by omega, seq_at x0 (by rw [List.length_map]; exact x1), hy, acc.map V.int, by rw [upd_ne nqD.symm]; exact hDb, by rw [List.length_map]; exact Nat.lt_of_le_of_lt (show acc.length ≤ 1000 by omega) (by decide), ?_⟩
      refine ⟨acc ++ [left[x.toNat]], left.eraseIdx x.toNat, ?_, by rw [List.length_append, la]; rfl, by rw [List.length_eraseIdx, if_pos xl]; omega, by rw [upd_same, List.map_append]; rfl, by rw [upd_ne nqD, upd_same, map_eraseIdx'], ((g1.trans g2).mut hq).mut hD0, (T2.mut nq).mut nD⟩
      refine List.Perm.trans ?_ pm
      rw [List.append_assoc]
      exact List.Perm.append_left acc (perm_erase left _ xl)
    · rintro H1 ⟨acc, left, pm, la, ll, hDa, hqa, g1, T1⟩
      have e : left = [] := List.eq_nil_of_length_eq_zero (by omega)
      subst e
      rw [List.append_nil] at pm
      exact k D acc H1 pm hD0 hDa g1 T1
end
end Fo
set_option maxRecDepth 100000
set_option maxHeartbeats 4000000
namespace Fo
open PySem PySem.Spec PyProof.Rows L2
abbrev s_is_integer : Stmt := top 10
abbrev n_is_integer : List Str := ["thing"]
theorem sc_is_integer : FnScope n_is_integer ["thing"] (defScope s_is_integer) := ⟨rfl, rfl, rfl, by decide +kernel, rfl, by decide +kernel, by decide +kernel⟩
abbrev s_is_number : Stmt := top 11
abbrev n_is_number : List Str := ["bound", "thing"]
theorem sc_is_number : FnScope n_is_number ["bound", "thing"] (defScope s_is_number) := ⟨rfl, rfl, rfl, by decide +kernel, rfl, by decide +kernel, by decide +kernel⟩
abbrev s_is_numbers : Stmt := top 12
abbrev n_is_numbers : List Str := ["bound", "thing", "one"]
theorem sc_is_numbers : FnScope n_is_numbers ["bound", "thing"] (defScope s_is_numbers) := ⟨rfl, rfl, rfl, by decide +kernel, rfl, by decide +kernel, by decide +kernel⟩
abbrev s_is_ascending : Stmt := top 13
abbrev n_is_ascending : List Str := ["bound", "thing", "low", "high"]
theorem sc_is_ascending : FnScope n_is_ascending ["bound", "thing"] (defScope s_is_ascending) := ⟨rfl, rfl, rfl, by decide +kernel, rfl, by decide +kernel, by decide +kernel⟩
abbrev s_check_rows : Stmt := top 31
abbrev n_check_rows : List Str := ["rows", "person", "row"]
theorem sc_check_rows : FnScope n_check_rows ["rows"] (defScope s_check_rows) := ⟨rfl, rfl, rfl, by decide +kernel, rfl, by decide +kernel, by decide +kernel⟩
abbrev s_Table___init : Stmt := inClass (top 30) 0
abbrev n_Table___init : List Str := ["self", "rows"]
theorem sc_Table___init : FnScope n_Table___init ["self", "rows"] (defScope s_Table___init) := ⟨rfl, rfl, rfl, by decide +kernel, rfl, by decide +kernel, by decide +kernel⟩
abbrev s_Table___eq : Stmt := inClass (top 30) 1
abbrev n_Table___eq : List Str := ["self", "other"]
theorem sc_Table___eq : FnScope n_Table___eq ["self", "other"] (defScope s_Table___eq) := ⟨rfl, rfl, rfl, by decide +kernel, rfl, by decide +kernel, by decide +kernel⟩
section
variable {P : Program} {w : World} {K : PySem.W.Frag} {mg : Str → Option Value} {base : Heap} {C : Addr}
def spInteger (K : PySem.W.Frag) (C : Addr) : Sp := fun vs H Q _ => ∃ x, vs = [x] ∧ Th K C H x ∧ Q (.bl (isIntV x)) H
theorem ok_is_integer (A : At K mg "is_integer" s_is_integer ["thing"]) (T : Tx mg) (tc : TC K C) : Dfn P w K mg base "is_integer" ["thing"] 1 (spInteger K C) := by
  refine A.ok sc_is_integer (fun vs H Q E h => ?_) (fun f cdv A outer s H vs Q E hr h => ?_)
  · obtain ⟨x, rfl, _⟩ := h
    rfl
  · obtain ⟨x, rfl, hx, k⟩ := h
    obtain ⟨t, b1, b2, ty, h1, h2, h3⟩ := th_kit tc hx
    refine ⟨_, (pss_one (ps_ret (pe_and (pe_callB call_isi (by rfl) T.isinstance (by decide +kernel) (pa_cons (pv 0) (pa_cons (pe_bltn (v := V.ty "int") (by rfl) T.int (by decide +kernel) rfl) pa_nil))) (pe_one (pe_not (pe_callB call_isi (by rfl) T.isinstance (by decide +kernel) (pa_cons (pv 0) (pa_cons (pe_bltn (v := V.ty "bool") (by rfl) T.bool (by decide +kernel) rfl) pa_nil)))))))), ?_⟩
    refine ⟨_, rfl, x, .ty "int", t, .type "int", b1, rfl, .ty "int", ty, h1, b1, rfl, ?_⟩
    cases b1 with
    | true =>
      refine ⟨_, rfl, x, .ty "bool", t, .type "bool", b2, rfl, .ty "bool", ty, h2, b2, rfl, ?_⟩
      rw [Bool.true_and] at h3
      rw [h3]
      exact k
    | false =>
      rw [Bool.false_and] at h3
      rw [← h3] at k
      exact k
def spNumber (K : PySem.W.Frag) (C : Addr) : Sp := fun vs H Q _ => ∃ (b : Int) (x : V), vs = [.int b, x] ∧ Th K C H x ∧ Q (.bl (numV b x)) H
theorem ok_is_number (A : At K mg "is_number" s_is_number ["bound", "thing"]) (T : Tx mg) (G_is_integer : Dfn P w K mg base "is_integer" ["thing"] 1 (spInteger K C)) : Dfn P w K mg base "is_number" ["bound", "thing"] 2 (spNumber K C) := by
  refine A.ok sc_is_number (fun vs H Q E h => ?_) (fun f cdv A outer s H vs Q E hr h => ?_)
  · obtain ⟨b, x, rfl, _⟩ := h
    rfl
  · obtain ⟨b, x, rfl, hx, k⟩ := h
    refine ⟨_, (pss_one (ps_ret (pe_and (pe_d G_is_integer (hr.mono (by decide)) (pa_cons (pv 1) pa_nil)) (pe_one (pe_chain op_le op_lt pe_int (pv 1) (pv 0)))))), ?_⟩
    refine ⟨_, rfl, x, rfl, hx, _, rfl, ?_⟩
    cases x with
    | int i =>
      have k : Q (.bl (decide (0 ≤ i) && decide (i < b))) H := k
      refine ⟨_, rfl, 0, i, rfl, rfl, _, rfl, ?_⟩
      refine ite2 (fun h1 => ?_) (fun h1 => ?_)
      · rw [h1, Bool.true_and] at k
        exact ⟨_, rfl, i, b, rfl, rfl, k⟩
      · rw [show decide (0 ≤ i) = false from Bool.eq_false_iff.mpr h1, Bool.false_and] at k
        exact k
    | _ => exact k
def numbersOf (b : Int) : Option (List V) → Bool
  | some xs => xs.all (numV b)
  | none => false
def spNumbers (K : PySem.W.Frag) (C : Addr) : Sp := fun vs H Q _ => ∃ (b : Int) (x : V) (o : Option (List V)), vs = [.int b, x] ∧ Tg K C H x o ∧ ∀ H', Same H H' → Q (.bl (numbersOf b o)) H'
theorem ok_is_numbers (A : At K mg "is_numbers" s_is_numbers ["bound", "thing"]) (T : Tx mg) (G_is_number : Dfn P w K mg base "is_number" ["bound", "thing"] 2 (spNumber K C)) : Dfn P w K mg base "is_numbers" ["bound", "thing"] 3 (spNumbers K C) := by
  refine A.ok sc_is_numbers (fun vs H Q E h => ?_) (fun f cdv A outer s H vs Q E hr h => ?_)
  · obtain ⟨b, x, o, rfl, _⟩ := h
    rfl
  · obtain ⟨b, x, o, rfl, hx, k⟩ := h
    refine ⟨_, (pss_one (ps_ret (pe_and (pe_callB call_isi (by rfl) T.isinstance (by decide +kernel) (pa_cons (pv 1) (pa_cons (pe_bltn (v := V.ty "tuple") (by rfl) T.tuple (by decide +kernel) rfl) pa_nil))) (pe_one (pe_callB (cr_all rfl) (by rfl) T.all (by decide +kernel) (pa_cons (pe_lc (own := [("one", 2)]) (g := (gName 2)) (tt := tYes) (te := (tCall (spNumber K C) [] E0 (tCons (tVar 0) (tCons (tVar 2) tNil)))) (by rfl) sc_is_numbers.nd (pi_tup (pv 1)) (blkOk_by (own := [("one", 2)]) (N := n_is_numbers) (sc := (defScope s_is_numbers)) (by decide +kernel)) (fun _ _ _ _ _ => (pg_name (i := 2) sc_is_numbers.nd rfl (Or.inl rfl))) (fun _ _ _ _ _ => pts_nil) (fun _ _ _ _ _ => (pe_d G_is_number (hr.mono (by decide)) (pa_cons (pv 0) (pa_cons (pv 2) pa_nil))))) pa_nil)))))), ?_⟩
    cases hx with
    | no ty hk => exact ⟨_, rfl, x, .ty "tuple", _, .type "tuple", false, rfl, .ty "tuple", ty, hk, false, rfl, k H (Same.refl H)⟩
    | @tup a xs hq hi hz =>
      refine ⟨_, rfl, .ref a, .ty "tuple", _, .type "tuple", true, rfl, .ty "tuple", tyX_sqT hq, kit_ty (by decide +kernel), true, rfl, ?_⟩
      refine ⟨_, rfl, a, rfl, ⟨xs, hq⟩, fun D hD => lc_tup (xs := xs) (fun i H' => H' D = some (.lst ((xs.take i).map fun x => V.bl (numV b x))) ∧ Same H H') ⟨by rw [upd_same]; rfl, same_new hD⟩ (fun i H' _ p => sqT_same p.2 hq) (fun i y H' hy p => ?_) (fun H' p => ?_)⟩
      · refine ⟨rfl, _, rfl, _, rfl, b, y, rfl, (hi y (List.mem_of_getElem? hy)).same p.2, _, p.1, by rw [List.length_map]; exact small_lt (Nat.le_trans (List.length_take_le _ _) (by have := (List.getElem?_eq_some_iff.mp hy).1; omega)), ?_, same_mut p.2 hD⟩
        rw [upd_same, List.take_add_one, hy, List.map_append]
        rfl
      · obtain ⟨p1, p2⟩ := p
        rw [List.take_length] at p1
        refine ⟨D, xs.map (numV b), rfl, SqL.of (by rw [p1, List.map_map]; rfl), ?_⟩
        have e : (xs.map (numV b)).all id = numbersOf b (some xs) := by
          show _ = xs.all (numV b)
          rw [List.all_map]
          rfl
        rw [e]
        exact k H' p2
def ascOf (b : Int) : Option (List V) → Bool
  | some xs => ascV b xs
  | none => false
def spAsc (K : PySem.W.Frag) (C : Addr) : Sp := fun vs H Q _ => ∃ (b : Int) (x : V) (o : Option (List V)), vs = [.int b, x] ∧ Tg K C H x o ∧ ∀ H', Same H H' → Q (.bl (ascOf b o)) H'
theorem asc_lc {a p D : Addr} {ns : List Int} {H2 : Hp} {b : Int} {Qd : Hp → Prop} (hD : H2 D = none) (hx : SqT K H2 a (ns.map V.int)) (hy : SqT K H2 p ((ns.map V.int).drop 1)) (hz : ns.length ≤ 100000)
    (hd : ∀ H', Same H2 H' → H' D = some (.lst (((ns.map V.int).zip ((ns.map V.int).drop 1)).map fun q => V.bl (ltV q.1 q.2))) → Qd H') :
    ∃ W : Nat → Nat → Hp → Prop, (∃ m, W 0 m (upd H2 D (.lst []))) ∧ ∀ i m H, W i m H →
      ((RZ.ItzT K a p).stop i H ∧ Qd H) ∨ ((RZ.ItzT K a p).go i H ∧ ∃ Nx : Hp → Prop, (∀ H', Nx H' → ∃ m', m' < m ∧ W (i + 1) m' H') ∧ ∀ x H', (RZ.ItzT K a p).yld i H x H' → (gTup K 2 (gCons (gName 2) (gCons (gName 3) gNil))) x (wipe [some (.int b), some (.ref a), none, none] [2, 3]) H' fun σ2 H2 => wipe σ2 [2, 3] = wipe [some (.int b), some (.ref a), none, none] [2, 3] ∧ tYes σ2 H2 fun c H3 =>
        if c = true then (tOp (rI0 fun i j => V.bl (decide (i < j))) (tVar 2) (tVar 3)) σ2 H3 fun y H4 => ∃ acc, H4 D = some (.lst acc) ∧ acc.length < sizeLine ∧ Nx (upd H4 D (.lst (acc ++ [y]))) else Nx H3) := by
  refine lc_zipT (xs := ns.map V.int) (ys := (ns.map V.int).drop 1) (by rw [List.length_drop]; omega) (fun i H' => H' D = some (.lst ((((ns.map V.int).zip ((ns.map V.int).drop 1)).take i).map fun q => V.bl (ltV q.1 q.2))) ∧ Same H2 H') ⟨by rw [upd_same]; rfl, same_new hD⟩ (fun i H' _ q => ⟨sqT_same q.2 hx, sqT_same q.2 hy⟩) ?_ ?_
  · rintro i x y H3 T hxi hyi ⟨q1, q2⟩ hT
    have hDT : D ≠ T := ne_of_none q1 hT
    obtain ⟨u, rfl⟩ : ∃ u, x = V.int u := by
      rw [List.getElem?_map] at hxi
      cases e : ns[i]? with
      | none => rw [e] at hxi; cases hxi
      | some u => rw [e] at hxi; exact ⟨u, (Option.some.inj hxi).symm⟩
    obtain ⟨v, rfl⟩ : ∃ v, y = V.int v := by
      rw [List.getElem?_drop, List.getElem?_map] at hyi
      cases e : ns[1 + i]? with
      | none => rw [e] at hyi; cases hyi
      | some v => rw [e] at hyi; exact ⟨v, (Option.some.inj hyi).symm⟩
    have hzip : ((ns.map V.int).zip ((ns.map V.int).drop 1))[i]? = some (V.int u, V.int v) := List.getElem?_zip_eq_some.mpr ⟨hxi, hyi⟩
    refine ⟨T, [.int u, .int v], rfl, SqT.of upd_same, rfl, .int u, [.int v], rfl, .int v, [], rfl, rfl, rfl, _, rfl, _, rfl, u, v, rfl, rfl, _, by rw [upd_ne hDT]; exact q1, by rw [List.length_map]; exact small_lt (Nat.le_trans (List.length_take_le _ _) (by have := (List.getElem?_eq_some_iff.mp hxi).1; rw [List.length_map] at this; omega)), ?_, same_mut (q2.trans (same_new hT)) hD⟩
    rw [upd_same, List.take_add_one, hzip, List.map_append]
    rfl
  · rintro H3 ⟨q1, q2⟩
    refine hd H3 q2 ?_
    rw [q1, List.take_of_length_le]
    rw [List.length_zip]
    exact Nat.min_le_right _ _
theorem ok_is_ascending (A : At K mg "is_ascending" s_is_ascending ["bound", "thing"]) (T : Tx mg) (G_is_numbers : Dfn P w K mg base "is_numbers" ["bound", "thing"] 3 (spNumbers K C)) : Dfn P w K mg base "is_ascending" ["bound", "thing"] 4 (spAsc K C) := by
  refine A.ok sc_is_ascending (fun vs H Q E h => ?_) (fun f cdv A outer s H vs Q E hr h => ?_)
  · obtain ⟨b, x, o, rfl, _⟩ := h
    rfl
  · obtain ⟨b, x, o, rfl, hx, k⟩ := h
    refine ⟨_, (pss_one (ps_ret (pe_and (pe_d G_is_numbers (hr.mono (by decide)) (pa_cons (pv 0) (pa_cons (pv 1) pa_nil))) (pe_one (pe_callB (cr_all rfl) (by rfl) T.all (by decide +kernel) (pa_cons (pe_lc (own := [("low", 2), ("high", 3)]) (g := (gTup K 2 (gCons (gName 2) (gCons (gName 3) gNil)))) (tt := tYes) (te := (tOp (rI0 fun i j => V.bl (decide (i < j))) (tVar 2) (tVar 3))) (by rfl) sc_is_ascending.nd (RZ.pi_zipA (by rfl) T.zip (pa_cons (pv 1) (pa_cons (pe_slice sl_tupA (pv 1) (po_some pe_int) po_none) pa_nil))) (blkOk_by (own := [("low", 2), ("high", 3)]) (N := n_is_ascending) (sc := (defScope s_is_ascending)) (by decide +kernel)) (fun _ _ _ _ _ => (pg_tup rfl (pgs_cons (pg_name (i := 2) sc_is_ascending.nd rfl (Or.inl rfl)) (pgs_cons (pg_name (i := 3) sc_is_ascending.nd rfl (Or.inl rfl)) pgs_nil)))) (fun _ _ _ _ _ => pts_nil) (fun _ _ _ _ _ => (pe_cmpR op_lt (pv 2) (pv 3) (nomark _)))) pa_nil)))))), ?_⟩
    refine ⟨_, rfl, _, rfl, b, x, o, rfl, hx, fun H1 s1 => ⟨_, rfl, ?_⟩⟩
    cases hx with
    | no ty hk => exact k H1 s1
    | @tup a xs hq hi hz =>
      have kk : ∀ H', Same H H' → Q (.bl (ascV b xs)) H' := k
      show if xs.all (numV b) = true then _ else _
      cases hn : xs.all (numV b) with
      | false =>
        have e : ascV b xs = false := by rw [ascV_eq, hn]; rfl
        rw [e] at kk
        exact kk H1 s1
      | true =>
        obtain ⟨ns, rfl, hb⟩ := all_num_ints hn
        have hq1 := sqT_same s1 hq
        have cut : cutV (ns.map V.int) (some 1) none = (ns.map V.int).drop 1 := by
          unfold cutV
          rw [show HT.sIx (ns.map V.int).length 0 (some 1) = min 1 (ns.map V.int).length from HT.sIx_nat _ 0 1, HT.sIx_none]
          cases ns with
          | nil => rfl
          | cons x r =>
            rw [show min 1 ((x :: r).map V.int).length = 1 by rw [List.map_cons, List.length_cons]; omega]
            show List.take (((x :: r).map V.int).length - 1) (r.map V.int) = r.map V.int
            rw [List.map_cons, List.length_cons, Nat.add_sub_cancel]
            exact List.take_length
        have kk2 : ∀ (D : Addr) (H' : Hp), Same H H' → H' D = some (.lst (((ns.map V.int).zip ((ns.map V.int).drop 1)).map fun q => V.bl (ltV q.1 q.2))) → ∃ (a : Addr) (bs : List Bool), [V.ref D] = [V.ref a] ∧ SqL K H' a (bs.map V.bl) ∧ Q (.bl (bs.all id)) H' := fun D H' s2 hD => by
          refine ⟨D, ((ns.map V.int).zip ((ns.map V.int).drop 1)).map fun q => ltV q.1 q.2, rfl, SqL.of (by rw [hD, List.map_map]; rfl), ?_⟩
          have e : ((((ns.map V.int).zip ((ns.map V.int).drop 1)).map fun q => ltV q.1 q.2).all id) = ascV b (ns.map V.int) := by
            rw [ascV_eq, hn, Bool.true_and, List.all_map]
            rfl
          rw [e]
          exact kk H' s2
        have nz : ns.length ≤ 100000 := by rw [List.length_map] at hz; exact hz
        refine ⟨_, rfl, _, rfl, 1, rfl, a, ns.map V.int, rfl, hq1, fun hw => ?_, fun hw p hp => ?_⟩
        · have e0 : ns = [] := by
            cases ns with
            | nil => rfl
            | cons x r =>
              have h1 := hw.1
              rw [show HT.sIx ((x :: r).map V.int).length 0 (some 1) = min 1 ((x :: r).map V.int).length from HT.sIx_nat _ 0 1, List.map_cons, List.length_cons] at h1
              omega
          have hy : SqT K H1 a ((ns.map V.int).drop 1) := by rw [e0] at hq1 ⊢; exact hq1
          exact ⟨a, a, _, _, rfl, .inr ⟨hq1, hy, fun D hD => asc_lc hD hq1 hy nz fun H' s2 q => kk2 D H' (s1.trans s2) q⟩⟩
        · rw [cut]
          have hx2 := sqT_same (same_new (o := .tup ((ns.map V.int).drop 1)) hp) hq1
          exact ⟨a, p, _, _, rfl, .inr ⟨hx2, SqT.of upd_same, fun D hD => asc_lc hD hx2 (SqT.of upd_same) nz fun H' s2 q => kk2 D H' ((s1.trans (same_new hp)).trans s2) q⟩⟩
def spCheck (K : PySem.W.Frag) : Sp := fun vs H Q _ => ∃ (v : V) (rows : List (List Int)), vs = [v] ∧ Good rows ∧ rows.length ≤ 12 ∧ RowsAt K H v rows ∧ ∀ H', Same H H' → Q .non H'
theorem ok_check (A : At K mg "_check_rows" s_check_rows ["rows"]) (T : Tx mg) {tk : Tok} (hMR : mg "MOST_ROWS" = some (.int 12 tk)) (G_is_ascending : Dfn P w K mg base "is_ascending" ["bound", "thing"] 4 (spAsc K C)) : Dfn P w K mg base "_check_rows" ["rows"] 5 (spCheck K) := by
  refine A.ok sc_check_rows (fun vs H Q E h => ?_) (fun f cdv A outer s H vs Q E hr h => ?_)
  · obtain ⟨v, rows, rfl, _⟩ := h
    rfl
  · obtain ⟨v, rows, rfl, hG, hl, ⟨a, vs, rfl, ha, hrs⟩, k⟩ := h
    have vl := hrs.len
    have hp := hG.pos
    refine ⟨_, (pss_cons (ps_if (PW.pt (pw_or (pt_not (pt_val (pe_callB call_isi (by rfl) T.isinstance (by decide +kernel) (pa_cons (pv 0) (pa_cons (pe_bltn (v := V.ty "tuple") (by rfl) T.tuple (by decide +kernel) rfl) pa_nil))))) (pw_or1 (pt_not (pt_chain op_le op_le pe_int (pe_callB c_len (by rfl) T.len (by decide +kernel) (pa_cons (pv 0) pa_nil)) (pe_glob (v := V.int 12) (by rfl) hMR ⟨_, rfl⟩)))))) (pss_one ps_never) pss_nil)
      (pss_one (ps_for PassesOwn.never rfl (pi_enumT (by rfl) T.enumerate (pa_cons (pv 0) pa_nil)) (pg_tup rfl (pgs_cons (pg_name (i := 1) sc_check_rows.nd rfl (Or.inl rfl)) (pgs_cons (pg_name (i := 2) sc_check_rows.nd rfl (Or.inl rfl)) pgs_nil)))
      (pss_one (ps_if (pt_not (pt_val (pe_d G_is_ascending (hr.mono (by decide)) (pa_cons (pe_callB c_len (by rfl) T.len (by decide +kernel) (pa_cons (pv 0) pa_nil)) (pa_cons (pv 2) pa_nil))))) (pss_one ps_never) pss_nil))))), ?_⟩
    refine ⟨_, rfl, .ref a, .ty "tuple", _, .type "tuple", true, rfl, .ty "tuple", tyX_sqT ha, kit_ty (by decide +kernel), true, rfl, ?_⟩
    refine ⟨_, rfl, a, vs, rfl, .inr ha, 1, _, rfl, rfl, _, rfl, ?_⟩
    have d1 : decide ((1 : Int) ≤ (vs.length : Nat)) = true := decide_eq_true (by omega)
    have d2 : decide (((vs.length : Nat) : Int) ≤ 12) = true := decide_eq_true (by omega)
    rw [d1]
    refine ⟨_, 12, rfl, rfl, ?_⟩
    refine ⟨_, rfl, ?_⟩
    rw [d2]
    refine ⟨_, rfl, a, vs, rfl, ha, for_enumT (xs := vs) (fun i σ' H' => ∃ x1 x2, σ' = [some (.ref a), x1, x2] ∧ Same H H') ⟨_, _, rfl, Same.refl H⟩ (fun i σ' H' _ ⟨_, _, _, s⟩ => sqT_same s ha) ?_ ?_⟩
    · rintro i x σ' H' T' hx ⟨x1, x2, rfl, s1⟩ hT
      obtain ⟨r, hr1, hr2⟩ : ∃ r, rows[i]? = some r ∧ ∃ q, x = .ref q ∧ SqT K H q (r.map V.int) := by
        have hi : i < rows.length := by rw [← vl]; exact (List.getElem?_eq_some_iff.mp hx).1
        obtain ⟨q, e, h⟩ := hrs.get (List.getElem?_eq_getElem hi)
        rw [hx] at e
        exact ⟨_, List.getElem?_eq_getElem hi, q, Option.some.inj e, h⟩
      obtain ⟨q, rfl, hq⟩ := hr2
      have s2 : Same H (upd H' T' (.tup [.int (i : Nat), .ref q])) := s1.trans (same_new hT)
      have hm := List.mem_of_getElem? hr1
      refine ⟨T', _, rfl, SqT.of upd_same, rfl, _, _, rfl, _, _, rfl, rfl, ?_⟩
      have rl := row_len (hG.asc _ hm) (hG.rng _ hm)
      refine ⟨_, rfl, a, vs, rfl, .inr (sqT_same s2 ha), _, rfl, _, _, _, rfl, Tg.ints (sqT_same s2 hq) (by omega), fun H3 s3 => ⟨_, rfl, ?_⟩⟩
      have e : ascOf ((vs.length : Nat) : Int) (some (r.map V.int)) = true := ascV_ints (hG.asc _ hm) fun x hx => by rw [vl]; exact hG.rng _ hm x hx
      rw [e]
      exact ⟨_, _, rfl, s2.trans s3⟩
    · rintro σ' H' ⟨x1, x2, rfl, s1⟩
      exact k H' s1
theorem ok_init {f : Addr} {fd : FuncData} (F : Fun K "__init__" "Table.__init__" s_Table___init f fd) (T : Tx mg) (tc : TC K C) (G_check_rows : Dfn P w K mg base "_check_rows" ["rows"] 5 (spCheck K)) : FnOk P w K mg base CX0 6 f fd ["self", "rows"] (spInit K C) := by
  refine F.ok sc_Table___init (fun vs H Q E h => ?_) (fun cdv A outer s H vs Q E hr h => ?_)
  · obtain ⟨p, dx, v, rows, rfl, _⟩ := h
    rfl
  · obtain ⟨p, dx, v, rows, rfl, hp, hG, hl, hR, k⟩ := h
    refine ⟨_, (pss_cons (ps_expr (pe_d G_check_rows (hr.mono (by decide)) (pa_cons (pv 1) pa_nil)))
      (pss_cons (ps_fld (pv 0) (pv 1) rfl)
      (pss_one (ps_fld (pv 0) (pe_callB c_len (by rfl) T.len (by decide +kernel) (pa_cons (pv 1) pa_nil)) rfl)))), ?_⟩
    refine ⟨_, rfl, v, rows, rfl, hG, hl, hR, fun H1 s1 => ?_⟩
    obtain ⟨a, vs, rfl, ha, hrs⟩ := hR.same s1
    have hp1 := s1 _ _ hp
    refine ⟨_, rfl, _, rfl, p, C, dx, [], rfl, hp1, tc.cl, tc.nR, by decide, ?_⟩
    have ha2 : SqT K (upd H1 p (.ins C dx (putF "rows" (.ref a) []))) a vs := sqT_ins ha hp1 fun b o n e => by rw [upd_ne n]; exact e
    refine ⟨_, rfl, a, vs, rfl, .inr ha2, _, rfl, p, C, dx, _, rfl, upd_same, tc.cl, tc.nS, by show 1 < 1000; decide, ?_⟩
    refine k _ (fun b o n e => ?_) ?_
    · rw [upd_ne n, upd_ne n]
      exact s1 _ _ e
    · rw [upd_same, hrs.len]
      rfl
theorem ok_eq {f : Addr} {fd : FuncData} (F : Fun K "__eq__" "Table.__eq__" s_Table___eq f fd) (T : Tx mg) (tc : TC K C) (hC : mg "Table" = some (.ref C)) : FnOk P w K mg base CX0 1 f fd ["self", "other"] (spEqT K C) := by
  refine F.ok sc_Table___eq (fun vs H Q E h => ?_) (fun cdv A outer s H vs Q E hr h => ?_)
  · obtain ⟨x, y, r1, r2, rfl, _⟩ := h
    rfl
  · obtain ⟨x, y, r1, r2, rfl, hx, hy, k⟩ := h
    refine ⟨_, (pss_one (ps_ret (pe_and (pe_callB call_isi (by rfl) T.isinstance (by decide +kernel) (pa_cons (pv 1) (pa_cons (pe_glob (v := V.ref C) (by rfl) hC rfl) pa_nil))) (pe_one (pe_cmpR (op_eqD hr.units) (pe_fld (pv 0) rfl) (pe_fld (pv 1) rfl) (nomark _)))))), ?_⟩
    have ty := hy.tyx tc
    obtain ⟨p, dx, v, rfl, hp, hR⟩ := hx
    obtain ⟨q, dy, u, rfl, hq, hS⟩ := hy
    refine ⟨_, rfl, _, .ref C, .ref C, .ref C, true, rfl, .own C, ty, by simp [PySem.W.kitOne], true, rfl, ?_⟩
    refine ⟨_, rfl, p, C, dx, _, v, rfl, hp, tc.cl, tc.nR, tf_rows _ _, _, rfl, q, C, dy, _, u, rfl, hq, tc.cl, tc.nR, tf_rows _ _, dR r1, dR r2, hR.dp, hS.dp, sh_R r1, sh_R r2, ?_⟩
    rw [eqv_R]
    exact k H (Same.refl H)
end
end Fo
set_option maxRecDepth 100000
set_option maxHeartbeats 4000000
namespace Fo
open PySem PySem.Spec PyProof.Rows L2
abbrev s_table_of : Stmt := top 32
abbrev n_table_of : List Str := ["rows", "table"]
theorem sc_table_of : FnScope n_table_of ["rows"] (defScope s_table_of) := ⟨rfl, rfl, rfl, by decide +kernel, rfl, by decide +kernel, by decide +kernel⟩
section
variable {P : Program} {w : World} {K : PySem.W.Frag} {mg : Str → Option Value} {base : Heap} {C : Addr}
def spTableOf (K : PySem.W.Frag) (C : Addr) : Sp := fun vs H Q _ => ∃ (v : V) (rows : List (List Int)), vs = [v] ∧ RowsAt K H v rows ∧ ∀ p H', Same H H' → H p = none → TableAt K C H' (.ref p) rows → Q (.ref p) H'
theorem good1 : Good [[]] := ⟨by decide, fun r h => by rw [List.mem_singleton.mp h]; exact .nil, fun r h x hx => by rw [List.mem_singleton.mp h] at hx; cases hx⟩
theorem ok_table_of (A : At K mg "table_of" s_table_of ["rows"]) (T : Tx mg) {m : Nat} {spE : Sp} (G_Table : MkT P w K mg base C 6 m (spInit K C) spE) : Dfn P w K mg base "table_of" ["rows"] 8 (spTableOf K C) := by
  have tc := G_Table.tc
  refine A.ok sc_table_of (fun vs H Q E h => ?_) (fun f cdv A outer s H vs Q E hr h => ?_)
  · obtain ⟨v, rows, rfl, _⟩ := h
    rfl
  · obtain ⟨v, rows, rfl, hR, k⟩ := h
    refine ⟨_, (pss_cons (ps_set (i := 1) sc_table_of.nd rfl (Or.inl rfl) (pe_makeTable G_Table (hr.mono (by decide)) (pe_tup (pa_cons (pe_tup pa_nil) pa_nil))))
      (pss_cons (ps_fld (pv 1) (pv 0) rfl)
      (pss_cons (ps_fld (pv 1) (pe_callB c_len (by rfl) T.len (by decide +kernel) (pa_cons (pv 0) pa_nil)) rfl)
      (pss_one (ps_ret (pv 1)))))), ?_⟩
    refine ⟨Nat.zero_le _, fun e he => ⟨by show 1 ≤ sizeLine; decide, fun o ho => ?_⟩⟩
    have neo : e ≠ o := ne_of_none upd_same ho
    have s1 : Same H (upd (upd H e (.tup [])) o (.tup [.ref e])) := (same_new he).trans (same_new ho)
    refine ⟨[[]], good1, by decide, ⟨o, [.ref e], rfl, SqT.of upd_same, .cons (r := []) (SqT.of (by rw [upd_ne neo, upd_same]; rfl)) .nil⟩, fun p dx H2 s2 hp0 hp => ?_⟩
    have s12 := s1.trans s2
    have hp00 : H p = none := s1.free hp0
    obtain ⟨a, vs, rfl, ha, hrs⟩ := hR.same s12
    refine ⟨_, rfl, _, rfl, p, C, dx, _, rfl, hp, tc.cl, tc.nR, by rw [tf_eq]; show 2 < 1000; decide, ?_⟩
    have ha2 : SqT K (upd H2 p (.ins C dx (putF "rows" (.ref a) (tf (.ref o) [([] : List Int)].length)))) a vs := sqT_ins ha hp fun b o n e => by rw [upd_ne n]; exact e
    refine ⟨_, rfl, a, vs, rfl, .inr ha2, _, rfl, p, C, dx, _, rfl, upd_same, tc.cl, tc.nS, ?_, ?_⟩
    · rw [tf_eq]
      show (putF "rows" (V.ref a) [("rows", V.ref o), ("size", V.int (([([] : List Int)].length : Nat) : Int))]).length < 1000
      have e1 : putF "rows" (V.ref a) [("rows", V.ref o), ("size", V.int (([([] : List Int)].length : Nat) : Int))] = ([("rows", V.ref a), ("size", V.int (([([] : List Int)].length : Nat) : Int))] : List (Str × V)) := by
        show (if ("rows" : Str) = "rows" then (("rows" : Str), V.ref a) :: [(("size" : Str), V.int (([([] : List Int)].length : Nat) : Int))] else _) = _
        rw [if_pos rfl]
      rw [e1]
      show 2 < 1000
      decide
    · have fin : (upd (upd H2 p (.ins C dx (putF "rows" (.ref a) (tf (.ref o) [([] : List Int)].length)))) p (.ins C dx (putF "size" (.int ((vs.length : Nat) : Int)) (putF "rows" (.ref a) (tf (.ref o) [([] : List Int)].length))))) = upd H2 p (.ins C dx (tf (.ref a) rows.length)) := by
        rw [upd_upd, tf_put, hrs.len]
      refine ⟨_, rfl, ?_⟩
      show Q (.ref p) (upd (upd H2 p (.ins C dx (putF "rows" (.ref a) (tf (.ref o) [([] : List Int)].length)))) p (.ins C dx (putF "size" (.int ((vs.length : Nat) : Int)) (putF "rows" (.ref a) (tf (.ref o) [([] : List Int)].length)))))
      rw [fin]
      refine k p _ (same_mut s12 hp00) hp00 ⟨p, dx, .ref a, rfl, upd_same, RowsAt.ins ⟨a, vs, rfl, ha, hrs⟩ hp fun b o n e => ?_⟩
      rw [upd_ne n]
      exact e
end
end Fo
set_option maxRecDepth 100000
set_option maxHeartbeats 4000000
set_option maxRecDepth 100000
set_option maxHeartbeats 4000000
namespace Fo
open PySem PySem.Spec PyProof.Rows L2
abbrev s_hand_on : Stmt := top 20
abbrev n_hand_on : List Str := ["held", "owner", "came", "thing", "person", "left"]
theorem sc_hand_on : FnScope n_hand_on ["held", "owner", "came", "thing"] (defScope s_hand_on) := ⟨rfl, rfl, rfl, by decide +kernel, rfl, by decide +kernel, by decide +kernel⟩
abbrev s_give : Stmt := top 19
abbrev n_give : List Str := ["rows", "held", "owner", "person", "came", "waiting", "one", "thing"]
theorem sc_give : FnScope n_give ["rows", "held", "owner", "person"] (defScope s_give) := ⟨rfl, rfl, rfl, by decide +kernel, rfl, by decide +kernel, by decide +kernel⟩
abbrev s_matched : Stmt := top 18
abbrev n_matched : List Str := ["rows", "held", "owner", "person"]
theorem sc_matched : FnScope n_matched ["rows"] (defScope s_matched) := ⟨rfl, rfl, rfl, by decide +kernel, rfl, by decide +kernel, by decide +kernel⟩
theorem ixN_nat {n q : Nat} (h : q < n) : ixN n (q : Int) = some q := by
  unfold ixN
  rw [if_pos (by omega), if_pos (by omega)]
  rfl
theorem at_nat {α : Type} {xs : List α} {x : α} {j : Nat} (h : xs[j]? = some x) : atI xs (j : Int) = some x := atI_nat h
section
variable {P : Program} {w : World} {K : PySem.W.Frag} {mg : Str → Option Value} {base : Heap} {C : Addr}
def HR (n : Nat) (H : Hp) (hd ow : Addr) (m : Mt.MS) : Prop := H hd = some (.lst (heldV n m.h)) ∧ DR H ow m.o
theorem HR.ne {n : Nat} {H : Hp} {hd ow : Addr} {m : Mt.MS} (h : HR n H hd ow m) : hd ≠ ow := by
  obtain ⟨kvs, e⟩ := h.2.isd
  exact ne_of h.1 e (by intro z; cases z)
theorem HR.at_ {n : Nat} {H H' : Hp} {hd ow : Addr} {m : Mt.MS} (h : HR n H hd ow m) (a : ∀ o, H hd = some o → H' hd = some o) (b : ∀ o, H ow = some o → H' ow = some o) : HR n H' hd ow m := ⟨a _ h.1, h.2.at_ b⟩
def spHand : Sp := fun vs H Q _ => ∃ (hd ow cm : Addr) (n : Nat) (m m' : Mt.MS) (c : Mt.Came) (t : Int) (U : List Int), vs = [.ref hd, .ref ow, .ref cm, .int t] ∧ HR n H hd ow m ∧ DR H cm c ∧ cm ≠ ow ∧ Mt.Hand c m t m' ∧
  (∀ s q, c s = some q → q < n ∧ s ∈ U) ∧ (∀ s, m.o s ≠ none → s ∈ U) ∧ U.length ≤ 100000 ∧ n ≤ 100000 ∧ ∀ H', Keep2 hd ow H H' → HR n H' hd ow m' → Q .non H'
theorem ok_hand (A : At K mg "_hand_on" s_hand_on ["held", "owner", "came", "thing"]) (T : Tx mg) : Dfn P w K mg base "_hand_on" ["held", "owner", "came", "thing"] 1 spHand := by
  refine A.ok sc_hand_on (fun vs H Q E h => ?_) (fun f cdv A outer s H vs Q E hr h => ?_)
  · obtain ⟨hd, ow, cm, n, m, m', c, t, U, rfl, _⟩ := h
    rfl
  · obtain ⟨hd, ow, cm, n, m, m', c, t, U, rfl, hm, hc, nco, hh, hcb, hU, hl, hn, k⟩ := h
    obtain ⟨j0, hj0⟩ := hand_n hh
    have ncd : cm ≠ hd := by
      obtain ⟨kvs, e⟩ := hc.isd
      exact ne_of e hm.1 (by intro z; cases z)
    refine ⟨_, (pss_one (ps_while PassesOwn.never (pt_cmpR op_notN (pv 3) pe_non (nomark _)) (pss_cons (ps_set (i := 4) sc_hand_on.nd rfl (Or.inl rfl) (pe_dget (hu_of hr) (pv 2) (pv 3) (fun _ _ => rfl)))
      (pss_cons (ps_set (i := 5) sc_hand_on.nd rfl (Or.inl rfl) (pe_ix ix_list (pv 0) (pv 4) (fun _ _ => rfl)))
      (pss_cons (ps_asg (pv 3) (pg_sub (pv 0) (pv 4) set_list))
      (pss_cons (ps_dput (hu_of hr) (pv 1) (pv 3) (pv 4) rfl)
      (pss_one (ps_set (i := 3) sc_hand_on.nd rfl (Or.inl rfl) (pv 5))))))))), ?_⟩
    refine while_m (fun z σ' H' => ∃ x4 x5, (∃ j m1 t1, z = j + 1 ∧ σ' = [some (.ref hd), some (.ref ow), some (.ref cm), some (.int t1), x4, x5] ∧ HandN c j m1 t1 m' ∧ HR n H' hd ow m1 ∧ DR H' cm c ∧ Keep2 hd ow H H' ∧ ∀ s, m1.o s ≠ none → s ∈ U) ∨ (z = 0 ∧ σ' = [some (.ref hd), some (.ref ow), some (.ref cm), some .non, x4, x5] ∧ HR n H' hd ow m' ∧ Keep2 hd ow H H')) ⟨_, _, _, .inl ⟨j0, m, t, rfl, rfl, hj0, hm, hc, Keep2.refl, hU⟩⟩ ?_ ?_
    · rintro z σ' H1 ⟨x4, x5, ⟨j, m1, t1, rfl, rfl, hj, h1, hc1, kp, hU1⟩ | ⟨rfl, rfl, h1, kp⟩⟩
      · refine ⟨_, rfl, rfl, _, rfl, ?_⟩
        have go : ∀ (q : Nat), c t1 = some q → ∃ H', DPut (upd H1 hd (.lst ((heldV n m1.h).set q (.int t1)))) ow (.int t1) (nV q) H' ∧ HR n H' hd ow (Mt.put m1 q t1) ∧ DR H' cm c ∧ Keep2 hd ow H H' ∧ (∀ s, (Mt.put m1 q t1).o s ≠ none → s ∈ U) := fun q hq => by
          have h2 : DR (upd H1 hd (.lst ((heldV n m1.h).set q (.int t1)))) ow m1.o := h1.2.at_ fun o e => by rw [upd_ne h1.ne.symm]; exact e
          obtain ⟨H', d1, d2, d3⟩ := h2.put t1 q hU1 hl
          refine ⟨H', d1, ⟨?_, d2⟩, hc1.at_ fun o e => ?_, fun b o n1 n2 e => ?_, fun s hs => ?_⟩
          · rw [d3 hd h1.ne, upd_same, heldV_set]
            rfl
          · rw [d3 cm nco, upd_ne ncd]
            exact e
          · rw [d3 b n2, upd_ne n1]
            exact kp b o n1 n2 e
          · have hs' : Mt.fset m1.o t1 (some q) s ≠ none := hs
            by_cases y : s = t1
            · rw [y]; exact (hcb t1 q hq).2
            · rw [Mt.fset_ne y] at hs'
              exact hU1 s hs'
        cases hj with
        | @last _ _ q a b =>
          obtain ⟨H', d1, d2, d3, d4, d5⟩ := go q a
          have qn := (hcb t1 q a).1
          have get := hc1.get t1
          rw [a] at get
          refine ⟨_, rfl, _, rfl, cm, _, rfl, get, ?_⟩
          refine ⟨_, rfl, _, rfl, hd, _, _, _, rfl, rfl, SqL.of h1.1, at_nat (heldV_get qn), ?_⟩
          refine ⟨_, rfl, _, rfl, _, rfl, hd, _, _, q, rfl, rfl, h1.1, by rw [heldV_len]; exact ixN_nat qn, ?_⟩
          refine ⟨_, rfl, _, rfl, _, rfl, ow, H', rfl, d1, ?_⟩
          rw [b]
          exact ⟨_, rfl, 0, Nat.zero_lt_succ _, _, _, .inr ⟨rfl, rfl, d2, d4⟩⟩
        | @more j _ _ _ s q a b d =>
          obtain ⟨H', d1, d2, d3, d4, d5⟩ := go q a
          have qn := (hcb t1 q a).1
          have get := hc1.get t1
          rw [a] at get
          refine ⟨_, rfl, _, rfl, cm, _, rfl, get, ?_⟩
          refine ⟨_, rfl, _, rfl, hd, _, _, _, rfl, rfl, SqL.of h1.1, at_nat (heldV_get qn), ?_⟩
          refine ⟨_, rfl, _, rfl, _, rfl, hd, _, _, q, rfl, rfl, h1.1, by rw [heldV_len]; exact ixN_nat qn, ?_⟩
          refine ⟨_, rfl, _, rfl, _, rfl, ow, H', rfl, d1, ?_⟩
          rw [b]
          exact ⟨_, rfl, j + 1, Nat.lt_succ_self _, _, _, .inl ⟨j, _, s, rfl, rfl, d, d2, d3, d4, d5⟩⟩
      · refine ⟨_, rfl, rfl, _, rfl, ?_⟩
        exact k H1 kp h1
    · rintro σ' H1 Q1 Q2 hQ ⟨a, b, c, d, e, f⟩
      exact ⟨a, b, c, d, e, hQ _ _ f⟩
theorem todo_put {o : Int → Option Nat} {U : List Int} {c : Mt.Came} {w : List Nat} {one q : Nat} {t : Int} (ht : t ∈ U) (hc : ¬ (c t).isSome = true) (ho : o t = some q) : Mt.todo U (Mt.fset c t (some one)) (w ++ [q]) ≤ Mt.todo U c w := by
  refine Mt.scan_todo' (o := o) (one := one) (l := [t]) (fun s hs => by rw [List.mem_singleton.mp hs]; exact ht) ?_
  show (if (c t).isSome = true then _ else match o t with | none => _ | some q => _) = _
  rw [if_neg hc, ho]
  rfl
theorem scan_some {o : Int → Option Nat} {c : Mt.Came} {w : List Nat} {one : Nat} {t : Int} {l : List Int} (hc : (c t).isSome = true) : Mt.scan o one (t :: l) c w = Mt.scan o one l c w := by
  show (if (c t).isSome = true then Mt.scan o one l c w else _) = _
  rw [if_pos hc]
theorem scan_free {o : Int → Option Nat} {c : Mt.Came} {w : List Nat} {one : Nat} {t : Int} {l : List Int} (hc : ¬ (c t).isSome = true) (ho : o t = none) : Mt.scan o one (t :: l) c w = (some t, Mt.fset c t (some one), w) := by
  show (if (c t).isSome = true then _ else match o t with | none => _ | some q => _) = _
  rw [if_neg hc, ho]
theorem scan_own {o : Int → Option Nat} {c : Mt.Came} {w : List Nat} {one q : Nat} {t : Int} {l : List Int} (hc : ¬ (c t).isSome = true) (ho : o t = some q) : Mt.scan o one (t :: l) c w = Mt.scan o one l (Mt.fset c t (some one)) (w ++ [q]) := by
  show (if (c t).isSome = true then _ else match o t with | none => _ | some q => _) = _
  rw [if_neg hc, ho]
def spGive (K : PySem.W.Frag) : Sp := fun vs H Q _ => ∃ (b : Bool) (H0 : Hp) (rv : V) (rows : List (List Int)) (hd ow : Addr) (p : Nat) (m : Mt.MS), vs = [rv, .ref hd, .ref ow, .int (p : Int)] ∧ RowsQ b K H0 rv rows ∧ Same H0 H ∧ H0 hd = none ∧ H0 ow = none ∧ HR rows.length H hd ow m ∧
  Mt.Valid rows m ∧ m.h p = none ∧ p < rows.length ∧ (Mt.things rows).length ≤ 90000 ∧ rows.length ≤ 90000 ∧ ∀ m' H', Mt.Give rows m p m' → Same H0 H' → HR rows.length H' hd ow m' → Q .non H'
theorem ok_give (A : At K mg "_give" s_give ["rows", "held", "owner", "person"]) (T : Tx mg) (G_hand_on : Dfn P w K mg base "_hand_on" ["held", "owner", "came", "thing"] 1 spHand) : Dfn P w K mg base "_give" ["rows", "held", "owner", "person"] 2 (spGive K) := by
  refine A.ok sc_give (fun vs H Q E h => ?_) (fun f cdv A outer s H vs Q E hr h => ?_)
  · obtain ⟨b, H0, rv, rows, hd, ow, p, m, rfl, _⟩ := h
    rfl
  · obtain ⟨b, H0, rv, rows, hd, ow, p, m, rfl, hR, s0, fhd, fow, hm, v, hp, hpn, hU, hn, k⟩ := h
    obtain ⟨ra, vs, rfl, hra, hrb⟩ := hR
    refine ⟨_, (pss_cons (ps_set (i := 4) sc_give.nd rfl (Or.inl rfl) pe_dnewK)
      (pss_cons (ps_set (i := 5) sc_give.nd rfl (Or.inl rfl) (pe_lst (pa_cons (pv 3) pa_nil)))
      (pss_one (ps_while PassesOwn.never (pt_truth (pv 5) (by intro _; rfl)) (pss_cons (ps_set (i := 6) sc_give.nd rfl (Or.inl rfl) (pe_bm0 PySem.F.plainAttrs_list PySem.F.slot_list_pop PySem.F.type_list_pop mt_pop (pv 5)))
      (pss_one (ps_for PassesOwn.never rfl (pi_alt (pi_list (pe_ix ix_sq (pv 0) (pv 6) (fun _ _ => rfl))) (pi_tup (pe_ix ix_sq (pv 0) (pv 6) (fun _ _ => rfl)))) (pg_name (i := 7) sc_give.nd rfl (Or.inl rfl))
      (pss_cons (ps_if (pt_cmp (pc_din (hu_of hr) (pv 7) (pv 4))) (pss_one ps_continue) pss_nil)
      (pss_cons (ps_dput (hu_of hr) (pv 4) (pv 7) (pv 6) rfl)
      (pss_cons (ps_if (pt_cmp (pc_dnotin (hu_of hr) (pv 7) (pv 2))) (pss_cons (ps_expr (pe_d G_hand_on (hr.mono (by decide)) (pa_cons (pv 1) (pa_cons (pv 2) (pa_cons (pv 4) (pa_cons (pv 7) pa_nil))))))
      (pss_one ps_retN)) pss_nil)
      (pss_one (ps_expr (pe_bm PySem.F.plainAttrs_list PySem.F.slot_list_append PySem.F.type_list_append mt_append (pv 5) (pa_cons (pe_dget (hu_of hr) (pv 2) (pv 7) (fun _ _ => rfl)) pa_nil)))))))))))))), ?_⟩
    refine fun cm hcm => ?_
    have sc := same_new (o := .dK []) hcm
    refine ⟨_, rfl, by show 1 ≤ sizeLine; decide, fun wt hwt => ?_⟩
    have sw := same_new (o := .lst [V.int (p : Int)]) hwt
    have nco : cm ≠ ow := by
      obtain ⟨kvs, e⟩ := hm.2.isd
      exact (ne_of_none e hcm).symm
    have nch : cm ≠ hd := (ne_of_none hm.1 hcm).symm
    have nwh : wt ≠ hd := (ne_of_none (sc _ _ hm.1) hwt).symm
    have nwo : wt ≠ ow := by
      obtain ⟨kvs, e⟩ := hm.2.isd
      exact (ne_of_none (sc _ _ e) hwt).symm
    have nwc : wt ≠ cm := (ne_of_none upd_same hwt).symm
    have f0c : H0 cm = none := s0.free hcm
    have f0w : H0 wt = none := (s0.trans sc).free hwt
    obtain ⟨H1, e1⟩ : ∃ H1, H1 = upd (upd H cm (.dK [])) wt (.lst [V.int (p : Int)]) := ⟨_, rfl⟩
    have s01 : Same H0 H1 := by rw [e1]; exact (s0.trans sc).trans sw
    have hw1 : H1 wt = some (.lst ([p].map nV)) := by rw [e1]; exact upd_same
    have hc1 : DR H1 cm (fun _ => none) := by rw [e1]; exact (DR.new (H := H) (p := cm)).at_ fun o e => by rw [upd_ne nwc.symm]; exact e
    have hm1 : HR rows.length H1 hd ow m := by
      rw [e1]
      exact hm.at_ (fun o e => by rw [upd_ne nwh.symm, upd_ne nch.symm]; exact e) (fun o e => by rw [upd_ne nwo.symm, upd_ne nco.symm]; exact e)
    rw [← e1]
    clear e1
    have oU : ∀ s, m.o s ≠ none → s ∈ Mt.things rows := fun s hs => by
      cases e : m.o s with
      | none => exact absurd e hs
      | some x => exact Mt.mem_things (v.tie x s ((v.inv x s).mpr e))
    dsimp only [gName]
    refine while_m (fun z σ' H' => ∃ x6 x7 c w, z = Mt.todo (Mt.things rows) c w ∧ σ' = [some (.ref ra), some (.ref hd), some (.ref ow), some (.int (p : Int)), some (.ref cm), some (.ref wt), x6, x7] ∧ H' wt = some (.lst (w.map nV)) ∧ DR H' cm c ∧ HR rows.length H' hd ow m ∧ Same H0 H' ∧ Mt.WInv rows m p c w ∧ Mt.todo (Mt.things rows) c w ≤ 90001 ∧ ∀ x c', Mt.Walk rows m.o c w x c' → Mt.Walk rows m.o (fun _ => none) [p] x c') ⟨_, _, _, _, [p], rfl, rfl, hw1, hc1, hm1, s01, Mt.WInv.init, ?_, fun _ _ h => h⟩ ?_ ?_
    · unfold Mt.todo
      have := List.length_filter_le (fun t => ((fun _ => none : Mt.Came) t).isNone) (Mt.things rows)
      show _ + 1 ≤ 90001
      omega
    · rintro z σ' H2 ⟨x6, x7, c, w, rfl, rfl, hw2, hc2, hm2, s2, iw, bd, cont⟩
      refine ⟨_, rfl, !(w.map nV).isEmpty, .inl ⟨_, SqL.of hw2, rfl⟩, ?_⟩
      rcases List.eq_nil_or_concat w with e | ⟨w0, one, e⟩
      · subst e
        exact k m H2 (.no (cont _ _ .nil)) s2 hm2
      · rw [List.concat_eq_append] at e
        subst e
        have ne : (!((w0 ++ [one]).map nV).isEmpty) = true := by rw [List.map_append]; cases w0.map nV <;> rfl
        rw [ne]
        have lst1 : ((w0 ++ [one]).map nV)[((w0 ++ [one]).map nV).length - 1]? = some (nV one) := by
          rw [List.map_append, List.length_append]
          simp
        have lst2 : ((w0 ++ [one]).map nV).dropLast = w0.map nV := by
          rw [List.map_append]
          exact List.dropLast_concat
        refine ⟨_, rfl, .inl ⟨rfl, _, SqL.of hw2⟩, wt, _, _, rfl, rfl, hw2, lst1, ?_⟩
        rw [lst2]
        have hvis := iw.v one (List.mem_append_right _ List.mem_cons_self)
        have hone : one < rows.length := by
          rcases hvis with e | ⟨t, x, _, ho⟩
          · rw [e]; exact hpn
          · exact Mt.row_lt (v.tie one t ((v.inv one t).mpr ho))
        have hro := List.getElem?_eq_getElem hone
        obtain ⟨r, er⟩ : ∃ r, r = rows[one] := ⟨_, rfl⟩
        rw [← er] at hro
        have hrow : Mt.row rows one = r := Mt.row_get hro
        obtain ⟨aa, hva, hqa⟩ := hrb.at_ hro
        rw [Mt.todo_snoc] at bd
        have rU : ∀ t ∈ r, t ∈ Mt.things rows := fun t ht => Mt.mem_things (p := one) (by rw [hrow]; exact ht)
        obtain ⟨H3, e3⟩ : ∃ H3, H3 = upd H2 wt (.lst (w0.map nV)) := ⟨_, rfl⟩
        have hw3 : H3 wt = some (.lst (w0.map nV)) := by rw [e3]; exact upd_same
        have hc3 : DR H3 cm c := by rw [e3]; exact hc2.at_ fun o e => by rw [upd_ne nwc.symm]; exact e
        have hm3 : HR rows.length H3 hd ow m := by rw [e3]; exact hm2.at_ (fun o e => by rw [upd_ne nwh.symm]; exact e) (fun o e => by rw [upd_ne nwo.symm]; exact e)
        have s3 : Same H0 H3 := by rw [e3]; exact same_mut s2 f0w
        rw [← e3]
        clear e3
        have ctie : ∀ s x, c s = some x → s ∈ Mt.row rows x := fun s x e => (iw.a s x e).1
        refine alt_it (b := b) (xs := r.map V.int) (fun Q' q => ⟨_, rfl, _, rfl, alt_ix (hra.same s3) (at_nat hva) q⟩) (hqa.same s3) (for_sq (fun i σ' H' => ∃ x7 c1 w1, σ' = [some (.ref ra), some (.ref hd), some (.ref ow), some (.int (p : Int)), some (.ref cm), some (.ref wt), some (nV one), x7] ∧ H' wt = some (.lst (w1.map nV)) ∧ DR H' cm c1 ∧ HR rows.length H' hd ow m ∧ Same H0 H' ∧ Mt.scan m.o one (r.drop i) c1 w1 = Mt.scan m.o one r c w0 ∧ (∀ s x, c1 s = some x → s ∈ Mt.row rows x) ∧ Mt.todo (Mt.things rows) c1 w1 ≤ 90001) ⟨_, c, w0, rfl, hw3, hc3, hm3, s3, rfl, ctie, by omega⟩ (fun i σ' H' _ hp' => by obtain ⟨_, _, _, _, _, _, _, s4, _⟩ := hp'; exact hqa.same s4) ?_ ?_)
        · rintro i x σ' H4 hx ⟨y7, c1, w1, rfl, hw4, hc4, hm4, s4, sc4, ct4, bd4⟩
          have hir : i < r.length := by
            have := (List.getElem?_eq_some_iff.mp hx).1
            rw [List.length_map] at this
            exact this
          have hri := List.getElem?_eq_getElem hir
          obtain ⟨t, et⟩ : ∃ t, t = r[i] := ⟨_, rfl⟩
          rw [← et] at hri
          rw [List.getElem?_map, hri] at hx
          have ex : V.int t = x := Option.some.inj hx
          subst ex
          have htr : t ∈ r := List.mem_of_getElem? hri
          have hd' : r.drop i = t :: r.drop (i + 1) := by rw [et]; exact List.drop_eq_getElem_cons hir
          rw [hd'] at sc4
          have w1l : w1.length ≤ 90001 := by unfold Mt.todo at bd4; omega
          refine ⟨_, rfl, _, rfl, cm, _, rfl, hc4.get t, ?_⟩
          by_cases hin : (c1 t).isSome = true
          · have d : ((c1 t).map nV).isSome = true := by rw [Option.isSome_map]; exact hin
            rw [d]
            rw [scan_some hin] at sc4
            exact ⟨_, rfl, ⟨_, c1, w1, rfl, hw4, hc4, hm4, s4, sc4, ct4, bd4⟩⟩
          · have d : ((c1 t).map nV).isSome = false := by rw [Option.isSome_map]; exact Bool.eq_false_iff.mpr hin
            rw [d]
            have c1U : ∀ s, c1 s ≠ none → s ∈ Mt.things rows := fun s hs => by
              cases e : c1 s with
              | none => exact absurd e hs
              | some x => exact Mt.mem_things (ct4 s x e)
            obtain ⟨H5, d1, d2, d3⟩ := hc4.put t one c1U (by omega)
            have hw5 : H5 wt = some (.lst (w1.map nV)) := by rw [d3 wt nwc]; exact hw4
            have hm5 : HR rows.length H5 hd ow m := hm4.at_ (fun o e => by rw [d3 hd nch.symm]; exact e) (fun o e => by rw [d3 ow nco.symm]; exact e)
            have s5 : Same H0 H5 := fun a o e => by rw [d3 a (ne_of_none e f0c)]; exact s4 a o e
            have ct5 : ∀ s x, Mt.fset c1 t (some one) s = some x → s ∈ Mt.row rows x := fun s x e => by
              by_cases y : s = t
              · rw [y, Mt.fset_same] at e
                cases e
                rw [y, hrow]
                exact htr
              · rw [Mt.fset_ne y] at e
                exact ct4 s x e
            refine ⟨_, rfl, _, rfl, _, rfl, _, rfl, cm, H5, rfl, d1, ?_⟩
            refine ⟨_, rfl, _, rfl, ow, _, rfl, hm5.2.get t, ?_⟩
            cases ho : m.o t with
            | none =>
              rw [scan_free hin ho] at sc4
              have hwalk := cont (some t) (Mt.fset c1 t (some one)) (.found (by rw [hrow]; exact sc4.symm))
              have fo := Mt.walk_found v hwalk t rfl Mt.WInv.init
              obtain ⟨kk, hi⟩ := Mt.HInv.init v fo
              obtain ⟨m', hm'⟩ := Mt.hand_ex v hp fo.tie kk hi
              refine ⟨_, rfl, _, rfl, _, rfl, _, rfl, _, rfl, hd, ow, cm, rows.length, m, m', _, t, Mt.things rows, rfl, hm5, d2, nco, hm', fun s q e => ⟨Mt.row_lt (ct5 s q e), Mt.mem_things (ct5 s q e)⟩, oU, by omega, by omega, fun H6 kp hr6 => ?_⟩
              exact k m' H6 (.yes hwalk hm') (same_keep2 s5 kp fhd fow) hr6
            | some q =>
              rw [scan_own hin ho] at sc4
              have get5 := hm5.2.get t
              rw [ho] at get5
              refine ⟨_, rfl, _, rfl, .inl ⟨rfl, _, SqL.of hw5⟩, _, rfl, _, rfl, ow, _, rfl, get5, wt, _, nV q, rfl, rfl, hw5, small_lt (by rw [List.length_map]; omega), ?_⟩
              refine ⟨_, _, w1 ++ [q], rfl, by rw [upd_same, List.map_append]; rfl, d2.at_ fun o e => (by rw [upd_ne nwc.symm]; exact e), hm5.at_ (fun o e => by rw [upd_ne nwh.symm]; exact e) (fun o e => by rw [upd_ne nwo.symm]; exact e), same_mut s5 f0w, sc4, ct5, Nat.le_trans (todo_put (rU t htr) hin ho) bd4⟩
        · rintro σ' H4 ⟨y7, c1, w1, rfl, hw4, hc4, hm4, s4, sc4, ct4, bd4⟩
          rw [List.length_map, List.drop_length] at sc4
          have sc5 : Mt.scan m.o one (Mt.row rows one) c w0 = (none, c1, w1) := by rw [hrow]; exact sc4.symm
          have td := Mt.scan_todo' (U := Mt.things rows) (fun t ht => Mt.mem_things ht) sc5
          refine ⟨Mt.todo (Mt.things rows) c1 w1, by rw [Mt.todo_snoc]; omega, _, _, c1, w1, rfl, rfl, hw4, hc4, hm4, s4, iw.next v sc5, bd4, fun x c' hwk => cont x c' (.more sc5 hwk)⟩
    · rintro σ' H1 Q1 Q2 hQ ⟨a, b, c, d, e⟩
      exact ⟨a, b, c, d, hQ _ _ e⟩
end
end Fo
set_option maxRecDepth 100000
set_option maxHeartbeats 4000000
namespace Fo
open PySem PySem.Spec PyProof.Rows L2
abbrev s_owners : Stmt := top 21
abbrev n_owners : List Str := ["held", "person", "thing"]
theorem sc_owners : FnScope n_owners ["held"] (defScope s_owners) := ⟨rfl, rfl, rfl, by decide +kernel, rfl, by decide +kernel, by decide +kernel⟩
abbrev s_reaches : Stmt := top 22
abbrev n_reaches : List Str := ["rows", "held", "owner", "found", "person", "row", "mask", "thing", "middle"]
theorem sc_reaches : FnScope n_reaches ["rows", "held"] (defScope s_reaches) := ⟨rfl, rfl, rfl, by decide +kernel, rfl, by decide +kernel, by decide +kernel⟩
theorem nones {n : Nat} : (List.replicate n [V.non]).flatten = heldV n (fun _ => none) := by
  unfold heldV
  induction n with
  | zero => rfl
  | succ n ih =>
    rw [List.range_succ, List.map_append, ← ih, List.replicate_succ', List.flatten_append]
    rfl
section
variable {P : Program} {w : World} {K : PySem.W.Frag} {mg : Str → Option Value} {base : Heap} {C : Addr}
def spMatched (K : PySem.W.Frag) : Sp := fun vs H Q _ => ∃ (b : Bool) (rv : V) (rows : List (List Int)), vs = [rv] ∧ RowsQ b K H rv rows ∧ (Mt.things rows).length ≤ 90000 ∧ rows.length ≤ 90000 ∧
  ∀ m l H', Mt.Upto rows rows.length m → Same H H' → H l = none → H' l = some (.lst (heldV rows.length m.h)) → Q (.ref l) H'
theorem ok_matched (A : At K mg "matched" s_matched ["rows"]) (T : Tx mg) (G_give : Dfn P w K mg base "_give" ["rows", "held", "owner", "person"] 2 (spGive K)) : Dfn P w K mg base "matched" ["rows"] 3 (spMatched K) := by
  refine A.ok sc_matched (fun vs H Q E h => ?_) (fun f cdv A outer s H vs Q E hr h => ?_)
  · obtain ⟨b, rv, rows, rfl, _⟩ := h
    rfl
  · obtain ⟨b, rv, rows, rfl, hR, hU, hn, k⟩ := h
    obtain ⟨ra, vs, rfl, hra, hrb⟩ := id hR
    have vl := hrb.len
    refine ⟨_, (pss_cons (ps_set (i := 1) sc_matched.nd rfl (Or.inl rfl) (pe_op op_rep (pe_lst (pa_cons pe_non pa_nil)) (pe_callB c_len (by rfl) T.len (by decide +kernel) (pa_cons (pv 0) pa_nil))))
      (pss_cons (ps_set (i := 2) sc_matched.nd rfl (Or.inl rfl) pe_dnewK)
      (pss_cons (ps_for PassesOwn.never rfl (pi_range1 rfl T.range (pa_cons (pe_callB c_len (by rfl) T.len (by decide +kernel) (pa_cons (pv 0) pa_nil)) pa_nil)) (pg_name (i := 3) sc_matched.nd rfl (Or.inl rfl))
      (pss_one (ps_expr (pe_d G_give (hr.mono (by decide)) (pa_cons (pv 0) (pa_cons (pv 1) (pa_cons (pv 2) (pa_cons (pv 3) pa_nil))))))))
      (pss_one (ps_ret (pv 1)))))), ?_⟩
    refine ⟨by show 1 ≤ sizeLine; decide, fun l1 h1 => ?_⟩
    have s1 := same_new (o := .lst [V.non]) h1
    refine ⟨_, rfl, ra, vs, rfl, (hra.same s1).or, l1, _, [V.non], rfl, rfl, upd_same, by omega, by omega, ?_, fun hd hhd => ?_⟩
    · rw [List.length_singleton, Int.toNat_natCast, Nat.one_mul]
      exact small_le (by omega)
    rw [Int.toNat_natCast, vl, nones]
    have s2 := s1.trans (same_new (o := .lst (heldV rows.length (fun _ => none))) hhd)
    have fhd : H hd = none := s1.free hhd
    refine fun ow how => ?_
    have s3 := s2.trans (same_new (o := .dK []) how)
    have fow : H ow = none := s2.free how
    have nho : hd ≠ ow := ne_of_none upd_same how
    have hm0 : HR rows.length (upd (upd (upd H l1 (.lst [V.non])) hd (.lst (heldV rows.length (fun _ => none)))) ow (.dK [])) hd ow Mt.m0 := ⟨by rw [upd_ne nho, upd_same]; rfl, DR.new⟩
    refine ⟨_, rfl, ra, vs, rfl, (hra.same s3).or, _, rfl, by omega, by omega, for_range (lo := 0) (n := ((vs.length : Nat) : Int).toNat) (fun i σ' H' => ∃ x3 m, σ' = [some (.ref ra), some (.ref hd), some (.ref ow), x3] ∧ Mt.Upto rows i m ∧ HR rows.length H' hd ow m ∧ Same H H') ⟨_, _, rfl, .zero, hm0, s3⟩ ?_ ?_⟩
    · rintro i σ' H1 hi ⟨x3, m, rfl, u, hm, s4⟩
      have o := Mt.upto_ok u
      refine ⟨_, rfl, _, rfl, _, rfl, _, rfl, b, H, .ref ra, rows, hd, ow, i, m, by rw [Int.zero_add]; rfl, hR, s4, fhd, fow, hm, o.valid, o.late i (Nat.le_refl _), by omega, hU, hn, fun m' H' g s5 hm' => ?_⟩
      exact ⟨_, m', rfl, .succ u g, hm', s5⟩
    · rintro σ' H1 ⟨x3, m, rfl, u, hm, s4⟩
      have e : ((vs.length : Nat) : Int).toNat = rows.length := by omega
      rw [e] at u
      exact ⟨_, rfl, k m hd H1 u s4 fhd hm.1⟩
/-- who holds a thing, of the first i people -/
def cutO (i : Nat) (m : Mt.MS) : Int → Option Nat := fun t => match m.o t with
  | some p => if p < i then some p else none
  | none => none
theorem cutO_zero {m : Mt.MS} : cutO 0 m = fun _ => none := by
  funext t
  unfold cutO
  cases m.o t with
  | none => rfl
  | some p => rfl
theorem cutO_put {m : Mt.MS} {i : Nat} {t : Int} (iv : ∀ p t, m.h p = some t ↔ m.o t = some p) (h : m.h i = some t) : Mt.fset (cutO i m) t (some i) = cutO (i + 1) m := by
  funext s
  by_cases e : s = t
  · rw [e, Mt.fset_same]
    unfold cutO
    rw [(iv i t).mp h]
    show some i = if i < i + 1 then some i else none
    rw [if_pos (Nat.lt_succ_self i)]
  · rw [Mt.fset_ne e]
    unfold cutO
    cases ho : m.o s with
    | none => rfl
    | some p =>
      have hp : p ≠ i := fun z => by
        have := (iv p s).mpr ho
        rw [z, h] at this
        exact e (Option.some.inj this).symm
      show (if p < i then some p else none) = if p < i + 1 then some p else none
      by_cases c : p < i
      · rw [if_pos c, if_pos (by omega)]
      · rw [if_neg c, if_neg (by omega)]
theorem cutO_skip {m : Mt.MS} {i : Nat} (iv : ∀ p t, m.h p = some t ↔ m.o t = some p) (h : m.h i = none) : cutO i m = cutO (i + 1) m := by
  funext s
  unfold cutO
  cases ho : m.o s with
  | none => rfl
  | some p =>
    have hp : p ≠ i := fun z => by
      have := (iv p s).mpr ho
      rw [z, h] at this
      cases this
    show (if p < i then some p else none) = if p < i + 1 then some p else none
    by_cases c : p < i
    · rw [if_pos c, if_pos (by omega)]
    · rw [if_neg c, if_neg (by omega)]
theorem cutO_all {m : Mt.MS} {n : Nat} (iv : ∀ p t, m.h p = some t ↔ m.o t = some p) (late : ∀ p, n ≤ p → m.h p = none) : cutO n m = m.o := by
  funext s
  unfold cutO
  cases ho : m.o s with
  | none => rfl
  | some p =>
    have hp : p < n := by
      refine Nat.lt_of_not_le fun z => ?_
      have := (iv p s).mpr ho
      rw [late p z] at this
      cases this
    show (if p < n then some p else none) = some p
    rw [if_pos hp]
def spOwners (K : PySem.W.Frag) : Sp := fun vs H Q _ => ∃ (hd : Addr) (n : Nat) (m : Mt.MS), vs = [.ref hd] ∧ H hd = some (.lst (heldV n m.h)) ∧ (∀ p t, m.h p = some t ↔ m.o t = some p) ∧ (∀ p, n ≤ p → m.h p = none) ∧ n ≤ 90000 ∧
  ∀ d H', Same H H' → H d = none → DR H' d m.o → Q (.ref d) H'
theorem ok_owners (A : At K mg "owners" s_owners ["held"]) (T : Tx mg) : Dfn P w K mg base "owners" ["held"] 1 (spOwners K) := by
  refine A.ok sc_owners (fun vs H Q E h => ?_) (fun f cdv A outer s H vs Q E hr h => ?_)
  · obtain ⟨hd, n, m, rfl, _⟩ := h
    rfl
  · obtain ⟨hd, n, m, rfl, hh, iv, late, hn, k⟩ := h
    refine ⟨_, (pss_one (ps_ret (pe_dc (own := [("person", 1), ("thing", 2)]) (g := (gTup K 2 (gCons (gName 1) (gCons (gName 2) gNil)))) (tt := (tTest (tOp rNotN (tVar 2) (tC V.non)))) (tk := (tVar 2)) (tv := (tVar 1)) (by rfl) sc_owners.nd (pi_enum (by rfl) T.enumerate (pa_cons (pv 0) pa_nil)) (blkOk_by (own := [("person", 1), ("thing", 2)]) (N := n_owners) (sc := (defScope s_owners)) (by decide +kernel)) (fun _ _ _ _ _ => (pg_tup rfl (pgs_cons (pg_name (i := 1) sc_owners.nd rfl (Or.inl rfl)) (pgs_cons (pg_name (i := 2) sc_owners.nd rfl (Or.inl rfl)) pgs_nil)))) (fun _ _ _ _ _ => (pts_one (pt_cmpR op_notN (pv 2) pe_non (nomark _)))) (fun _ _ _ _ _ => (pv 2)) (fun _ _ _ _ _ => (pv 1))))), ?_⟩
    refine ⟨_, rfl, hd, _, rfl, SqL.of hh, fun D hD => ?_⟩
    refine dc_enumL (xs := heldV n m.h) (fun i H' => DR H' D (cutO i m) ∧ Same H H') ⟨by rw [cutO_zero]; exact DR.new, same_new hD⟩ (fun i H' _ h => SqL.of (h.2 _ _ hh)) ?_ ?_
    · rintro i x H1 c hx ⟨d1, s1⟩ hc
      have hin : i < n := by
        have := (List.getElem?_eq_some_iff.mp hx).1
        rw [heldV_len] at this
        exact this
      rw [heldV_get hin] at hx
      have ex : oI (m.h i) = x := Option.some.inj hx
      subst ex
      have nDc : D ≠ c := by
        obtain ⟨kvs, e⟩ := d1.isd
        exact ne_of_none e hc
      have s2 := s1.trans (same_new (o := .tup [.int ((i : Nat) : Int), oI (m.h i)]) hc)
      have d2 : DR (upd H1 c (.tup [.int ((i : Nat) : Int), oI (m.h i)])) D (cutO i m) := d1.at_ fun o e => by rw [upd_ne nDc]; exact e
      refine ⟨c, _, rfl, SqT.of upd_same, rfl, _, _, rfl, _, _, rfl, rfl, ?_⟩
      cases hi : m.h i with
      | none =>
        rw [hi] at d2 s2
        refine ⟨rfl, _, rfl, rfl, _, rfl, ?_⟩
        exact ⟨by rw [← cutO_skip iv hi]; exact d2, s2⟩
      | some t =>
        rw [hi] at d2 s2
        refine ⟨rfl, _, rfl, rfl, _, rfl, ?_⟩
        obtain ⟨kvs, e, h, hnd, hk⟩ := id d2
        have ln := DR.len (U := (List.range n).map fun p => (m.h p).getD 0) (f := cutO i m) (H := H1) (a := D) hnd hk fun s hs => by
          unfold cutO at hs
          cases ho : m.o s with
          | none => rw [ho] at hs; exact absurd rfl hs
          | some p =>
            have hp := (iv p s).mpr ho
            have hpn : p < n := Nat.lt_of_not_le fun z => by rw [late p z] at hp; cases hp
            exact List.mem_map.mpr ⟨p, List.mem_range.mpr hpn, by rw [hp]; rfl⟩
        rw [List.length_map, List.length_range] at ln
        refine ⟨_, rfl, _, rfl, kvs, .inl t, rfl, e, small_lt (by omega), ?_, same_mut s2 hD⟩
        obtain ⟨H', d3, d4, _⟩ := d2.put t i (U := (List.range n).map fun p => (m.h p).getD 0) (fun s hs => by
          unfold cutO at hs
          cases ho : m.o s with
          | none => rw [ho] at hs; exact absurd rfl hs
          | some p =>
            have hp := (iv p s).mpr ho
            have hpn : p < n := Nat.lt_of_not_le fun z => by rw [late p z] at hp; cases hp
            exact List.mem_map.mpr ⟨p, List.mem_range.mpr hpn, by rw [hp]; rfl⟩) (by rw [List.length_map, List.length_range]; omega)
        rw [cutO_put iv hi] at d4
        have d5 : DPut (upd H1 c (.tup [.int ((i : Nat) : Int), V.int t])) D (.int t) (nV i) (upd (upd H1 c (.tup [.int ((i : Nat) : Int), V.int t])) D (.dK (putK kvs (.inl t) (nV i)))) := DPut.k (k := .inl t) e (small_lt (by omega))
        have e6 : H' = upd (upd H1 c (.tup [.int ((i : Nat) : Int), V.int t])) D (.dK (putK kvs (.inl t) (nV i))) := by
          rcases d3 with ⟨kvs2, k2, a1, a2, a3, a4⟩ | ⟨kvs2, k2, b2, a1, _⟩
          · have a1' := a1.symm.trans e
            cases a1'
            have : k2 = .inl t := by
              cases k2 with
              | inl z => have a2' : V.int t = V.int z := a2; injection a2' with a2'; rw [a2']
              | inr z => cases a2
            rw [a4, this]
          · have a1' := a1.symm.trans e
            cases a1'
        rw [← e6]
        exact d4
    · rintro H1 ⟨d1, s1⟩
      rw [heldV_len, cutO_all iv late] at d1
      exact k D H1 s1 hD d1
theorem at_nat0 {α : Type} {xs : List α} {x : α} {j : Nat} (h : xs[j]? = some x) : atI xs (0 + (j : Int)) = some x := by rw [Int.zero_add]; exact at_nat h
theorem ixN_nat0 {n q : Nat} (h : q < n) : ixN n (0 + (q : Int)) = some q := by rw [Int.zero_add]; exact ixN_nat h
def spReaches (K : PySem.W.Frag) : Sp := fun vs H Q _ => ∃ (b : Bool) (rv : V) (rows : List (List Int)) (hd : Addr) (m : Mt.MS), vs = [rv, .ref hd] ∧ RowsQ b K H rv rows ∧ H hd = some (.lst (heldV rows.length m.h)) ∧ (∀ p t, m.h p = some t ↔ m.o t = some p) ∧ (∀ p, rows.length ≤ p → m.h p = none) ∧ rows.length ≤ 90000 ∧
  ∀ l (M : Nat → Nat) H', Same H H' → H l = none → H' l = some (.lst (numL rows.length M)) → (∀ p, p < rows.length → Mt.Bits (M p) (Mt.Reach rows m.o p)) → Q (.ref l) H'
theorem ok_reaches (A : At K mg "reaches" s_reaches ["rows", "held"]) (T : Tx mg) (G_owners : Dfn P w K mg base "owners" ["held"] 1 (spOwners K)) : Dfn P w K mg base "reaches" ["rows", "held"] 2 (spReaches K) := by
  refine A.ok sc_reaches (fun vs H Q E h => ?_) (fun f cdv A outer s H vs Q E hr h => ?_)
  · obtain ⟨b, rv, rows, hd, m, rfl, _⟩ := h
    rfl
  · obtain ⟨b, rv, rows, hd, m, rfl, hR, hh, iv, late, hn, k⟩ := h
    obtain ⟨ra, vs, rfl, hra, hrb⟩ := id hR
    have vl := hrb.len
    refine ⟨_, (pss_cons (ps_set (i := 2) sc_reaches.nd rfl (Or.inl rfl) (pe_d G_owners (hr.mono (by decide)) (pa_cons (pv 1) pa_nil)))
      (pss_cons (ps_set (i := 3) sc_reaches.nd rfl (Or.inl rfl) (pe_lst pa_nil))
      (pss_cons (ps_for PassesOwn.never rfl (pi_alt (pi_enum (by rfl) T.enumerate (pa_cons (pv 0) pa_nil)) (pi_enumT (by rfl) T.enumerate (pa_cons (pv 0) pa_nil))) (pg_tup rfl (pgs_cons (pg_name (i := 4) sc_reaches.nd rfl (Or.inl rfl)) (pgs_cons (pg_name (i := 5) sc_reaches.nd rfl (Or.inl rfl)) pgs_nil)))
      (pss_cons (ps_set (i := 6) sc_reaches.nd rfl (Or.inl rfl) (pe_op op_oneShl pe_int (pv 4)))
      (pss_cons (ps_for PassesOwn.never rfl (pi_alt (pi_list (pv 5)) (pi_tup (pv 5))) (pg_name (i := 7) sc_reaches.nd rfl (Or.inl rfl))
      (pss_one (ps_if (pt_cmp (pc_din (hu_of hr) (pv 7) (pv 2))) (pss_one (ps_aug (i := 6) sc_reaches.nd rfl (Or.inl rfl) (pe_op op_oneShl pe_int (pe_dget (hu_of hr) (pv 2) (pv 7) (fun _ _ => rfl))) (pip_of iop_or))) pss_nil)))
      (pss_one (ps_expr (pe_bm PySem.F.plainAttrs_list PySem.F.slot_list_append PySem.F.type_list_append mt_append (pv 3) (pa_cons (pv 6) pa_nil)))))))
      (pss_cons (ps_for PassesOwn.never rfl (pi_range1 rfl T.range (pa_cons (pe_callB c_len (by rfl) T.len (by decide +kernel) (pa_cons (pv 0) pa_nil)) pa_nil)) (pg_name (i := 8) sc_reaches.nd rfl (Or.inl rfl))
      (pss_one (ps_for PassesOwn.never rfl (pi_range1 rfl T.range (pa_cons (pe_callB c_len (by rfl) T.len (by decide +kernel) (pa_cons (pv 0) pa_nil)) pa_nil)) (pg_name (i := 4) sc_reaches.nd rfl (Or.inl rfl))
      (pss_one (ps_if (pt_truth (pe_op op_odd (pe_op op_shr (pe_ix ix_list (pv 3) (pv 4) (fun _ _ => rfl)) (pv 8)) pe_int) (by intro _; rfl)) (pss_one (ps_augS (pv 3) (pv 4) get_list (pe_ix ix_list (pv 3) (pv 8) (fun _ _ => rfl)) (pip_of iop_or) set_list)) pss_nil)))))
      (pss_one (ps_ret (pv 3))))))), ?_⟩
    refine ⟨_, rfl, hd, rows.length, m, rfl, hh, iv, late, hn, fun ow H1 s1 how d1 => ?_⟩
    refine ⟨Nat.zero_le _, fun fa hfa => ?_⟩
    have sf := same_new (o := .lst []) hfa
    have f0 : H fa = none := s1.free hfa
    have nfo : fa ≠ ow := by
      obtain ⟨kvs, e⟩ := d1.isd
      exact (ne_of_none e hfa).symm
    have d2 : DR (upd H1 fa (.lst [])) ow m.o := d1.at_ fun o e => by rw [upd_ne nfo.symm]; exact e
    have qlt : ∀ t q, m.o t = some q → q < rows.length := fun t q e => Nat.lt_of_not_le fun z => by
      have := (iv q t).mpr e
      rw [late q z] at this
      cases this
    refine alt_en (b := b) (xs := vs) (fun Q' q => ⟨_, rfl, q⟩) (hra.same (s1.trans sf)) (for_enS (fun i σ' H' => ∃ x4 x5 x6 x7 x8 M, σ' = [some (.ref ra), some (.ref hd), some (.ref ow), some (.ref fa), x4, x5, x6, x7, x8] ∧ H' fa = some (.lst (numL i M)) ∧ DR H' ow m.o ∧ Same H H' ∧ ∀ p, p < i → Mt.Bits (M p) (Mt.S0 rows m.o p)) ⟨_, _, _, _, _, fun _ => 0, rfl, upd_same, d2, s1.trans sf, fun p hp => absurd hp (Nat.not_lt_zero _)⟩ (fun i σ' H' _ hp => by obtain ⟨_, _, _, _, _, _, _, _, _, s3, _⟩ := hp; exact hra.same s3) ?_ ?_)
    · rintro i x σ' H2 c hx ⟨x4, x5, x6, x7, x8, M, rfl, h2, d3, s3, hM⟩ hc
      obtain ⟨aa, r, ex, hri, hqa⟩ := hrb.get hx
      subst ex
      have hir : i < rows.length := (List.getElem?_eq_some_iff.mp hri).1
      have hrow : Mt.row rows i = r := Mt.row_get hri
      obtain ⟨H3, e3⟩ : ∃ H3, H3 = upd H2 c (.tup [.int ((i : Nat) : Int), V.ref aa]) := ⟨_, rfl⟩
      have s4 : Same H2 H3 := by rw [e3]; exact same_new hc
      have hcT : SqT K H3 c [.int ((i : Nat) : Int), V.ref aa] := by rw [e3]; exact SqT.of upd_same
      rw [← e3]
      clear e3
      have h3 := s4 _ _ h2
      have d4 : DR H3 ow m.o := d3.at_ fun o e => s4 _ _ e
      have s5 := s3.trans s4
      refine ⟨c, _, rfl, hcT, rfl, _, _, rfl, _, _, rfl, rfl, ?_⟩
      refine ⟨_, rfl, i, rfl, rfl, by omega, ?_⟩
      refine alt_it (b := b) (xs := r.map V.int) (fun Q' q => ⟨_, rfl, q⟩) (hqa.same s5) (for_sq (fun j σ' H' => ∃ y7 N, σ' = [some (.ref ra), some (.ref hd), some (.ref ow), some (.ref fa), some (nV i), some (.ref aa), some (nV N), y7, x8] ∧ H' = H3 ∧ Mt.Bits N (fun q => q = i ∨ ∃ t ∈ r.take j, m.o t = some q)) ⟨x7, 2 ^ i, by rw [two_pow_nat]; rfl, rfl, (Mt.bits_one i).congr fun q => ⟨.inl, fun z => z.elim id fun ⟨t, ht, _⟩ => (by cases ht)⟩⟩ (fun j σ' H' _ hp => by obtain ⟨_, _, _, e, _⟩ := hp; rw [e]; exact hqa.same s5) ?_ ?_)
      · rintro j x σ' H4 hx2 ⟨y7, N, rfl, rfl, hN⟩
        have hjr : j < r.length := by
          have := (List.getElem?_eq_some_iff.mp hx2).1
          rw [List.length_map] at this
          exact this
        have hrj := List.getElem?_eq_getElem hjr
        obtain ⟨t, et⟩ : ∃ t, t = r[j] := ⟨_, rfl⟩
        rw [← et] at hrj
        rw [List.getElem?_map, hrj] at hx2
        have ex : V.int t = x := Option.some.inj hx2
        subst ex
        refine ⟨_, rfl, _, rfl, ow, _, rfl, d4.get t, ?_⟩
        have step : ∀ q, (∃ s ∈ r.take (j + 1), m.o s = some q) ↔ ((∃ s ∈ r.take j, m.o s = some q) ∨ m.o t = some q) := fun q => by
          rw [List.take_add_one, hrj]
          constructor
          · rintro ⟨s, hs, e⟩
            rcases List.mem_append.mp hs with g | g
            · exact .inl ⟨s, g, e⟩
            · rw [List.mem_singleton.mp g] at e; exact .inr e
          · rintro (⟨s, hs, e⟩ | e)
            · exact ⟨s, List.mem_append_left _ hs, e⟩
            · exact ⟨t, List.mem_append_right _ List.mem_cons_self, e⟩
        cases ho : m.o t with
        | none =>
          refine ⟨_, rfl, _, N, rfl, rfl, hN.congr fun q => ?_⟩
          rw [step q, ho]
          exact ⟨fun z => z.elim .inl fun z => .inr (.inl z), fun z => z.elim .inl fun z => z.elim .inr fun z => (by cases z)⟩
        | some q =>
          have get := d4.get t
          rw [ho] at get
          refine ⟨_, rfl, _, rfl, _, rfl, _, rfl, ow, _, rfl, get, q, rfl, rfl, by have := qlt t q ho; omega, _, _, rfl, rfl, ?_⟩
          have eb : V.int (Builtin.bitOr (N : Int) ((2 : Int) ^ q)) = nV (N ||| 2 ^ q) := by rw [two_pow_nat, or_nat]
          refine ⟨some (.int t), N ||| 2 ^ q, congrArg (fun z => [some (V.ref ra), some (.ref hd), some (.ref ow), some (.ref fa), some (nV i), some (.ref aa), some z, some (.int t), x8]) eb, rfl, (Mt.bits_or hN (Mt.bits_one q)).congr fun y => ?_⟩
          rw [step y, ho]
          constructor
          · rintro ((z | z) | z)
            · exact .inl z
            · exact .inr (.inl z)
            · exact .inr (.inr (by rw [z]))
          · rintro (z | z | z)
            · exact .inl (.inl z)
            · exact .inl (.inr z)
            · exact .inr (Option.some.inj z).symm
      · rintro σ' H4 ⟨y7, N, rfl, rfl, hN⟩
        rw [List.length_map, List.take_length] at hN
        refine ⟨_, rfl, .inl ⟨rfl, _, SqL.of h3⟩, _, rfl, fa, _, nV N, rfl, rfl, h3, small_lt (by rw [numL_len]; omega), ?_⟩
        refine ⟨_, _, _, _, _, Mt.fset M i N, rfl, by rw [upd_same, numL_snoc], d4.at_ fun o e => (by rw [upd_ne nfo.symm]; exact e), same_mut s5 f0, fun p hp => ?_⟩
        by_cases z : p = i
        · rw [z, Mt.fset_same]
          refine hN.congr fun q => ?_
          unfold Mt.S0
          rw [hrow]
        · rw [Mt.fset_ne z]
          exact hM p (by omega)
    · rintro σ' H2 ⟨x4, x5, x6, x7, x8, M, rfl, h2, d3, s3, hM⟩
      rw [vl] at h2 hM
      refine ⟨_, rfl, ra, vs, rfl, (hra.same s3).or, _, rfl, by omega, by omega, ?_⟩
      have en : ((vs.length : Nat) : Int).toNat = rows.length := by omega
      rw [en]
      refine for_range (lo := 0) (n := rows.length) (fun k σ' H' => ∃ x4 x5 x6 x7 x8 M, σ' = [some (.ref ra), some (.ref hd), some (.ref ow), some (.ref fa), x4, x5, x6, x7, x8] ∧ H' fa = some (.lst (numL rows.length M)) ∧ Same H H' ∧ ∀ p, p < rows.length → Mt.Bits (M p) (Mt.WS rows m.o k p)) ⟨_, _, _, _, _, M, rfl, h2, s3, hM⟩ ?_ ?_
      · rintro kk σ' H3 hk ⟨x4, x5, x6, x7, x8, M, rfl, h3, s4, hM⟩
        refine ⟨_, rfl, ra, vs, rfl, (hra.same s4).or, _, rfl, by omega, by omega, ?_⟩
        rw [en]
        refine for_range (lo := 0) (n := rows.length) (fun j σ' H' => ∃ x4 M, σ' = [some (.ref ra), some (.ref hd), some (.ref ow), some (.ref fa), x4, x5, x6, x7, some (.int (0 + (kk : Int)))] ∧ H' fa = some (.lst (numL rows.length M)) ∧ Same H H' ∧ (∀ p, p < j → p < rows.length → Mt.Bits (M p) (Mt.WS rows m.o (kk + 1) p)) ∧ ∀ p, j ≤ p → p < rows.length → Mt.Bits (M p) (Mt.WS rows m.o kk p)) ⟨_, M, rfl, h3, s4, fun p hp => absurd hp (Nat.not_lt_zero _), fun p _ hp => hM p hp⟩ ?_ ?_
        · rintro j σ' H4 hj ⟨y4, M, rfl, h4, s5, hA, hB⟩
          have hkb : Mt.Bits (M kk) (Mt.WS rows m.o kk kk) := by
            by_cases c : kk < j
            · exact Mt.ws_self (hA kk c hk)
            · exact hB kk (by omega) hk
          have hjb := hB j (Nat.le_refl _) hj
          refine ⟨_, rfl, _, rfl, fa, _, _, _, rfl, rfl, SqL.of h4, at_nat0 (numL_get hj), ?_⟩
          refine ⟨_, rfl, _, _, rfl, rfl, by omega, M j / 2 ^ kk, by rw [← shr_nat, Int.zero_add]; rfl, rfl, (((M j / 2 ^ kk % 2 : Nat) : Int) != 0), rfl, ?_⟩
          rw [Mt.bit_of]
          by_cases hb : (M j).testBit kk = true
          · rw [if_pos hb]
            refine ⟨_, rfl, _, rfl, fa, _, _, _, rfl, rfl, by omega, SqL.of h4, at_nat0 (numL_get hj), ?_⟩
            refine ⟨_, rfl, _, rfl, fa, _, _, _, rfl, rfl, SqL.of h4, at_nat0 (numL_get hk), ?_⟩
            refine ⟨_, _, rfl, rfl, fa, _, _, j, rfl, rfl, h4, by rw [numL_len]; exact ixN_nat0 hj, ?_⟩
            refine ⟨_, Mt.fset M j (M j ||| M kk), rfl, by rw [upd_same]; show some (HO.lst ((numL rows.length M).set j (V.int (Builtin.bitOr (M j : Int) (M kk : Int))))) = _; rw [or_nat, numL_set], same_mut s5 f0, fun p hp hpn => ?_, fun p hp hpn => ?_⟩
            · by_cases z : p = j
              · rw [z, Mt.fset_same]
                exact Mt.ws_step hjb hkb hb
              · rw [Mt.fset_ne z]
                exact hA p (by omega) hpn
            · rw [Mt.fset_ne (by omega)]
              exact hB p (by omega) hpn
          · rw [if_neg hb]
            refine ⟨_, M, rfl, h4, s5, fun p hp hpn => ?_, fun p hp hpn => hB p (by omega) hpn⟩
            by_cases z : p = j
            · rw [z]
              exact Mt.ws_stay hjb hb
            · exact hA p (by omega) hpn
        · rintro σ' H4 ⟨y4, M, rfl, h4, s5, hA, hB⟩
          exact ⟨_, _, _, _, _, M, rfl, h4, s5, fun p hp => hA p hp hp⟩
      · rintro σ' H3 ⟨x4, x5, x6, x7, x8, M, rfl, h3, s4, hM⟩
        exact ⟨_, rfl, k fa M H3 s4 f0 h3 fun p hp => (hM p hp).congr fun q => Mt.ws_iff⟩
end
end Fo
set_option maxRecDepth 100000
set_option maxHeartbeats 4000000
namespace Fo
open PySem PySem.Spec PyProof.Rows L2
open Classical in
noncomputable def liveB (rows : List (List Int)) (p : Nat) (t : Int) : Bool := decide (Mt.Live rows p t)
open Classical in
theorem liveB_iff {rows : List (List Int)} {p : Nat} {t : Int} : liveB rows p t = true ↔ Mt.Live rows p t := by
  unfold liveB
  exact decide_eq_true_iff
abbrev s_live_rows : Stmt := top 23
abbrev n_live_rows : List Str := ["rows", "held", "found", "owner", "person", "row", "thing"]
theorem sc_live_rows : FnScope n_live_rows ["rows"] (defScope s_live_rows) := ⟨rfl, rfl, rfl, by decide +kernel, rfl, by decide +kernel, by decide +kernel⟩
theorem liveR_get {rows : List (List Int)} {p : Nat} {r : List Int} (h : rows[p]? = some r) : (Mt.liveR rows)[p]? = some (r.filter (liveB rows p)) := by
  unfold Mt.liveR
  rw [List.getElem?_mapIdx, h]
  rfl
theorem take_snoc {α : Type} {l : List α} {i : Nat} {x : α} (h : l[i]? = some x) : l.take (i + 1) = l.take i ++ [x] := by rw [List.take_add_one, h]; rfl
section
variable {P : Program} {w : World} {K : PySem.W.Frag} {mg : Str → Option Value} {base : Heap} {C : Addr}
/-- a list that changes is no row of an older heap -/
theorem RowsB.put {H : Hp} {f : Addr} {us ws : List V} {rs : List (List Int)} (e : ∀ (a : Addr) (r : List Int), Sq true K H a (r.map V.int) → (∃ v ∈ us, v = .ref a) → Sq true K (upd H f (.lst ws)) a (r.map V.int)) : ∀ {vs : List V}, (∀ v ∈ vs, v ∈ us) → RowsB true K H vs rs → RowsB true K (upd H f (.lst ws)) vs rs := by
  intro vs
  induction rs generalizing vs with
  | nil =>
    intro _ h
    cases h
    exact .nil
  | cons r rs ih =>
    intro hv h
    cases h with
    | cons h t => exact .cons (e _ r h ⟨_, hv _ List.mem_cons_self, rfl⟩) (ih (fun v hm => hv v (List.mem_cons_of_mem _ hm)) t)
/-- rows in new lists -/
def RowsF (H H' : Hp) (l : Addr) (rs : List (List Int)) : Prop := ∃ ws, H' l = some (.lst ws) ∧ ws.length = rs.length ∧ ∀ (i : Nat) (r : List Int), rs[i]? = some r → ∃ a, ws[i]? = some (.ref a) ∧ H a = none ∧ H' a = some (.lst (r.map V.int)) ∧ a ≠ l
def spLive (K : PySem.W.Frag) : Sp := fun vs H Q _ => ∃ (b : Bool) (rv : V) (rows : List (List Int)), vs = [rv] ∧ RowsQ b K H rv rows ∧ (Mt.things rows).length ≤ 90000 ∧ rows.length ≤ 90000 ∧ (∀ r ∈ rows, r.length ≤ 90000) ∧ Mt.Few rows ∧
  ((∀ D, ¬ Mt.Ds rows D) → ∀ H', Same H H' → Q .non H') ∧ ((∃ D, Mt.Ds rows D) → ∀ l H', Same H H' → H l = none → RowsQ true K H' (.ref l) (Mt.liveR rows) → RowsF H H' l (Mt.liveR rows) → Q (.ref l) H')
theorem ok_live (A : At K mg "live_rows" s_live_rows ["rows"]) (T : Tx mg) (G_matched : Dfn P w K mg base "matched" ["rows"] 3 (spMatched K)) (G_reaches : Dfn P w K mg base "reaches" ["rows", "held"] 2 (spReaches K)) (G_owners : Dfn P w K mg base "owners" ["held"] 1 (spOwners K)) : Dfn P w K mg base "live_rows" ["rows"] 4 (spLive K) := by
  refine A.ok sc_live_rows (fun vs H Q E h => ?_) (fun f cdv A outer s H vs Q E hr h => ?_)
  · obtain ⟨b, rv, rows, rfl, _⟩ := h
    rfl
  · obtain ⟨b, rv, rows, rfl, hR, hU, hn, hrl, few, k1, k2⟩ := h
    obtain ⟨ra, vs, rfl, hra, hrb⟩ := id hR
    have vl := hrb.len
    refine ⟨_, (pss_cons (ps_set (i := 1) sc_live_rows.nd rfl (Or.inl rfl) (pe_d G_matched (hr.mono (by decide)) (pa_cons (pv 0) pa_nil)))
      (pss_cons (ps_if (pt_cmpR op_in_seq pe_non (pv 1) rfl) (pss_one (ps_ret pe_non)) pss_nil)
      (pss_cons (ps_set (i := 2) sc_live_rows.nd rfl (Or.inr rfl) (pe_d G_reaches (hr.mono (by decide)) (pa_cons (pv 0) (pa_cons (pv 1) pa_nil))))
      (pss_cons (ps_set (i := 3) sc_live_rows.nd rfl (Or.inr rfl) (pe_d G_owners (hr.mono (by decide)) (pa_cons (pv 1) pa_nil)))
      (pss_one (ps_ret (pe_lc (own := [("person", 4), ("row", 5)]) (g := (gTup K 2 (gCons (gName 4) (gCons (gName 5) gNil)))) (tt := tYes) (te := (tLc (iAlt (iList K (tVar 5)) (iTup K (tVar 5))) (gName 6) (tTru K (tOp rOdd (tOp (rI (fun _ j => 0 ≤ j) fun i j => .int (i / 2 ^ j.toNat)) (tOp (rIxL K) (tVar 2) (tDGet (tVar 3) (tVar 6))) (tVar 4)) (tC (V.int 1)))) (tVar 6) [6])) (by rfl) sc_live_rows.nd (pi_alt (pi_enum (by rfl) T.enumerate (pa_cons (pv 0) pa_nil)) (pi_enumT (by rfl) T.enumerate (pa_cons (pv 0) pa_nil))) (blkOk_by (own := [("person", 4), ("row", 5)]) (N := n_live_rows) (sc := (defScope s_live_rows)) (by decide +kernel)) (fun _ _ _ _ _ => (pg_tup rfl (pgs_cons (pg_name (i := 4) sc_live_rows.nd rfl (Or.inr rfl)) (pgs_cons (pg_name (i := 5) sc_live_rows.nd rfl (Or.inl rfl)) pgs_nil)))) (fun _ _ _ _ _ => pts_nil) (fun _ _ _ _ _ => (pe_lc (own := [("thing", 6)]) (g := (gName 6)) (tt := (tTru K (tOp rOdd (tOp (rI (fun _ j => 0 ≤ j) fun i j => .int (i / 2 ^ j.toNat)) (tOp (rIxL K) (tVar 2) (tDGet (tVar 3) (tVar 6))) (tVar 4)) (tC (V.int 1))))) (te := (tVar 6)) (by rfl) sc_live_rows.nd (pi_alt (pi_list (pv 5)) (pi_tup (pv 5))) (blkOk_by (own := [("thing", 6)]) (N := n_live_rows) (sc := (relabel (retScope s_live_rows) (envQ (defScope s_live_rows)))) (by decide +kernel)) (fun _ _ _ _ _ => (pg_name (i := 6) sc_live_rows.nd rfl (Or.inl rfl))) (fun _ _ _ _ _ => (pts_one (pt_truth (pe_op op_odd (pe_op op_shr (pe_ix ix_list (pv 2) (pe_dget (hu_of hr) (pv 3) (pv 6) (fun _ _ => rfl)) (fun _ _ => rfl)) (pv 4)) pe_int) (by intro _; rfl)))) (fun _ _ _ _ _ => (pv 6))))))))))), ?_⟩
    refine ⟨_, rfl, b, .ref ra, rows, rfl, hR, hU, hn, fun m hd H1 u s1 f1 hh => ?_⟩
    have o := Mt.upto_ok u
    refine ⟨_, rfl, hd, _, rfl, .inl (SqL.of hh), rfl, held_flat _ _, _, rfl, ?_⟩
    have ei : inV .non (heldV rows.length m.h) = decide (∃ p, p < rows.length ∧ m.h p = none) := non_in _ _
    rcases Mt.full_or o with full | ⟨p, h1, h2, h3⟩
    · have e0 : inV .non (heldV rows.length m.h) = false := by
        rw [ei]
        exact decide_eq_false fun ⟨p, a, b⟩ => full p a b
      rw [show (if false = true then !inV V.non (heldV rows.length m.h) else inV V.non (heldV rows.length m.h)) = false from e0]
      refine ⟨_, rfl, _, rfl, b, .ref ra, rows, hd, m, rfl, hR.same s1, hh, o.valid.inv, o.late, hn, fun fl M H2 s2 ffl hfl bits => ?_⟩
      have hh2 := s2 _ _ hh
      refine ⟨_, rfl, hd, rows.length, m, rfl, hh2, o.valid.inv, o.late, hn, fun ow H3 s3 fow dr => ?_⟩
      have hfl3 := s3 _ _ hfl
      have s13 := (s1.trans s2).trans s3
      have dex : ∃ D, Mt.Ds rows D := ⟨_, (Mt.dealt_ok o.valid full).1⟩
      refine alt_en (b := b) (xs := vs) (fun Q' q => ⟨_, rfl, q⟩) (hra.same s13) fun D hD => ?_
      refine lc_enS (fun i H' => ∃ ws, H' D = some (.lst ws) ∧ RowsB true K H' ws ((Mt.liveR rows).take i) ∧ Same H3 H' ∧ (∀ v ∈ ws, ∃ a, v = .ref a ∧ a ≠ D) ∧ ∀ (j : Nat) (r : List Int), ((Mt.liveR rows).take i)[j]? = some r → ∃ a, ws[j]? = some (.ref a) ∧ H3 a = none ∧ H' a = some (.lst (r.map V.int)) ∧ a ≠ D) ⟨[], upd_same, .nil, same_new hD, fun v hv => (by cases hv), fun j r h => (by rw [List.take_zero] at h; cases h)⟩ (fun i H' _ hp => by obtain ⟨_, _, _, s4, _⟩ := hp; exact hra.same (s13.trans s4)) ?_ ?_
      · rintro i x H4 c hx ⟨ws, h4, hw, s4, hne, hF⟩ hc
        obtain ⟨aa, r, ex, hri, hqa⟩ := hrb.get hx
        subst ex
        have hir : i < rows.length := (List.getElem?_eq_some_iff.mp hri).1
        have hrow : Mt.row rows i = r := Mt.row_get hri
        have rl := hrl r (List.mem_of_getElem? hri)
        have nDc : D ≠ c := ne_of_none h4 hc
        have sc := same_new (o := .tup [.int ((i : Nat) : Int), V.ref aa]) hc
        refine ⟨c, _, rfl, SqT.of upd_same, rfl, _, _, rfl, _, _, rfl, rfl, rfl, ?_⟩
        have s5 := s4.trans sc
        refine alt_it (b := b) (xs := r.map V.int) (fun Q' q => ⟨_, rfl, q⟩) (hqa.same (s13.trans s5)) fun D2 hD2 => ?_
        have fD2 : H4 D2 = none := sc.free hD2
        refine lc_sq (fun j H' => H' D2 = some (.lst (((r.take j).filter (liveB rows i)).map V.int)) ∧ Same (upd H4 c (.tup [.int ((i : Nat) : Int), V.ref aa])) H') ⟨upd_same, same_new hD2⟩ (fun j H' _ hp => hqa.same (s13.trans (s5.trans hp.2))) ?_ ?_
        · rintro j y H5 hy ⟨h5, s6⟩
          have hjr : j < r.length := by
            have := (List.getElem?_eq_some_iff.mp hy).1
            rw [List.length_map] at this
            exact this
          have hrj := List.getElem?_eq_getElem hjr
          obtain ⟨t, et⟩ : ∃ t, t = r[j] := ⟨_, rfl⟩
          rw [← et] at hrj
          rw [List.getElem?_map, hrj] at hy
          have ey : V.int t = y := Option.some.inj hy
          subst ey
          have htr : t ∈ Mt.row rows i := by rw [hrow]; exact List.mem_of_getElem? hrj
          obtain ⟨q, hq⟩ := Mt.owned o.valid full few htr
          have hqn : q < rows.length := Mt.row_lt (o.valid.tie q t ((o.valid.inv q t).mpr hq))
          have s36 := s5.trans s6
          have dr6 : DR H5 ow m.o := dr.at_ fun z e => s36 _ _ e
          have get := dr6.get t
          rw [hq] at get
          have li : liveB rows i t = (M q).testBit i := by
            have := (Mt.live_iff o.valid full few htr hq).trans (bits q hqn i).symm
            cases hb : (M q).testBit i with
            | true => exact liveB_iff.mpr (this.mpr hb)
            | false =>
              cases hl : liveB rows i t with
              | false => rfl
              | true => rw [this.mp (liveB_iff.mp hl)] at hb; cases hb
          refine ⟨rfl, _, rfl, _, rfl, _, rfl, ow, _, rfl, get, fl, _, _, _, rfl, rfl, SqL.of (s36 _ _ hfl3), at_nat (numL_get hqn), _, rfl, _, _, rfl, rfl, by omega, M q / 2 ^ i, by rw [← shr_nat]; rfl, rfl, ((M q / 2 ^ i % 2 : Nat) : Int) != 0, rfl, ?_⟩
          rw [Mt.bit_of]
          have et2 : ((r.take (j + 1)).filter (liveB rows i)) = (r.take j).filter (liveB rows i) ++ if (M q).testBit i = true then [t] else [] := by
            rw [take_snoc hrj, List.filter_append]
            congr 1
            by_cases hb : (M q).testBit i = true
            · rw [if_pos hb, List.filter_cons_of_pos (by rw [li]; exact hb)]; rfl
            · rw [if_neg hb, List.filter_cons_of_neg (by rw [li]; exact hb)]; rfl
          by_cases hb : (M q).testBit i = true
          · rw [if_pos hb]
            rw [if_pos hb] at et2
            refine ⟨_, rfl, _, h5, by rw [List.length_map]; exact small_lt (Nat.le_trans (List.length_filter_le _ _) (by rw [List.length_take]; omega)), ?_, same_mut s6 hD2⟩
            rw [upd_same, et2, List.map_append]
            rfl
          · rw [if_neg hb]
            rw [if_neg hb] at et2
            exact ⟨by rw [et2, List.append_nil]; exact h5, s6⟩
        · rintro H5 ⟨h5, s6⟩
          rw [List.length_map, List.take_length] at h5
          have s46 := sc.trans s6
          have h5D := s46 _ _ h4
          have nD2 : D2 ≠ D := (ne_of_none h4 fD2).symm
          have wl : ws.length ≤ 90000 := by rw [hw.len, List.length_take, Mt.liveR_len]; omega
          refine ⟨ws, h5D, small_lt (by omega), ws ++ [.ref D2], upd_same, ?_, same_mut (s4.trans s46) hD, fun v hv => ?_, fun j r' hj => ?_⟩
          · rw [take_snoc (liveR_get hri)]
            refine RowsB.snoc (b := true) (r := r.filter (liveB rows i)) (show SqL K _ D2 _ from SqL.of (by rw [upd_ne nD2]; exact h5)) ?_
            refine RowsB.put (us := ws) (fun a r' h ⟨v, hv, ev⟩ => ?_) (fun v hv => hv) (hw.same s46)
            obtain ⟨a', e1, n1⟩ := hne v hv
            rw [ev] at e1
            cases e1
            rcases h with (h | ⟨o', h⟩) | h
            · exact .inl (.inl (by rw [upd_ne n1]; exact h))
            · exact .inl (.inr ⟨o', by rw [upd_ne n1]; exact h⟩)
            · exact .inr h
          · rcases List.mem_append.mp hv with g | g
            · exact hne v g
            · exact ⟨D2, List.mem_singleton.mp g, nD2⟩
          · have lw := hw.len
            rw [take_snoc (liveR_get hri)] at hj
            by_cases jl : j < ((Mt.liveR rows).take i).length
            · rw [List.getElem?_append_left jl] at hj
              obtain ⟨a, a1, a2, a3, a4⟩ := hF j r' hj
              refine ⟨a, ?_, a2, by rw [upd_ne a4]; exact s46 _ _ a3, a4⟩
              rw [List.getElem?_append_left (by omega)]
              exact a1
            · have := (List.getElem?_eq_some_iff.mp hj).1
              rw [List.length_append, List.length_singleton] at this
              have ej : j = ((Mt.liveR rows).take i).length := by omega
              rw [ej, List.getElem?_concat_length] at hj
              cases hj
              refine ⟨D2, ?_, s4.free fD2, by rw [upd_ne nD2]; exact h5, nD2⟩
              rw [ej, ← lw, List.getElem?_concat_length]
      · rintro H4 ⟨ws, h4, hw, s4, hne, hF⟩
        have e : (Mt.liveR rows).take vs.length = Mt.liveR rows := List.take_of_length_le (by rw [Mt.liveR_len, vl]; exact Nat.le_refl _)
        rw [e] at hw
        refine k2 dex D H4 (s13.trans s4) (s13.free hD) ⟨D, ws, rfl, SqL.of h4, hw⟩ ⟨ws, h4, hw.len, fun j r hj => ?_⟩
        rw [← e] at hj
        obtain ⟨a, a1, a2, a3, a4⟩ := hF j r hj
        exact ⟨a, a1, s13.free a2, a3, a4⟩
    · have e0 : inV .non (heldV rows.length m.h) = true := by
        rw [ei]
        exact decide_eq_true ⟨p, h1, h2⟩
      rw [show (if false = true then !inV V.non (heldV rows.length m.h) else inV V.non (heldV rows.length m.h)) = true from e0]
      exact k1 h3 H1 s1
end
end Fo
set_option maxRecDepth 100000
set_option maxHeartbeats 4000000
namespace Fo
open PySem PySem.Spec PyProof.Rows L2
section
variable {P : Program} {w : World} {K : PySem.W.Frag} {mg : Str → Option Value} {base : Heap} {C : Addr}
theorem catA {a b : Addr} {xs ys : List V} {H : Hp} {Q : VK} (ha : SqT K H a xs) (hb : SqT K H b ys) (hz : xs.length + ys.length ≤ 100000) (k : ∀ p H', Same H H' → SqT K H' p (xs ++ ys) → Q (.ref p) H') : rCatA K (.ref a) (.ref b) H Q := by
  refine ⟨a, b, xs, ys, rfl, rfl, ha, hb, small_le hz, fun h => ?_, fun _ h => ?_, fun _ _ p hp => k p _ (same_new hp) (SqT.of upd_same)⟩
  · subst h
    exact k b H (Same.refl H) hb
  · subst h
    exact k a H (Same.refl H) (by rw [List.append_nil]; exact ha)
theorem slA {a : Addr} {xs : List V} {lo hi : Option Int} {H : Hp} {Q : VK} (ha : SqT K H a xs) (k : ∀ p H', Same H H' → SqT K H' p (cutV xs lo hi) → Q (.ref p) H') : rSlA K (.ref a) lo hi H Q := by
  refine ⟨a, xs, rfl, ha, fun hw => k a H (Same.refl H) ?_, fun _ p hp => k p _ (same_new hp) (SqT.of upd_same)⟩
  have e : cutV xs lo hi = xs := by
    unfold cutV
    rw [hw.1, hw.2]
    simp
  rw [e]
  exact ha
theorem cut_to {xs : List V} {n : Nat} (h : n ≤ xs.length) : cutV xs none (some (n : Int)) = xs.take n := by
  unfold cutV
  rw [HT.sIx_none, HT.sIx_nat, show min n xs.length = n by omega]
  rfl
theorem cut_from {xs : List V} {n : Nat} (h : n ≤ xs.length) : cutV xs (some (n : Int)) none = xs.drop n := by
  unfold cutV
  rw [HT.sIx_none, HT.sIx_nat, show min n xs.length = n by omega]
  rw [List.take_of_length_le]
  rw [List.length_drop]
  omega
theorem RowsT.app {H : Hp} : ∀ {vs ws : List V} {rs ss : List (List Int)}, RowsT K H vs rs → RowsT K H ws ss → RowsT K H (vs ++ ws) (rs ++ ss)
  | _, _, _, _, .nil, s => s
  | _, _, _, _, .cons h r, s => .cons h (r.app s)
theorem RowsT.takeN {H : Hp} : ∀ {vs : List V} {rs : List (List Int)} (n : Nat), RowsT K H vs rs → RowsT K H (vs.take n) (rs.take n)
  | _, _, 0, _ => .nil
  | _, _, _ + 1, .nil => .nil
  | _, _, n + 1, .cons h r => .cons h (r.takeN n)
theorem RowsT.dropN {H : Hp} : ∀ {vs : List V} {rs : List (List Int)} (n : Nat), RowsT K H vs rs → RowsT K H (vs.drop n) (rs.drop n)
  | _, _, 0, r => r
  | _, _, _ + 1, .nil => .nil
  | _, _, n + 1, .cons _ r => r.dropN n
theorem set_eq {α : Type} : ∀ (l : List α) (n : Nat) (x : α), n < l.length → l.set n x = l.take n ++ [x] ++ l.drop (n + 1)
  | _ :: _, 0, _, _ => rfl
  | y :: l, n + 1, x, h => by
    show y :: l.set n x = y :: (l.take n ++ [x] ++ l.drop (n + 1))
    rw [set_eq l n x (by simpa using h)]
end
theorem ext_by {α : Type} (f : α → Int) : ∀ {l1 l2 : List α}, l1.Pairwise (fun a b => f a < f b) → l2.Pairwise (fun a b => f a < f b) → (∀ x, x ∈ l1 ↔ x ∈ l2) → l1 = l2
  | [], [], _, _, _ => rfl
  | [], y :: r, _, _, h => absurd ((h y).mpr List.mem_cons_self) (by simp)
  | x :: r, [], _, _, h => absurd ((h x).mp List.mem_cons_self) (by simp)
  | x :: r, y :: q, h1, h2, h => by
    have p1 := List.pairwise_cons.mp h1
    have p2 := List.pairwise_cons.mp h2
    have e : x = y := by
      rcases List.mem_cons.mp ((h x).mp List.mem_cons_self) with e | m
      · exact e
      · rcases List.mem_cons.mp ((h y).mpr List.mem_cons_self) with e | m2
        · exact e.symm
        · have a := p2.1 x m
          have b := p1.1 y m2
          omega
    subst e
    have t : r = q := ext_by f p1.2 p2.2 fun z => by
      constructor
      · intro hz
        rcases List.mem_cons.mp ((h z).mp (List.mem_cons_of_mem _ hz)) with e | m
        · have := p1.1 z hz
          rw [e] at this
          omega
        · exact m
      · intro hz
        rcases List.mem_cons.mp ((h z).mpr (List.mem_cons_of_mem _ hz)) with e | m
        · have := p2.1 z hz
          rw [e] at this
          omega
        · exact m
    rw [t]
theorem asc_ext {l1 l2 : List Int} (h1 : l1.Pairwise (· < ·)) (h2 : l2.Pairwise (· < ·)) (h : ∀ x, x ∈ l1 ↔ x ∈ l2) : l1 = l2 := ext_by id h1 h2 h
end Fo
set_option maxRecDepth 100000
set_option maxHeartbeats 1000000
namespace Fo
open PySem PySem.Spec PyProof.Rows L2
theorem row_mem {rows : List (List Int)} {p : Nat} {t : Int} (h : t ∈ Mt.row rows p) : ∃ r ∈ rows, t ∈ r := by
  unfold Mt.row at h
  cases e : rows[p]? with
  | none => rw [e] at h; cases h
  | some r => rw [e] at h; exact ⟨r, List.mem_of_getElem? e, h⟩
theorem Good.row_rng {rows : List (List Int)} (G : Good rows) {p : Nat} {t : Int} (h : t ∈ Mt.row rows p) : 0 ≤ t ∧ t < (rows.length : Int) := by
  obtain ⟨r, hr, ht⟩ := row_mem h
  exact G.rng r hr t ht
theorem Good.row_asc {rows : List (List Int)} (G : Good rows) (p : Nat) : (Mt.row rows p).Pairwise (· < ·) := by
  unfold Mt.row
  cases e : rows[p]? with
  | none => exact .nil
  | some r => exact G.asc r (List.mem_of_getElem? e)
theorem Good.few {rows : List (List Int)} (G : Good rows) : Mt.Few rows :=
  ⟨rangeI rows.length, by rw [rangeI_len]; exact Nat.le_refl _, fun p t h => mem_rangeI.mpr (G.row_rng h)⟩
theorem asc_len {r : List Int} {n : Nat} (h : r.Pairwise (· < ·)) (hr : ∀ x ∈ r, 0 ≤ x ∧ x < (n : Int)) : r.length ≤ n := by
  have nd : r.Nodup := h.imp fun {a b} h => by omega
  have := Mt.len_le (l2 := rangeI n) nd fun x hx => mem_rangeI.mpr (hr x hx)
  rw [rangeI_len] at this
  exact this
theorem Good.row_len {rows : List (List Int)} (G : Good rows) : ∀ r ∈ rows, r.length ≤ rows.length := fun r hr => asc_len (G.asc r hr) (G.rng r hr)
theorem flat_len {n : Nat} : ∀ {l : List (List Int)}, (∀ r ∈ l, r.length ≤ n) → l.flatten.length ≤ l.length * n
  | [], _ => Nat.zero_le _
  | r :: l, h => by
    rw [List.flatten_cons, List.length_append, List.length_cons, Nat.succ_mul]
    have h1 := h r List.mem_cons_self
    have h2 := flat_len (l := l) fun r hr => h r (List.mem_cons_of_mem _ hr)
    omega
theorem Good.few_things {rows : List (List Int)} (G : Good rows) {n : Nat} (h : rows.length ≤ n) : (Mt.things rows).length ≤ n * n :=
  Nat.le_trans (flat_len G.row_len) (Nat.mul_le_mul h h)
theorem mapIdx_get {α β : Type} {f : Nat → α → β} {l : List α} {y : β} (h : y ∈ l.mapIdx f) : ∃ (i : Nat) (x : α), l[i]? = some x ∧ y = f i x := by
  obtain ⟨i, hi⟩ := List.getElem?_of_mem h
  rw [List.getElem?_mapIdx] at hi
  cases e : l[i]? with
  | none => rw [e] at hi; cases hi
  | some x => rw [e] at hi; exact ⟨i, x, e, (Option.some.inj hi).symm⟩
theorem Good.live {rows : List (List Int)} (G : Good rows) : Good (Mt.liveR rows) where
  pos := by rw [Mt.liveR_len]; exact G.pos
  asc := fun r hr => by
    obtain ⟨i, x, e, rfl⟩ := mapIdx_get hr
    exact List.Pairwise.filter _ (G.asc x (List.mem_of_getElem? e))
  rng := fun r hr t ht => by
    rw [Mt.liveR_len]
    obtain ⟨i, x, e, rfl⟩ := mapIdx_get hr
    exact G.rng x (List.mem_of_getElem? e) t (List.mem_filter.mp ht).1
theorem Good.narrow {rows : List (List Int)} (G : Good rows) {p : Nat} {t : Int} (hp : t ∈ Mt.row rows p) : Good (Mt.narrow rows p t) where
  pos := by rw [Mt.narrow_len]; exact G.pos
  asc := fun r hr => by
    obtain ⟨i, x, e, rfl⟩ := mapIdx_get hr
    by_cases c : i = p
    · rw [if_pos c]; exact List.pairwise_singleton _ _
    · rw [if_neg c]; exact List.Pairwise.filter _ (G.asc x (List.mem_of_getElem? e))
  rng := fun r hr u hu => by
    rw [Mt.narrow_len]
    obtain ⟨i, x, e, rfl⟩ := mapIdx_get hr
    by_cases c : i = p
    · rw [if_pos c] at hu
      rw [List.mem_singleton.mp hu]
      exact G.row_rng hp
    · rw [if_neg c] at hu
      exact G.rng x (List.mem_of_getElem? e) u (List.mem_filter.mp hu).1
end Fo
namespace Mt
theorem lx_irr {a : List Int} (h : Lx a a) : False := by
  obtain ⟨q, x, y, _, h1, h2, h3⟩ := h
  rw [h1] at h2
  cases h2
  exact Int.lt_irrefl _ h3
theorem deals_nd {rows : Rows} (asc : ∀ r ∈ rows, r.Pairwise (· < ·)) : (deals rows).Nodup := (deals_lx asc).imp fun {a b} h e => by subst e; exact lx_irr h
theorem liveR_asc {rows : Rows} (asc : ∀ r ∈ rows, r.Pairwise (· < ·)) : ∀ r ∈ liveR rows, r.Pairwise (· < ·) := fun r hr => by
  obtain ⟨i, hi, e⟩ := List.getElem_of_mem hr
  have h1 : row (liveR rows) i = r := row_get (by rw [List.getElem?_eq_getElem hi, e])
  rw [← h1, row_liveR]
  refine List.Pairwise.filter _ ?_
  have hi' : i < rows.length := by rw [← liveR_len (rows := rows)]; exact hi
  have h2 : row rows i = rows[i] := row_get (List.getElem?_eq_getElem hi')
  rw [h2]
  exact asc _ (List.getElem_mem hi')
theorem sub_flat0 {a b : List (List Nat)} (h : a.Sublist b) : a.flatten.length ≤ b.flatten.length := by
  induction h with
  | slnil => exact Nat.le_refl _
  | cons x _ ih => rw [List.flatten_cons, List.length_append]; omega
  | cons_cons x _ ih => rw [List.flatten_cons, List.flatten_cons, List.length_append, List.length_append]; omega
theorem Groups.len {rows : Rows} {G : List (List Nat)} (h : Groups rows G) {g : List Nat} (hg : g ∈ G) : g.length ≤ rows.length := by
  have h1 : [g].Sublist G := List.singleton_sublist.mpr hg
  have h2 := sub_flat0 h1
  rw [List.flatten_singleton, h.perm.length_eq, List.length_range] at h2
  exact h2
theorem Groups.num {rows : Rows} {G : List (List Nat)} (h : Groups rows G) : G.length ≤ rows.length := by
  have h2 := h.perm.length_eq
  rw [List.length_range] at h2
  rw [← h2]
  have : ∀ F : List (List Nat), (∀ g ∈ F, g ≠ []) → F.length ≤ F.flatten.length := fun F => by
    induction F with
    | nil => exact fun _ => Nat.le_refl _
    | cons g F ih =>
      intro hF
      rw [List.flatten_cons, List.length_append, List.length_cons]
      have h1 := ih fun c hc => hF c (List.mem_cons_of_mem _ hc)
      have h2 : 0 < g.length := List.length_pos_iff.mpr (hF g List.mem_cons_self)
      omega
  exact this G h.ne
end Mt
set_option maxRecDepth 100000
set_option maxHeartbeats 4000000
namespace Fo
open PySem PySem.Spec PyProof.Rows L2
abbrev s_live_of : Stmt := top 39
abbrev n_live_of : List Str := ["table", "live"]
theorem sc_live_of : FnScope n_live_of ["table"] (defScope s_live_of) := ⟨rfl, rfl, rfl, by decide +kernel, rfl, by decide +kernel, by decide +kernel⟩
section
variable {P : Program} {w : World} {K : PySem.W.Frag} {mg : Str → Option Value} {base : Heap} {C : Addr}
def spLiveOf (K : PySem.W.Frag) (C : Addr) : Sp := fun vs H Q _ => ∃ (x : V) (rows : List (List Int)), vs = [x] ∧ TableAt K C H x rows ∧ Good rows ∧ rows.length ≤ 40 ∧ (∃ D, Mt.Ds rows D) ∧
  ∀ l H', Same H H' → H l = none → RowsQ true K H' (.ref l) (Mt.liveR rows) → Q (.ref l) H'
theorem ok_live_of (A : At K mg "live_of" s_live_of ["table"]) (T : Tx mg) (tc : TC K C) (G_live_rows : Dfn P w K mg base "live_rows" ["rows"] 4 (spLive K)) : Dfn P w K mg base "live_of" ["table"] 5 (spLiveOf K C) := by
  refine A.ok sc_live_of (fun vs H Q E h => ?_) (fun f cdv A outer s H vs Q E hr h => ?_)
  · obtain ⟨_, _, rfl, _⟩ := h
    rfl
  · obtain ⟨x, rows, rfl, tb, G, hn, yes, k⟩ := h
    obtain ⟨p, dx, v, rfl, hp, hR⟩ := id tb
    refine ⟨_, (pss_cons (ps_set (i := 1) sc_live_of.nd rfl (Or.inl rfl) (pe_d G_live_rows (hr.mono (by decide)) (pa_cons (pe_fld (pv 0) rfl) pa_nil)))
      (pss_cons (ps_if (pt_cmpR op_isN (pv 1) pe_non (nomark _)) (pss_one ps_never) pss_nil)
      (pss_one (ps_ret (pv 1))))), ?_⟩
    have thl := G.few_things hn
    refine ⟨_, rfl, p, C, dx, _, v, rfl, hp, tc.cl, tc.nR, tf_rows _ _, false, v, rows, rfl, hR.q, by omega, by omega, fun r hr => Nat.le_trans (G.row_len r hr) (by omega), G.few, fun no H1 s1 => absurd yes fun ⟨D, h⟩ => no D h, fun _ l H1 s1 fl hl _ => ?_⟩
    refine ⟨_, rfl, rfl, _, rfl, ?_⟩
    rw [show decide (V.ref l = V.non) = false from decide_eq_false (by intro z; cases z)]
    exact ⟨_, rfl, k l H1 s1 fl hl⟩
end
end Fo
set_option maxRecDepth 100000
set_option maxHeartbeats 4000000
namespace Fo
open PySem PySem.Spec PyProof.Rows L2
abbrev s_groups : Stmt := top 24
abbrev n_groups : List Str := ["rows", "found", "person", "row", "people", "things", "apart", "others", "known", "thing", "lot", "_"]
theorem sc_groups : FnScope n_groups ["rows"] (defScope s_groups) := ⟨rfl, rfl, rfl, by decide +kernel, rfl, by decide +kernel, by decide +kernel⟩
/-- a dict of ints as a set -/
def SD (kvs : List (Key × V)) (P : Int → Prop) : Prop := ∀ t : Int, (valV kvs (.inl t)).isSome = true ↔ P t
theorem SD.nil : SD [] fun _ => False := fun t => by
  rw [valV_nil]
  exact ⟨fun h => (by cases h), False.elim⟩
theorem SD.put {kvs : List (Key × V)} {P : Int → Prop} (h : SD kvs P) (t : Int) (v : V) : SD (putK kvs (.inl t) v) fun u => P u ∨ u = t := fun u => by
  rw [valV_put]
  by_cases e : (Sum.inl u : Key) = .inl t
  · rw [if_pos e]
    injection e with e
    exact ⟨fun _ => .inr e, fun _ => rfl⟩
  · rw [if_neg e, h u]
    exact ⟨.inl, fun z => z.elim id fun z => absurd (by rw [z]) e⟩
theorem val_key {kvs : List (Key × V)} {k : Key} : (valV kvs k).isSome = true ↔ ∃ p ∈ kvs, p.1 = k := by
  rw [← valV_any k kvs, List.any_eq_true]
  exact ⟨fun ⟨p, h, e⟩ => ⟨p, h, of_decide_eq_true e⟩, fun ⟨p, h, e⟩ => ⟨p, h, decide_eq_true e⟩⟩
theorem merge_key {k : Key} : ∀ (more kvs : List (Key × V)), (valV (mergeK kvs more) k).isSome = true ↔ (valV kvs k).isSome = true ∨ ∃ p ∈ more, p.1 = k
  | [], kvs => ⟨.inl, fun h => h.elim id fun ⟨p, hp, _⟩ => by cases hp⟩
  | q :: more, kvs => by
    show (valV (mergeK (putK kvs q.1 q.2) more) k).isSome = true ↔ _
    rw [merge_key more, valV_put]
    by_cases e : k = q.1
    · rw [if_pos e]
      exact ⟨fun _ => .inr ⟨q, List.mem_cons_self, e.symm⟩, fun _ => .inl rfl⟩
    · rw [if_neg e]
      refine or_congr_right ⟨fun ⟨p, hp, h⟩ => ⟨p, List.mem_cons_of_mem _ hp, h⟩, fun ⟨p, hp, h⟩ => ?_⟩
      rcases List.mem_cons.mp hp with rfl | hp
      · exact absurd h.symm e
      · exact ⟨p, hp, h⟩
theorem SD.merge {kvs more : List (Key × V)} {P Q : Int → Prop} (h : SD kvs P) (h2 : SD more Q) : SD (mergeK kvs more) fun t => P t ∨ Q t := fun t => by
  rw [merge_key, h t, ← val_key, h2 t]
theorem SD.congr {kvs : List (Key × V)} {P Q : Int → Prop} (h : SD kvs P) (e : ∀ t, P t ↔ Q t) : SD kvs Q := fun t => (h t).trans (e t)
/-- somebody of them may get it -/
def GetsP (rows : List (List Int)) (g : List Nat) (t : Int) : Prop := ∃ p ∈ g, t ∈ Mt.row rows p
/-- what is found so far: pairs of people and of the dict of their things; the pairs stand in H, the rest in H0 -/
inductive FR (rows : List (List Int)) (H H0 : Hp) : List V → List (List Nat) → Prop
  | nil : FR rows H H0 [] []
  | cons {c L D : Addr} {kvs : List (Key × V)} {vs : List V} {g : List Nat} {F : List (List Nat)} : H c = some (.tup [.ref L, .ref D]) → H0 L = some (.lst (g.map nV)) → H0 D = some (.dK kvs) → SD kvs (GetsP rows g) → kvs.length ≤ 40 * g.length → FR rows H H0 vs F → FR rows H H0 (.ref c :: vs) (g :: F)
theorem FR.len {rows : List (List Int)} {H H0 : Hp} : ∀ {vs : List V} {F : List (List Nat)}, FR rows H H0 vs F → vs.length = F.length
  | _, _, .nil => rfl
  | _, _, .cons _ _ _ _ _ r => congrArg (· + 1) r.len
theorem FR.same {rows : List (List Int)} {H H' H0 H0' : Hp} (e : Same H H') (e0 : Same H0 H0') : ∀ {vs : List V} {F : List (List Nat)}, FR rows H H0 vs F → FR rows H' H0' vs F
  | _, _, .nil => .nil
  | _, _, .cons a b c d l r => .cons (e _ _ a) (e0 _ _ b) (e0 _ _ c) d l (r.same e e0)
theorem FR.put {rows : List (List Int)} {H H0 : Hp} {f : Addr} {o o' : HO} (h : H f = some o) (n : ∀ xs, o ≠ .tup xs) : ∀ {vs : List V} {F : List (List Nat)}, FR rows H H0 vs F → FR rows (upd H f o') H0 vs F
  | _, _, .nil => .nil
  | _, _, .cons a b c d l r => .cons (by rw [upd_ne (ne_of a h fun z => n _ z.symm)]; exact a) b c d l (r.put h n)
theorem FR.snoc {rows : List (List Int)} {H H0 : Hp} {c L D : Addr} {kvs : List (Key × V)} {g : List Nat} (a : H c = some (.tup [.ref L, .ref D])) (b : H0 L = some (.lst (g.map nV))) (d : H0 D = some (.dK kvs)) (s : SD kvs (GetsP rows g)) (l : kvs.length ≤ 40 * g.length) : ∀ {vs : List V} {F : List (List Nat)}, FR rows H H0 vs F → FR rows H H0 (vs ++ [.ref c]) (F ++ [g])
  | _, _, .nil => .cons a b d s l .nil
  | _, _, .cons a1 b1 c1 d1 l1 r => .cons a1 b1 c1 d1 l1 (r.snoc a b d s l)
theorem FR.get {rows : List (List Int)} {H H0 : Hp} : ∀ {vs : List V} {F : List (List Nat)} {i : Nat} {g : List Nat}, FR rows H H0 vs F → F[i]? = some g → ∃ c L D kvs, vs[i]? = some (.ref c) ∧ H c = some (.tup [.ref L, .ref D]) ∧ H0 L = some (.lst (g.map nV)) ∧ H0 D = some (.dK kvs) ∧ SD kvs (GetsP rows g) ∧ kvs.length ≤ 40 * g.length
  | _, _, _, _, .nil, h => by cases h
  | _, _, 0, _, .cons a b c d l _, h => by cases Option.some.inj h; exact ⟨_, _, _, _, rfl, a, b, c, d, l⟩
  | _, _, i + 1, _, .cons _ _ _ _ _ r, h => r.get (i := i) h
open Classical in
noncomputable def hitC (rows : List (List Int)) (i : Nat) (g : List Nat) : Bool := decide (∃ p ∈ g, Mt.Tied rows i p)
open Classical in
theorem hitC_iff {rows : List (List Int)} {i : Nat} {g : List Nat} : hitC rows i g = true ↔ ∃ p ∈ g, Mt.Tied rows i p := by
  unfold hitC
  exact decide_eq_true_iff
/-- the people put in order -/
def srtG (n : Nat) (g : List Nat) : List Nat := (List.range n).filter fun p => decide (p ∈ g)
theorem srtG_mem {n : Nat} {g : List Nat} (h : ∀ p ∈ g, p < n) (p : Nat) : p ∈ srtG n g ↔ p ∈ g := by
  unfold srtG
  rw [List.mem_filter, List.mem_range, decide_eq_true_iff]
  exact ⟨fun z => z.2, fun z => ⟨h p z, z⟩⟩
theorem srtG_asc {n : Nat} {g : List Nat} : (srtG n g).Pairwise (· < ·) := List.Pairwise.filter _ List.pairwise_lt_range
theorem srtG_perm {n : Nat} {g : List Nat} (nd : g.Nodup) (h : ∀ p ∈ g, p < n) : (srtG n g).Perm g :=
  (List.perm_ext_iff_of_nodup (srtG_asc.imp fun {a b} z => Nat.ne_of_lt z) nd).mpr fun p => srtG_mem h p
/-- sorted(g) as ints -/
theorem srtG_ints {n : Nat} {g : List Nat} (nd : g.Nodup) (h : ∀ p ∈ g, p < n) {ns : List Int} (pm : ns.Perm (g.map fun (p : Nat) => (p : Int))) (up : ns.Pairwise (· ≤ ·)) : ns = (srtG n g).map fun (p : Nat) => (p : Int) := by
  have ndI : (g.map fun (p : Nat) => (p : Int)).Nodup := Mt.nodup_map nd fun x _ y _ e => by omega
  refine asc_ext (asc_of pm up ndI) (List.pairwise_map.mpr (srtG_asc.imp fun h => by omega)) fun x => ?_
  rw [pm.mem_iff, List.mem_map, List.mem_map]
  exact ⟨fun ⟨p, hp, e⟩ => ⟨p, (srtG_mem h p).mpr hp, e⟩, fun ⟨p, hp, e⟩ => ⟨p, (srtG_mem h p).mp hp, e⟩⟩
theorem any_hit {rows : List (List Int)} {i : Nat} {r : List Int} (hr : rows[i]? = some r) {g : List Nat} {kvs : List (Key × V)} (h : SD kvs (GetsP rows g)) : ((r.map fun t : Int => (valV kvs (.inl t)).isSome).any id) = hitC rows i g := by
  rw [Bool.eq_iff_iff, hitC_iff, List.any_eq_true]
  constructor
  · rintro ⟨b, hb, e⟩
    obtain ⟨t, ht, rfl⟩ := List.mem_map.mp hb
    obtain ⟨p, hp, h2⟩ := (h t).mp e
    exact ⟨p, hp, t, by rw [Mt.row_get hr]; exact ht, h2⟩
  · rintro ⟨p, hp, t, h1, h2⟩
    rw [Mt.row_get hr] at h1
    exact ⟨_, List.mem_map.mpr ⟨t, h1, rfl⟩, (h t).mpr ⟨p, hp, h2⟩⟩
theorem filt_hit {rows : List (List Int)} {i j : Nat} {F : List (List Nat)} {g : List Nat} (h : F[j]? = some g) (p : List Nat → Bool) : (F.take (j + 1)).filter p = (F.take j).filter p ++ if p g = true then [g] else [] := by
  rw [List.take_add_one, h, List.filter_append]
  show _ ++ [g].filter p = _
  by_cases c : p g = true
  · rw [List.filter_cons_of_pos c, if_pos c]; rfl
  · rw [List.filter_cons_of_neg c, if_neg c]; rfl
theorem sub_flat {a b : List (List Nat)} (h : a.Sublist b) : a.flatten.length ≤ b.flatten.length := by
  induction h with
  | slnil => exact Nat.le_refl _
  | cons x _ ih => rw [List.flatten_cons, List.length_append]; omega
  | cons_cons x _ ih => rw [List.flatten_cons, List.flatten_cons, List.length_append, List.length_append]; omega
theorem part_len {rows : List (List Int)} {i : Nat} {F : List (List Nat)} (h : Mt.Parts rows i F) (j : Nat) (p : List Nat → Bool) : (((F.take j).filter p).flatten).length ≤ i := by
  have s1 : ((F.take j).filter p).Sublist F := List.filter_sublist.trans (List.take_sublist j F)
  have := sub_flat s1
  rw [h.perm.length_eq, List.length_range] at this
  exact this
theorem part_num {rows : List (List Int)} {i : Nat} {F : List (List Nat)} (h : Mt.Parts rows i F) : F.length ≤ i := by
  have : ∀ F : List (List Nat), (∀ g ∈ F, g ≠ []) → F.length ≤ F.flatten.length := fun F => by
    induction F with
    | nil => exact fun _ => Nat.le_refl _
    | cons g F ih =>
      intro hn
      have h1 := ih fun c hc => hn c (List.mem_cons_of_mem _ hc)
      have h2 := List.length_pos_iff.mpr (hn g List.mem_cons_self)
      rw [List.length_cons, List.flatten_cons, List.length_append]
      omega
  have := this F h.ne
  rw [h.perm.length_eq, List.length_range] at this
  exact this
section
variable {P : Program} {w : World} {K : PySem.W.Frag} {mg : Str → Option Value} {base : Heap} {C : Addr}
def natI (g : List Nat) : List Int := g.map fun (p : Nat) => (p : Int)
theorem dc_list {a : Addr} {xs : List V} {g : TG} {tt : TT} {tk tv : TE} {vs : List Nat} {σ : L2.St} {H1 : Hp} {D : Addr} {Qd : Hp → Prop} (Pv : Nat → Hp → Prop) (h0 : Pv 0 (upd H1 D (.dK []))) (hl : ∀ i H, i ≤ xs.length → Pv i H → SqL K H a xs)
    (hs : ∀ i x H, xs[i]? = some x → Pv i H → g x (wipe σ vs) H fun σ2 H2 => wipe σ2 vs = wipe σ vs ∧ tt σ2 H2 fun b H3 =>
      if b = true then tk σ2 H3 fun y H4 => tv σ2 H4 fun z H5 => ∃ kvs k, y = kV k ∧ H5 D = some (.dK kvs) ∧ kvs.length < sizeLine ∧ Pv (i + 1) (upd H5 D (.dK (putK kvs k z))) else Pv (i + 1) H3) (hd : ∀ H, Pv xs.length H → Qd H) :
    ∃ W : Nat → Nat → Hp → Prop, (∃ m, W 0 m (upd H1 D (.dK []))) ∧ ∀ i m H, W i m H →
      ((Itl K a).stop i H ∧ Qd H) ∨ ((Itl K a).go i H ∧ ∃ Nx : Hp → Prop, (∀ H', Nx H' → ∃ m', m' < m ∧ W (i + 1) m' H') ∧ ∀ x H', (Itl K a).yld i H x H' → g x (wipe σ vs) H' fun σ2 H2 => wipe σ2 vs = wipe σ vs ∧ tt σ2 H2 fun b H3 =>
        if b = true then tk σ2 H3 fun y H4 => tv σ2 H4 fun z H5 => ∃ kvs k, y = kV k ∧ H5 D = some (.dK kvs) ∧ kvs.length < sizeLine ∧ Nx (upd H5 D (.dK (putK kvs k z))) else Nx H3) := by
  refine ⟨fun i m H => m = xs.length - i ∧ i ≤ xs.length ∧ Pv i H, ⟨xs.length, by simp, Nat.zero_le _, h0⟩, ?_⟩
  rintro i m H ⟨rfl, hi, p⟩
  have q := hl i H hi p
  by_cases hlt : i < xs.length
  · refine .inr ⟨⟨xs, xs[i], q, by simp [hlt]⟩, Pv (i + 1), fun H' p' => ⟨xs.length - (i + 1), by omega, rfl, hlt, p'⟩, fun x H' y => ?_⟩
    obtain ⟨e, y⟩ := y
    subst e
    exact hs i x _ (y xs q) p
  · have e : i = xs.length := by omega
    subst e
    exact .inl ⟨⟨xs, q, Nat.le_refl _⟩, hd H p⟩
theorem rowsB_os {H : Hp} : ∀ {os : List (Addr × List Int)}, (∀ b ∈ os, H b.1 = some (.lst (b.2.map V.int))) → RowsB true K H (os.map fun b => V.ref b.1) (os.map fun b => b.2)
  | [], _ => .nil
  | b :: os, h => .cons (SqL.of (h b List.mem_cons_self)) (rowsB_os fun c hc => h c (List.mem_cons_of_mem _ hc))
def spGroups (K : PySem.W.Frag) : Sp := fun vs H Q _ => ∃ (rv : V) (rows : List (List Int)), vs = [rv] ∧ RowsQ true K H rv rows ∧ rows.length ≤ 40 ∧ (∀ r ∈ rows, r.length ≤ 40) ∧
  ∀ (G : List (List Nat)) l H', Mt.Groups rows G → (G.map natI).Pairwise (· ≤ ·) → Same H H' → H l = none → RowsQ true K H' (.ref l) (G.map natI) → Q (.ref l) H'
theorem ok_groups (A : At K mg "groups" s_groups ["rows"]) (T : Tx mg) (Tan : mg "any" = none) : Dfn P w K mg base "groups" ["rows"] 1 (spGroups K) := by
  refine A.ok sc_groups (fun vs H Q E h => ?_) (fun f cdv A outer s H vs Q E hr h => ?_)
  · obtain ⟨rv, rows, rfl, _⟩ := h
    rfl
  · obtain ⟨rv, rows, rfl, ⟨ra, rvs, rfl, hra, hrb⟩, hn, hl, k⟩ := h
    have rvl := hrb.len
    refine ⟨_, (pss_cons (ps_set (i := 1) sc_groups.nd rfl (Or.inl rfl) (pe_lst pa_nil))
      (pss_cons (ps_for PassesOwn.never rfl (pi_enum (by rfl) T.enumerate (pa_cons (pv 0) pa_nil)) (pg_tup rfl (pgs_cons (pg_name (i := 2) sc_groups.nd rfl (Or.inl rfl)) (pgs_cons (pg_name (i := 3) sc_groups.nd rfl (Or.inl rfl)) pgs_nil)))
      (pss_cons (ps_set (i := 4) sc_groups.nd rfl (Or.inl rfl) (pe_lst (pa_cons (pv 2) pa_nil)))
      (pss_cons (ps_setDc (i := 5) (own := [("thing", 9)]) (g := (gName 9)) (tt := tYes) (tk := (tVar 9)) (tv := (tC (V.bl true))) (by rfl) sc_groups.nd rfl rfl (swD_true rfl rfl rfl (by decide +kernel)) (pi_list (pv 3)) (blkOk_by (own := [("thing", 9)]) (N := n_groups) (sc := (defScope s_groups)) (by decide +kernel)) (fun _ _ _ _ _ => (pg_name (i := 9) sc_groups.nd rfl (Or.inl rfl))) (fun _ _ _ _ _ => pts_nil) (fun _ _ _ _ _ => (pv 9)) (fun _ _ _ _ _ => pe_bl))
      (pss_cons (ps_set (i := 6) sc_groups.nd rfl (Or.inl rfl) (pe_lst pa_nil))
      (pss_cons (ps_for PassesOwn.never rfl (pi_list (pv 1)) (pg_tup rfl (pgs_cons (pg_name (i := 7) sc_groups.nd rfl (Or.inl rfl)) (pgs_cons (pg_name (i := 8) sc_groups.nd rfl (Or.inr rfl)) pgs_nil)))
      (pss_one (ps_if (pt_val (pe_callB (cr_any rfl) (by rfl) Tan (by decide +kernel) (pa_cons (pe_lc (own := [("thing", 9)]) (g := (gName 9)) (tt := tYes) (te := (tDIn (tVar 9) (tVar 8))) (by rfl) sc_groups.nd (pi_list (pv 3)) (blkOk_by (own := [("thing", 9)]) (N := n_groups) (sc := (defScope s_groups)) (by decide +kernel)) (fun _ _ _ _ _ => (pg_name (i := 9) sc_groups.nd rfl (Or.inl rfl))) (fun _ _ _ _ _ => pts_nil) (fun _ _ _ _ _ => (pe_cmp (pc_din (hu_of hr) (pv 9) (pv 8))))) pa_nil))) (pss_cons (ps_expr (pe_bm PySem.F.plainAttrs_list PySem.F.slot_list_extend PySem.F.type_list_extend mt_extend (pv 4) (pa_cons (pv 7) pa_nil)))
      (pss_one (ps_expr (pe_dupdate (pv 5) (pa_cons (pv 8) pa_nil))))) (pss_one (ps_expr (pe_bm PySem.F.plainAttrs_list PySem.F.slot_list_append PySem.F.type_list_append mt_append (pv 6) (pa_cons (pe_tup (pa_cons (pv 7) (pa_cons (pv 8) pa_nil))) pa_nil)))))))
      (pss_cons (ps_expr (pe_bm PySem.F.plainAttrs_list PySem.F.slot_list_append PySem.F.type_list_append mt_append (pv 6) (pa_cons (pe_tup (pa_cons (pv 4) (pa_cons (pv 5) pa_nil))) pa_nil)))
      (pss_one (ps_set (i := 1) sc_groups.nd rfl (Or.inl rfl) (pv 6)))))))))
      (pss_one (ps_ret (pe_callB (cr_sortedLL hr.units) (by rfl) T.sorted (by decide +kernel) (pa_cons (pe_lc (own := [("lot", 10), ("_", 11)]) (g := (gTup K 2 (gCons (gName 10) (gCons (gName 11) gNil)))) (tt := tYes) (te := (tCB (rSortedI K) (tCons (tVar 10) tNil))) (by rfl) sc_groups.nd (pi_list (pv 1)) (blkOk_by (own := [("lot", 10), ("_", 11)]) (N := n_groups) (sc := (defScope s_groups)) (by decide +kernel)) (fun _ _ _ _ _ => (pg_tup rfl (pgs_cons (pg_name (i := 10) sc_groups.nd rfl (Or.inl rfl)) (pgs_cons (pg_name (i := 11) sc_groups.nd rfl (Or.inl rfl)) pgs_nil)))) (fun _ _ _ _ _ => pts_nil) (fun _ _ _ _ _ => (pe_callB cr_sortedI (by rfl) T.sorted (by decide +kernel) (pa_cons (pv 10) pa_nil)))) pa_nil)))))), ?_⟩
    refine ⟨by show 0 ≤ sizeLine; decide, fun f0 hf0 => ?_⟩
    refine ⟨_, rfl, ra, rvs, rfl, Sq.same (b := true) hra (same_new hf0), for_enumL (xs := rvs) (fun i σ' H' => ∃ x2 x3 x4 x5 x6 x7 x8 x9 x10 x11 f us F, σ' = [some (.ref ra), some (.ref f), x2, x3, x4, x5, x6, x7, x8, x9, x10, x11] ∧ H' f = some (.lst us) ∧ H f = none ∧ FR rows H' H' us F ∧ Mt.Parts rows i F ∧ Same H H') ⟨_, _, _, _, _, _, _, _, _, _, f0, [], [], rfl, upd_same, hf0, .nil, .init, same_new hf0⟩ (fun i σ' H' _ hp => by obtain ⟨_, _, _, _, _, _, _, _, _, _, _, _, _, _, _, _, _, _, s1⟩ := hp; exact Sq.same (b := true) hra s1) ?_ ?_⟩
    · rintro i x σ' H1 T' hx ⟨x2, x3, x4, x5, x6, x7, x8, x9, x10, x11, f, us, F, rfl, hf, ff, hFR, hP, s1⟩ hT
      obtain ⟨a, r, rfl, hri, hqa⟩ := hrb.get hx
      have ir : i < rows.length := (List.getElem?_eq_some_iff.mp hri).1
      have rl := hl r (List.mem_of_getElem? hri)
      have er := Mt.row_get hri
      have F0 : H1 T' = none := hT
      refine ⟨T', _, rfl, SqT.of upd_same, rfl, _, _, rfl, _, _, rfl, rfl, ?_⟩
      refine ⟨_, rfl, by show 1 ≤ sizeLine; decide, fun L0 hL0 => ?_⟩
      have sT : Same H1 (upd H1 T' (.tup [.int (i : Nat), .ref a])) := same_new hT
      have sL : Same H1 (upd (upd H1 T' (.tup [.int (i : Nat), .ref a])) L0 (.lst [.int (i : Nat)])) := sT.trans (same_new hL0)
      have fL0 : H1 L0 = none := sT.free hL0
      refine ⟨_, rfl, a, rfl, ⟨_, Sq.same (b := true) hqa (s1.trans sL)⟩, fun D0 hD0 => ?_⟩
      have fD0 : H1 D0 = none := sL.free hD0
      refine dc_list (xs := r.map V.int) (fun j H' => ∃ kvs, H' D0 = some (.dK kvs) ∧ SD kvs (fun t => t ∈ r.take j) ∧ kvs.length ≤ j ∧ Same (upd (upd H1 T' (.tup [.int (i : Nat), .ref a])) L0 (.lst [.int (i : Nat)])) H') ⟨[], upd_same, SD.nil.congr fun t => ⟨False.elim, fun h => (by cases h)⟩, Nat.le_refl _, same_new hD0⟩ (fun j H' _ hp => by obtain ⟨_, _, _, _, s2⟩ := hp; exact Sq.same (b := true) hqa ((s1.trans sL).trans s2)) ?_ ?_
      · rintro j y H2 hy ⟨kvs, h2, sd, kl, s2⟩
        obtain ⟨t, ht, rfl⟩ : ∃ t, r[j]? = some t ∧ y = V.int t := by
          rw [List.getElem?_map] at hy
          cases e : r[j]? with
          | none => rw [e] at hy; cases hy
          | some u => rw [e] at hy; exact ⟨u, rfl, (Option.some.inj hy).symm⟩
        have jl : j < r.length := (List.getElem?_eq_some_iff.mp ht).1
        refine ⟨rfl, _, rfl, kvs, .inl t, rfl, h2, small_lt (by omega), _, upd_same, (sd.put t _).congr fun u => ?_, ?_, same_mut s2 hD0⟩
        · rw [List.take_add_one, ht, List.mem_append]
          exact or_congr_right List.mem_singleton.symm
        · have := length_putK kvs (.inl t) (.bl true)
          omega
      · rintro H2 ⟨kvs0, h2, sd0, kl0, s2⟩
        rw [List.length_map] at kl0
        rw [List.length_map, List.take_length] at sd0
        have s12 : Same H1 H2 := sL.trans s2
        have hL2 : H2 L0 = some (.lst [.int (i : Nat)]) := s2 _ _ upd_same
        refine ⟨by show 0 ≤ sizeLine; decide, fun A0 hA0 => ?_⟩
        have fA0 : H1 A0 = none := s12.free hA0
        have nLA : L0 ≠ A0 := ne_of_none hL2 hA0
        have nDA : D0 ≠ A0 := ne_of_none h2 hA0
        have nLD : L0 ≠ D0 := fun e => by rw [e, h2] at hL2; cases hL2
        have s13 : Same H1 (upd H2 A0 (.lst [])) := s12.trans (same_new hA0)
        have ul := hFR.len
        have num := part_num hP
        refine ⟨_, rfl, f, rfl, ⟨us, SqL.of (s13 _ _ hf)⟩, ?_⟩
        refine for_list (xs := us) (fun j σ' H' => ∃ x7 x8 kvs ws, σ' = [some (.ref ra), some (.ref f), some (.int (i : Nat)), some (.ref a), some (.ref L0), some (.ref D0), some (.ref A0), x7, x8, x9, x10, x11] ∧ H' L0 = some (.lst ((i :: ((F.take j).filter (hitC rows i)).flatten).map nV)) ∧ H' D0 = some (.dK kvs) ∧ SD kvs (GetsP rows (i :: ((F.take j).filter (hitC rows i)).flatten)) ∧ kvs.length ≤ 40 * (i :: ((F.take j).filter (hitC rows i)).flatten).length ∧ H' A0 = some (.lst ws) ∧ FR rows H' H1 ws ((F.take j).filter fun g => !hitC rows i g) ∧ Same H1 H')
          ⟨_, _, kvs0, [], rfl, by rw [upd_ne nLA]; exact hL2, by rw [upd_ne nDA]; exact h2, sd0.congr fun t => ?_, by show _ ≤ 40 * 1; omega, upd_same, .nil, s13⟩ (fun j σ' H' _ hp => by obtain ⟨_, _, _, _, _, _, _, _, _, _, _, s4⟩ := hp; exact SqL.of (s4 _ _ hf)) ?_ ?_
        · unfold GetsP
          rw [← er]
          exact ⟨fun h => ⟨i, List.mem_cons_self, h⟩, fun ⟨p, hp, h⟩ => by rw [List.mem_singleton.mp hp] at h; exact h⟩
        · rintro j y σ' H3 hy ⟨x7, x8, kvs, ws, rfl, hL3, hD3, sd, kl, hA3, hW, s3⟩
          have jl : j < F.length := by have := (List.getElem?_eq_some_iff.mp hy).1; omega
          have hgj := List.getElem?_eq_getElem jl
          obtain ⟨g, eg⟩ : ∃ g, g = F[j] := ⟨_, rfl⟩
          rw [← eg] at hgj
          obtain ⟨c, L, D, kvs', hc1, hc2, hc3, hc4, sd', kl'⟩ := hFR.get hgj
          rw [hy] at hc1
          have ey : y = .ref c := Option.some.inj hc1
          subst ey
          have pl := part_len hP j (hitC rows i)
          have pl1 := part_len hP (j + 1) (hitC rows i)
          have gl : g.length ≤ i := by
            have h1 : [g].Sublist F := List.singleton_sublist.mpr (List.mem_of_getElem? hgj)
            have := sub_flat h1
            rw [List.flatten_singleton, hP.perm.length_eq, List.length_range] at this
            exact this
          refine ⟨c, _, rfl, SqT.of (s3 _ _ hc2), rfl, _, _, rfl, _, _, rfl, rfl, ?_⟩
          refine ⟨_, rfl, a, rfl, ⟨_, Sq.same (b := true) hqa (s1.trans s3)⟩, fun E hE => ?_⟩
          refine lc_list (xs := r.map V.int) (fun l H' => H' E = some (.lst ((r.take l).map fun t => V.bl (valV kvs' (.inl t)).isSome)) ∧ Same H3 H') ⟨upd_same, same_new hE⟩ (fun l H' _ hp => Sq.same (b := true) hqa ((s1.trans s3).trans hp.2)) ?_ ?_
          · rintro l y H4 hy ⟨h4, s4⟩
            obtain ⟨t, ht, rfl⟩ : ∃ t, r[l]? = some t ∧ y = V.int t := by
              rw [List.getElem?_map] at hy
              cases e : r[l]? with
              | none => rw [e] at hy; cases hy
              | some u => rw [e] at hy; exact ⟨u, rfl, (Option.some.inj hy).symm⟩
            have ll : l < r.length := (List.getElem?_eq_some_iff.mp ht).1
            refine ⟨rfl, _, rfl, _, rfl, D, _, rfl, DGet.k (k := .inl t) ((s3.trans s4) _ _ hc4), _, h4, small_lt (by rw [List.length_map, List.length_take]; omega), ?_, same_mut s4 hE⟩
            rw [upd_same, List.take_add_one, ht, List.map_append]
            rfl
          · rintro H4 ⟨h4, s4⟩
            rw [List.length_map, List.take_length] at h4
            have hbl : (r.map fun t => V.bl (valV kvs' (.inl t)).isSome) = (r.map fun t : Int => (valV kvs' (.inl t)).isSome).map V.bl := by rw [List.map_map]; rfl
            rw [hbl] at h4
            refine ⟨E, _, rfl, SqL.of h4, _, rfl, ?_⟩
            rw [any_hit hri sd']
            have hL4 := s4 _ _ hL3
            have hD4 := s4 _ _ hD3
            have hA4 := s4 _ _ hA3
            have s14 := s3.trans s4
            cases hh : hitC rows i g with
            | true =>
              have e1 : (F.take (j + 1)).filter (hitC rows i) = (F.take j).filter (hitC rows i) ++ [g] := by rw [filt_hit (rows := rows) (i := i) hgj, if_pos hh]
              have e2 : ((F.take (j + 1)).filter fun g => !hitC rows i g) = (F.take j).filter fun g => !hitC rows i g := by rw [filt_hit (rows := rows) (i := i) hgj, if_neg (by rw [hh]; decide), List.append_nil]
              have nLD2 : L0 ≠ D := fun e => by rw [e, hc4] at fL0; cases fL0
              have nDD : D0 ≠ D := fun e => by rw [e, hc4] at fD0; cases fD0
              refine ⟨_, rfl, .inl ⟨rfl, _, SqL.of hL4⟩, _, rfl, L0, L, _, _, rfl, rfl, hL4, s14 _ _ hc3, by rw [List.length_map, List.length_map, List.length_cons]; exact small_le (by omega), ?_⟩
              refine ⟨_, rfl, .inr (.inr (.inl ⟨rfl, .inl ⟨_, by rw [upd_ne nLD.symm]; exact hD4⟩⟩)), _, rfl, D0, D, kvs, kvs', rfl, rfl, nDD, by rw [upd_ne nLD.symm]; exact hD4, by rw [upd_ne nLD2.symm]; exact s14 _ _ hc4, small_le (by rw [List.length_cons] at kl; omega), ?_⟩
              refine ⟨_, _, _, ws, rfl, ?_, upd_same, ?_, ?_, ?_, ?_, same_mut (same_mut s14 fL0) fD0⟩
              · rw [upd_ne nLD, upd_same, e1, List.flatten_append, List.flatten_singleton, ← List.map_append, List.cons_append]
              · rw [e1]
                refine (sd.merge sd').congr fun t => ?_
                unfold GetsP
                rw [List.flatten_append, List.flatten_singleton]
                constructor
                · rintro (⟨p, hp, h⟩ | ⟨p, hp, h⟩)
                  · rcases List.mem_cons.mp hp with rfl | hp
                    · exact ⟨p, List.mem_cons_self, h⟩
                    · exact ⟨p, List.mem_cons_of_mem _ (List.mem_append_left _ hp), h⟩
                  · exact ⟨p, List.mem_cons_of_mem _ (List.mem_append_right _ hp), h⟩
                · rintro ⟨p, hp, h⟩
                  rcases List.mem_cons.mp hp with rfl | hp
                  · exact .inl ⟨p, List.mem_cons_self, h⟩
                  · rcases List.mem_append.mp hp with hp | hp
                    · exact .inl ⟨p, List.mem_cons_of_mem _ hp, h⟩
                    · exact .inr ⟨p, hp, h⟩
              · have := length_mergeK kvs' kvs
                rw [e1, List.flatten_append, List.flatten_singleton, List.length_cons, List.length_append]
                rw [List.length_cons] at kl
                omega
              · rw [upd_ne nDA.symm, upd_ne nLA.symm]
                exact hA4
              · rw [e2]
                exact ((hW.same s4 (Same.refl _)).put hL4 (fun xs z => by cases z)).put (by rw [upd_ne nLD.symm]; exact hD4) (fun xs z => by cases z)
            | false =>
              have e1 : (F.take (j + 1)).filter (hitC rows i) = (F.take j).filter (hitC rows i) := by rw [filt_hit (rows := rows) (i := i) hgj, if_neg (by rw [hh]; decide), List.append_nil]
              have e2 : ((F.take (j + 1)).filter fun g => !hitC rows i g) = ((F.take j).filter fun g => !hitC rows i g) ++ [g] := by rw [filt_hit (rows := rows) (i := i) hgj, if_pos (by rw [hh]; rfl)]
              refine ⟨_, rfl, .inl ⟨rfl, _, SqL.of hA4⟩, _, rfl, _, rfl, by show 2 ≤ sizeLine; decide, fun c2 hc2' => ?_⟩
              have s5 := same_new (o := .tup [V.ref L, V.ref D]) hc2'
              have hW4 := hW.same s4 (Same.refl H1)
              have wl := hW.len
              have wl2 : ((F.take j).filter fun g => !hitC rows i g).length ≤ F.length := Nat.le_trans (List.length_filter_le _ _) (by rw [List.length_take]; omega)
              refine ⟨A0, ws, _, rfl, rfl, s5 _ _ hA4, small_lt (by omega), ?_⟩
              have nAL : L0 ≠ A0 := nLA
              refine ⟨_, _, kvs, _, rfl, ?_, ?_, ?_, ?_, upd_same, ?_, same_mut (s14.trans s5) fA0⟩
              · rw [upd_ne nLA, e1]
                exact s5 _ _ hL4
              · rw [upd_ne nDA]
                exact s5 _ _ hD4
              · rw [e1]
                exact sd
              · rw [e1]
                exact kl
              · rw [e2]
                refine FR.snoc ?_ hc3 hc4 sd' kl' ((hW4.same s5 (Same.refl _)).put (s5 _ _ hA4) (fun xs z => by cases z))
                have nc : c2 ≠ A0 := fun e => by rw [e, hA4] at hc2'; cases hc2'
                rw [upd_ne nc]
                exact upd_same
        · rintro σ' H3 ⟨x7, x8, kvs, ws, rfl, hL3, hD3, sd, kl, hA3, hW, s3⟩
          rw [ul, List.take_length] at hL3 sd kl hW
          refine ⟨_, rfl, .inl ⟨rfl, _, SqL.of hA3⟩, _, rfl, _, rfl, by show 2 ≤ sizeLine; decide, fun c2 hc2 => ?_⟩
          have s5 := same_new (o := .tup [V.ref L0, V.ref D0]) hc2
          have wl := hW.len
          have wl2 : (F.filter fun g => !hitC rows i g).length ≤ F.length := List.length_filter_le _ _
          refine ⟨A0, ws, _, rfl, rfl, s5 _ _ hA3, small_lt (by omega), ?_⟩
          have s6 : Same H1 (upd (upd H3 c2 (.tup [V.ref L0, V.ref D0])) A0 (.lst (ws ++ [.ref c2]))) := same_mut (s3.trans s5) fA0
          have nc : c2 ≠ A0 := fun e => by rw [e, hA3] at hc2; cases hc2
          refine ⟨_, rfl, _, _, _, _, _, _, _, _, _, _, A0, _, _, rfl, upd_same, s1.free fA0, ?_, hP.step (hit := hitC rows i) fun g _ => hitC_iff, s1.trans s6⟩
          refine FR.snoc (kvs := kvs) (L := L0) (D := D0) ?_ ?_ ?_ sd kl (((hW.same s5 (Same.refl _)).put (s5 _ _ hA3) (fun xs z => by cases z)).same (Same.refl _) s6)
          · rw [upd_ne nc]
            exact upd_same
          · rw [upd_ne nLA]
            exact s5 _ _ hL3
          · rw [upd_ne nDA]
            exact s5 _ _ hD3
    · rintro σ' H1 ⟨x2, x3, x4, x5, x6, x7, x8, x9, x10, x11, f, us, F, rfl, hf, ff, hFR, hP, s1⟩
      rw [rvl] at hP
      have ul := hFR.len
      have num := part_num hP
      have nd : F.flatten.Nodup := hP.perm.symm.nodup List.nodup_range
      have gnd : ∀ g ∈ F, g.Nodup := fun g hg => List.Nodup.sublist (List.sublist_flatten_of_mem hg) nd
      have glt : ∀ g ∈ F, ∀ p ∈ g, p < rows.length := fun g hg p hp => List.mem_range.mp (hP.perm.mem_iff.mp (List.mem_flatten.mpr ⟨g, hg, hp⟩))
      refine ⟨_, rfl, f, rfl, ⟨us, SqL.of hf⟩, fun D hD => ?_⟩
      refine lc_list (xs := us) (fun j H' => ∃ bs : List (Addr × List Int), H' D = some (.lst (bs.map fun b => V.ref b.1)) ∧ (∀ b ∈ bs, H' b.1 = some (.lst (b.2.map V.int)) ∧ b.1 ≠ D) ∧ (bs.map fun b => b.2) = (F.take j).map (fun g => natI (srtG rows.length g)) ∧ Same H1 H') ⟨[], upd_same, fun b hb => (by cases hb), rfl, same_new hD⟩ (fun j H' _ hp => by obtain ⟨_, _, _, _, s2⟩ := hp; exact SqL.of (s2 _ _ hf)) ?_ ?_
      · rintro j y H2 hy ⟨bs, h2, hb, hm, s2⟩
        have jl : j < F.length := by have := (List.getElem?_eq_some_iff.mp hy).1; omega
        have hgj := List.getElem?_eq_getElem jl
        obtain ⟨g, eg⟩ : ∃ g, g = F[j] := ⟨_, rfl⟩
        rw [← eg] at hgj
        have gF := List.mem_of_getElem? hgj
        obtain ⟨c, L, D', kvs', hc1, hc2, hc3, hc4, sd', kl'⟩ := hFR.get hgj
        rw [hy] at hc1
        have ey : y = .ref c := Option.some.inj hc1
        subst ey
        have bl : bs.length ≤ F.length := by
          have := congrArg List.length hm
          rw [List.length_map, List.length_map, List.length_take] at this
          omega
        have hL2 : H2 L = some (.lst ((natI g).map V.int)) := by
          have := s2 _ _ hc3
          rw [this]
          unfold natI
          rw [List.map_map]
          rfl
        refine ⟨c, _, rfl, SqT.of (s2 _ _ hc2), rfl, _, _, rfl, _, _, rfl, rfl, rfl, _, rfl, L, natI g, rfl, SqL.of hL2, fun ns' p pm up hp => ?_⟩
        have s3 := same_new (o := .lst (ns'.map V.int)) hp
        have npD : p ≠ D := fun e => by rw [e, h2] at hp; cases hp
        have ens := srtG_ints (gnd g gF) (glt g gF) pm up
        refine ⟨_, s3 _ _ h2, small_lt (by rw [List.length_map]; omega), bs ++ [(p, ns')], ?_, fun b hb' => ?_, ?_, same_mut (s2.trans s3) hD⟩
        · rw [upd_same, List.map_append]
          rfl
        · rcases List.mem_append.mp hb' with hb' | hb'
          · obtain ⟨hb1, nbD⟩ := hb b hb'
            exact ⟨by rw [upd_ne nbD]; exact s3 _ _ hb1, nbD⟩
          · rw [List.mem_singleton.mp hb']
            exact ⟨by rw [upd_ne npD]; exact upd_same, npD⟩
        · rw [List.map_append, hm, List.take_add_one, hgj, List.map_append, ens]
          rfl
      · rintro H2 ⟨bs, h2, hb, hm, s2⟩
        rw [ul, List.take_length] at hm
        refine ⟨D, bs, rfl, SqL.of h2, fun b hb' => SqL.of (hb b hb').1, fun os p pm up hp => ?_⟩
        have s3 := same_new (o := .lst (os.map fun b => V.ref b.1)) hp
        obtain ⟨G, eG⟩ : ∃ G, G = os.map fun b => b.2.map Int.toNat := ⟨_, rfl⟩
        have toN : ∀ b ∈ os, natI (b.2.map Int.toNat) = b.2 := fun b hb' => by
          have hm' : b.2 ∈ bs.map fun b => b.2 := List.mem_map.mpr ⟨b, pm.mem_iff.mp hb', rfl⟩
          rw [hm] at hm'
          obtain ⟨g, _, e⟩ := List.mem_map.mp hm'
          rw [← e]
          unfold natI
          rw [List.map_map, List.map_map]
          exact List.map_congr_left fun x _ => rfl
        have eI : G.map natI = os.map fun b => b.2 := by
          rw [eG, List.map_map]
          exact List.map_congr_left toN
        have ePm : G.Perm (F.map (srtG rows.length)) := by
          have h1 : (os.map fun b => b.2.map Int.toNat).Perm (bs.map fun b => b.2.map Int.toNat) := pm.map _
          have h2 : (bs.map fun b => b.2.map Int.toNat) = F.map (srtG rows.length) := by
            have : (bs.map fun b => b.2).map (List.map Int.toNat) = (F.map fun g => natI (srtG rows.length g)).map (List.map Int.toNat) := by rw [hm]
            rw [List.map_map, List.map_map] at this
            refine this.trans (List.map_congr_left fun g _ => ?_)
            show (natI (srtG rows.length g)).map Int.toNat = srtG rows.length g
            unfold natI
            rw [List.map_map]
            exact (List.map_congr_left fun x _ => Int.toNat_natCast x).trans (List.map_id _)
          rw [eG, ← h2]
          exact h1
        have s13 := (s1.trans s2).trans s3
        refine k G p _ (hP.groups (fun g hg => ⟨srtG_perm (gnd g hg) (glt g hg), srtG_asc⟩) ePm) (by rw [eI]; exact up) s13 ((s1.trans s2).free hp) ⟨p, _, rfl, SqL.of upd_same, ?_⟩
        rw [eI]
        exact rowsB_os fun b hb' => s3 _ _ (hb b (pm.mem_iff.mp hb')).1
end
end Fo
set_option maxRecDepth 100000
set_option maxHeartbeats 2000000
namespace Fo
open PySem PySem.Spec PyProof.Rows L2
theorem ints_of : ∀ {ns : List Int} {us : List Value}, Vals (ns.map V.int) us → IntsAre us ns
  | [], [], _ => .nil
  | n :: ns, u :: us, .cons r t => by
    obtain ⟨k, rfl⟩ := r
    exact .cons n k (ints_of t)
end Fo
set_option maxRecDepth 100000
set_option maxHeartbeats 2000000
namespace Fo
open PySem PySem.Spec PyProof.Rows L2
section
variable {P : Program} {w : World} {A : Around} {E : Value → Shared → Prop} {s : Shared} {a : Addr}
theorem sorted_setA {M : Int → Bool} {many : Nat} {Want : Value → Shared → Prop} (set : SetR w s.heap a M many) (calm : A.handled = none) (small : many ≤ 100000)
    (go : ∀ (s2 : Shared) (L : Addr) (vals : Array Value) (u : Nat) (ks : List Int), (∀ b o, s.heap.get? b = some o → s2.heap.get? b = some o) → s2.gens = s.gens → s2.os = s.os → s.heap.objs.size ≤ L →
      s2.heap.get? L = some (seqObj "list" vals u) → IntsAre vals.toList ks → ks.Pairwise (· < ·) → (∀ k, k ∈ ks ↔ M k = true) → ks.length = many → Want (.ref L) s2) :
    wpAny (model P w) A (call (.builtin "sorted") [.ref a]) Want E s := by
  obtain ⟨ob, ents, ep, tt, at1, ex1, dat1, raws, one1, mem1, bnd1, fil1, cnt1, rr1, ll1⟩ := set
  refine Calls.call_function_entry kind_sorted plain_sorted entry_sorted (args_sorted1 _) ?_
  unfold Builtin.«sorted»
  refine wpAny_bind (m := checkCount "sorted" 1 1 _) (wpAny_pure ?_)
  refine wpAny_bind (collect_set (A := A.in1) calm ⟨ob, at1, ex1.1, dat1⟩ fil1 bnd1 rr1 ll1 fun s3 items kept sz gens3 os3 perm => ?_)
  have count : items.length = many := Eq.trans perm.length_eq (by rw [List.length_map, Array.length_toList]; exact cnt1)
  have lim : items.length ≤ sizeLine := by rw [count]; exact small_le small
  have allInts := L2.ints_of items fun v hv => by
    obtain ⟨en, hen, q⟩ := List.mem_map.mp (perm.mem_iff.mp hv)
    obtain ⟨k, tk, h1, _⟩ := raws en hen
    exact ⟨k, tk, q.symm.trans h1⟩
  have keys : (items.map Builtin.Re.reRawOf).Perm (ents.toList.map keyOf) := by
    have q := perm.map Builtin.Re.reRawOf
    rw [List.map_map] at q
    exact q
  refine wpAny_bind (wpAny_newList ?_ lim)
  have new := Heap.get?_push_size s3.heap (o := seqObj "list" items.toArray 0) rfl
  refine wpAny_bind (wpAny_holding (wpAny_call_entry slot_list_sort ⟨_, new, rfl⟩ entry_list_sort (list_sort_treeAny new allInts lim fun vals ks are pm up => ⟨_, rfl, ?_⟩) (args_list_sort _)))
  obtain ⟨u, hu⟩ := sortedHeap_at (vs := items) (out := vals) new
  have all : ks.Perm (ents.toList.map keyOf) := pm.trans keys
  have less := L2.lt_of_le_nodup ks up (all.nodup_iff.mpr one1)
  refine wpAny_pure ⟨_, rfl, go _ s3.heap.objs.size vals u ks ?_ gens3 os3 sz hu are less (fun k => by rw [mem1 k, all.mem_iff]) ?_⟩
  · intro b o e
    have old := kept b o e
    have lt := Heap.lt_size old
    have ne : b ≠ s3.heap.objs.size := Nat.ne_of_lt lt
    exact (sortedHeap_old ne (by rw [size_push']; exact Nat.lt_succ_of_lt lt)).trans (Heap.get?_push_of_some _ old)
  · exact all.length_eq.trans (by rw [List.length_map, Array.length_toList]; exact cnt1)
end
def rSortSetA (w : World) : List V → Hp → VK → Prop := fun xs H Q => ∃ (a : Addr) (M : Int → Bool) (many : Nat), xs = [.ref a] ∧ H a = some (SetO w a M many) ∧ many ≤ 100000 ∧
  ∀ (ks : List Int) (L : Addr), ks.Pairwise (· < ·) → (∀ k : Int, k ∈ ks ↔ M k = true) → ks.length = many → H L = none → Q (.ref L) (upd H L (.lst (ks.map V.int)))
theorem cr_sortSetA {X : Cx} (calm : X.calm = true) : CallR X (.builtin "sorted") (rSortSetA X.w) := by
  intro pins s σ H xs us Q I r h
  obtain ⟨a, M, many, rfl, at1, small, q⟩ := h
  have R := setO_get I at1
  rw [Vals.ref1 r]
  refine sorted_setA R (I.ok.hd calm) small fun s2 L vals u ks kept gens2 os2 sz at2 are up mem len => ?_
  have fit : (ks.map V.int).length ≤ sizeLine := by rw [List.length_map, len]; exact small_le small
  have free : H L = none := I.hok.fresh sz
  have J : Inv X pins σ (upd H L (.lst (ks.map V.int))) { s with heap := s2.heap, gens := s2.gens, drawn := s2.drawn, toks := s2.toks } :=
    I.call (ch := []) (Un.laid kept sz free) (I.hok.laid kept sz ⟨fit, vals.toList, u, vals_of_ints are, at2⟩) (by rw [gens2]; exact I.bare) (fun _ z => nomatch z)
  have same : s2 = { s with heap := s2.heap, gens := s2.gens, drawn := s2.drawn, toks := s2.toks } := by
    cases s2
    cases s
    cases os2
    rfl
  rw [same]
  exact ⟨.ref L, _, J, rfl, q ks L up mem len free⟩
end Fo
set_option maxRecDepth 100000
set_option maxHeartbeats 4000000
namespace Fo
open PySem PySem.Spec PyProof.Rows L2
abbrev emptyS (w : World) : Obj := { cls := .type "set", dict := none, data := .set #[] 0 (.fresh 0 0 (!w.params.followText "set-order")) }
section
variable {P : Program} {w : World} {A : Around} {E : Value → Shared → Prop} {s : Shared}
theorem call_set_listI {l : Addr} {items : Array Value} (ns : List Int) {Q : Value → Shared → Prop} (calm : A.handled = none) (hl : s.heap.IsList l items) (areI : IntsAre items.toList ns) (room : ns.length + 1 < scanBound)
    (go : ∀ (h' : Heap) (tk c : Nat), SetR w h' s.heap.objs.size (fun j => decide (j ∈ ns)) c → c ≤ ns.length → (∀ b o, s.heap.get? b = some o → h'.get? b = some o) → Q (.ref s.heap.objs.size) { s with heap := h', toks := tk }) :
    wpAny (model P w) A (call (.type "set") [.ref l]) Q E s := by
  have many : items.size = ns.length := (Array.length_toList (xs := items)).symm.trans (IntsAre.length areI)
  obtain ⟨c, tl, hmro⟩ := F.called_set.mro
  have f1 := F.called_set.made
  have f2 := F.called_set.sub
  refine wpAny_call (codeAny_of_tree ?_)
  show wpAny _ _ (callAny (.type "set") _) _ _ _
  refine wpAny_pure ⟨Code.quiet_builtin _ (by decide +kernel), codeAny_builtin F.entry_type_call ?_⟩
  rw [Around.under_plain (weight_type_call_type "set" [.ref l] []) rfl]
  have f3 := F.called_set.notType
  have f4 := F.called_set.canCreate
  have f5 := F.typeCall_set_1 (.ref l)
  repeat (any_goals (first | assumption | wp_step))
  refine codeAny_mono (code_set_led1 (.ref l) (E := E) (Q₁ := fun obj s₁ => obj = .ref s.heap.objs.size ∧ s₁ = { s with heap := s.heap.push (emptyS w) }) ⟨rfl, rfl⟩) fun r s₁ hr => ?_
  cases r with
  | error e => exact hr
  | ok fl =>
    cases fl with
    | ret obj =>
      obtain ⟨rfl, rfl⟩ := hr
      have at0 : (s.heap.push (emptyS w)).get? s.heap.objs.size = some (emptyS w) := Heap.get?_push_size _ rfl
      have ty0 : Shared.TypeIs { s with heap := s.heap.push (emptyS w) } (.ref s.heap.objs.size) "set" := ⟨_, at0, rfl⟩
      have f6 := F.called_set.init.lookup
      have f7 := F.called_set.init.bind (.ref s.heap.objs.size)
      repeat (any_goals (first | assumption | wp_step))
      refine codeAny_mono (codeAny_call_builtin (R := wants (fun r s₂ => r = .none ∧ ∃ h' tk c, s₂ = { s with heap := h', toks := tk } ∧ SetR w h' s.heap.objs.size (fun j => decide (j ∈ ns)) c ∧ c ≤ ns.length ∧
          (∀ b o, s.heap.get? b = some o → h'.get? b = some o)) E) F.called_set.init.plain F.entry_set_init (check_set_init_1 ty0 ?_)) fun r₂ s₂ hr₂ => ?_
      · obtain ⟨⟨ocls, odict, odata, oslots⟩, old, hcl, nl, hdl⟩ := hl
        dsimp only at hcl hdl
        subst hcl; subst hdl
        have old' : (s.heap.push (emptyS w)).get? l = some { cls := .type "list", dict := odict, data := .seq items nl, slots := oslots } := Heap.get?_push_of_some _ old
        have f8 := F.sub_list_set
        have f9 := F.sub_list_frozenset
        have f10 : (Value.type "list" == Value.type "dict") = false := by decide
        have isl : (s.heap.push (emptyS w)).IsList l items := ⟨_, old', rfl, nl, rfl⟩
        unfold Builtin.«set.__init__» noKeywords Builtin.Frozenset.updateFrom
        generalize hPI : pyIter = PI
        wp_walk
        subst hPI
        refine wpAny_pyIter_list isl ?_
        refine wpAny_bind (wpAny_runValue ?_)
        have lt : l < s.heap.objs.size := Heap.lt_size old
        have calm3 : A.in1.in1.in1.handled = none := by simp [calm]
        have sz : (s.heap.push (emptyS w)).objs.size = s.heap.objs.size + 1 := Heap.size_push ..
        have ne1 : l ≠ (s.heap.push (emptyS w)).objs.size := by
          rw [sz]; exact Nat.ne_of_lt (Nat.lt_succ_of_lt lt)
        have apart : s.heap.objs.size ∉ [(s.heap.push (emptyS w)).objs.size, l] := by
          rw [sz]; simp only [List.mem_cons, List.not_mem_nil, or_false, not_or]
          exact ⟨Nat.ne_of_lt (Nat.lt_succ_self _), Nat.ne_of_gt lt⟩
        have each : ∀ (i : Nat) (v : Value), items[i]? = some v → ∃ k t, ns[i]? = some k ∧ v = .int k t := fun i v hv => by
          have hi : i < ns.length := by rw [← many]; exact (Array.getElem?_eq_some_iff.mp hv).1
          obtain ⟨t, e⟩ := PyProof.Rows.IntsAre.int_at areI i v (by rw [Array.getElem?_toList]; exact hv)
          refine ⟨ns[i], t, List.getElem?_eq_getElem hi, ?_⟩
          rw [e, List.getD_eq_getElem?_getD, List.getElem?_eq_getElem hi] <;> rfl
        refine set_update_ints ((Walks.list calm3 _ l ne1 items).toS) s.heap.objs.size
          apart ns many room each (items.size - 0) 0 _ (by omega) (Nat.zero_le _)
          ⟨⟨_, Heap.get?_push_size _ rfl, rfl, rfl⟩, (isl.push _)⟩ ?start ?fin
        case start =>
          exact ⟨0, Nat.le_refl 0, setR_new_at (Heap.get?_push_of_some _ at0)⟩
        case fin =>
          intro s' c' moved cl R
          obtain ⟨h', g2, d', tk', os'⟩ := s'
          have eg : g2 = s.gens := moved.gens
          have ed : d' = s.drawn := moved.drawn
          have eo : os' = s.os := moved.os
          subst eg; subst ed; subst eo
          show wpAny _ _ _ _ _ _
          refine wpAny_pure ?_
          show wpAny _ _ (ret Value.none) _ _ _
          rw [many] at cl
          refine wpAny_pure ⟨rfl, h', tk', c', rfl, R, cl, fun b o e => ?_⟩
          have b0 : b < s.heap.objs.size := Heap.lt_size e
          refine moved.heap b o ?_ (Heap.get?_push_of_some _ (Heap.get?_push_of_some _ e))
          simp only [sz, List.mem_cons, List.not_mem_nil, or_false, not_or]
          exact ⟨Nat.ne_of_lt b0, Nat.ne_of_lt (Nat.lt_succ_of_lt b0)⟩
      · cases r₂ with
        | error e => exact hr₂
        | ok fl₂ =>
          cases fl₂ with
          | ret r =>
            obtain ⟨rfl, h', tk, c', rfl, R, cl, kept⟩ := hr₂
            repeat (any_goals (first | assumption | wp_step))
            exact go _ _ _ R cl kept
          | _ => exact hr₂.elim
    | _ => exact hr.elim
end
theorem setR_len {w : World} {h : Heap} {a : Addr} {ns : List Int} {c : Nat} (R : SetR w h a (fun j => decide (j ∈ ns)) c) : ∀ ks : List Int, ks.Nodup → (∀ k, k ∈ ks ↔ k ∈ ns) → ks.length = c := by
  intro ks nd mem
  obtain ⟨o, es, ep, t, _, _, _, _, one, m, _, _, n, _⟩ := R
  have p : ks.Perm (es.toList.map keyOf) := by
    refine (List.perm_ext_iff_of_nodup nd one).mpr fun k => ?_
    rw [mem k, ← m k, decide_eq_true_iff]
  rw [p.length_eq, List.length_map, Array.length_toList]
  exact n
/-- a set of the ints of a list; how many there are is left open but for the bound -/
def rSetL (K : PySem.W.Frag) (w : World) : List V → Hp → VK → Prop := fun xs H Q => ∃ (p : Addr) (ns : List Int), xs = [.ref p] ∧ SqL K H p (ns.map V.int) ∧ ns.length ≤ 4000 ∧ ∀ (a : Addr) (n : Nat), H a = none → n ≤ ns.length → (∀ ks : List Int, ks.Nodup → (∀ k, k ∈ ks ↔ k ∈ ns) → ks.length = n) → Q (.ref a) (upd H a (SetO w a (fun j => decide (j ∈ ns)) n))
theorem cr_setL {X : Cx} (hc : X.calm = true) : CallR X (.type "set") (rSetL X.K X.w) := by
  intro pins s σ H xs us Q I r h
  obtain ⟨p, ns, rfl, hS, hl, q⟩ := h
  cases r with
  | cons r0 r1 =>
    cases r1
    cases r0
    obtain ⟨its, rv, hT, hz⟩ := I.list hS
    refine call_set_listI ns (I.ok.hd hc) hT.isList (by simpa using Fo.ints_of rv) (by
      have : (4002 : Nat) < scanBound := by decide
      omega) fun h' tk c hR hcn hk => ?_
    refine ⟨.ref s.heap.objs.size, _, I.laid (a := s.heap.objs.size) (o := SetO X.w s.heap.objs.size (fun j => decide (j ∈ ns)) c) hk (Nat.le_refl _) ?_, rfl, q _ c (I.hok.fresh (Nat.le_refl _)) hcn (setR_len hR)⟩
    refine ⟨hR, ?_, fun h1 h2 a b => ?_⟩
    · obtain ⟨o, _, _, _, g, _⟩ := hR
      exact ⟨o, g⟩
    · obtain ⟨o, es, ep, t, g, r⟩ := a
      exact ⟨o, es, ep, t, b o g, r⟩
end Fo
set_option maxRecDepth 100000
set_option maxHeartbeats 2000000
namespace Fo
open PySem PySem.Spec PyProof.Rows L2
theorem walk_sq {K : PySem.W.Frag} {b : Bool} {a : Addr} {xs : List V} {H0 : Hp} {B : V → Hp → (Hp → Prop) → Prop} {Qd : Hp → Prop} (Pv : Nat → Hp → Prop) (h0 : Pv 0 H0) (hl : ∀ i H, i ≤ xs.length → Pv i H → Sq b K H a xs)
    (hs : ∀ i x H, xs[i]? = some x → Pv i H → B x H (Pv (i + 1))) (hd : ∀ H, Pv xs.length H → Qd H) :
    ∃ W : Nat → Nat → Hp → Prop, (∃ m, W 0 m H0) ∧ ∀ i m H, W i m H →
      ((ItS b K a).stop i H ∧ Qd H) ∨ ((ItS b K a).go i H ∧ ∃ Nx : Hp → Prop, (∀ H', Nx H' → ∃ m', m' < m ∧ W (i + 1) m' H') ∧ ∀ x H', (ItS b K a).yld i H x H' → B x H' Nx) := by
  refine ⟨fun i m H => m = xs.length - i ∧ i ≤ xs.length ∧ Pv i H, ⟨xs.length, by simp, Nat.zero_le _, h0⟩, ?_⟩
  rintro i m H ⟨rfl, hi, p⟩
  have q := hl i H hi p
  by_cases hlt : i < xs.length
  · have hx : xs[i]? = some xs[i] := List.getElem?_eq_getElem hlt
    have step : ∀ x H', H' = H → xs[i]? = some x → B x H' (Pv (i + 1)) := fun x H' e y => by
      subst e
      exact hs i x _ y p
    refine .inr ⟨?_, Pv (i + 1), fun H' p' => ⟨xs.length - (i + 1), by omega, rfl, hlt, p'⟩, fun x H' y => ?_⟩
    · cases b with
      | true => exact ⟨xs, xs[i], q, hx⟩
      | false => exact ⟨xs, xs[i], q, hx⟩
    · cases b with
      | true => exact step x H' y.1 (y.2 xs q)
      | false => exact step x H' y.1 (y.2 xs q)
  · have e : i = xs.length := by omega
    subst e
    refine .inl ⟨?_, hd H p⟩
    cases b with
    | true => exact ⟨xs, q, Nat.le_refl _⟩
    | false => exact ⟨xs, q, Nat.le_refl _⟩
end Fo
set_option maxRecDepth 100000
set_option maxHeartbeats 2000000
set_option maxRecDepth 100000
set_option maxHeartbeats 1000000
namespace Fo
open PySem PySem.Spec PyProof.Rows L2
structure ShortOf (rows : List (List Int)) (L : List Nat) : Prop where
  is : ∃ (m : Mt.MS) (p N : Nat), Mt.Upto rows rows.length m ∧ p < rows.length ∧ m.h p = none ∧ (∀ j, j < p → m.h j ≠ none) ∧ Mt.Bits N (Mt.Reach rows m.o p) ∧ L = Mt.reached (Builtin.Int.intBits (N : Int)) N
theorem ShortOf.one {rows : List (List Int)} {A B : List Nat} (a : ShortOf rows A) (b : ShortOf rows B) : A = B := by
  obtain ⟨m, p, N, u, h1, h2, h3, h4, rfl⟩ := a.is
  obtain ⟨m', p', N', u', g1, g2, g3, g4, rfl⟩ := b.is
  have em := Mt.upto_one u u'
  subst em
  have ep : p = p' := by
    rcases Nat.lt_trichotomy p p' with z | z | z
    · exact absurd h2 (g3 p z)
    · exact z
    · exact absurd g2 (h3 p' z)
  subst ep
  have en : N = N' := Nat.eq_of_testBit_eq fun q => by
    have := (h4 q).trans (g4 q).symm
    cases x : N.testBit q <;> cases y : N'.testBit q <;> simp_all
  subst en
  rfl
end Fo
namespace Mt
/-- a lot of people who may get, all together, just as many things as they are, this thing among them -/
structure Lot (rows : Rows) (t : Int) (L : List Nat) : Prop where
  asc : L.Pairwise (· < ·)
  lt : ∀ p ∈ L, p < rows.length
  hold : ∃ U : List Int, U.Nodup ∧ U.length = L.length ∧ (∀ u, u ∈ U ↔ ∃ x ∈ L, u ∈ row rows x) ∧ t ∈ U
theorem Lot.nd {rows : Rows} {t : Int} {L : List Nat} (h : Lot rows t L) : L.Nodup := h.asc.imp fun {a b} z => Nat.ne_of_lt z
end Mt
set_option maxRecDepth 100000
set_option maxHeartbeats 4000000
namespace Fo
open PySem PySem.Spec PyProof.Rows L2
theorem Good.row_all {rows : List (List Int)} (G : Good rows) (p : Nat) : (Mt.row rows p).length ≤ rows.length := asc_len (G.row_asc p) fun _ h => G.row_rng h
abbrev s_things_of : Stmt := top 25
abbrev n_things_of : List Str := ["rows", "row", "thing"]
theorem sc_things_of : FnScope n_things_of ["rows"] (defScope s_things_of) := ⟨rfl, rfl, rfl, by decide +kernel, rfl, by decide +kernel, by decide +kernel⟩
abbrev s_rows_of : Stmt := top 26
abbrev n_rows_of : List Str := ["rows", "people", "person"]
theorem sc_rows_of : FnScope n_rows_of ["rows", "people"] (defScope s_rows_of) := ⟨rfl, rfl, rfl, by decide +kernel, rfl, by decide +kernel, by decide +kernel⟩
section
variable {P : Program} {w : World} {K : PySem.W.Frag} {mg : Str → Option Value} {base : Heap} {C : Addr}
/-- rows of one kind in a list or a tuple -/
def RowsX (c b : Bool) (K : PySem.W.Frag) (H : Hp) (v : V) (rows : List (List Int)) : Prop := ∃ a vs, v = .ref a ∧ Sq c K H a vs ∧ RowsB b K H vs rows
def spThings (K : PySem.W.Frag) : Sp := fun vs H Q _ => ∃ (c b : Bool) (rv : V) (rows : List (List Int)), vs = [rv] ∧ RowsX c b K H rv rows ∧ (Mt.things rows).length ≤ 4000 ∧
  ∀ (ks : List Int) p H', Same H H' → ks.Pairwise (· < ·) → (∀ k : Int, k ∈ ks ↔ k ∈ Mt.things rows) → SqL K H' p (ks.map V.int) → Q (.ref p) H'
theorem ok_things (A : At K mg "things_of" s_things_of ["rows"]) (T : Tx mg) : Dfn P w K mg base "things_of" ["rows"] 1 (spThings K) := by
  refine A.ok sc_things_of (fun vs H Q E h => ?_) (fun f cdv A outer s H vs Q E hr h => ?_)
  · obtain ⟨c, b, rv, rows, rfl, _⟩ := h
    rfl
  · obtain ⟨c, b, rv, rows, rfl, hR, hU, k⟩ := h
    obtain ⟨ra, vs, rfl, hra, hrb⟩ := id hR
    have vl := hrb.len
    refine ⟨_, (pss_one (ps_ret (pe_callB (cr_sortSetA rfl) (by rfl) T.sorted (by decide +kernel) (pa_cons (pe_callTy (cr_setL rfl) (by rfl) T.set (by decide +kernel) (pa_cons (pe_lc2 (own := [("row", 1), ("thing", 2)]) (vs1 := [2]) (g := (gName 1)) (tt := tYes) (wi1 := (iAlt (iList K (tVar 1)) (iTup K (tVar 1)))) (g1 := (gName 2)) (tt1 := tYes) (te := (tVar 2)) (by rfl) sc_things_of.nd (pi_alt (pi_list (pv 0)) (pi_tup (pv 0))) (blkOk_by (own := [("row", 1), ("thing", 2)]) (N := n_things_of) (sc := (defScope s_things_of)) (by decide +kernel)) (by decide) (fun _ _ _ _ _ => (pg_name (i := 1) sc_things_of.nd rfl (Or.inl rfl))) (fun _ _ _ _ _ => pts_nil) (fun _ _ _ _ _ => (pi_alt (pi_list (pv 1)) (pi_tup (pv 1)))) (fun _ _ _ _ _ => (pg_name (i := 2) sc_things_of.nd rfl (Or.inl rfl))) (fun _ _ _ _ _ => pts_nil) (fun _ _ _ _ _ => (pv 2))) pa_nil)) pa_nil)))), ?_⟩
    refine alt_it (b := c) (xs := vs) (fun Q' q => ⟨_, rfl, q⟩) hra fun D hD => ?_
    refine walk_sq (b := c) (xs := vs) (fun i H' => H' D = some (.lst (((rows.take i).flatten).map V.int)) ∧ Same H H') ⟨upd_same, same_new hD⟩ (fun i H' _ hp => hra.same hp.2) ?_ ?_
    · rintro i x H1 hx ⟨h1, s1⟩
      obtain ⟨aa, r, rfl, hri, hqa⟩ := hrb.get hx
      have hir : i < rows.length := (List.getElem?_eq_some_iff.mp hri).1
      have lk : ∀ j, ((rows.take i).flatten ++ r.take j).length ≤ 4000 := fun j => by
        have e : rows = rows.take i ++ r :: rows.drop (i + 1) := by
          have := List.getElem?_eq_some_iff.mp hri
          rw [← this.2, ← List.drop_eq_getElem_cons, List.take_append_drop]
        have hU' : rows.flatten.length ≤ 4000 := hU
        rw [e, List.flatten_append, List.flatten_cons, List.length_append, List.length_append] at hU'
        rw [List.length_append, List.length_take]
        omega
      refine ⟨rfl, ?_⟩
      refine alt_it (b := b) (xs := r.map V.int) (fun Q' q => ⟨_, rfl, q⟩) (hqa.same s1) ?_
      refine walk_sq (b := b) (xs := r.map V.int) (fun j H' => H' D = some (.lst (((rows.take i).flatten ++ r.take j).map V.int)) ∧ Same H H') ⟨by rw [List.take_zero, List.append_nil]; exact h1, s1⟩ (fun i H' _ hp => hqa.same hp.2) ?_ ?_
      · rintro j y H2 hy ⟨h2, s2⟩
        obtain ⟨u, hu, rfl⟩ : ∃ u, r[j]? = some u ∧ y = V.int u := by
          rw [List.getElem?_map] at hy
          cases e : r[j]? with
          | none => rw [e] at hy; cases hy
          | some u => rw [e] at hy; exact ⟨u, rfl, (Option.some.inj hy).symm⟩
        refine ⟨rfl, _, rfl, _, h2, by rw [List.length_map]; exact small_lt (by have := lk j; omega), ?_, same_mut s2 hD⟩
        rw [upd_same, take_snoc hu, ← List.append_assoc, List.map_append (l₂ := [u])]
        rfl
      · rintro H2 ⟨h2, s2⟩
        rw [List.length_map, List.take_length] at h2
        refine ⟨?_, s2⟩
        rw [h2, take_snoc hri, List.flatten_append, List.flatten_singleton]
    · rintro H1 ⟨h1, s1⟩
      rw [List.take_of_length_le (by omega)] at h1
      refine ⟨D, rows.flatten, rfl, SqL.of h1, hU, fun a n ha hn _ => ?_⟩
      have hU' : rows.flatten.length ≤ 4000 := hU
      refine ⟨a, _, n, rfl, upd_same, by omega, fun ks L asc mem len hL => ?_⟩
      have s2 := s1.trans (same_new (o := SetO w a (fun j => decide (j ∈ rows.flatten)) n) ha)
      exact k ks L _ (s2.trans (same_new hL)) asc (fun z => (mem z).trans decide_eq_true_iff) (SqL.of upd_same)
def spRowsOf (K : PySem.W.Frag) : Sp := fun vs H Q _ => ∃ (b : Bool) (rv : V) (rows : List (List Int)) (pa : Addr) (ps : List Nat), vs = [rv, .ref pa] ∧ RowsQ b K H rv rows ∧ (∃ c, Sq c K H pa (ps.map nV)) ∧ ps.length ≤ 4000 ∧ (∀ p ∈ ps, p < rows.length) ∧
  ∀ l H', Same H H' → RowsX true b K H' (.ref l) (ps.map (Mt.row rows)) → Q (.ref l) H'
theorem ok_rows_of (A : At K mg "rows_of" s_rows_of ["rows", "people"]) (T : Tx mg) : Dfn P w K mg base "rows_of" ["rows", "people"] 1 (spRowsOf K) := by
  refine A.ok sc_rows_of (fun vs H Q E h => ?_) (fun f cdv A outer s H vs Q E hr h => ?_)
  · obtain ⟨b, rv, rows, pa, ps, rfl, _⟩ := h
    rfl
  · obtain ⟨b, rv, rows, pa, ps, rfl, hR, ⟨c, hpa⟩, hl, hlt, k⟩ := h
    obtain ⟨ra, vs, rfl, hra, hrb⟩ := id hR
    have vl := hrb.len
    refine ⟨_, (pss_one (ps_ret (pe_lc (own := [("person", 2)]) (g := (gName 2)) (tt := tYes) (te := (tOp (rAlt (rIxL K) (rIxT K)) (tVar 0) (tVar 2))) (by rfl) sc_rows_of.nd (pi_alt (pi_list (pv 1)) (pi_tup (pv 1))) (blkOk_by (own := [("person", 2)]) (N := n_rows_of) (sc := (defScope s_rows_of)) (by decide +kernel)) (fun _ _ _ _ _ => (pg_name (i := 2) sc_rows_of.nd rfl (Or.inl rfl))) (fun _ _ _ _ _ => pts_nil) (fun _ _ _ _ _ => (pe_ix ix_sq (pv 0) (pv 2) (fun _ _ => rfl)))))), ?_⟩
    refine alt_it (b := c) (xs := ps.map nV) (fun Q' q => ⟨_, rfl, q⟩) hpa fun D hD => ?_
    refine walk_sq (b := c) (xs := ps.map nV) (fun i H' => ∃ ws, H' D = some (.lst ws) ∧ RowsB b K H ws ((ps.take i).map (Mt.row rows)) ∧ Same H H') ⟨[], upd_same, .nil, same_new hD⟩ (fun i H' _ hp => by obtain ⟨_, _, _, s1⟩ := hp; exact hpa.same s1) ?_ ?_
    · rintro i x H1 hx ⟨ws, h1, hw, s1⟩
      obtain ⟨q, hq, rfl⟩ : ∃ q, ps[i]? = some q ∧ x = nV q := by
        rw [List.getElem?_map] at hx
        cases e : ps[i]? with
        | none => rw [e] at hx; cases hx
        | some u => rw [e] at hx; exact ⟨u, rfl, (Option.some.inj hx).symm⟩
      have qn := hlt q (List.mem_of_getElem? hq)
      have il := (List.getElem?_eq_some_iff.mp hq).1
      obtain ⟨aa, ha, hsa⟩ := hrb.at_ (List.getElem?_eq_getElem qn)
      have wl : ws.length ≤ 4000 := by rw [hw.len, List.length_map, List.length_take]; omega
      refine ⟨rfl, _, rfl, _, rfl, alt_ix (hra.same s1) (at_nat ha) ⟨_, h1, small_lt (by omega), ws ++ [.ref aa], upd_same, ?_, same_mut s1 hD⟩⟩
      rw [take_snoc hq, List.map_append]
      refine RowsB.snoc ?_ hw
      rw [show Mt.row rows q = rows[q] from Mt.row_get (List.getElem?_eq_getElem qn)]
      exact hsa
    · rintro H1 ⟨ws, h1, hw, s1⟩
      rw [List.length_map, List.take_length] at hw
      exact k D H1 s1 ⟨D, ws, rfl, SqL.of h1, hw.same s1⟩
end
end Fo
set_option maxRecDepth 100000
set_option maxHeartbeats 4000000
namespace Fo
open PySem PySem.Spec PyProof.Rows L2
section
variable {X : Cx}
def rSortedTT (K : PySem.W.Frag) : List V → Hp → VK → Prop := fun vs H Q => ∃ (a : Addr) (bs : List (Addr × List Int)), vs = [V.ref a] ∧ SqL K H a (bs.map fun b => V.ref b.1) ∧ (∀ b ∈ bs, SqT K H b.1 (b.2.map V.int) ∧ b.2 ≠ []) ∧
  ∀ (os : List (Addr × List Int)) p, os.Perm bs → (os.map fun b => b.2).Pairwise (· ≤ ·) → H p = none → Q (.ref p) (upd H p (.lst (os.map fun b => V.ref b.1)))
theorem cr_sortedTT (hu : X.A.units + 64 < cLine) : CallR X (.builtin "sorted") (rSortedTT X.K) := by
  intro pins s σ H vs us Q I r h
  obtain ⟨a, bs, rfl, hs, hb, q⟩ := h
  obtain ⟨its, rv, hl, hz⟩ := I.list hs
  obtain ⟨u, rfl, ru⟩ := r.one
  obtain rfl : u = Value.ref a := ru
  have ei := refs_of rv
  subst ei
  have bl : bs.length ≤ sizeLine := by
    have := hz
    simpa using this
  refine PySem.W.sorted_data (R := fun v (b : Addr × List Int) => v = Value.ref b.1) (enc := fun b => .tuple (b.2.map .int)) hl.isList (each_refs bs) (each_of fun b hm => ?_) (PySem.W.AllAlike.of fun b b' => ?_) (.inl fun d hd => ?_) bl (fun b _ => ?_) fun out ho eo => ?_
  · exact Dp.reads I (.tuple (b.2.map .int)) (V.ref b.1) (Value.ref b.1) (.tup (hb b hm).1 (dpAll_ints _)) rfl
  · exact PySem.W.alike_ints _ _
  · obtain ⟨b, hm, rfl⟩ := List.mem_map.mp hd
    have ne := (hb b hm).2
    cases e : b.2 with
    | nil => exact absurd e ne
    | cons y r => exact ⟨_, _, rfl⟩
  · show X.A.units + 2 + (PyData.tuple (b.2.map .int)).depth < cLine
    rw [PyData.depth, PySem.W.depth_ints]
    omega
  · obtain ⟨n, hn⟩ := sortedAll_at s.heap (bs.map fun b => Value.ref b.1) out.toArray
    have el : PySem.W.dataLe false (fun b : Addr × List Int => PyData.tuple (b.2.map .int)) = PySem.W.dataLe false (fun b : Addr × List Int => PyData.list (b.2.map .int)) := rfl
    rw [el, PySem.W.dataLe_rows] at eo
    have eo' := each_back eo
    have pm := List.mergeSort_perm bs fun p q => decide (p.2 ≤ q.2)
    have hf := I.hok.fresh (Nat.le_succ s.heap.objs.size)
    refine ⟨.ref (s.heap.objs.size + 1), _, I.laid (t' := s.toks) (o := .lst ((bs.mergeSort fun p q => decide (p.2 ≤ q.2)).map fun b => V.ref b.1)) (fun b o e => sortedAll_old e) (Nat.le_succ _) ⟨?_, out, n, ?_, hn⟩, rfl, q (bs.mergeSort fun p q => decide (p.2 ≤ q.2)) _ pm ?_ hf⟩
    · rw [List.length_map, pm.length_eq]; exact bl
    · rw [eo']
      exact refs_to _
    · rw [List.pairwise_map]
      refine (List.pairwise_mergeSort (fun a b c h1 h2 => ?_) (fun a b => ?_) bs).imp fun h => of_decide_eq_true h
      · exact decide_eq_true (List.le_trans (of_decide_eq_true h1) (of_decide_eq_true h2))
      · by_cases h : a.2 ≤ b.2
        · rw [decide_eq_true h]; rfl
        · rw [decide_eq_true (List.le_of_lt (List.not_le.mp h)), Bool.or_true]
end
/-- an environment of a scope alone -/
def envA (sc : Scope) : Env := { scope := sc, locals := 0, globals := 0, cells := [], qual := "", func := none, code := .none, frame := none, builtins := 0 }
/-- the scopes of the list comprehensions of an expression, the outer ones -/
def exLcs : Nat → Expr → List Scope
  | 0, _ => []
  | n + 1, e => match e with
    | .ListComp _ _ sc _ => [sc]
    | .DictComp _ _ _ sc _ => [sc]
    | .Call _ as _ _ => as.flatMap (exLcs n)
    | .Compare l _ rs _ => exLcs n l ++ rs.flatMap (exLcs n)
    | .BoolOp _ vs _ => vs.flatMap (exLcs n)
    | .BinOp l _ r _ => exLcs n l ++ exLcs n r
    | .UnaryOp _ x _ => exLcs n x
    | .IfExp t a b _ => exLcs n t ++ exLcs n a ++ exLcs n b
    | .Subscript o x _ => exLcs n o ++ exLcs n x
    | .List es _ => es.flatMap (exLcs n)
    | .Tuple es _ _ => es.flatMap (exLcs n)
    | _ => []
def stLcs (s : Stmt) : List Scope := match s with
  | .Assign _ e .. => exLcs 12 e
  | .Return (some e) _ => exLcs 12 e
  | .If t _ _ _ => exLcs 12 t
  | .Expr e _ => exLcs 12 e
  | .AugAssign _ _ e _ => exLcs 12 e
  | .For _ e _ _ _ => exLcs 12 e
  | _ => []
/-- the statement at a path; of an if: 2 k in the body, 2 k + 1 in the else -/
def stAt : Stmt → List Nat → Stmt
  | s, [] => s
  | s, k :: r => match s with
    | .For _ _ b _ _ => stAt (b[k]?.getD s) r
    | .While _ b _ _ => stAt (b[k]?.getD s) r
    | .If _ b e _ => stAt (((if k % 2 = 0 then b else e)[k / 2]?).getD s) r
    | .FunctionDef _ _ b .. => stAt (b[k]?.getD s) r
    | _ => s
/-- the scope of the j-th comprehension of the statement at a path -/
def lcIn (s : Stmt) (p : List Nat) (j : Nat) : Scope := ((stLcs (stAt s p))[j]?).getD (defScope s)
end Fo
set_option maxRecDepth 100000
set_option maxHeartbeats 2000000
namespace Fo
open PySem PySem.Spec PyProof.Rows L2
structure Lay (w : Nat) (d : PyData) : Prop where
  hd : d.hasDict = false
  sh : d.showable = true
  dp : d.depth ≤ w
  can : d.canLay0 = true
  ish : PyData.intsShort 13 d = true
structure LayAll (w : Nat) (ds : List PyData) : Prop where
  hd : PyData.hasDictAll ds = false
  sh : PyData.showableAll ds = true
  dp : PyData.depthAll ds ≤ w
  can : PyData.canLayAll0 ds = true
  ish : PyData.intsShortAll 13 ds = true
theorem LayAll.nil {w : Nat} : LayAll w [] := ⟨rfl, rfl, Nat.zero_le _, rfl, rfl⟩
theorem LayAll.cons {w : Nat} {d : PyData} {ds : List PyData} (a : Lay w d) (b : LayAll w ds) : LayAll w (d :: ds) := by
  refine ⟨?_, ?_, ?_, ?_, ?_⟩
  · show (d.hasDict || PyData.hasDictAll ds) = false
    rw [a.hd, b.hd]; rfl
  · show (d.showable && PyData.showableAll ds) = true
    rw [a.sh, b.sh]; rfl
  · show max d.depth (PyData.depthAll ds) ≤ w
    have := a.dp; have := b.dp; omega
  · show (d.canLay0 && PyData.canLayAll0 ds) = true
    rw [a.can, b.can]; rfl
  · show (PyData.intsShort 13 d && PyData.intsShortAll 13 ds) = true
    rw [a.ish, b.ish]; rfl
theorem LayAll.tup {w : Nat} {ds : List PyData} (a : LayAll w ds) : Lay (w + 1) (.tuple ds) := ⟨a.hd, a.sh, Nat.succ_le_succ a.dp, a.can, a.ish⟩
theorem LayAll.lst {w : Nat} {ds : List PyData} (a : LayAll w ds) : Lay (w + 1) (.list ds) := ⟨a.hd, a.sh, Nat.succ_le_succ a.dp, a.can, a.ish⟩
end Fo
set_option maxRecDepth 100000
set_option maxHeartbeats 4000000
namespace Fo
open PySem PySem.Spec PyProof.Rows L2
inductive PrsT (K : PySem.W.Frag) (H : Hp) : List V → List (List (List Int)) → Prop where
  | nil : PrsT K H [] []
  | cons {v : V} {vs : List V} {R : List (List Int)} {Rs : List (List (List Int))} (h : RowsAt K H v R) (t : PrsT K H vs Rs) : PrsT K H (v :: vs) (R :: Rs)
section
variable {K : PySem.W.Frag} {H H' : Hp}
theorem PrsT.len : ∀ {vs : List V} {Rs : List (List (List Int))}, PrsT K H vs Rs → vs.length = Rs.length
  | _, _, .nil => rfl
  | _, _, .cons _ t => congrArg (· + 1) t.len
theorem PrsT.same (e : Same H H') : ∀ {vs : List V} {Rs : List (List (List Int))}, PrsT K H vs Rs → PrsT K H' vs Rs
  | _, _, .nil => .nil
  | _, _, .cons h t => .cons (h.same e) (t.same e)
theorem PrsT.snoc {v : V} {R : List (List Int)} (h : RowsAt K H v R) : ∀ {vs : List V} {Rs : List (List (List Int))}, PrsT K H vs Rs → PrsT K H (vs ++ [v]) (Rs ++ [R])
  | _, _, .nil => .cons h .nil
  | _, _, .cons a t => .cons a (t.snoc h)
theorem RowsAt.put {f : Addr} {us ws : List V} (e : H f = some (.lst us)) {v : V} {R : List (List Int)} (h : RowsAt K H v R) : RowsAt K (upd H f (.lst ws)) v R := by
  obtain ⟨a, vs, rfl, ha, hr⟩ := h
  exact ⟨a, vs, rfl, sqT_put ha e, hr.put e⟩
theorem PrsT.put {f : Addr} {us ws : List V} (e : H f = some (.lst us)) : ∀ {vs : List V} {Rs : List (List (List Int))}, PrsT K H vs Rs → PrsT K (upd H f (.lst ws)) vs Rs
  | _, _, .nil => .nil
  | _, _, .cons h t => .cons (RowsAt.put e h) (t.put e)
theorem PrsT.get : ∀ {vs : List V} {Rs : List (List (List Int))} {i : Nat} {v : V}, PrsT K H vs Rs → vs[i]? = some v → ∃ R, Rs[i]? = some R ∧ RowsAt K H v R
  | _, _, 0, _, .cons h _, e => ⟨_, rfl, by cases e; exact h⟩
  | _, _, _ + 1, _, .cons _ t, e => t.get e
theorem PrsT.dp : ∀ {vs : List V} {Rs : List (List (List Int))}, PrsT K H vs Rs → DpAll K H vs (Rs.map dR)
  | _, _, .nil => .nil
  | _, _, .cons h t => .cons h.dp t.dp
end
end Fo
namespace Mt
theorem row_set {rows : Rows} {p q : Nat} {r : List Int} (hp : p < rows.length) : row (rows.set p r) q = if q = p then r else row rows q := by
  unfold row
  by_cases e : q = p
  · subst e
    rw [if_pos rfl, List.getElem?_set_self hp]
    rfl
  · rw [if_neg e, List.getElem?_set_ne (fun z => e z.symm)]
end Mt
namespace Mt
theorem cnt_pred {rows R : Rows} {p : List Int → Bool} (a1 : ∀ r ∈ rows, r.Pairwise (· < ·)) (a2 : ∀ r ∈ R, r.Pairwise (· < ·)) (h : ∀ D, Ds R D ↔ Ds rows D ∧ p D = true) : cnt [] R = ((deals rows).filter p).length := by
  rw [← deals_cnt]
  exact ((List.perm_ext_iff_of_nodup (deals_nd a2) ((deals_nd a1).filter _)).mpr fun x => by
    rw [mem_deals, h, List.mem_filter, mem_deals]).length_eq
theorem lx_asym {a b : List Int} (h : Lx a b) (h2 : Lx b a) : False := by
  obtain ⟨q, x, y, e1, e2, e3, e4⟩ := h
  obtain ⟨r, u, v, f1, f2, f3, f4⟩ := h2
  rcases Nat.lt_trichotomy q r with c | c | c
  · have := f1 q c
    rw [e2, e3] at this
    have := Option.some.inj this
    omega
  · subst c
    rw [e2] at f3
    rw [e3] at f2
    have := Option.some.inj f2
    have := Option.some.inj f3
    omega
  · have := e1 r c
    rw [f2, f3] at this
    have := Option.some.inj this
    omega
/-- a dealing begins so -/
def preB (pre D : List Int) : Bool := decide (D.take pre.length = pre)
theorem preB_snoc {pre D : List Int} {t : Int} : preB (pre ++ [t]) D = true ↔ preB pre D = true ∧ D[pre.length]? = some t := by
  unfold preB
  rw [decide_eq_true_eq, decide_eq_true_eq, List.length_append, List.length_singleton, List.take_add_one]
  constructor
  · intro h
    cases e : D[pre.length]? with
    | none =>
      rw [e] at h
      have h1 : (D.take pre.length).length = (pre ++ [t]).length := by rw [← h]; simp
      rw [List.length_append, List.length_take] at h1
      simp at h1
      omega
    | some u =>
      rw [e] at h
      have h' : D.take pre.length ++ [u] = pre ++ [t] := h
      have h2 := List.append_inj' h' rfl
      refine ⟨h2.1, ?_⟩
      have := (List.cons.inj h2.2).1
      rw [this]
  · rintro ⟨h1, h2⟩
    rw [h1, h2]
    rfl
theorem pre_get {pre D : List Int} (h : preB pre D = true) {i : Nat} (hi : i < pre.length) : D[i]? = pre[i]? := by
  have := of_decide_eq_true h
  have e : (D.take pre.length)[i]? = D[i]? := by rw [List.getElem?_take, if_pos hi]
  rw [← e, this]
theorem pre_lx {pre a b : List Int} {t u : Int} (ha : preB (pre ++ [t]) a = true) (hb : preB (pre ++ [u]) b = true) (h : t < u) : Lx a b := by
  obtain ⟨a1, a2⟩ := preB_snoc.mp ha
  obtain ⟨b1, b2⟩ := preB_snoc.mp hb
  exact ⟨pre.length, t, u, fun j hj => by rw [pre_get a1 hj, pre_get b1 hj], a2, b2, h⟩
/-- the dealings that begin so, by the next thing -/
theorem pre_split {L : List (List Int)} (hL : L.Pairwise Lx) {pre r : List Int} (hr : r.Pairwise (· < ·)) (h : ∀ D ∈ L, preB pre D = true → ∃ t ∈ r, D[pre.length]? = some t) :
    L.filter (preB pre) = r.flatMap fun t => L.filter (preB (pre ++ [t])) := by
  have nd : ∀ {l : List (List Int)}, l.Pairwise Lx → l.Nodup := fun p => p.imp fun {a b} z e => by subst e; exact lx_irr z
  have p1 := hL.filter (preB pre)
  have p2 : (r.flatMap fun t => L.filter (preB (pre ++ [t]))).Pairwise Lx := by
    rw [List.pairwise_flatMap]
    refine ⟨fun t _ => hL.filter _, hr.imp fun {t u} z x hx y hy => ?_⟩
    exact pre_lx (List.mem_filter.mp hx).2 (List.mem_filter.mp hy).2 z
  refine ((List.perm_ext_iff_of_nodup (nd p1) (nd p2)).mpr fun x => ?_).eq_of_pairwise (fun a b _ _ h1 h2 => (lx_asym h1 h2).elim) p1 p2
  rw [List.mem_filter, List.mem_flatMap]
  constructor
  · rintro ⟨h1, h2⟩
    obtain ⟨t, ht, e⟩ := h x h1 h2
    exact ⟨t, ht, List.mem_filter.mpr ⟨h1, preB_snoc.mpr ⟨h2, e⟩⟩⟩
  · rintro ⟨t, ht, hx⟩
    obtain ⟨h1, h2⟩ := List.mem_filter.mp hx
    exact ⟨h1, (preB_snoc.mp h2).1⟩
/-- rows behind the first ones' things -/
structure Blk (rows R : Rows) (pre : List Int) : Prop where
  len : R.length = rows.length
  asc : ∀ r ∈ R, r.Pairwise (· < ·)
  ds : ∀ D, Ds R D ↔ Ds rows D ∧ preB pre D = true
theorem Blk.init {rows : Rows} (asc : ∀ r ∈ rows, r.Pairwise (· < ·)) : Blk rows rows [] := ⟨rfl, asc, fun D => ⟨fun h => ⟨h, rfl⟩, fun h => h.1⟩⟩
theorem Blk.step {rows R : Rows} {pre : List Int} (b : Blk rows R pre) (hp : pre.length < rows.length) {t : Int} (ht : t ∈ row R pre.length) (asc : ∀ r ∈ narrow R pre.length t, r.Pairwise (· < ·)) : Blk rows (narrow R pre.length t) (pre ++ [t]) where
  len := by rw [narrow_len, b.len]
  asc := asc
  ds := fun D => by
    rw [ds_narrow (by rw [b.len]; exact hp) ht, b.ds, preB_snoc]
    exact and_assoc
theorem Blk.cnt {rows R : Rows} {pre : List Int} (b : Blk rows R pre) (asc : ∀ r ∈ rows, r.Pairwise (· < ·)) : cnt [] R = ((deals rows).filter (preB pre)).length := cnt_pred asc b.asc b.ds
theorem Blk.split {rows R : Rows} {pre : List Int} (b : Blk rows R pre) (asc : ∀ r ∈ rows, r.Pairwise (· < ·)) (hp : pre.length < rows.length) : (deals rows).filter (preB pre) = (row R pre.length).flatMap fun t => (deals rows).filter (preB (pre ++ [t])) := by
  refine pre_split (deals_lx asc) ?_ fun D hD hpre => ?_
  · have : row R pre.length = R[pre.length]'(by rw [b.len]; exact hp) := row_get (List.getElem?_eq_getElem (by rw [b.len]; exact hp))
    rw [this]
    exact b.asc _ (List.getElem_mem _)
  · have d := (b.ds D).mpr ⟨(mem_deals D).mp hD, hpre⟩
    obtain ⟨t, h1, h2⟩ := d.get (p := pre.length) (by rw [b.len]; exact hp)
    exact ⟨t, h2, h1⟩
/-- where a list stands in another, as a block from a place on -/
def At (L B : List (List Int)) (n : Nat) : Prop := ∃ A C, L = A ++ B ++ C ∧ A.length = n
theorem At.part {L B1 B2 B3 : List (List Int)} {n : Nat} (h : At L (B1 ++ B2 ++ B3) n) : At L B2 (n + B1.length) := by
  obtain ⟨A, C, e, l⟩ := h
  refine ⟨A ++ B1, B3 ++ C, ?_, by rw [List.length_append, l]⟩
  rw [e]
  simp
theorem At.get {L B : List (List Int)} {n i : Nat} (h : At L B n) (hi : i < B.length) : L[n + i]? = B[i]? := by
  obtain ⟨A, C, e, l⟩ := h
  rw [e, List.append_assoc, List.getElem?_append_right (by omega), l, Nat.add_sub_cancel_left, List.getElem?_append_left hi]
theorem Blk.part {rows R : Rows} {pre : List Int} (b : Blk rows R pre) (asc : ∀ r ∈ rows, r.Pairwise (· < ·)) (hp : pre.length < rows.length) (ascN : ∀ t ∈ row R pre.length, ∀ r ∈ narrow R pre.length t, r.Pairwise (· < ·)) {l : List Int} (hl : ∀ t ∈ l, t ∈ row R pre.length) :
    (l.flatMap fun t => (deals rows).filter (preB (pre ++ [t]))).length = (l.map fun t => Mt.cnt [] (narrow R pre.length t)).sum := by
  rw [List.length_flatMap]
  exact sum_congr fun t ht => ((b.step hp (hl t ht) (ascN t (hl t ht))).cnt asc).symm
theorem Blk.sum {rows R : Rows} {pre : List Int} (b : Blk rows R pre) (asc : ∀ r ∈ rows, r.Pairwise (· < ·)) (hp : pre.length < rows.length) (ascN : ∀ t ∈ row R pre.length, ∀ r ∈ narrow R pre.length t, r.Pairwise (· < ·)) : ((deals rows).filter (preB pre)).length = ((row R pre.length).map fun t => Mt.cnt [] (narrow R pre.length t)).sum := by
  rw [b.split asc hp]
  exact b.part asc hp ascN fun t ht => ht
theorem Blk.at_ {rows R : Rows} {pre : List Int} (b : Blk rows R pre) (asc : ∀ r ∈ rows, r.Pairwise (· < ·)) (hp : pre.length < rows.length) (ascN : ∀ t ∈ row R pre.length, ∀ r ∈ narrow R pre.length t, r.Pairwise (· < ·)) {n : Nat} (h : At (deals rows) ((deals rows).filter (preB pre)) n) {r1 r2 : List Int} {t : Int} (e : row R pre.length = r1 ++ t :: r2) :
    At (deals rows) ((deals rows).filter (preB (pre ++ [t]))) (n + (r1.map fun t => Mt.cnt [] (narrow R pre.length t)).sum) := by
  rw [← b.part asc hp ascN (l := r1) fun s hs => by rw [e]; exact List.mem_append_left _ hs]
  rw [b.split asc hp, e, List.flatMap_append, List.flatMap_cons, ← List.append_assoc] at h
  exact h.part
end Mt
namespace Mt
structure Keyed (n k : Nat) (st : List (List Int × Nat)) : Prop where
  nd : (st.map (·.1)).Nodup
  sub : ∀ q ∈ st.map (·.1), q.Sublist ((List.range n).map fun (i : Nat) => (i : Int))
  len : ∀ q ∈ st.map (·.1), q.length + k = n
theorem Keyed.nil {n k : Nat} : Keyed n k [] := ⟨List.nodup_nil, fun q h => (nomatch h), fun q h => (nomatch h)⟩
theorem Keyed.of {n k : Nat} {st : List (List Int × Nat)} (h : Keyed n k st) : ∀ q ∈ st, q.1.Sublist ((List.range n).map fun (i : Nat) => (i : Int)) ∧ q.1.length + k = n := fun q hq =>
  ⟨h.sub _ (List.mem_map.mpr ⟨q, hq, rfl⟩), h.len _ (List.mem_map.mpr ⟨q, hq, rfl⟩)⟩
/-- all parts of a list -/
def subsI : List Int → List (List Int)
  | [] => [[]]
  | x :: l => subsI l ++ (subsI l).map (x :: ·)
theorem subsI_len : ∀ l : List Int, (subsI l).length = 2 ^ l.length
  | [] => rfl
  | x :: l => by
    show (subsI l ++ _).length = 2 ^ (l.length + 1)
    rw [List.length_append, List.length_map, subsI_len l, Nat.pow_succ]
    omega
theorem mem_subsI {q l : List Int} (h : q.Sublist l) : q ∈ subsI l := by
  induction h with
  | slnil => exact List.mem_singleton.mpr rfl
  | cons a _ ih => exact List.mem_append_left _ ih
  | cons_cons a _ ih => exact List.mem_append_right _ (List.mem_map.mpr ⟨_, ih, rfl⟩)
theorem Keyed.num {n k : Nat} {st : List (List Int × Nat)} (h : Keyed n k st) : st.length ≤ 2 ^ n := by
  have := len_le h.nd fun q hq => mem_subsI (h.sub q hq)
  rw [List.length_map, subsI_len, List.length_map, List.length_range] at this
  exact this
theorem Keyed.last {n : Nat} {st : List (List Int × Nat)} (h : Keyed n n st) : getN st [] = wt (fun _ => 1) st := by
  have k0 : ∀ q ∈ st.map (·.1), q = [] := fun q hq => List.length_eq_zero_iff.mp (by have := h.len q hq; omega)
  match st, h.nd, k0 with
  | [], _, _ => rfl
  | [(L, w)], _, k0 =>
    have : L = [] := k0 L List.mem_cons_self
    subst this
    show (if ([] : List Int) = [] then w else getN [] []) = w * 1 + 0
    rw [if_pos rfl, Nat.mul_one, Nat.add_zero]
  | (L, w) :: (M, v) :: st, nd, k0 =>
    have h1 : L = [] := k0 L List.mem_cons_self
    have h2 : M = [] := k0 M (List.mem_cons_of_mem _ List.mem_cons_self)
    subst h1
    subst h2
    exact absurd List.mem_cons_self (List.nodup_cons.mp nd).1
def others (n p : Nat) : List Nat := (List.range n).filter fun q => decide (q ≠ p)
end Mt
namespace Mt
/-- names: alike only where people hang together, and so for all steps that are done -/
structure Named (rows : Rows) (N : List Int) (done : Nat → Nat → Prop) : Prop where
  len : N.length = rows.length
  conn : ∀ p q : Nat, ∀ x : Int, N[p]? = some x → N[q]? = some x → Conn rows p q
  same : ∀ p q : Nat, done p q → N[p]? = N[q]?
theorem Named.init {rows : Rows} : Named rows ((List.range rows.length).map fun (i : Nat) => (i : Int)) (fun _ _ => False) where
  len := by rw [List.length_map, List.length_range]
  conn := fun p q x h1 h2 => by
    rw [List.getElem?_map] at h1 h2
    cases e1 : (List.range rows.length)[p]? with
    | none => rw [e1] at h1; cases h1
    | some a =>
      cases e2 : (List.range rows.length)[q]? with
      | none => rw [e2] at h2; cases h2
      | some b =>
        rw [e1] at h1
        rw [e2] at h2
        have h1 : (a : Int) = x := Option.some.inj h1
        have h2 : (b : Int) = x := Option.some.inj h2
        have a1 := List.getElem?_range (show p < rows.length by have := (List.getElem?_eq_some_iff.mp e1).1; rwa [List.length_range] at this)
        have b1 := List.getElem?_range (show q < rows.length by have := (List.getElem?_eq_some_iff.mp e2).1; rwa [List.length_range] at this)
        rw [a1] at e1
        rw [b1] at e2
        have e1 := Option.some.inj e1
        have e2 := Option.some.inj e2
        have : p = q := by omega
        rw [this]
        exact .refl
  same := fun _ _ h => h.elim
theorem Named.iff {rows : Rows} {N : List Int} (h : Named rows N (Tied rows)) {p q : Nat} {x : Int} (hp : N[p]? = some x) : N[q]? = some x ↔ q < rows.length ∧ Conn rows p q := by
  constructor
  · intro hq
    exact ⟨by have := (List.getElem?_eq_some_iff.mp hq).1; rw [h.len] at this; exact this, h.conn p q x hp hq⟩
  · rintro ⟨_, hc⟩
    induction hc with
    | refl => exact hp
    | step _ ht ih => rw [← h.same _ _ ht]; exact ih (by obtain ⟨t, a, _⟩ := ht; exact row_lt a)
/-- all people of one name, ascending -/
def clsN (N : List Int) (x : Int) : List Nat := (List.range N.length).filter fun p => decide (N[p]? = some x)
theorem mem_clsN {N : List Int} {x : Int} {p : Nat} : p ∈ clsN N x ↔ N[p]? = some x := by
  unfold clsN
  rw [List.mem_filter, List.mem_range, decide_eq_true_iff]
  exact ⟨fun h => h.2, fun h => ⟨(List.getElem?_eq_some_iff.mp h).1, h⟩⟩
theorem clsN_asc {N : List Int} {x : Int} : (clsN N x).Pairwise (· < ·) := List.Pairwise.filter _ List.pairwise_lt_range
theorem asc_eqN {a b : List Nat} (ha : a.Pairwise (· < ·)) (hb : b.Pairwise (· < ·)) (h : ∀ x, x ∈ a ↔ x ∈ b) : a = b :=
  ((List.perm_ext_iff_of_nodup (ha.imp fun {_ _} z => Nat.ne_of_lt z) (hb.imp fun {_ _} z => Nat.ne_of_lt z)).mpr h).eq_of_pairwise (fun x y _ _ h1 h2 => by omega) ha hb
theorem asc_eqI {a b : List Int} (ha : a.Pairwise (· < ·)) (hb : b.Pairwise (· < ·)) (h : ∀ x, x ∈ a ↔ x ∈ b) : a = b :=
  ((List.perm_ext_iff_of_nodup (ha.imp fun {_ _} z e => by omega) (hb.imp fun {_ _} z e => by omega)).mpr h).eq_of_pairwise (fun x y _ _ h1 h2 => by omega) ha hb
/-- the classes of the names are the groups -/
theorem Named.groups {rows : Rows} {N : List Int} (h : Named rows N (Tied rows)) {G : List (List Nat)} (hG : Groups rows G) : ∀ g, g ∈ G ↔ ∃ x ∈ N, g = clsN N x := fun g => by
  have cls : ∀ g ∈ G, ∀ p ∈ g, ∀ x, N[p]? = some x → g = clsN N x := fun g hg p hp x hx => asc_eqN (hG.asc g hg) clsN_asc fun q => by
    rw [mem_clsN, h.iff hx]
    constructor
    · exact fun hq => ⟨hG.lt hg hq, hG.conn g hg p hp q hq⟩
    · rintro ⟨hq, hc⟩
      induction hc with
      | refl => exact hp
      | step _ ht ih =>
        have hb : ∃ t, t ∈ row rows _ := let ⟨t, a, _⟩ := ht; ⟨t, a⟩
        obtain ⟨t, a, b⟩ := ht
        exact hG.tied hg (ih (row_lt a)) hq ⟨t, a, b⟩
  constructor
  · intro hg
    obtain ⟨p, hp⟩ := List.exists_mem_of_ne_nil g (hG.ne g hg)
    have pl : p < N.length := by rw [h.len]; exact hG.lt hg hp
    exact ⟨N[p], List.getElem_mem pl, cls g hg p hp _ (List.getElem?_eq_getElem pl)⟩
  · rintro ⟨x, hx, rfl⟩
    obtain ⟨p, hp⟩ := List.getElem?_of_mem hx
    have pl : p < rows.length := by rw [← h.len]; exact (List.getElem?_eq_some_iff.mp hp).1
    obtain ⟨c, hc, hpc⟩ := List.mem_flatten.mp (hG.perm.mem_iff.mpr (List.mem_range.mpr pl))
    rw [← cls c hc p hpc x hp]
    exact hc
end Mt
namespace Mt
def rangeZ (n : Nat) : List Int := (List.range n).map fun (i : Nat) => (i : Int)
def fullR (n : Nat) : Rows := List.replicate n (rangeZ n)
end Mt
set_option maxRecDepth 100000
set_option maxHeartbeats 4000000
namespace Fo
open PySem PySem.Spec PyProof.Rows L2
abbrev s_pieces : Stmt := top 40
abbrev n_pieces : List Str := ["table", "live", "people"]
theorem sc_pieces : FnScope n_pieces ["table"] (defScope s_pieces) := ⟨rfl, rfl, rfl, by decide +kernel, rfl, by decide +kernel, by decide +kernel⟩
section
variable {P : Program} {w : World} {K : PySem.W.Frag} {mg : Str → Option Value} {base : Heap} {C : Addr}
/-- the things of a piece -/
noncomputable def thgR (rows : List (List Int)) (g : List Nat) : List Int := (Mt.rangeZ rows.length).filter fun t => @decide (∃ p ∈ g, t ∈ Mt.row (Mt.liveR rows) p) (Classical.propDecidable _)
theorem thgR_asc {rows : List (List Int)} {g : List Nat} : (thgR rows g).Pairwise (· < ·) := by
  unfold thgR Mt.rangeZ
  exact (List.pairwise_map.mpr (List.pairwise_lt_range.imp fun h => by omega)).filter _
theorem mem_thgR {rows : List (List Int)} (G : Good rows) {g : List Nat} {t : Int} : t ∈ thgR rows g ↔ ∃ p ∈ g, t ∈ Mt.row (Mt.liveR rows) p := by
  unfold thgR
  rw [List.mem_filter]
  constructor
  · exact fun h => @of_decide_eq_true _ (Classical.propDecidable _) h.2
  · intro h
    refine ⟨?_, @decide_eq_true _ (Classical.propDecidable _) h⟩
    obtain ⟨p, _, ht⟩ := h
    rw [Mt.row_liveR] at ht
    have := G.row_rng (List.mem_filter.mp ht).1
    exact List.mem_map.mpr ⟨t.toNat, List.mem_range.mpr (by omega), by omega⟩
noncomputable def pieceR (rows : List (List Int)) (g : List Nat) : List (List Int) := [natI g, thgR rows g]
def spPieces (K : PySem.W.Frag) (C : Addr) : Sp := fun vs H Q _ => ∃ (x : V) (rows : List (List Int)), vs = [x] ∧ TableAt K C H x rows ∧ Good rows ∧ rows.length ≤ 40 ∧ (∃ D, Mt.Ds rows D) ∧
  ∀ (G : List (List Nat)) l ws H', Mt.Groups (Mt.liveR rows) G → (G.map natI).Pairwise (· ≤ ·) → Same H H' → H l = none → H' l = some (.lst ws) → PrsT K H' ws (G.map (pieceR rows)) → Q (.ref l) H'
theorem ok_pieces (A : At K mg "pieces" s_pieces ["table"]) (T : Tx mg) (tc : TC K C) (G_live_of : Dfn P w K mg base "live_of" ["table"] 5 (spLiveOf K C)) (G_groups : Dfn P w K mg base "groups" ["rows"] 1 (spGroups K)) (G_things_of : Dfn P w K mg base "things_of" ["rows"] 1 (spThings K)) (G_rows_of : Dfn P w K mg base "rows_of" ["rows", "people"] 1 (spRowsOf K)) : Dfn P w K mg base "pieces" ["table"] 6 (spPieces K C) := by
  refine A.ok sc_pieces (fun vs H Q E h => ?_) (fun f cdv A outer s H vs Q E hr h => ?_)
  · obtain ⟨_, _, rfl, _⟩ := h
    rfl
  · obtain ⟨x, rows, rfl, tb, G, hn, yes, k⟩ := h
    refine ⟨_, (pss_cons (ps_set (i := 1) sc_pieces.nd rfl (Or.inr rfl) (pe_d G_live_of (hr.mono (by decide)) (pa_cons (pv 0) pa_nil)))
      (pss_one (ps_ret (pe_lc (own := [("people", 2)]) (g := (gName 2)) (tt := tYes) (te := (tTup (tCons (tCB (rTupOf K) (tCons (tVar 2) tNil)) (tCons (tCB (rTupOf K) (tCons (tCall (spThings K) [] E0 (tCons (tCall (spRowsOf K) [] E0 (tCons (tVar 1) (tCons (tVar 2) tNil))) tNil)) tNil)) tNil)))) (by rfl) sc_pieces.nd (pi_list (pe_d G_groups (hr.mono (by decide)) (pa_cons (pv 1) pa_nil))) (blkOk_by (own := [("people", 2)]) (N := n_pieces) (sc := (defScope s_pieces)) (by decide +kernel)) (fun _ _ _ _ _ => (pg_name (i := 2) sc_pieces.nd rfl (Or.inl rfl))) (fun _ _ _ _ _ => pts_nil) (fun _ _ _ _ _ => (pe_tup (pa_cons (pe_callTy c_tuple (by rfl) T.tuple (by decide +kernel) (pa_cons (pv 2) pa_nil)) (pa_cons (pe_callTy c_tuple (by rfl) T.tuple (by decide +kernel) (pa_cons (pe_d G_things_of (hr.mono (by decide)) (pa_cons (pe_d G_rows_of (hr.mono (by decide)) (pa_cons (pv 1) (pa_cons (pv 2) pa_nil))) pa_nil)) pa_nil)) pa_nil)))))))), ?_⟩
    refine ⟨_, rfl, x, rows, rfl, tb, G, hn, yes, fun l H1 s1 fl hl => ?_⟩
    have lr40 : ∀ r ∈ Mt.liveR rows, r.length ≤ 40 := fun r hr => Nat.le_trans (G.live.row_len r hr) (by rw [Mt.liveR_len]; exact hn)
    refine ⟨_, rfl, .ref l, _, rfl, hl, by rw [Mt.liveR_len]; exact hn, lr40, fun F gl H2 hF up s2 fgl hgl => ?_⟩
    have s12 := s1.trans s2
    obtain ⟨ga, gvs, e, hga, hgb⟩ := id hgl
    cases e
    have gvl := hgb.len
    rw [List.length_map] at gvl
    have gnum := hF.num
    rw [Mt.liveR_len] at gnum
    refine ⟨gl, rfl, ⟨_, hga⟩, fun D hD => ?_⟩
    refine lc_list (xs := gvs) (fun i H' => ∃ ws, H' D = some (.lst ws) ∧ PrsT K H' ws ((F.take i).map (pieceR rows)) ∧ Same H2 H') ⟨[], upd_same, .nil, same_new hD⟩ (fun i H' _ hp => by obtain ⟨_, _, _, s⟩ := hp; exact s.seq hga) ?_ ?_
    · rintro i y H3 hy ⟨ws, h3, hw, s3⟩
      obtain ⟨pa, gi, ex, hgi, hpa⟩ := hgb.get hy
      subst ex
      have iF : i < F.length := by have := (List.getElem?_eq_some_iff.mp hy).1; omega
      obtain ⟨g, hg, eg⟩ : ∃ g, F[i]? = some g ∧ gi = natI g := by
        rw [List.getElem?_map, List.getElem?_eq_getElem iF] at hgi
        exact ⟨_, List.getElem?_eq_getElem iF, (Option.some.inj hgi).symm⟩
      subst eg
      have gm := List.mem_of_getElem? hg
      have gle := hF.len gm
      rw [Mt.liveR_len] at gle
      have wl := hw.len
      rw [List.length_map, List.length_take] at wl
      have hpaL : SqL K H3 pa ((natI g).map V.int) := s3.seq hpa
      refine ⟨rfl, _, rfl, pa, _, rfl, .inl ⟨hpaL, fun c hc => ?_⟩⟩
      have s4 := same_new (o := .tup ((natI g).map V.int)) hc
      have hn0 : (natI g).map V.int = g.map nV := by unfold natI; rw [List.map_map]; rfl
      refine ⟨_, rfl, _, rfl, true, .ref l, Mt.liveR rows, pa, g, rfl, (hl.same s2).same (s3.trans s4), ⟨true, by rw [← hn0]; exact s4.seq hpaL⟩, by omega, fun p hp => hF.lt gm hp, fun l2 H5 s5 hX => ?_⟩
      have s35 := s4.trans s5
      have thl : (Mt.things (g.map (Mt.row (Mt.liveR rows)))).length ≤ 4000 := by
        have h1 := flat_len (n := 40) (l := g.map (Mt.row (Mt.liveR rows))) fun r hr => by
          obtain ⟨p, hp, rfl⟩ := List.mem_map.mp hr
          have hl := hF.lt gm hp
          rw [Mt.row_get (List.getElem?_eq_getElem hl)]
          exact lr40 _ (List.getElem_mem hl)
        rw [List.length_map] at h1
        show (g.map (Mt.row (Mt.liveR rows))).flatten.length ≤ 4000
        omega
      refine ⟨true, true, .ref l2, _, rfl, hX, thl, fun ks p H6 s6 asc mem hp => ?_⟩
      have eks : ks = thgR rows g := Mt.asc_eqI asc thgR_asc fun t => by
        rw [mem_thgR G, mem]
        show t ∈ (g.map (Mt.row (Mt.liveR rows))).flatten ↔ _
        rw [List.mem_flatten]
        constructor
        · rintro ⟨r, hr, ht⟩
          obtain ⟨q, hq, rfl⟩ := List.mem_map.mp hr
          exact ⟨q, hq, ht⟩
        · rintro ⟨q, hq, ht⟩
          exact ⟨_, List.mem_map.mpr ⟨q, hq, rfl⟩, ht⟩
      subst eks
      have s36 := s35.trans s6
      refine ⟨p, _, rfl, .inl ⟨hp, fun d hd => ⟨by show 2 ≤ sizeLine; decide, fun e he => ?_⟩⟩⟩
      have s7 := same_new (o := .tup ((thgR rows g).map V.int)) hd
      have s8 := same_new (o := .tup [V.ref c, V.ref d]) he
      have s38 := (s36.trans s7).trans s8
      refine ⟨ws, s38 _ _ h3, small_lt (by omega), _, upd_same, ?_, same_mut (s3.trans s38) hD⟩
      rw [List.take_add_one, hg, List.map_append]
      refine (PrsT.snoc (R := pieceR rows g) ?_ (hw.same s38)).put (s38 _ _ h3)
      exact ⟨e, _, rfl, SqT.of upd_same, .cons (sqT_same ((s5.trans s6).trans (s7.trans s8)) (SqT.of upd_same)) (.cons (sqT_same s8 (SqT.of upd_same)) .nil)⟩
    · rintro H3 ⟨ws, h3, hw, s3⟩
      rw [gvl, List.take_length] at hw
      exact k F D ws H3 hF up (s12.trans s3) (s12.free hD) h3 hw
end
end Fo
set_option maxRecDepth 100000
set_option maxHeartbeats 4000000
namespace Mt
/-- the first other person who may get the thing -/
def opP (L : Rows) (p : Nat) (t : Int) : Nat := (((List.range L.length).filter fun q => decide (q ≠ p) && decide (t ∈ row L q))[0]?).getD 0
/-- the first other thing of the person -/
def otT (L : Rows) (q : Nat) (t : Int) : Int := (((row L q).filter fun u => decide (u ≠ t))[0]?).getD 0
structure RingG (L : Rows) (g : List Nat) : Prop where
  two : ∀ p ∈ g, ∃ a b, a ≠ b ∧ row L p = [a, b]
  thing : ∀ p ∈ g, ∀ t ∈ row L p, ∃ q, q ≠ p ∧ q ∈ g ∧ t ∈ row L q ∧ ∀ r, t ∈ row L r → r = p ∨ r = q
theorem head_of {α : Type} {l : List α} {f : α → Bool} {x d : α} (hx : x ∈ l) (fx : f x = true) (one : ∀ y ∈ l, f y = true → y = x) : (l.filter f)[0]? = some x := by
  have hm : x ∈ l.filter f := List.mem_filter.mpr ⟨hx, fx⟩
  have p0 := List.length_pos_of_mem hm
  have e := List.getElem?_eq_getElem p0
  have := List.mem_filter.mp (List.mem_of_getElem? e)
  rw [e, one _ this.1 this.2]
section
variable {L : Rows} {g : List Nat}
theorem RingG.op (h : RingG L g) {p : Nat} {t : Int} (hp : p ∈ g) (ht : t ∈ row L p) : opP L p t ≠ p ∧ opP L p t ∈ g ∧ t ∈ row L (opP L p t) ∧ (∀ r, t ∈ row L r → r = p ∨ r = opP L p t) ∧ ((List.range L.length).filter fun q => decide (q ≠ p) && decide (t ∈ row L q))[0]? = some (opP L p t) := by
  obtain ⟨q, h1, h2, h3, h4⟩ := h.thing p hp t ht
  have e : ((List.range L.length).filter fun q => decide (q ≠ p) && decide (t ∈ row L q))[0]? = some q := head_of (d := 0) (List.mem_range.mpr (row_lt h3)) (by rw [decide_eq_true h1, decide_eq_true h3]; rfl) fun y hy fy => by
    rw [Bool.and_eq_true] at fy
    exact (h4 y (of_decide_eq_true fy.2)).resolve_left (of_decide_eq_true fy.1)
  have eq : opP L p t = q := by unfold opP; rw [e]; rfl
  rw [eq]
  exact ⟨h1, h2, h3, h4, e⟩
theorem RingG.ot (h : RingG L g) {q : Nat} {t : Int} (hq : q ∈ g) (ht : t ∈ row L q) : otT L q t ≠ t ∧ otT L q t ∈ row L q ∧ (∀ u ∈ row L q, u = t ∨ u = otT L q t) ∧ ((row L q).filter fun u => decide (u ≠ t))[0]? = some (otT L q t) := by
  obtain ⟨a, b, ab, e⟩ := h.two q hq
  have go : ∀ x y : Int, x ≠ y → (∀ u, u ∈ row L q ↔ u = x ∨ u = y) → t = x → otT L q t ≠ t ∧ otT L q t ∈ row L q ∧ (∀ u ∈ row L q, u = t ∨ u = otT L q t) ∧ ((row L q).filter fun u => decide (u ≠ t))[0]? = some (otT L q t) := fun x y xy m tx => by
    have e : ((row L q).filter fun u => decide (u ≠ t))[0]? = some y := head_of (d := 0) ((m y).mpr (.inr rfl)) (decide_eq_true fun z => xy (by rw [← tx, z])) fun u hu fu => ((m u).mp hu).resolve_left fun z => of_decide_eq_true fu (by rw [z, tx])
    have eq : otT L q t = y := by unfold otT; rw [e]; rfl
    rw [eq]
    exact ⟨fun z => xy (by rw [← tx, z]), (m y).mpr (.inr rfl), fun u hu => ((m u).mp hu).imp (fun z => by rw [z, tx]) id, e⟩
  have m1 : ∀ u, u ∈ row L q ↔ u = a ∨ u = b := fun u => by rw [e]; simp
  rcases (m1 t).mp ht with ta | tb
  · exact go a b ab m1 ta
  · exact go b a (fun z => ab z.symm) (fun u => (m1 u).trans or_comm) tb
/-- the way round -/
def wkR (L : Rows) (s : Nat) : Nat → Nat × Int
  | 0 => (s, ((row L s)[0]?).getD 0)
  | k + 1 => (opP L (wkR L s k).1 (wkR L s k).2, otT L (opP L (wkR L s k).1 (wkR L s k).2) (wkR L s k).2)
theorem RingG.in_ (h : RingG L g) {s : Nat} (hs : s ∈ g) : ∀ k, (wkR L s k).1 ∈ g ∧ (wkR L s k).2 ∈ row L (wkR L s k).1
  | 0 => by
    obtain ⟨a, b, _, e⟩ := h.two s hs
    refine ⟨hs, ?_⟩
    show ((row L s)[0]?).getD 0 ∈ row L s
    rw [e]
    exact List.mem_cons_self
  | k + 1 => by
    obtain ⟨h1, h2⟩ := h.in_ hs k
    obtain ⟨_, o2, o3, _⟩ := h.op h1 h2
    obtain ⟨_, t2, _⟩ := h.ot o2 o3
    exact ⟨o2, t2⟩
theorem RingG.step (h : RingG L g) {s : Nat} (hs : s ∈ g) (k : Nat) : (wkR L s (k + 1)).1 ≠ (wkR L s k).1 ∧ (wkR L s k).2 ∈ row L (wkR L s (k + 1)).1 ∧ (∀ r, (wkR L s k).2 ∈ row L r → r = (wkR L s k).1 ∨ r = (wkR L s (k + 1)).1) ∧ (wkR L s (k + 1)).2 ≠ (wkR L s k).2 ∧ ∀ u ∈ row L (wkR L s (k + 1)).1, u = (wkR L s k).2 ∨ u = (wkR L s (k + 1)).2 := by
  obtain ⟨h1, h2⟩ := h.in_ hs k
  obtain ⟨o1, o2, o3, o4, _⟩ := h.op h1 h2
  obtain ⟨t1, _, t3, _⟩ := h.ot o2 o3
  exact ⟨o1, o3, o4, t1, t3⟩
theorem RingG.apart (h : RingG L g) {s : Nat} (hs : s ∈ g) : ∀ j, (∀ k, 1 ≤ k → k ≤ j → (wkR L s k).1 ≠ s) → ∀ i, i < j → (wkR L s i).1 ≠ (wkR L s j).1 := by
  intro j
  induction j using Nat.strongRecOn with
  | ind j ih =>
    intro nr i ij e
    match i, j, ij with
    | 0, j + 1, _ => exact nr (j + 1) (by omega) (Nat.le_refl _) e.symm
    | i + 1, j + 1, ij =>
      obtain ⟨a1, a2, a3, a4, a5⟩ := h.step hs i
      obtain ⟨b1, b2, b3, b4, b5⟩ := h.step hs j
      obtain ⟨c1, c2, c3, c4, c5⟩ := h.step hs (i + 1)
      have pj := h.in_ hs j
      have dis : ∀ m, m < j → (wkR L s m).1 ≠ (wkR L s j).1 := ih j (by omega) (fun k h1 h2 => nr k h1 (by omega))
      have hu : (wkR L s j).2 ∈ row L (wkR L s (i + 1)).1 := by rw [e]; exact b2
      rcases a5 _ hu with q | q
      · -- the same thing as the one ahead
        have hm : (wkR L s i).2 ∈ row L (wkR L s j).1 := by rw [← q]; exact pj.2
        rcases a3 _ hm with z | z
        · exact dis i (by omega) z.symm
        · exact b1 (e.symm.trans z.symm)
      · have hm : (wkR L s (i + 1)).2 ∈ row L (wkR L s j).1 := by rw [← q]; exact pj.2
        rcases c3 _ hm with z | z
        · exact b1 (e.symm.trans z.symm)
        · rcases Nat.lt_trichotomy (i + 2) j with c | c | c
          · exact dis (i + 2) c z.symm
          · subst c
            exact c4 q
          · have : j = i + 1 := by omega
            subst this
            exact b1 e.symm
theorem RingG.back (h : RingG L g) {s : Nat} (hs : s ∈ g) : ∃ r, 1 ≤ r ∧ r ≤ g.length ∧ (wkR L s r).1 = s ∧ ∀ k, 1 ≤ k → k < r → (wkR L s k).1 ≠ s := by
  have ex : ∃ r, 1 ≤ r ∧ r ≤ g.length ∧ (wkR L s r).1 = s := by
    refine Classical.byContradiction fun no => ?_
    have nr : ∀ k, 1 ≤ k → k ≤ g.length → (wkR L s k).1 ≠ s := fun k h1 h2 e => no ⟨k, h1, h2, e⟩
    have nd : ((List.range (g.length + 1)).map fun k => (wkR L s k).1).Nodup := by
      refine List.pairwise_iff_getElem.mpr fun i j hi hj hij => ?_
      rw [List.length_map, List.length_range] at hi hj
      rw [List.getElem_map, List.getElem_map, List.getElem_range, List.getElem_range]
      exact h.apart hs j (fun k h1 h2 => nr k h1 (by omega)) i hij
    have := len_le nd (l2 := g) fun x hx => by
      obtain ⟨k, _, rfl⟩ := List.mem_map.mp hx
      exact (h.in_ hs k).1
    rw [List.length_map, List.length_range] at this
    omega
  obtain ⟨r, h1, h2, h3⟩ := ex
  induction r using Nat.strongRecOn with
  | ind r ih =>
    by_cases c : ∃ k, 1 ≤ k ∧ k < r ∧ (wkR L s k).1 = s
    · obtain ⟨k, k1, k2, k3⟩ := c
      exact ih k k2 k1 (by omega) k3
    · exact ⟨r, h1, h2, h3, fun k k1 k2 k3 => c ⟨k, k1, k2, k3⟩⟩
end
end Mt
set_option maxRecDepth 100000
set_option maxHeartbeats 2000000
set_option maxRecDepth 100000
set_option maxHeartbeats 2000000
set_option maxRecDepth 100000
set_option maxHeartbeats 4000000
namespace Fo
open PySem PySem.Spec PyProof.Rows L2
theorem cnt_vals {y : V} : ∀ {ys : List V} {its : List Value}, Vals ys its → ys.all flatV = true → its.countP (eqU y) = ys.countP fun z => eqV z y
  | _, _, .nil, _ => rfl
  | _, _, .cons r t, h => by
    rw [List.all_cons, Bool.and_eq_true] at h
    rw [List.countP_cons, List.countP_cons, cnt_vals t h.2, eqU_of r h.1]
def rCntV (K : PySem.W.Frag) : V → List V → Hp → VK → Prop := fun x xs H Q => ∃ (p : Addr) (ys : List V) (y : V), x = .ref p ∧ xs = [y] ∧ SqL K H p ys ∧ flatV y = true ∧ ys.all flatV = true ∧ Q (.int ((ys.countP fun z => eqV z y : Nat) : Int)) H
theorem mt_countV {X : Cx} : MtR X "list.count" (rCntV X.K) := by
  intro pins s σ H x xs v us Q I rx rxs h
  obtain ⟨p, ys, y, rfl, rfl, hs, fy, fys, q⟩ := h
  cases rx
  cases rxs with
  | cons ry rt =>
    rename_i uy ut
    cases rt
    obtain ⟨its, rv, ⟨⟨cls, dd, data, sl⟩, n, ho, hc, hdn, hd⟩, hlen⟩ := I.list hs
    simp only at hc hd
    subst hc hd
    refine call_meets PySem.F.slot_list_count ⟨_, ho, rfl⟩ PySem.F.entry_list_count (PySem.F.args_list_count_2 _ _)
      (SeqAt.list_countAt p its.toArray n dd sl uy (eqU y)) ⟨ho, fun u' hu' => mem_eqAt ry fy rv fys u' (by simpa using hu'), ?_⟩
    have ec : its.toArray.toList.countP (eqU y) = ys.countP fun z => eqV z y := cnt_vals rv fys
    refine ⟨.int ((ys.countP fun z => eqV z y : Nat) : Int), H, I.tok _, ⟨s.toks, ?_⟩, q⟩
    show Value.int ((its.toArray.toList.countP (eqU y) : Nat) : Int) s.toks = _
    rw [ec]
end Fo
set_option maxRecDepth 100000
set_option maxHeartbeats 4000000
namespace Fo
open PySem PySem.Spec PyProof.Rows L2
abbrev s_piece_kinds : Stmt := top 41
abbrev n_piece_kinds : List Str := ["table", "live", "people"]
theorem sc_piece_kinds : FnScope n_piece_kinds ["table"] (defScope s_piece_kinds) := ⟨rfl, rfl, rfl, by decide +kernel, rfl, by decide +kernel, by decide +kernel⟩
abbrev s_kind_of : Stmt := top 42
abbrev n_kind_of : List Str := ["live", "people", "person"]
theorem sc_kind_of : FnScope n_kind_of ["live", "people"] (defScope s_kind_of) := ⟨rfl, rfl, rfl, by decide +kernel, rfl, by decide +kernel, by decide +kernel⟩
abbrev s_is_ring : Stmt := top 43
abbrev n_is_ring : List Str := ["live", "people", "given", "person", "thing"]
theorem sc_is_ring : FnScope n_is_ring ["live", "people"] (defScope s_is_ring) := ⟨rfl, rfl, rfl, by decide +kernel, rfl, by decide +kernel, by decide +kernel⟩
def givenL (L : List (List Int)) (g : List Nat) : List Int := (g.map (Mt.row L)).flatten
def fullG (L : List (List Int)) (g : List Nat) : Bool := g.all fun p => decide ((Mt.row L p).length = g.length)
def ringB (L : List (List Int)) (g : List Nat) : Bool := (g.all fun p => decide ((Mt.row L p).length = 2)) && ((givenL L g).all fun t => decide ((givenL L g).count t = 2))
def kindS (L : List (List Int)) (g : List Nat) : Str := if fullG L g = true then "full" else if ringB L g = true then "ring" else "other"
theorem nat_atK {g : List Nat} {j : Nat} {y : V} (h : ((natI g).map V.int)[j]? = some y) : ∃ p, g[j]? = some p ∧ y = .int (p : Int) := by
  unfold natI at h
  rw [List.getElem?_map, List.getElem?_map] at h
  cases e : g[j]? with
  | none => rw [e] at h; cases h
  | some p => rw [e] at h; exact ⟨p, rfl, (Option.some.inj h).symm⟩
theorem cnt_eqV (ns : List Int) (u : Int) : ((ns.map V.int).countP fun z => eqV z (V.int u)) = ns.count u := by
  rw [List.countP_map]
  unfold List.count
  refine List.countP_congr fun x _ => ?_
  show decide (x = u) = true ↔ (x == u) = true
  rw [decide_eq_true_iff, beq_iff_eq]
theorem intn_dec (m n : Nat) : decide (V.int (m : Int) = V.int (n : Int)) = decide (m = n) := decide_eq_decide.mpr ⟨fun h => by injection h with h; omega, fun h => by rw [h]⟩
theorem row_in {L : List (List Int)} {p : Nat} (h : p < L.length) : Mt.row L p = L[p] := Mt.row_get (List.getElem?_eq_getElem h)
section
variable {P : Program} {w : World} {K : PySem.W.Frag} {mg : Str → Option Value} {base : Heap} {C : Addr}
def spRingE (K : PySem.W.Frag) : Sp := fun vs H Q _ => ∃ (a b : Addr) (rows : List (List Int)) (g : List Nat), vs = [.ref a, .ref b] ∧ RowsQ true K H (.ref a) rows ∧ SqL K H b ((natI g).map V.int) ∧ (∀ p ∈ g, p < rows.length) ∧ (∀ r ∈ rows, r.length ≤ 40) ∧ g.length ≤ 40 ∧ ∀ H', Same H H' → Q (.bl (ringB rows g)) H'
def spKindE (K : PySem.W.Frag) : Sp := fun vs H Q _ => ∃ (a b : Addr) (rows : List (List Int)) (g : List Nat), vs = [.ref a, .ref b] ∧ RowsQ true K H (.ref a) rows ∧ SqL K H b ((natI g).map V.int) ∧ (∀ p ∈ g, p < rows.length) ∧ (∀ r ∈ rows, r.length ≤ 40) ∧ g.length ≤ 40 ∧ ∀ H', Same H H' → Q (.str (kindS rows g)) H'
theorem ok_ringE (A : At K mg "_is_ring" s_is_ring ["live", "people"]) (T : Tx mg) : Dfn P w K mg base "_is_ring" ["live", "people"] 1 (spRingE K) := by
  refine A.ok sc_is_ring (fun vs H Q E h => ?_) (fun f cdv A outer s H vs Q E hr h => ?_)
  · obtain ⟨_, _, _, _, rfl, _⟩ := h
    rfl
  · obtain ⟨a, b, rows, g, rfl, hR, hb, hg, hr40, hl, k⟩ := h
    obtain ⟨la, lvs, e, hla, hlb⟩ := id hR
    cases e
    have gl : (natI g).length = g.length := by unfold natI; rw [List.length_map]
    have ln : ∀ i, (((g.take i).map (Mt.row rows)).flatten).length ≤ 1600 := fun i => by
      refine Nat.le_trans (flat_len (n := 40) fun r hr => ?_) (Nat.le_trans (Nat.mul_le_mul (by rw [List.length_map, List.length_take]; omega : _ ≤ 40) (Nat.le_refl 40)) (by decide))
      obtain ⟨p, hp, rfl⟩ := List.mem_map.mp hr
      have := hg p (List.mem_of_mem_take hp)
      rw [row_in this]
      exact hr40 _ (List.getElem_mem _)
    refine ⟨_, (pss_cons (ps_set (i := 2) sc_is_ring.nd rfl (Or.inr rfl) (pe_lc2 (own := [("person", 3), ("thing", 4)]) (vs1 := [4]) (g := (gName 3)) (tt := tYes) (wi1 := (iList K (tOp (rIxL K) (tVar 0) (tVar 3)))) (g1 := (gName 4)) (tt1 := tYes) (te := (tVar 4)) (by rfl) sc_is_ring.nd (pi_list (pv 1)) (blkOk_by (own := [("person", 3), ("thing", 4)]) (N := n_is_ring) (sc := (defScope s_is_ring)) (by decide +kernel)) (by decide) (fun _ _ _ _ _ => (pg_name (i := 3) sc_is_ring.nd rfl (Or.inl rfl))) (fun _ _ _ _ _ => pts_nil) (fun _ _ _ _ _ => (pi_list (pe_ix ix_list (pv 0) (pv 3) (fun _ _ => rfl)))) (fun _ _ _ _ _ => (pg_name (i := 4) sc_is_ring.nd rfl (Or.inl rfl))) (fun _ _ _ _ _ => pts_nil) (fun _ _ _ _ _ => (pv 4))))
      (pss_one (ps_ret (pe_and (pe_callB (cr_all rfl) (by rfl) T.all (by decide +kernel) (pa_cons (pe_lc (own := [("person", 3)]) (g := (gName 3)) (tt := tYes) (te := (tOp rEq (tCB (rLenS K) (tCons (tOp (rIxL K) (tVar 0) (tVar 3)) tNil)) (tC (V.int 2)))) (by rfl) sc_is_ring.nd (pi_list (pv 1)) (blkOk_by (own := [("person", 3)]) (N := n_is_ring) (sc := (defScope s_is_ring)) (by decide +kernel)) (fun _ _ _ _ _ => (pg_name (i := 3) sc_is_ring.nd rfl (Or.inl rfl))) (fun _ _ _ _ _ => pts_nil) (fun _ _ _ _ _ => (pe_cmpR op_eq (pe_callB c_len (by rfl) T.len (by decide +kernel) (pa_cons (pe_ix ix_list (pv 0) (pv 3) (fun _ _ => rfl)) pa_nil)) pe_int (nomark _)))) pa_nil)) (pe_one (pe_callB (cr_all rfl) (by rfl) T.all (by decide +kernel) (pa_cons (pe_lc (own := [("thing", 4)]) (g := (gName 4)) (tt := tYes) (te := (tOp rEq (tBM K "list" (rCntV K) (tVar 2) (tCons (tVar 4) tNil)) (tC (V.int 2)))) (by rfl) sc_is_ring.nd (pi_list (pv 2)) (blkOk_by (own := [("thing", 4)]) (N := n_is_ring) (sc := (defScope s_is_ring)) (by decide +kernel)) (fun _ _ _ _ _ => (pg_name (i := 4) sc_is_ring.nd rfl (Or.inl rfl))) (fun _ _ _ _ _ => pts_nil) (fun _ _ _ _ _ => (pe_cmpR op_eq (pe_bm PySem.F.plainAttrs_list PySem.F.slot_list_count PySem.F.type_list_count mt_countV (pv 2) (pa_cons (pv 4) pa_nil)) pe_int (nomark _)))) pa_nil))))))), ?_⟩
    refine ⟨_, rfl, b, rfl, ⟨_, hb⟩, fun D hD => ?_⟩
    refine walk_sq (b := true) (xs := (natI g).map V.int) (fun i H' => H' D = some (.lst ((((g.take i).map (Mt.row rows)).flatten).map V.int)) ∧ Same H H') ⟨upd_same, same_new hD⟩ (fun i H' _ hp => Sq.same (b := true) hb hp.2) ?_ ?_
    · rintro i y H1 hy ⟨h1, s1⟩
      obtain ⟨p, hp, rfl⟩ := nat_atK hy
      have pl := hg p (List.mem_of_getElem? hp)
      obtain ⟨q, hq1, hq2⟩ := hlb.at_ (List.getElem?_eq_getElem pl)
      obtain ⟨r, er⟩ : ∃ r, r = rows[p] := ⟨_, rfl⟩
      rw [← er] at hq2
      have rl : r.length ≤ 40 := hr40 r (by rw [er]; exact List.getElem_mem _)
      have il : i < g.length := (List.getElem?_eq_some_iff.mp hp).1
      have li := ln i
      refine ⟨rfl, _, rfl, _, rfl, a, lvs, (p : Int), .ref q, rfl, rfl, hla.same s1, at_nat hq1, q, rfl, ⟨_, Sq.same (b := true) hq2 s1⟩, ?_⟩
      refine walk_sq (b := true) (xs := r.map V.int) (fun j H' => H' D = some (.lst ((((g.take i).map (Mt.row rows)).flatten ++ r.take j).map V.int)) ∧ Same H H') ⟨by rw [List.take_zero, List.append_nil]; exact h1, s1⟩ (fun i H' _ hp => hq2.same hp.2) ?_ ?_
      · rintro j z H2 hz ⟨h2, s2⟩
        obtain ⟨u, hu, rfl⟩ : ∃ u, r[j]? = some u ∧ z = V.int u := by
          rw [List.getElem?_map] at hz
          cases e : r[j]? with
          | none => rw [e] at hz; cases hz
          | some u => rw [e] at hz; exact ⟨u, rfl, (Option.some.inj hz).symm⟩
        have jl := (List.getElem?_eq_some_iff.mp hu).1
        refine ⟨rfl, _, rfl, _, h2, by rw [List.length_map, List.length_append, List.length_take]; exact small_lt (by omega), ?_, same_mut s2 hD⟩
        rw [upd_same, show r.take (j + 1) = r.take j ++ [u] from by rw [List.take_add_one, hu]; rfl, ← List.append_assoc, List.map_append (l₂ := [u])]
        rfl
      · rintro H2 ⟨h2, s2⟩
        rw [List.length_map, List.take_length] at h2
        refine ⟨?_, s2⟩
        have e1 : ((g.take (i + 1)).map (Mt.row rows)).flatten = ((g.take i).map (Mt.row rows)).flatten ++ r := by
          rw [show g.take (i + 1) = g.take i ++ [p] from by rw [List.take_add_one, hp]; rfl, List.map_append, List.flatten_append, List.map_singleton, List.flatten_singleton, row_in pl, er]
        rw [h2, e1]
    · rintro H1 ⟨h1, s1⟩
      rw [List.length_map, gl, List.take_length] at h1
      have nl2 : (givenL rows g).length ≤ 1600 := by have := ln g.length; rwa [List.take_length] at this
      have h1 : H1 D = some (.lst ((givenL rows g).map V.int)) := h1
      have hb1 : SqL K H1 b ((natI g).map V.int) := Sq.same (b := true) hb s1
      have hla1 : SqL K H1 a lvs := hla.same s1
      refine ⟨_, rfl, b, rfl, ⟨_, hb1⟩, fun D2 hD2 => ?_⟩
      refine lc_list (xs := (natI g).map V.int) (fun i H' => H' D2 = some (.lst (((g.take i).map fun p => decide ((Mt.row rows p).length = 2)).map V.bl)) ∧ Same H1 H') ⟨upd_same, same_new hD2⟩ (fun i H' _ hp => hp.2.seq hb1) ?_ ?_
      · rintro i y H2 hy ⟨h2, s2⟩
        obtain ⟨p, hp, rfl⟩ := nat_atK hy
        have pl := hg p (List.mem_of_getElem? hp)
        have il : i < g.length := (List.getElem?_eq_some_iff.mp hp).1
        obtain ⟨q, hq1, hq2⟩ := hlb.at_ (List.getElem?_eq_getElem pl)
        refine ⟨rfl, _, rfl, _, rfl, a, lvs, (p : Int), .ref q, rfl, rfl, Sq.same (b := true) hla1 s2, at_nat hq1, q, _, rfl, .inl (Sq.same (b := true) hq2 (s1.trans s2)), rfl, ?_⟩
        refine ⟨_, h2, small_lt (by rw [List.length_map, List.length_map, List.length_take]; omega), ?_, same_mut s2 hD2⟩
        rw [upd_same, show g.take (i + 1) = g.take i ++ [p] from by rw [List.take_add_one, hp]; rfl, List.map_append, List.map_append]
        show some (HO.lst (_ ++ [V.bl (decide (V.int ((((rows[p]).map V.int).length : Nat) : Int) = V.int ((2 : Nat) : Int)))])) = some (HO.lst (_ ++ [V.bl (decide ((Mt.row rows p).length = 2))]))
        rw [intn_dec, List.length_map, row_in pl]
      · rintro H2 ⟨h2, s2⟩
        rw [List.length_map, gl, List.take_length] at h2
        have h12 : SqL K H2 D ((givenL rows g).map V.int) := SqL.of (s2 _ _ h1)
        refine ⟨D2, _, rfl, SqL.of h2, _, rfl, ?_⟩
        have e2 : ((g.map fun p => decide ((Mt.row rows p).length = 2)).all id) = g.all fun p => decide ((Mt.row rows p).length = 2) := by rw [List.all_map]; rfl
        refine ite2 (fun hc => ?_) (fun hc => ?_)
        · rw [e2] at hc
          refine ⟨_, rfl, D, rfl, ⟨_, h12⟩, fun D3 hD3 => ?_⟩
          refine lc_list (xs := (givenL rows g).map V.int) (fun i H' => H' D3 = some (.lst ((((givenL rows g).take i).map fun t => decide ((givenL rows g).count t = 2)).map V.bl)) ∧ Same H2 H') ⟨upd_same, same_new hD3⟩ (fun i H' _ hp => hp.2.seq h12) ?_ ?_
          · rintro i y H3 hy ⟨h3, s3⟩
            obtain ⟨u, hu, rfl⟩ : ∃ u, (givenL rows g)[i]? = some u ∧ y = V.int u := by
              rw [List.getElem?_map] at hy
              cases e : (givenL rows g)[i]? with
              | none => rw [e] at hy; cases hy
              | some u => rw [e] at hy; exact ⟨u, rfl, (Option.some.inj hy).symm⟩
            have il := (List.getElem?_eq_some_iff.mp hu).1
            refine ⟨rfl, _, rfl, .inl ⟨rfl, _, Sq.same (b := true) h12 s3⟩, _, rfl, D, (givenL rows g).map V.int, .int u, rfl, rfl, Sq.same (b := true) h12 s3, rfl, all_flat_ints _, rfl, ?_⟩
            refine ⟨_, h3, small_lt (by rw [List.length_map, List.length_map, List.length_take]; omega), ?_, same_mut s3 hD3⟩
            rw [upd_same, show (givenL rows g).take (i + 1) = (givenL rows g).take i ++ [u] from by rw [List.take_add_one, hu]; rfl, List.map_append, List.map_append]
            show some (HO.lst (_ ++ [V.bl (decide (V.int (((((givenL rows g).map V.int).countP fun z => eqV z (V.int u)) : Nat) : Int) = V.int ((2 : Nat) : Int)))])) = some (HO.lst (_ ++ [V.bl (decide ((givenL rows g).count u = 2))]))
            rw [intn_dec, cnt_eqV]
          · rintro H3 ⟨h3, s3⟩
            rw [List.length_map, List.take_length] at h3
            refine ⟨D3, _, rfl, SqL.of h3, ?_⟩
            have := k H3 ((s1.trans s2).trans s3)
            unfold ringB at this
            rw [hc, Bool.true_and, show ((givenL rows g).all fun t => decide ((givenL rows g).count t = 2)) = (((givenL rows g).map fun t => decide ((givenL rows g).count t = 2)).all id) from by rw [List.all_map]; rfl] at this
            exact this
        · rw [e2] at hc
          have := k H2 (s1.trans s2)
          unfold ringB at this
          rw [Bool.eq_false_iff.mpr hc, Bool.false_and] at this
          exact this
theorem ok_kindE (A : At K mg "_kind_of" s_kind_of ["live", "people"]) (T : Tx mg) (G_is_ring : Dfn P w K mg base "_is_ring" ["live", "people"] 1 (spRingE K)) : Dfn P w K mg base "_kind_of" ["live", "people"] 2 (spKindE K) := by
  refine A.ok sc_kind_of (fun vs H Q E h => ?_) (fun f cdv A outer s H vs Q E hr h => ?_)
  · obtain ⟨_, _, _, _, rfl, _⟩ := h
    rfl
  · obtain ⟨a, b, rows, g, rfl, hR, hb, hg, hr40, hl, k⟩ := h
    obtain ⟨la, lvs, e, hla, hlb⟩ := id hR
    cases e
    have gl : (natI g).length = g.length := by unfold natI; rw [List.length_map]
    refine ⟨_, (pss_cons (ps_if (pt_val (pe_callB (cr_all rfl) (by rfl) T.all (by decide +kernel) (pa_cons (pe_lc (own := [("person", 2)]) (g := (gName 2)) (tt := tYes) (te := (tOp rEq (tCB (rLenS K) (tCons (tOp (rIxL K) (tVar 0) (tVar 2)) tNil)) (tCB (rLenS K) (tCons (tVar 1) tNil)))) (by rfl) sc_kind_of.nd (pi_list (pv 1)) (blkOk_by (own := [("person", 2)]) (N := n_kind_of) (sc := (defScope s_kind_of)) (by decide +kernel)) (fun _ _ _ _ _ => (pg_name (i := 2) sc_kind_of.nd rfl (Or.inl rfl))) (fun _ _ _ _ _ => pts_nil) (fun _ _ _ _ _ => (pe_cmpR op_eq (pe_callB c_len (by rfl) T.len (by decide +kernel) (pa_cons (pe_ix ix_list (pv 0) (pv 2) (fun _ _ => rfl)) pa_nil)) (pe_callB c_len (by rfl) T.len (by decide +kernel) (pa_cons (pv 1) pa_nil)) (nomark _)))) pa_nil))) (pss_one (ps_ret pe_str)) pss_nil)
      (pss_one (ps_ret (pe_ifExp (pt_val (pe_d G_is_ring (hr.mono (by decide)) (pa_cons (pv 0) (pa_cons (pv 1) pa_nil)))) pe_str pe_str)))), ?_⟩
    refine ⟨_, rfl, b, rfl, ⟨_, hb⟩, fun D hD => ?_⟩
    refine lc_list (xs := (natI g).map V.int) (fun i H' => H' D = some (.lst (((g.take i).map fun p => decide ((Mt.row rows p).length = g.length)).map V.bl)) ∧ Same H H') ⟨upd_same, same_new hD⟩ (fun i H' _ hp => hp.2.seq hb) ?_ ?_
    · rintro i y H1 hy ⟨h1, s1⟩
      obtain ⟨p, hp, rfl⟩ := nat_atK hy
      have pl := hg p (List.mem_of_getElem? hp)
      have il : i < g.length := (List.getElem?_eq_some_iff.mp hp).1
      obtain ⟨q, hq1, hq2⟩ := hlb.at_ (List.getElem?_eq_getElem pl)
      refine ⟨rfl, _, rfl, _, rfl, a, lvs, (p : Int), .ref q, rfl, rfl, Sq.same (b := true) hla s1, at_nat hq1, q, _, rfl, .inl (Sq.same (b := true) hq2 s1), _, rfl, b, _, rfl, .inl (Sq.same (b := true) hb s1), rfl, ?_⟩
      refine ⟨_, h1, small_lt (by rw [List.length_map, List.length_map, List.length_take]; omega), ?_, same_mut s1 hD⟩
      rw [upd_same, show g.take (i + 1) = g.take i ++ [p] from by rw [List.take_add_one, hp]; rfl, List.map_append, List.map_append]
      show some (HO.lst (_ ++ [V.bl (decide (V.int ((((rows[p]).map V.int).length : Nat) : Int) = V.int ((((natI g).map V.int).length : Nat) : Int)))])) = some (HO.lst (_ ++ [V.bl (decide ((Mt.row rows p).length = g.length))]))
      rw [intn_dec, List.length_map, List.length_map, gl, row_in pl]
    · rintro H1 ⟨h1, s1⟩
      rw [List.length_map, gl, List.take_length] at h1
      refine ⟨D, _, rfl, SqL.of h1, _, rfl, ?_⟩
      have e2 : ((g.map fun p => decide ((Mt.row rows p).length = g.length)).all id) = fullG rows g := by unfold fullG; rw [List.all_map]; rfl
      rw [e2]
      refine ite2 (fun hc => ?_) (fun hc => ?_)
      · have := k H1 s1
        unfold kindS at this
        rw [if_pos hc] at this
        exact this
      · unfold kindS at k
        rw [if_neg hc] at k
        refine ⟨_, rfl, _, rfl, a, b, rows, g, rfl, hR.same s1, Sq.same (b := true) hb s1, hg, hr40, hl, fun H2 s2 => ⟨_, rfl, ?_⟩⟩
        refine ite2 (fun hc2 => ?_) (fun hc2 => ?_)
        · rw [if_pos hc2] at k
          exact k H2 (s1.trans s2)
        · rw [if_neg hc2] at k
          exact k H2 (s1.trans s2)
def spPkE (K : PySem.W.Frag) (C : Addr) : Sp := fun vs H Q _ => ∃ (x : V) (rows : List (List Int)), vs = [x] ∧ TableAt K C H x rows ∧ Good rows ∧ rows.length ≤ 40 ∧ (∃ D, Mt.Ds rows D) ∧
  ∀ (F : List (List Nat)) l H', Mt.Groups (Mt.liveR rows) F → (F.map natI).Pairwise (· ≤ ·) → Same H H' → H l = none → H' l = some (.lst ((F.map (kindS (Mt.liveR rows))).map V.str)) → Q (.ref l) H'
theorem ok_pkE (A : At K mg "piece_kinds" s_piece_kinds ["table"]) (T : Tx mg) (G_live_of : Dfn P w K mg base "live_of" ["table"] 5 (spLiveOf K C)) (G_groups : Dfn P w K mg base "groups" ["rows"] 1 (spGroups K)) (G_kind_of : Dfn P w K mg base "_kind_of" ["live", "people"] 2 (spKindE K)) : Dfn P w K mg base "piece_kinds" ["table"] 6 (spPkE K C) := by
  refine A.ok sc_piece_kinds (fun vs H Q E h => ?_) (fun f cdv A outer s H vs Q E hr h => ?_)
  · obtain ⟨_, _, rfl, _⟩ := h
    rfl
  · obtain ⟨x, rows, rfl, tb, G, hn, yes, k⟩ := h
    refine ⟨_, (pss_cons (ps_set (i := 1) sc_piece_kinds.nd rfl (Or.inr rfl) (pe_d G_live_of (hr.mono (by decide)) (pa_cons (pv 0) pa_nil)))
      (pss_one (ps_ret (pe_lc (own := [("people", 2)]) (g := (gName 2)) (tt := tYes) (te := (tCall (spKindE K) [] E0 (tCons (tVar 1) (tCons (tVar 2) tNil)))) (by rfl) sc_piece_kinds.nd (pi_list (pe_d G_groups (hr.mono (by decide)) (pa_cons (pv 1) pa_nil))) (blkOk_by (own := [("people", 2)]) (N := n_piece_kinds) (sc := (defScope s_piece_kinds)) (by decide +kernel)) (fun _ _ _ _ _ => (pg_name (i := 2) sc_piece_kinds.nd rfl (Or.inl rfl))) (fun _ _ _ _ _ => pts_nil) (fun _ _ _ _ _ => (pe_d G_kind_of (hr.mono (by decide)) (pa_cons (pv 1) (pa_cons (pv 2) pa_nil)))))))), ?_⟩
    refine ⟨_, rfl, x, rows, rfl, tb, G, hn, yes, fun l H1 s1 fl hl => ?_⟩
    have lr40 : ∀ r ∈ Mt.liveR rows, r.length ≤ 40 := fun r hr => Nat.le_trans (G.live.row_len r hr) (by rw [Mt.liveR_len]; exact hn)
    refine ⟨_, rfl, .ref l, _, rfl, hl, by rw [Mt.liveR_len]; exact hn, lr40, fun F gl H2 hF up s2 fgl hgl => ?_⟩
    obtain ⟨ga, gvs, e, hga, hgb⟩ := id hgl
    cases e
    have gvl := hgb.len
    rw [List.length_map] at gvl
    have gnum := hF.num
    rw [Mt.liveR_len] at gnum
    have s12 := s1.trans s2
    refine ⟨gl, rfl, ⟨_, hga⟩, fun D hD => ?_⟩
    refine lc_list (xs := gvs) (fun i H' => H' D = some (.lst (((F.take i).map (kindS (Mt.liveR rows))).map V.str)) ∧ Same H2 H') ⟨upd_same, same_new hD⟩ (fun i H' _ hp => hp.2.seq hga) ?_ ?_
    · rintro i y H3 hy ⟨h3, s3⟩
      obtain ⟨pa, gi, ex, hgi, hpa⟩ := hgb.get hy
      subst ex
      have iF : i < F.length := by have := (List.getElem?_eq_some_iff.mp hy).1; omega
      obtain ⟨g, hg, eg⟩ : ∃ g, F[i]? = some g ∧ gi = natI g := by
        rw [List.getElem?_map, List.getElem?_eq_getElem iF] at hgi
        exact ⟨_, List.getElem?_eq_getElem iF, (Option.some.inj hgi).symm⟩
      subst eg
      have gm := List.mem_of_getElem? hg
      refine ⟨rfl, _, rfl, _, rfl, l, pa, _, g, rfl, (hl.same s2).same s3, Sq.same (b := true) hpa s3, fun p hp => hF.lt gm hp, lr40, ?_, fun H4 s4 => ?_⟩
      · have := hF.len gm
        rw [Mt.liveR_len] at this
        omega
      · refine ⟨_, s4 _ _ h3, small_lt (by rw [List.length_map, List.length_map, List.length_take]; omega), ?_, same_mut (s3.trans s4) hD⟩
        rw [upd_same, show F.take (i + 1) = F.take i ++ [g] from by rw [List.take_add_one, hg]; rfl, List.map_append, List.map_append]
        rfl
    · rintro H3 ⟨h3, s3⟩
      rw [gvl, List.take_length] at h3
      exact k F D H3 hF up (s12.trans s3) (s12.free hD) h3
end
end Fo
set_option maxRecDepth 100000
set_option maxHeartbeats 4000000
namespace Fo
open PySem PySem.Spec PyProof.Rows L2
theorem cnt_flat {L : List (List Int)} (nd : ∀ p, (Mt.row L p).Nodup) (t : Int) : ∀ g : List Nat, (givenL L g).count t = (g.filter fun p => decide (t ∈ Mt.row L p)).length
  | [] => rfl
  | p :: g => by
    have ih := cnt_flat nd t g
    unfold givenL at ih ⊢
    rw [List.map_cons, List.flatten_cons, List.count_append, ih]
    by_cases h : t ∈ Mt.row L p
    · rw [List.filter_cons_of_pos (by rw [decide_eq_true h]), List.length_cons]
      have : (Mt.row L p).count t = 1 := Nat.le_antisymm (List.nodup_iff_count.mp (nd p) t) (List.count_pos_iff.mpr h)
      omega
    · rw [List.filter_cons_of_neg (by rw [decide_eq_false h]; decide), List.count_eq_zero_of_not_mem h, Nat.zero_add]
end Fo
set_option maxRecDepth 100000
set_option maxHeartbeats 2000000
set_option maxRecDepth 100000
set_option maxHeartbeats 4000000
namespace Fo
open PySem PySem.Spec PyProof.Rows L2
section
variable {P : Program} {w : World} {K : PySem.W.Frag} {mg : Str → Option Value} {base : Heap} {C : Addr}
theorem perm_get {b : Nat} {ns : List Int} (pm : ns.Perm (rangeI b)) {i : Int} (h0 : 0 ≤ i) (h1 : i < b) : ∃ q : Int, ns[i.toNat]? = some q ∧ 0 ≤ q ∧ q < b := by
  have nl : ns.length = b := by rw [pm.length_eq, rangeI_len, Int.toNat_natCast]
  have e := List.getElem?_eq_getElem (show i.toNat < ns.length by omega)
  exact ⟨_, e, mem_rangeI.mp (pm.mem_iff.mp (List.mem_of_getElem? e))⟩
theorem perm_inj {b : Nat} {ns : List Int} (pm : ns.Perm (rangeI b)) {i j : Int} {q : Int} (h0 : 0 ≤ i) (g0 : 0 ≤ j) (h : ns[i.toNat]? = some q) (g : ns[j.toNat]? = some q) : i = j := by
  have nd : ns.Nodup := pm.symm.nodup (rangeI_nodup _)
  have := (List.getElem?_inj (List.getElem?_eq_some_iff.mp h).1 nd).mp (h.trans g.symm)
  omega
theorem RowsT.set {H : Hp} {q : Addr} {r : List Int} (h : SqT K H q (r.map V.int)) : ∀ {vs : List V} {R : List (List Int)} (j : Nat), RowsT K H vs R → RowsT K H (vs.set j (.ref q)) (R.set j r)
  | _, _, _, .nil => .nil
  | _, _, 0, .cons h1 t => .cons h t
  | _, _, j + 1, .cons h1 t => .cons h1 (RowsT.set h j t)
/-- a row with its things numbered anew -/
def newL (ts r : List Int) : List Int := r.map fun t => (ts[t.toNat]?).getD 0
structure RenTo (ps ts : List Int) (rows : List (List Int)) (i : Nat) (R : List (List Int)) : Prop where
  len : R.length = rows.length
  row : ∀ (p : Nat) (q : Int), p < i → ps[p]? = some q → (Mt.row R q.toNat).Pairwise (· < ·) ∧ ∀ x, x ∈ Mt.row R q.toNat ↔ ∃ t ∈ Mt.row rows p, ts[t.toNat]? = some x
theorem newL_mem {rows : List (List Int)} (G : Good rows) {ts : List Int} (tm : ts.Perm (rangeI rows.length)) {p : Nat} {x : Int} : x ∈ newL ts (Mt.row rows p) ↔ ∃ t ∈ Mt.row rows p, ts[t.toNat]? = some x := by
  unfold newL
  rw [List.mem_map]
  constructor
  · rintro ⟨t, ht, rfl⟩
    have rg := G.row_rng ht
    obtain ⟨q, hq, _⟩ := perm_get tm rg.1 rg.2
    exact ⟨t, ht, by rw [hq]; rfl⟩
  · rintro ⟨t, ht, e⟩
    exact ⟨t, ht, by rw [e]; rfl⟩
theorem newL_nd {rows : List (List Int)} (G : Good rows) {ts : List Int} (tm : ts.Perm (rangeI rows.length)) {p : Nat} : (newL ts (Mt.row rows p)).Nodup := by
  unfold newL
  have nd : (Mt.row rows p).Nodup := by
    unfold Mt.row
    cases e : rows[p]? with
    | none => exact List.nodup_nil
    | some r => exact (G.asc r (List.mem_of_getElem? e)).imp fun h z => by omega
  refine Mt.nodup_map nd fun a ha b hb e => ?_
  have ra := G.row_rng ha
  have rb := G.row_rng hb
  obtain ⟨q, hq, _⟩ := perm_get tm ra.1 ra.2
  obtain ⟨u, hu, _⟩ := perm_get tm rb.1 rb.2
  rw [hq, hu] at e
  have e : q = u := e
  subst e
  exact perm_inj tm ra.1 rb.1 hq hu
theorem RenTo.step {rows R : List (List Int)} {ps ts ks : List Int} {i : Nat} {q : Int} (I : RenTo ps ts rows i R) (G : Good rows) (pm : ps.Perm (rangeI rows.length)) (tm : ts.Perm (rangeI rows.length)) (hq : ps[i]? = some q) (kp : ks.Perm (newL ts (Mt.row rows i))) (srt : ks.Pairwise (· ≤ ·)) : RenTo ps ts rows (i + 1) (R.set q.toNat ks) := by
  have qr := mem_rangeI.mp (pm.mem_iff.mp (List.mem_of_getElem? hq))
  have ql : q.toNat < R.length := by rw [I.len]; omega
  refine ⟨by rw [List.length_set, I.len], fun p u hp hu => ?_⟩
  rw [Mt.row_set ql]
  have ur := mem_rangeI.mp (pm.mem_iff.mp (List.mem_of_getElem? hu))
  by_cases e : u = q
  · subst e
    have ep : p = i := by
      have := perm_inj pm (i := (p : Int)) (j := (i : Int)) (by omega) (by omega) (by rw [Int.toNat_natCast]; exact hu) (by rw [Int.toNat_natCast]; exact hq)
      omega
    subst ep
    rw [if_pos rfl]
    refine ⟨?_, fun x => by rw [kp.mem_iff]; exact newL_mem G tm⟩
    have nd : ks.Nodup := kp.symm.nodup (newL_nd G tm)
    have h2 : ks.Pairwise (fun a b => a ≤ b ∧ a ≠ b) := List.Pairwise.and srt nd
    exact h2.imp fun h => by omega
  · rw [if_neg (by omega)]
    have : p ≠ i := fun z => e (by rw [z, hq] at hu; exact (Option.some.inj hu).symm)
    exact I.row p u (by omega) hu
end
end Fo
set_option maxRecDepth 100000
set_option maxHeartbeats 4000000
set_option maxRecDepth 100000
set_option maxHeartbeats 4000000
namespace Fo
open PySem PySem.Spec PyProof.Rows L2
/-- one numbering undoes the other -/
structure Undo (n : Nat) (ps ops : List Int) : Prop where
  pm : ps.Perm (rangeI n)
  qm : ops.Perm (rangeI n)
  on : ∀ p q : Int, 0 ≤ p → 0 ≤ q → (ps[p.toNat]? = some q ↔ ops[q.toNat]? = some p)
theorem Undo.symm {n : Nat} {ps ops : List Int} (h : Undo n ps ops) : Undo n ops ps := ⟨h.qm, h.pm, fun p q hp hq => (h.on q p hq hp).symm⟩
theorem row_asc {R : List (List Int)} (G : Good R) (p : Nat) : (Mt.row R p).Pairwise (· < ·) := by
  unfold Mt.row
  cases e : R[p]? with
  | none => exact .nil
  | some r => exact G.asc r (List.mem_of_getElem? e)
end Fo
set_option maxRecDepth 100000
set_option maxHeartbeats 4000000
namespace Fo
open PySem PySem.Spec PyProof.Rows L2
theorem RowsX.same {c b : Bool} {K : PySem.W.Frag} {H H' : Hp} {v : V} {rows : List (List Int)} (h : RowsX c b K H v rows) (g : Same H H') : RowsX c b K H' v rows := by
  obtain ⟨a, vs, e, h1, h2⟩ := h
  exact ⟨a, vs, e, h1.same g, h2.same g⟩
end Fo
namespace Mt
theorem Groups.cls {rows : Rows} {G : List (List Nat)} (h : Groups rows G) {g : List Nat} (hg : g ∈ G) {p : Nat} (hp : p ∈ g) (q : Nat) : q ∈ g ↔ q < rows.length ∧ Conn rows p q := by
  constructor
  · exact fun hq => ⟨h.lt hg hq, h.conn g hg p hp q hq⟩
  · rintro ⟨hq, hc⟩
    induction hc with
    | refl => exact hp
    | step _ ht ih =>
      have ht' := ht
      obtain ⟨t, a, _⟩ := ht'
      exact h.tied hg (ih (row_lt a)) hq ht
theorem Groups.has {rows : Rows} {G F : List (List Nat)} (h : Groups rows G) (hF : Groups rows F) {g : List Nat} (hg : g ∈ G) : g ∈ F := by
  obtain ⟨p, hp⟩ := List.exists_mem_of_ne_nil g (h.ne g hg)
  obtain ⟨c, hc, hpc⟩ := List.mem_flatten.mp (hF.perm.mem_iff.mpr (List.mem_range.mpr (h.lt hg hp)))
  have : g = c := asc_eqN (h.asc g hg) (hF.asc c hc) fun q => (h.cls hg hp q).trans (hF.cls hc hpc q).symm
  rw [this]
  exact hc
theorem Groups.nodup {rows : Rows} {G : List (List Nat)} (h : Groups rows G) : G.Nodup := by
  have := h.perm.nodup_iff.mpr List.nodup_range
  have := (List.pairwise_flatten.mp this).2
  refine (List.Pairwise.and_mem.mp this).imp fun {a b} ⟨ha, _, hab⟩ e => ?_
  obtain ⟨p, hp⟩ := List.exists_mem_of_ne_nil a (h.ne a ha)
  exact hab p hp p (e ▸ hp) rfl
theorem natZ_inj : ∀ {a b : List Nat}, a.map (fun (p : Nat) => (p : Int)) = b.map (fun (p : Nat) => (p : Int)) → a = b
  | [], [], _ => rfl
  | [], _ :: _, h => by cases h
  | _ :: _, [], h => by cases h
  | x :: a, y :: b, h => by
    have h1 : (x : Int) = (y : Int) := (List.cons.inj h).1
    rw [natZ_inj (List.cons.inj h).2, show x = y by omega]
/-- put in order there is one list of groups -/
theorem Groups.one {rows : Rows} {G F : List (List Nat)} (h : Groups rows G) (hF : Groups rows F) (s1 : (G.map fun g => g.map fun (p : Nat) => (p : Int)).Pairwise (· ≤ ·)) (s2 : (F.map fun g => g.map fun (p : Nat) => (p : Int)).Pairwise (· ≤ ·)) : G = F := by
  have pm : G.Perm F := (List.perm_ext_iff_of_nodup h.nodup hF.nodup).mpr fun g => ⟨h.has hF, hF.has h⟩
  have e := (pm.map fun g => g.map fun (p : Nat) => (p : Int)).eq_of_pairwise (fun a b _ _ h1 h2 => List.le_antisymm h1 h2) s1 s2
  have : ∀ {A B : List (List Nat)}, (A.map fun g => g.map fun (p : Nat) => (p : Int)) = (B.map fun g => g.map fun (p : Nat) => (p : Int)) → A = B := fun {A} => by
    induction A with
    | nil => intro B h; cases B with
      | nil => rfl
      | cons b B => cases h
    | cons a A ih =>
      intro B h
      cases B with
      | nil => cases h
      | cons b B => rw [natZ_inj (List.cons.inj h).1, ih (List.cons.inj h).2]
  exact this e
end Mt
set_option maxRecDepth 100000
namespace Mt
/-- a person's thing, of things that stand by people P -/
def atP (P : List Nat) (E : List Int) (p : Nat) : Int := E.getD (P.idxOf p) 0
def toD (n : Nat) (P : List Nat) (E : List Int) : List Int := (List.range n).map (atP P E)
theorem atP_get {P : List Nat} (nd : P.Nodup) {E : List Int} (h : E.length = P.length) {k p : Nat} (hk : P[k]? = some p) : E[k]? = some (atP P E p) := by
  obtain ⟨kl, e⟩ := List.getElem?_eq_some_iff.mp hk
  subst e
  unfold atP
  rw [List.Nodup.idxOf_getElem nd k kl, List.getD_eq_getElem?_getD, List.getElem?_eq_getElem (by omega)]
  rfl
theorem toD_get {n : Nat} {P : List Nat} {E : List Int} {p : Nat} (h : p < n) : (toD n P E)[p]? = some (atP P E p) := by
  unfold toD
  rw [List.getElem?_map, List.getElem?_range h]
  rfl
theorem toD_len {n : Nat} {P : List Nat} {E : List Int} : (toD n P E).length = n := by
  unfold toD
  rw [List.length_map, List.length_range]
theorem row_mapP {L : Rows} {P : List Nat} {k p : Nat} (h : P[k]? = some p) : row (P.map (row L)) k = row L p := row_get (by rw [List.getElem?_map, h]; rfl)
theorem toD_ds {L : Rows} {P : List Nat} (hP : P.Perm (List.range L.length)) {E : List Int} (d : Ds (P.map (row L)) E) : Ds L (toD L.length P E) := by
  have nd : P.Nodup := hP.nodup_iff.mpr List.nodup_range
  have hl := d.len
  rw [List.length_map] at hl
  have ix : ∀ p, p < L.length → ∃ k, P[k]? = some p := fun p hp => List.getElem?_of_mem (hP.mem_iff.mpr (List.mem_range.mpr hp))
  refine ⟨toD_len, fun p t h => ?_, ?_⟩
  · have pl : p < L.length := by have := (List.getElem?_eq_some_iff.mp h).1; rwa [toD_len] at this
    rw [toD_get pl] at h
    obtain ⟨k, hk⟩ := ix p pl
    have := d.tie k _ (atP_get nd hl hk)
    rw [row_mapP hk] at this
    rw [← Option.some.inj h]
    exact this
  · unfold toD
    refine nodup_map List.nodup_range fun p hp q hq e => ?_
    obtain ⟨k, hk⟩ := ix p (List.mem_range.mp hp)
    obtain ⟨j, hj⟩ := ix q (List.mem_range.mp hq)
    have e1 := atP_get nd hl hk
    have e2 := atP_get nd hl hj
    rw [e] at e1
    have kl : k < E.length := (List.getElem?_eq_some_iff.mp e1).1
    have jl : j < E.length := (List.getElem?_eq_some_iff.mp e2).1
    have : k = j := (List.getElem_inj d.nd).mp (Option.some.inj ((List.getElem?_eq_getElem kl).symm.trans (e1.trans (e2.symm.trans (List.getElem?_eq_getElem jl)))))
    subst this
    rw [hk] at hj
    exact Option.some.inj hj
/-- rows whose dealings are listed by choosing -/
structure DgOk (R : Rows) : Prop where
  num : R.length ≤ 6
  row : ∀ r ∈ R, r.length ≤ 6
  asc : ∀ r ∈ R, r.Pairwise (· < ·)
  few : Few R
  live : ∀ p, ∀ t ∈ Mt.row R p, Live R p t
  ex : ∃ D, Ds R D
theorem flat_le : ∀ {A B : Rows}, A.length = B.length → (∀ i, (row A i).length ≤ (row B i).length) → A.flatten.length ≤ B.flatten.length
  | [], [], _, _ => Nat.le_refl _
  | [], _ :: _, h, _ => by cases h
  | _ :: _, [], h, _ => by cases h
  | a :: A, b :: B, h, le => by
    have h0 : a.length ≤ b.length := le 0
    have := flat_le (A := A) (B := B) (Nat.succ.inj h) fun i => le (i + 1)
    rw [List.flatten_cons, List.flatten_cons, List.length_append, List.length_append]
    omega
theorem flat_lt : ∀ {A B : Rows} {p : Nat}, A.length = B.length → (∀ i, (row A i).length ≤ (row B i).length) → (row A p).length < (row B p).length → A.flatten.length < B.flatten.length
  | [], [], p, _, _, lt => absurd lt (by show ¬ (row [] p).length < (row [] p).length; omega)
  | [], _ :: _, _, h, _, _ => by cases h
  | _ :: _, [], _, h, _, _ => by cases h
  | a :: A, b :: B, 0, h, le, lt => by
    have h0 : a.length < b.length := lt
    have := flat_le (A := A) (B := B) (Nat.succ.inj h) fun i => le (i + 1)
    rw [List.flatten_cons, List.flatten_cons, List.length_append, List.length_append]
    omega
  | a :: A, b :: B, p + 1, h, le, lt => by
    have h0 : a.length ≤ b.length := le 0
    have := flat_lt (A := A) (B := B) (p := p) (Nat.succ.inj h) (fun i => le (i + 1)) lt
    rw [List.flatten_cons, List.flatten_cons, List.length_append, List.length_append]
    omega
theorem row_len {R : Rows} {n : Nat} (h : ∀ r ∈ R, r.length ≤ n) (p : Nat) : (row R p).length ≤ n := by
  by_cases c : p < R.length
  · rw [row_get (List.getElem?_eq_getElem c)]
    exact h _ (List.getElem_mem c)
  · have : row R p = [] := by
      refine List.eq_nil_iff_forall_not_mem.mpr fun t ht => c (row_lt ht)
    rw [this]
    exact Nat.zero_le _
theorem row_live_le {R : Rows} (p : Nat) : (row (liveR R) p).length ≤ (row R p).length := by
  rw [row_liveR]
  exact List.length_filter_le _ _
theorem row_narrow_le {R : Rows} {p : Nat} {t : Int} (ht : t ∈ row R p) (x : Nat) : (row (narrow R p t) x).length ≤ (row R x).length := by
  by_cases c : x < R.length
  · rw [row_narrow c]
    split
    · rename_i e
      rw [e]
      exact List.length_pos_of_mem ht
    · exact List.length_filter_le _ _
  · have : row (narrow R p t) x = [] := List.eq_nil_iff_forall_not_mem.mpr fun t ht => c (by have := row_lt ht; rwa [narrow_len] at this)
    rw [this]
    exact Nat.zero_le _
theorem rows_le {R : Rows} {n : Nat} (h : ∀ p, (row R p).length ≤ n) : ∀ r ∈ R, r.length ≤ n := fun r hr => by
  obtain ⟨i, hi⟩ := List.getElem?_of_mem hr
  have := h i
  rwa [row_get hi] at this
theorem step_ds {R : Rows} {p : Nat} {t : Int} (ht : t ∈ row R p) {D : List Int} : Ds (liveR (narrow R p t)) D ↔ Ds R D ∧ D[p]? = some t := by
  rw [ds_liveR]
  exact ds_narrow (row_lt ht) ht
theorem few_live' {R : Rows} (h : Few R) : Few (liveR R) := by
  obtain ⟨U, h1, h2⟩ := h
  refine ⟨U, by rw [liveR_len]; exact h1, fun p t ht => h2 p t ?_⟩
  rw [row_liveR] at ht
  exact (List.mem_filter.mp ht).1
theorem few_narrow {R : Rows} (h : Few R) {p : Nat} {t : Int} (ht : t ∈ row R p) : Few (narrow R p t) := by
  obtain ⟨U, h1, h2⟩ := h
  refine ⟨U, by rw [narrow_len]; exact h1, fun x s hs => ?_⟩
  have hx : x < R.length := by have := row_lt hs; rwa [narrow_len] at this
  rcases (mem_narrow hx).mp hs with ⟨_, e⟩ | ⟨_, q, _⟩
  · rw [e]; exact h2 p t ht
  · exact h2 x s q
theorem asc_narrow {R : Rows} (h : ∀ r ∈ R, r.Pairwise (· < ·)) {p : Nat} {t : Int} : ∀ r ∈ narrow R p t, r.Pairwise (· < ·) := fun r hr => by
  obtain ⟨x, hx⟩ := List.getElem?_of_mem hr
  rw [narrow_get] at hx
  cases e : R[x]? with
  | none => rw [e] at hx; cases hx
  | some q =>
    rw [e] at hx
    have hx : (if x = p then [t] else q.filter fun s => decide (s ≠ t)) = r := Option.some.inj hx
    rw [← hx]
    split
    · exact List.pairwise_singleton _ _
    · exact (h q (List.mem_of_getElem? e)).filter _
theorem DgOk.step {R : Rows} (h : DgOk R) {p : Nat} {t : Int} (ht : t ∈ Mt.row R p) : DgOk (liveR (narrow R p t)) where
  num := by rw [liveR_len, narrow_len]; exact h.num
  row := rows_le fun x => Nat.le_trans (row_live_le x) (Nat.le_trans (row_narrow_le ht x) (row_len h.row x))
  asc := liveR_asc (asc_narrow h.asc)
  few := few_live' (few_narrow h.few ht)
  live := fun x s hs => by
    obtain ⟨D, d, e⟩ := mem_liveR.mp hs
    exact ⟨D, ds_liveR.mpr d, e⟩
  ex := by
    obtain ⟨D, d, e⟩ := h.live p t ht
    exact ⟨D, (step_ds ht).mpr ⟨d, e⟩⟩
theorem DgOk.less {R : Rows} {p : Nat} {t : Int} (ht : t ∈ Mt.row R p) (h1 : 1 < (Mt.row R p).length) : (liveR (narrow R p t)).flatten.length < R.flatten.length := by
  refine flat_lt (p := p) (by rw [liveR_len, narrow_len]) (fun x => Nat.le_trans (row_live_le x) (row_narrow_le ht x)) ?_
  refine Nat.lt_of_le_of_lt (row_live_le p) ?_
  rw [row_narrow (row_lt ht), if_pos rfl]
  exact h1
theorem ds_sub {L : Rows} {g : List Nat} (nd : g.Nodup) (lt : ∀ p ∈ g, p < L.length) {D : List Int} (d : Ds L D) : Ds (g.map (row L)) (g.map fun p => D.getD p 0) := by
  have dg : ∀ p, p < L.length → D[p]? = some (D.getD p 0) := fun p hp => by
    rw [List.getD_eq_getElem?_getD, List.getElem?_eq_getElem (by rw [d.len]; exact hp)]
    rfl
  refine ⟨by rw [List.length_map, List.length_map], fun k t h => ?_, nodup_map nd fun p hp q hq e => ?_⟩
  · rw [List.getElem?_map] at h
    cases hk : g[k]? with
    | none => rw [hk] at h; cases h
    | some p =>
      rw [hk] at h
      rw [row_mapP hk, ← Option.some.inj h]
      exact d.tie p _ (dg p (lt p (List.mem_of_getElem? hk)))
  · have e1 := dg p (lt p hp)
    have e2 := dg q (lt q hq)
    have e : D.getD p 0 = D.getD q 0 := e
    rw [e] at e1
    have p1 : p < D.length := (List.getElem?_eq_some_iff.mp e1).1
    have q1 : q < D.length := (List.getElem?_eq_some_iff.mp e2).1
    exact (List.getElem_inj d.nd).mp (Option.some.inj ((List.getElem?_eq_getElem p1).symm.trans (e1.trans (e2.symm.trans (List.getElem?_eq_getElem q1)))))
end Mt
set_option maxRecDepth 100000
set_option maxHeartbeats 4000000
namespace Mt
def agree (tn : List Nat) (D E : List Int) : Prop := ∀ p ∈ tn, E[p]? = D[p]?
structure TldI (rows : Rows) (tn : List Nat) (D : List Int) (k t : Nat) (R : Rows) : Prop where
  good : Fo.Good R
  len : R.length = rows.length
  live : ∀ p, ∀ t ∈ row R p, Live R p t
  ds : ∀ E, Ds R E ↔ Ds rows E ∧ agree (tn.take k) D E
  back : ∀ E, Ds rows E → agree (tn.take t) D E → agree (tn.take k) D E
  more : ∀ m, m < t → ∃ E, Ds rows E ∧ agree (tn.take m) D E ∧ E ≠ D
  le : t ≤ k
  kl : k ≤ tn.length
theorem agree_take {tn : List Nat} {D E : List Int} {m k : Nat} (h : agree (tn.take k) D E) (hm : m ≤ k) : agree (tn.take m) D E := fun p hp => h p (by
  have : tn.take m = (tn.take k).take m := by rw [List.take_take, Nat.min_eq_left hm]
  rw [this] at hp
  exact List.mem_of_mem_take hp)
theorem agree_succ {tn : List Nat} {D E : List Int} {k p : Nat} (hp : tn[k]? = some p) : agree (tn.take (k + 1)) D E ↔ agree (tn.take k) D E ∧ E[p]? = D[p]? := by
  rw [List.take_add_one, hp]
  constructor
  · intro h
    exact ⟨fun q hq => h q (List.mem_append_left _ hq), h p (List.mem_append_right _ (List.mem_singleton.mpr rfl))⟩
  · rintro ⟨h1, h2⟩ q hq
    rcases List.mem_append.mp hq with h | h
    · exact h1 q h
    · rw [Option.toList_some, List.mem_singleton] at h
      rw [h]
      exact h2
theorem TldI.init {rows : Rows} {tn : List Nat} {D : List Int} (G : Fo.Good rows) : TldI rows tn D 0 0 (liveR rows) where
  good := G.live
  len := liveR_len
  live := fun p t ht => by
    obtain ⟨E, d, e⟩ := mem_liveR.mp ht
    exact ⟨E, ds_liveR.mpr d, e⟩
  ds := fun E => by
    rw [ds_liveR]
    exact ⟨fun h => ⟨h, fun p hp => (by simp at hp)⟩, fun h => h.1⟩
  back := fun _ _ h => h
  more := fun m h => absurd h (Nat.not_lt_zero m)
  le := Nat.le_refl 0
  kl := Nat.zero_le _
theorem TldI.yes {rows : Rows} {tn : List Nat} {D : List Int} {k t p : Nat} {R : Rows} (I : TldI rows tn D k t R) (hp : tn[k]? = some p) {x : Int} (hx : D[p]? = some x) (hD : Ds R D) (h1 : 1 < (row R p).length) : TldI rows tn D (k + 1) (k + 1) (liveR (narrow R p x)) := by
  have xr : x ∈ row R p := hD.tie p x hx
  refine ⟨(I.good.narrow xr).live, by rw [liveR_len, narrow_len, I.len], fun q s hs => ?_, fun E => ?_, fun _ _ h => h, fun m hm => ?_, Nat.le_refl _, ?_⟩
  · obtain ⟨E, d, e⟩ := mem_liveR.mp hs
    exact ⟨E, ds_liveR.mpr d, e⟩
  · rw [step_ds xr, I.ds E, agree_succ hp, hx]
    exact ⟨fun h => ⟨h.1.1, h.1.2, h.2⟩, fun h => ⟨⟨h.1, h.2.1⟩, h.2.2⟩⟩
  · obtain ⟨y, hy, ne⟩ : ∃ y ∈ row R p, y ≠ x := by
      refine Classical.byContradiction fun z => ?_
      have all : ∀ y ∈ row R p, y = x := fun y hy => Classical.byContradiction fun n => z ⟨y, hy, n⟩
      have nd : (row R p).Nodup := by
        have hl := row_lt xr
        have hr : row R p = R[p] := row_get (List.getElem?_eq_getElem hl)
        rw [hr]
        exact (I.good.asc _ (List.getElem_mem hl)).imp fun h e => by omega
      have := len_le (l2 := [x]) nd fun y hy => List.mem_singleton.mpr (all y hy)
      simp at this
      omega
    obtain ⟨E, d, e⟩ := I.live p y hy
    have := (I.ds E).mp d
    refine ⟨E, this.1, agree_take this.2 (Nat.le_of_lt_succ hm), fun z => ne ?_⟩
    rw [z, hx] at e
    exact (Option.some.inj e).symm
  · have := (List.getElem?_eq_some_iff.mp hp).1
    omega
theorem TldI.no {rows : Rows} {tn : List Nat} {D : List Int} {k t p : Nat} {R : Rows} (I : TldI rows tn D k t R) (hp : tn[k]? = some p) {x : Int} (hx : D[p]? = some x) (hD : Ds R D) (h1 : ¬ 1 < (row R p).length) : TldI rows tn D (k + 1) t R := by
  have xr : x ∈ row R p := hD.tie p x hx
  have same : ∀ E, Ds R E → E[p]? = some x := fun E d => by
    have hl : p < R.length := row_lt xr
    obtain ⟨y, hy, hm⟩ := d.get hl
    rw [hy]
    cases q : row R p with
    | nil => rw [q] at xr; cases xr
    | cons a r =>
      rw [q] at h1 xr hm
      have : r = [] := List.eq_nil_of_length_eq_zero (by rw [List.length_cons] at h1; omega)
      rw [this, List.mem_singleton] at xr hm
      rw [xr, hm]
  refine ⟨I.good, I.len, I.live, fun E => ?_, fun E d h => ?_, I.more, Nat.le_succ_of_le I.le, ?_⟩
  · rw [agree_succ hp, hx]
    constructor
    · intro d
      have := (I.ds E).mp d
      exact ⟨this.1, this.2, same E d⟩
    · rintro ⟨d, h, _⟩
      exact (I.ds E).mpr ⟨d, h⟩
  · have b := I.back E d h
    rw [agree_succ hp, hx]
    exact ⟨b, same E ((I.ds E).mpr ⟨d, b⟩)⟩
  · have := (List.getElem?_eq_some_iff.mp hp).1
    omega
end Mt
set_option maxRecDepth 100000
set_option maxHeartbeats 4000000
namespace Mt
/-- the rows behind j draws along D -/
def bh (R : Rows) (D : List Int) (j : Nat) : Rows := (R.drop j).map fun r => r.filter fun z => !decide (z ∈ D.take j)
theorem bh_zero {R : Rows} {D : List Int} : bh R D 0 = R := by
  unfold bh
  rw [List.drop_zero, List.take_zero]
  refine List.map_id'' (fun r => ?_) R
  refine List.filter_eq_self.mpr fun z _ => ?_
  rw [decide_eq_false (List.not_mem_nil)]
  rfl
theorem bh_len {R : Rows} {D : List Int} {j : Nat} : (bh R D j).length = R.length - j := by
  unfold bh
  rw [List.length_map, List.length_drop]
theorem row_bh {R : Rows} {D : List Int} {j i : Nat} : row (bh R D j) i = (row R (j + i)).filter fun z => !decide (z ∈ D.take j) := by
  unfold row bh
  rw [List.getElem?_map, List.getElem?_drop]
  cases R[j + i]? with
  | none => rfl
  | some r => rfl
theorem mem_bh {R : Rows} {D : List Int} {j i : Nat} {t : Int} : t ∈ row (bh R D j) i ↔ t ∈ row R (j + i) ∧ t ∉ D.take j := by
  rw [row_bh, List.mem_filter]
  refine and_congr_right fun _ => ?_
  by_cases h : t ∈ D.take j
  · rw [decide_eq_true h]
    exact ⟨fun z => (by cases z), fun z => absurd h z⟩
  · rw [decide_eq_false h]
    exact ⟨fun _ => h, fun _ => rfl⟩
theorem ds_bh {R : Rows} {D F : List Int} {j : Nat} (hj : j ≤ R.length) (d : Ds R D) : Ds (bh R D j) F ↔ Ds R (D.take j ++ F) := by
  have tl : (D.take j).length = j := by rw [List.length_take, d.len]; omega
  constructor
  · intro h
    have fl := h.len
    rw [bh_len] at fl
    refine ⟨by rw [List.length_append, tl, fl]; omega, fun p t e => ?_, List.nodup_append.mpr ⟨d.nd.sublist (List.take_sublist _ _), h.nd, fun a ha b hb e => ?_⟩⟩
    · by_cases c : p < j
      · rw [List.getElem?_append_left (by omega), List.getElem?_take_of_lt c] at e
        exact d.tie p t e
      · rw [List.getElem?_append_right (by omega), tl] at e
        have := (mem_bh.mp (h.tie _ t e)).1
        rwa [show j + (p - j) = p by omega] at this
    · subst e
      obtain ⟨i, hi⟩ := List.getElem?_of_mem hb
      exact (mem_bh.mp (h.tie i a hi)).2 ha
  · intro h
    have fl := h.len
    rw [List.length_append, tl] at fl
    have nd := List.nodup_append.mp h.nd
    refine ⟨by rw [bh_len]; omega, fun p t e => mem_bh.mpr ⟨?_, fun hm => ?_⟩, nd.2.1⟩
    · refine h.tie (j + p) t ?_
      rw [List.getElem?_append_right (by omega), tl, show j + p - j = p by omega]
      exact e
    · exact nd.2.2 t hm t (List.mem_of_getElem? e) rfl
theorem live_bh {R : Rows} {D : List Int} {j : Nat} {t : Int} (hj : j < R.length) (d : Ds R D) : Live (bh R D j) 0 t ↔ ∃ E, Ds R E ∧ E.take j = D.take j ∧ E[j]? = some t := by
  have tl : (D.take j).length = j := by rw [List.length_take, d.len]; omega
  constructor
  · rintro ⟨F, h, e⟩
    refine ⟨_, (ds_bh (by omega) d).mp h, ?_, ?_⟩
    · rw [List.take_append_of_le_length (by omega), List.take_of_length_le (by omega)]
    · rw [List.getElem?_append_right (by omega), tl, Nat.sub_self]
      exact e
  · rintro ⟨E, h, e1, e2⟩
    refine ⟨E.drop j, (ds_bh (by omega) d).mpr ?_, ?_⟩
    · rw [← e1, List.take_append_drop]
      exact h
    · rw [List.getElem?_drop, Nat.add_zero]
      exact e2
theorem ds_at {R : Rows} {D : List Int} (d : Ds R D) (j : Nat) (hj : j ≤ R.length) : Ds (bh R D j) (D.drop j) := (ds_bh hj d).mpr (by rw [List.take_append_drop]; exact d)
def tR (rows : Rows) (tn : List Nat) : Rows := tn.map (row rows)
def tD (D : List Int) (tn : List Nat) : List Int := tn.map fun p => D.getD p 0
theorem tR_len {rows : Rows} {tn : List Nat} : (tR rows tn).length = tn.length := List.length_map _
theorem tD_len {D : List Int} {tn : List Nat} : (tD D tn).length = tn.length := List.length_map _
theorem ds_getD {rows : Rows} {D : List Int} (d : Ds rows D) {p : Nat} (hp : p < rows.length) : D[p]? = some (D.getD p 0) := by
  rw [List.getD_eq_getElem?_getD, List.getElem?_eq_getElem (by rw [d.len]; exact hp)]
  rfl
structure Turn (rows : Rows) (tn : List Nat) : Prop where
  pm : tn.Perm (List.range rows.length)
theorem Turn.nd {rows : Rows} {tn : List Nat} (h : Turn rows tn) : tn.Nodup := h.pm.nodup_iff.mpr List.nodup_range
theorem Turn.lt {rows : Rows} {tn : List Nat} (h : Turn rows tn) {p : Nat} (hp : p ∈ tn) : p < rows.length := List.mem_range.mp (h.pm.mem_iff.mp hp)
theorem Turn.len {rows : Rows} {tn : List Nat} (h : Turn rows tn) : tn.length = rows.length := by rw [h.pm.length_eq, List.length_range]
theorem Turn.ds {rows : Rows} {tn : List Nat} (h : Turn rows tn) {D : List Int} (d : Ds rows D) : Ds (tR rows tn) (tD D tn) := ds_sub h.nd (fun _ hp => h.lt hp) d
theorem Turn.at_ {rows : Rows} {tn : List Nat} (h : Turn rows tn) {D : List Int} (d : Ds rows D) {j p : Nat} (hj : tn[j]? = some p) : (tD D tn)[j]? = D[p]? := by
  unfold tD
  rw [List.getElem?_map, hj, ds_getD d (h.lt (List.mem_of_getElem? hj))]
  rfl
theorem Turn.back {rows : Rows} {tn : List Nat} (h : Turn rows tn) {F : List Int} (d : Ds (tR rows tn) F) : ∃ E, Ds rows E ∧ tD E tn = F := by
  have fl : F.length = tn.length := by rw [d.len, tR_len]
  refine ⟨toD rows.length tn F, toD_ds h.pm d, List.ext_getElem? fun k => ?_⟩
  by_cases c : k < tn.length
  · have hk := List.getElem?_eq_getElem c
    rw [h.at_ (toD_ds h.pm d) hk, toD_get (h.lt (List.getElem_mem c)), atP_get h.nd fl hk]
  · rw [List.getElem?_eq_none (by rw [tD_len]; omega), List.getElem?_eq_none (by omega)]
theorem Turn.agree {rows : Rows} {tn : List Nat} (h : Turn rows tn) {D E : List Int} (d : Ds rows D) (e : Ds rows E) {j : Nat} (hj : j ≤ tn.length) : (tD E tn).take j = (tD D tn).take j ↔ agree (tn.take j) D E := by
  constructor
  · intro q p hp
    obtain ⟨i, hi⟩ := List.getElem?_of_mem hp
    have il : i < j := by have := (List.getElem?_eq_some_iff.mp hi).1; rw [List.length_take] at this; omega
    rw [List.getElem?_take_of_lt il] at hi
    have := congrArg (fun l => l[i]?) q
    rw [List.getElem?_take_of_lt il, List.getElem?_take_of_lt il, h.at_ e hi, h.at_ d hi] at this
    exact this
  · intro q
    refine List.ext_getElem? fun i => ?_
    by_cases c : i < j
    · have hi := List.getElem?_eq_getElem (l := tn) (i := i) (by omega)
      rw [List.getElem?_take_of_lt c, List.getElem?_take_of_lt c, h.at_ e hi, h.at_ d hi]
      exact q _ (List.mem_of_getElem? (by rw [List.getElem?_take_of_lt c]; exact hi))
    · rw [List.getElem?_eq_none (by rw [List.length_take]; omega), List.getElem?_eq_none (by rw [List.length_take]; omega)]
/-- the things that are open for the one who comes up: by the rows behind, and by the dealings -/
theorem Turn.open_iff {rows : Rows} {tn : List Nat} (h : Turn rows tn) {D : List Int} (d : Ds rows D) {j p : Nat} (hp : tn[j]? = some p) {t : Int} : t ∈ row (liveR (bh (tR rows tn) (tD D tn) j)) 0 ↔ ∃ E, Ds rows E ∧ Mt.agree (tn.take j) D E ∧ E[p]? = some t := by
  have jl := (List.getElem?_eq_some_iff.mp hp).1
  rw [mem_liveR, live_bh (by rw [tR_len]; exact jl) (h.ds d)]
  constructor
  · rintro ⟨F, h1, h2, h3⟩
    obtain ⟨E, e1, rfl⟩ := h.back h1
    exact ⟨E, e1, (h.agree d e1 (Nat.le_of_lt jl)).mp h2, by rw [← h.at_ e1 hp]; exact h3⟩
  · rintro ⟨E, e1, e2, e3⟩
    exact ⟨_, h.ds e1, (h.agree d e1 (Nat.le_of_lt jl)).mpr e2, by rw [h.at_ e1 hp]; exact e3⟩
theorem len_eq_of {α : Type} [DecidableEq α] {l m : List α} (a : l.Nodup) (b : m.Nodup) (h : ∀ x, x ∈ l ↔ x ∈ m) : l.length = m.length := Nat.le_antisymm (len_le a fun x hx => (h x).mp hx) (len_le b fun x hx => (h x).mpr hx)
theorem nd_live {R : Rows} (h : ∀ r ∈ R, r.Nodup) (p : Nat) : (row (liveR R) p).Nodup := by
  rw [row_liveR]
  refine List.Nodup.sublist List.filter_sublist ?_
  unfold row
  cases e : R[p]? with
  | none => exact List.nodup_nil
  | some r => exact h r (List.mem_of_getElem? e)
theorem nd_bh {R : Rows} {D : List Int} {j : Nat} (h : ∀ r ∈ R, r.Nodup) : ∀ r ∈ bh R D j, r.Nodup := fun r hr => by
  obtain ⟨s, hs, rfl⟩ := List.mem_map.mp hr
  exact List.Nodup.sublist List.filter_sublist (h s (List.mem_of_mem_drop hs))
theorem nd_tR {rows : Rows} {tn : List Nat} (h : Turn rows tn) (a : ∀ r ∈ rows, r.Nodup) : ∀ r ∈ tR rows tn, r.Nodup := fun r hr => by
  obtain ⟨p, hp, rfl⟩ := List.mem_map.mp hr
  rw [row_get (List.getElem?_eq_getElem (h.lt hp))]
  exact a _ (List.getElem_mem _)
end Mt
set_option maxRecDepth 100000
set_option maxHeartbeats 4000000
set_option maxRecDepth 100000
set_option maxHeartbeats 4000000
namespace Fo
open PySem PySem.Spec PyProof.Rows L2
section
variable {K : PySem.W.Frag} {C : Addr} {t l : Addr} {m : Nat}
def Ng (K : PySem.W.Frag) (C t : Addr) (m : Nat) : Nat → Hp → V → Prop
  | 0, H, x => ∀ H', Gr t H H' → Th K C H' x
  | n + 1, H, x => (∀ H', Gr t H H' → ∃ ty, TyX K H' x ty ∧ (∀ c, ty = .ref c → c = C) ∧ PySem.W.kitOne K ty (.type "tuple") = some false) ∨ ∃ a xs, x = .ref a ∧ SqT K H a xs ∧ xs.length ≤ m ∧ ∀ y ∈ xs, Ng K C t m n H y
theorem Ng.le {m' : Nat} (hm : m ≤ m') : ∀ {n : Nat} {H : Hp} {x : V}, Ng K C t m n H x → Ng K C t m' n H x
  | 0, _, _, h => h
  | n + 1, _, _, h => by
    rcases h with h | ⟨a, xs, e, hs, hl, hy⟩
    · exact .inl h
    · exact .inr ⟨a, xs, e, hs, Nat.le_trans hl hm, fun y hy' => (hy y hy').le hm⟩
theorem th_sqT {H : Hp} {a : Addr} {xs : List V} (h : SqT K H a xs) : Th K C H (.ref a) := ⟨_, tyX_sqT h, fun c e => by cases e⟩
theorem Ng.tup {n : Nat} {H : Hp} {a : Addr} {xs : List V} (T : Tape H t l) (hs : SqT K H a xs) (hl : xs.length ≤ m) (h : ∀ y ∈ xs, Ng K C t m n H y) : Ng K C t m (n + 1) H (.ref a) := .inr ⟨a, xs, rfl, hs, hl, h⟩
theorem Ng.no {H : Hp} {x : V} {s : String} (ty : ∀ H', Gr t H H' → TyX K H' x (.type s)) (hk : kitB s "tuple" = some false) : ∀ n, Ng K C t m n H x
  | 0 => fun H' g => ⟨_, ty H' g, fun c e => by cases e⟩
  | n + 1 => .inl fun H' g => ⟨_, ty H' g, fun c e => (by cases e), kit_ty hk⟩
theorem Ng.int {n : Nat} {H : Hp} {i : Int} : Ng K C t m n H (.int i) := Ng.no (fun _ _ => .base (.int i)) (by decide +kernel) n
theorem Ng.bl {n : Nat} {H : Hp} {i : Bool} : Ng K C t m n H (.bl i) := Ng.no (fun _ _ => .base (.bl i)) (by decide +kernel) n
theorem Ng.str {n : Nat} {H : Hp} {i : Str} : Ng K C t m n H (.str i) := Ng.no (fun _ _ => .base (.str i)) (by decide +kernel) n
theorem Ng.non {n : Nat} {H : Hp} : Ng K C t m n H .non := Ng.no (fun _ _ => .base .non) (by decide +kernel) n
theorem Ng.lst {n : Nat} {H : Hp} {a : Addr} {xs : List V} (h : H a = some (.lst xs)) (ne : a ≠ t) : Ng K C t m n H (.ref a) := Ng.no (fun H' g => .base (.lst (g _ _ ne h))) (by decide +kernel) n
theorem Ng.dK {n : Nat} {H : Hp} {a : Addr} (h : H a = some (.dK [])) (ne : a ≠ t) : Ng K C t m n H (.ref a) := Ng.no (fun H' g => .base (.dK (g _ _ ne h))) (by decide +kernel) n
theorem Ng.row {n : Nat} {H : Hp} {a : Addr} {ns : List Int} (T : Tape H t l) (h : SqT K H a (ns.map V.int)) (hl : ns.length ≤ m) : Ng K C t m n H (.ref a) := by
  cases n with
  | zero => exact fun H' g => th_sqT (gr_T g T h)
  | succ n => exact .inr ⟨a, _, rfl, h, by rw [List.length_map]; exact hl, fun y hy => by
      obtain ⟨i, _, rfl⟩ := List.mem_map.mp hy
      exact .int⟩
/-- tuples within tuples, one or none in each -/
def Tn (K : PySem.W.Frag) : Nat → Hp → V → Prop
  | 0, H, x => ∃ a xs, x = .ref a ∧ SqT K H a xs
  | n + 1, H, x => ∃ a xs, x = .ref a ∧ SqT K H a xs ∧ xs.length ≤ 1 ∧ ∀ y ∈ xs, Tn K n H y
theorem Tn.same : ∀ {n : Nat} {H H' : Hp} {x : V}, Same H H' → Tn K n H x → Tn K n H' x
  | 0, _, _, _, s, ⟨a, xs, e, h⟩ => ⟨a, xs, e, sqT_same s h⟩
  | n + 1, _, _, _, s, ⟨a, xs, e, h, hl, hy⟩ => ⟨a, xs, e, sqT_same s h, hl, fun y q => (hy y q).same s⟩
theorem cut_from' {xs : List V} {n : Nat} : cutV xs (some (n : Int)) none = xs.drop n := by
  by_cases h : n ≤ xs.length
  · exact cut_from h
  · unfold cutV
    rw [HT.sIx_none, HT.sIx_nat, show min n xs.length = xs.length by omega, List.drop_of_length_le (Nat.le_refl _), List.drop_of_length_le (by omega), List.take_nil]
end
end Fo
set_option maxRecDepth 100000
set_option maxHeartbeats 4000000
namespace Fo
open PySem PySem.Spec PyProof.Rows L2
/-- rows in a list, each a tuple -/
def LTs (K : PySem.W.Frag) (H : Hp) (a : Addr) (rows : List (List Int)) : Prop := ∃ vs, SqL K H a vs ∧ RowsT K H vs rows
theorem LTs.same {K : PySem.W.Frag} {H H' : Hp} {a : Addr} {rows : List (List Int)} (h : LTs K H a rows) (s : Same H H') : LTs K H' a rows := by
  obtain ⟨vs, h1, h2⟩ := h
  exact ⟨vs, s.seq h1, h2.same s⟩
theorem filt_succ {α : Type} {l : List α} {f : α → Bool} {j : Nat} {u : α} (h : l[j]? = some u) : (l.take (j + 1)).filter f = (l.take j).filter f ++ if f u = true then [u] else [] := by
  rw [show l.take (j + 1) = l.take j ++ [u] from by rw [List.take_add_one, h]; rfl, List.filter_append]
  congr 1
  by_cases hb : f u = true
  · rw [if_pos hb, List.filter_cons_of_pos hb]; rfl
  · rw [if_neg hb, List.filter_cons_of_neg hb]; rfl
theorem int_dec (u t : Int) : decide (V.int u = V.int t) = decide (u = t) := decide_eq_decide.mpr ⟨fun h => by injection h, fun h => by rw [h]⟩
def leavesB (R : List (List Int)) (t : Int) : Bool := (R.drop 1).any fun r => decide (r.length = 1) && decide (t ∈ r)
/-- among how many things the first one draws -/
noncomputable def chR (cu : Str) (R : List (List Int)) : Nat := if cu = "strict" then R.length else if cu = "ahead" then (Mt.row (Mt.liveR R) 0).length else if cu = "near" then ((Mt.row R 0).filter fun t => !leavesB R t).length else (Mt.row R 0).length
theorem chR_le {cu : Str} {R : List (List Int)} {N : Nat} (h : R.length ≤ N) (hr : ∀ r ∈ R, r.length ≤ N) : chR cu R ≤ N := by
  have r0 : (Mt.row R 0).length ≤ N := by
    unfold Mt.row
    cases e : R[0]? with
    | none => exact Nat.zero_le _
    | some r => exact hr r (List.mem_of_getElem? e)
  unfold chR
  split
  · exact h
  · split
    · rw [Mt.row_liveR]
      exact Nat.le_trans (List.length_filter_le _ _) r0
    · split
      · exact Nat.le_trans (List.length_filter_le _ _) r0
      · exact r0
noncomputable def botR (cu : Str) (R : List (List Int)) (D : List Int) : Nat → Nat
  | 0 => 1
  | j + 1 => botR cu R D j * chR cu (Mt.bh R D j)
end Fo
set_option maxRecDepth 100000
set_option maxHeartbeats 4000000
namespace Fo
open PySem PySem.Spec PyProof.Rows L2
abbrev s_law_blocks : Stmt := top 53
abbrev n_law_blocks : List Str := ["pool", "many", "rows", "last", "wide", "kind", "person", "thing", "k"]
theorem sc_law_blocks : FnScope n_law_blocks ["pool", "many"] (defScope s_law_blocks) := ⟨rfl, rfl, rfl, by decide +kernel, rfl, by decide +kernel, by decide +kernel⟩
abbrev s_law_rows : Stmt := top 54
abbrev n_law_rows : List Str := ["pool", "many", "kind", "own", "share", "rows", "at", "places", "order", "k", "thing"]
theorem sc_law_rows : FnScope n_law_rows ["pool", "many"] (defScope s_law_rows) := ⟨rfl, rfl, rfl, by decide +kernel, rfl, by decide +kernel, by decide +kernel⟩
/-- lists of ints, each fresh -/
inductive RowsN (Pr : Addr → Prop) (H : Hp) : List V → List (List Int) → Prop
  | nil : RowsN Pr H [] []
  | cons {a : Addr} {vs : List V} {r : List Int} {rs : List (List Int)} : H a = some (.lst (r.map V.int)) → Pr a → RowsN Pr H vs rs → RowsN Pr H (.ref a :: vs) (r :: rs)
theorem RowsN.mono {Pr : Addr → Prop} {H H' : Hp} (k : ∀ a o, Pr a → H a = some o → H' a = some o) : ∀ {vs : List V} {rs : List (List Int)}, RowsN Pr H vs rs → RowsN Pr H' vs rs
  | _, _, .nil => .nil
  | _, _, .cons h n r => .cons (k _ _ n h) n (r.mono k)
theorem RowsN.imp {Pr Ps : Addr → Prop} {H : Hp} (k : ∀ a, H a ≠ none → Pr a → Ps a) : ∀ {vs : List V} {rs : List (List Int)}, RowsN Pr H vs rs → RowsN Ps H vs rs
  | _, _, .nil => .nil
  | _, _, .cons h n r => .cons h (k _ (by rw [h]; exact (fun z => nomatch z)) n) (r.imp k)
theorem RowsN.len {Pr : Addr → Prop} {H : Hp} : ∀ {vs : List V} {rs : List (List Int)}, RowsN Pr H vs rs → vs.length = rs.length
  | _, _, .nil => rfl
  | _, _, .cons _ _ r => by rw [List.length_cons, List.length_cons, r.len]
theorem RowsN.app {Pr : Addr → Prop} {H : Hp} {ws : List V} {qs : List (List Int)} (s : RowsN Pr H ws qs) : ∀ {vs : List V} {rs : List (List Int)}, RowsN Pr H vs rs → RowsN Pr H (vs ++ ws) (rs ++ qs)
  | _, _, .nil => s
  | _, _, .cons h n r => .cons h n (s.app r)
theorem RowsN.get {Pr : Addr → Prop} {H : Hp} : ∀ {vs : List V} {rs : List (List Int)} {i : Nat} {r : List Int}, RowsN Pr H vs rs → rs[i]? = some r → ∃ a, vs[i]? = some (.ref a) ∧ H a = some (.lst (r.map V.int)) ∧ Pr a
  | _, _, _, _, .nil, e => by simp at e
  | _, _, 0, _, .cons h n _, e => by simp at e; subst e; exact ⟨_, rfl, h, n⟩
  | _, _, i + 1, r, .cons _ _ t, e => by
    obtain ⟨a, h1, h2⟩ := t.get (i := i) (r := r) (by simpa using e)
    exact ⟨a, by simpa using h1, h2⟩
theorem RowsN.set {Pr : Addr → Prop} {H : Hp} {a : Addr} {q : List Int} (h : H a = some (.lst (q.map V.int))) (n : Pr a) : ∀ {vs : List V} {rs : List (List Int)} (i : Nat), RowsN Pr H vs rs → RowsN Pr H (vs.set i (.ref a)) (rs.set i q)
  | _, _, _, .nil => .nil
  | _, _, 0, .cons _ _ t => .cons h n t
  | _, _, i + 1, .cons h1 n1 t => .cons h1 n1 (t.set h n i)
/-- rows in the making, of n people, that have the dealing D -/
structure PreR (n : Nat) (D : List Int) (rs : List (List Int)) : Prop where
  len : rs.length = n
  nd : ∀ r ∈ rs, r.Nodup
  rng : ∀ r ∈ rs, ∀ x ∈ r, 0 ≤ x ∧ x < (n : Int)
  dl : D.length = n
  dn : D.Nodup
  has : ∀ (k : Nat) (t : Int), D[k]? = some t → ∃ r, rs[k]? = some r ∧ t ∈ r
def rg (a b : Int) : List Int := (List.range (b - a).toNat).map fun (i : Nat) => a + (i : Int)
theorem rgV_rg (a b : Int) : rgV a b = (rg a b).map V.int := by
  unfold rgV rg
  rw [List.map_map]
  rfl
theorem rg_mem {a b x : Int} : x ∈ rg a b ↔ a ≤ x ∧ x < b := by
  unfold rg
  rw [List.mem_map]
  constructor
  · rintro ⟨i, hi, rfl⟩
    have := List.mem_range.mp hi
    omega
  · intro h
    exact ⟨(x - a).toNat, List.mem_range.mpr (by omega), by omega⟩
theorem rg_asc (a b : Int) : (rg a b).Pairwise (· < ·) := by
  unfold rg
  rw [List.pairwise_map]
  exact List.pairwise_lt_range.imp fun h => by omega
theorem ix_nat {n i : Nat} (h : i < n) : ixN n (i : Int) = some i := by
  unfold ixN
  rw [if_pos (by omega), if_pos (by omega)]
  rfl
theorem PreR.set {n : Nat} {D : List Int} {rs : List (List Int)} (pre : PreR n D rs) {i : Nat} {r q : List Int} (hr : rs[i]? = some r) (nd : q.Nodup) (rng : ∀ x ∈ q, 0 ≤ x ∧ x < (n : Int)) (sub : ∀ x ∈ r, x ∈ q) : PreR n D (rs.set i q) := by
  have il := (List.getElem?_eq_some_iff.mp hr).1
  refine ⟨by rw [List.length_set]; exact pre.len, fun u hu => ?_, fun u hu x hx => ?_, pre.dl, pre.dn, fun k t hk => ?_⟩
  · rcases List.mem_or_eq_of_mem_set hu with h | rfl
    · exact pre.nd u h
    · exact nd
  · rcases List.mem_or_eq_of_mem_set hu with h | rfl
    · exact pre.rng u h x hx
    · exact rng x hx
  · obtain ⟨u, h1, h2⟩ := pre.has k t hk
    by_cases c : i = k
    · subst c
      rw [hr] at h1
      cases h1
      exact ⟨q, List.getElem?_set_self il, sub t h2⟩
    · exact ⟨u, by rw [List.getElem?_set_ne c]; exact h1, h2⟩
theorem ix0i {n i : Nat} (h : i < n) : ixN n (0 + (i : Int)) = some i := by rw [Int.zero_add]; exact ix_nat h
def nextD (n : Nat) : List Int := (List.range n).map fun k => ((if k + 1 = n then 0 else k + 1 : Nat) : Int)
theorem nextD_len {n : Nat} : (nextD n).length = n := by unfold nextD; rw [List.length_map, List.length_range]
theorem nextD_at {n i : Nat} {u : Int} (hn : 1 < n) (h : (nextD n)[i]? = some u) : 0 ≤ u ∧ u < (n : Int) ∧ u ≠ (i : Int) := by
  have hi : i < n := by
    have := (List.getElem?_eq_some_iff.mp h).1
    rwa [nextD_len] at this
  unfold nextD at h
  rw [List.getElem?_map, List.getElem?_range hi] at h
  have := Option.some.inj h
  rw [← this]
  show 0 ≤ ((if i + 1 = n then 0 else i + 1 : Nat) : Int) ∧ ((if i + 1 = n then 0 else i + 1 : Nat) : Int) < n ∧ ((if i + 1 = n then 0 else i + 1 : Nat) : Int) ≠ i
  split <;> omega
theorem nextD_nd (n : Nat) : (nextD n).Nodup := by
  unfold nextD List.Nodup
  rw [List.pairwise_map]
  refine (List.pairwise_lt_range (n := n)).imp_of_mem fun {a b} ha hb h => ?_
  have := List.mem_range.mp ha
  have := List.mem_range.mp hb
  show ((if a + 1 = n then 0 else a + 1 : Nat) : Int) ≠ ((if b + 1 = n then 0 else b + 1 : Nat) : Int)
  split <;> split <;> omega
def plc (ps : List Int) (u : Int) : Int := (ps[u.toNat]?).getD 0
structure Blk (rs : List (List Int)) : Prop where
  asc : ∀ r ∈ rs, r.Pairwise (· < ·)
  rng : ∀ r ∈ rs, ∀ x ∈ r, 0 ≤ x ∧ x < (rs.length : Int)
  own : ∀ (k : Nat) (r : List Int), rs[k]? = some r → (k : Int) ∈ r
theorem Blk.more {rs : List (List Int)} (B : Blk rs) (w : Nat) : Blk (rs ++ List.replicate w (rg rs.length ((rs.length : Int) + w))) := by
  have hl : ((rs ++ List.replicate w (rg rs.length ((rs.length : Int) + w))).length : Int) = rs.length + w := by rw [List.length_append, List.length_replicate]; omega
  refine ⟨fun r hr => ?_, fun r hr x hx => ?_, fun k r hk => ?_⟩
  · rcases List.mem_append.mp hr with h | h
    · exact B.asc r h
    · rw [List.eq_of_mem_replicate h]
      exact rg_asc _ _
  · rw [hl]
    rcases List.mem_append.mp hr with h | h
    · have := B.rng r h x hx
      omega
    · rw [List.eq_of_mem_replicate h] at hx
      have := rg_mem.mp hx
      omega
  · by_cases c : k < rs.length
    · rw [List.getElem?_append_left c] at hk
      exact B.own k r hk
    · rw [List.getElem?_append_right (by omega)] at hk
      have hm := List.mem_of_getElem? hk
      have hl2 := (List.getElem?_eq_some_iff.mp hk).1
      rw [List.length_replicate] at hl2
      rw [List.eq_of_mem_replicate hm]
      exact rg_mem.mpr (by omega)
section
variable {P : Program} {w : World} {K : PySem.W.Frag} {mg : Str → Option Value} {base : Heap}
theorem blk_test {σ : L2.St} {H1 : Hp} {t l : Addr} {kd : Int} {R : Bool → Hp → Prop} (e0 : σ[0]? = some (some (.ref t))) (e5 : σ[5]? = some (some (.int kd))) (T : Po H1 t l) (h : ∀ b H2, Gs t l H1 H2 → Po H2 t l → R b H2) :
    (tOr (tAnd (tTest (tOp rEq (tVar 5) (tC (V.int 1)))) (tTest (tOp rEq (tCall spDraw [] E0 (tCons (tVar 0) (tCons (tC (V.int 3)) tNil))) (tC (V.int 0))))) (tAnd (tTest (tOp rEq (tVar 5) (tC (V.int 2)))) (tTest (tOp rEq (tCall spDraw [] E0 (tCons (tVar 0) (tCons (tC (V.int 2)) tNil))) (tC (V.int 0)))))) σ H1 R := by
  have second : ∀ H2, Gs t l H1 H2 → Po H2 t l → (tAnd (tTest (tOp rEq (tVar 5) (tC (V.int 2)))) (tTest (tOp rEq (tCall spDraw [] E0 (tCons (tVar 0) (tCons (tC (V.int 2)) tNil))) (tC (V.int 0))))) σ H2 R := fun H2 g2 T2 => by
    refine ⟨_, e5, rfl, _, rfl, ?_⟩
    refine ite2 (fun _ => ?_) (fun _ => h _ _ g2 T2)
    exact ⟨_, e0, t, l, 2, rfl, T2, by decide, by decide, fun x H3 _ _ g3 T3 => ⟨rfl, _, rfl, h _ _ (g2.trans g3) T3⟩⟩
  refine ⟨_, e5, rfl, _, rfl, ?_⟩
  refine ite2 (fun _ => ?_) (fun _ => ?_)
  · refine ⟨_, e0, t, l, 3, rfl, T, by decide, by decide, fun x H2 _ _ g2 T2 => ⟨rfl, _, rfl, ?_⟩⟩
    refine ite2 (fun _ => h _ _ g2 T2) (fun _ => second _ g2 T2)
  · exact second _ (Gs.refl _) T
def Fr (H : Hp) (p : Addr) : Addr → Prop := fun a => H a = none ∧ a ≠ p
def spBlocks : Sp := fun vs H Q _ => ∃ (t l : Addr) (n : Int), vs = [.ref t, .int n] ∧ Po H t l ∧ 1 ≤ n ∧ n ≤ 12 ∧ ∀ (p : Addr) (us : List V) (rs : List (List Int)) (H' : Hp), PreR n.toNat (rangeI n) rs → H p = none → H' p = some (.lst us) → RowsN (Fr H p) H' us rs → Gs t l H H' → Po H' t l → Q (.ref p) H'
theorem ok_blocksP (A : At K mg "_law_blocks" s_law_blocks ["pool", "many"]) (T : Tx mg) (Tmax : mg "max" = none) (G_law_draw : Dfn P w K mg base "_law_draw" ["pool", "many"] 1 spDraw) : Dfn P w K mg base "_law_blocks" ["pool", "many"] 2 spBlocks := by
  refine A.ok sc_law_blocks (fun vs H Q E h => ?_) (fun f cdv A outer s H vs Q E hr h => ?_)
  · obtain ⟨t, l, n, rfl, _⟩ := h
    rfl
  · obtain ⟨t, l, n, rfl, hT, hn, hn2, k⟩ := h
    refine ⟨_, (pss_cons (ps_set (i := 2) sc_law_blocks.nd rfl (Or.inl rfl) (pe_lst pa_nil))
      (pss_cons (ps_set (i := 3) sc_law_blocks.nd rfl (Or.inr rfl) pe_int)
      (Evl.pss_cut (ps_while PassesOwn.never (pt_cmpR op_lt (pv 3) (pv 1) (nomark _)) (pss_cons (ps_set (i := 4) sc_law_blocks.nd rfl (Or.inr rfl) (pe_op op_add pe_int (pe_d G_law_draw (hr.mono (by decide)) (pa_cons (pv 0) (pa_cons (pe_callB (c_min rfl) (by rfl) T.min (by decide +kernel) (pa_cons pe_int (pa_cons (pe_op op_sub (pv 1) (pv 3)) pa_nil))) pa_nil)))))
      (pss_cons (ps_set (i := 2) sc_law_blocks.nd rfl (Or.inl rfl) (pe_op op_cat (pv 2) (pe_lc (own := [("k", 8)]) (g := (gName 8)) (tt := tYes) (te := (tLstRg (tRg2 (tVar 3) (tOp (rI0 fun i j => V.int (i + j)) (tVar 3) (tVar 4))))) (by rfl) sc_law_blocks.nd (pi_range1 rfl T.range (pa_cons (pv 4) pa_nil)) (blkOk_by (own := [("k", 8)]) (N := n_law_blocks) (sc := (defScope s_law_blocks)) (by decide +kernel)) (fun _ _ _ _ _ => (pg_name (i := 8) sc_law_blocks.nd rfl (Or.inl rfl))) (fun _ _ _ _ _ => pts_nil) (fun _ _ _ _ _ => (pe_listRg rfl (by rfl) T.list (prg_2 (by rfl) T.range (pv 3) (pe_op op_add (pv 3) (pv 4))))))))
      (pss_one (ps_set (i := 3) sc_law_blocks.nd rfl (Or.inr rfl) (pe_op op_add (pv 3) (pv 4)))))))
      (pss_cons (ps_set (i := 5) sc_law_blocks.nd rfl (Or.inl rfl) (pe_d G_law_draw (hr.mono (by decide)) (pa_cons (pv 0) (pa_cons pe_int pa_nil))))
      (pss_cons (ps_for PassesOwn.never rfl (pi_range1 rfl T.range (pa_cons (pv 1) pa_nil)) (pg_name (i := 6) sc_law_blocks.nd rfl (Or.inl rfl))
      (pss_one (ps_for PassesOwn.never rfl (pi_range2 rfl T.range (pa_cons (pe_op op_add (pe_callB (cr_max rfl) (by rfl) Tmax (by decide +kernel) (pa_cons (pe_ix ix_list (pv 2) (pv 6) (fun _ _ => rfl)) pa_nil)) pe_int) (pa_cons (pv 1) pa_nil))) (pg_name (i := 7) sc_law_blocks.nd rfl (Or.inl rfl))
      (pss_one (ps_if (PW.pt (pw_or (PW.pt (pw_and (pt_cmpR op_eq (pv 5) pe_int (nomark _)) (pw_and1 (pt_cmpR op_eq (pe_d G_law_draw (hr.mono (by decide)) (pa_cons (pv 0) (pa_cons pe_int pa_nil))) pe_int (nomark _))))) (pw_or1 (PW.pt (pw_and (pt_cmpR op_eq (pv 5) pe_int (nomark _)) (pw_and1 (pt_cmpR op_eq (pe_d G_law_draw (hr.mono (by decide)) (pa_cons (pv 0) (pa_cons pe_int pa_nil))) pe_int (nomark _)))))))) (pss_one (ps_asg (pe_op op_cat (pe_ix ix_list (pv 2) (pv 6) (fun _ _ => rfl)) (pe_lst (pa_cons (pv 7) pa_nil))) (pg_sub (pv 2) (pv 6) set_list))) pss_nil)))))
      (pss_one (ps_ret (pv 2)))))))), ?_⟩
    refine ⟨Nat.zero_le _, fun fa hf => ?_⟩
    have nf := hT.free hf
    refine ⟨fun σ' H' => ∃ p us rs x4 x5 x6 x7 x8, σ' = [some (.ref t), some (.int n), some (.ref p), some (.int ((rs.length : Nat) : Int)), x4, x5, x6, x7, x8] ∧ rs.length = n.toNat ∧ Blk rs ∧ H p = none ∧ H' p = some (.lst us) ∧ RowsN (Fr H p) H' us rs ∧ Gs t l H H' ∧ Po H' t l, ?_, ?_⟩
    · refine while_m (fun m σ' H' => ∃ p us rs x4 x5 x6 x7 x8, σ' = [some (.ref t), some (.int n), some (.ref p), some (.int ((rs.length : Nat) : Int)), x4, x5, x6, x7, x8] ∧ m = n.toNat - rs.length ∧ rs.length ≤ n.toNat ∧ Blk rs ∧ H p = none ∧ H' p = some (.lst us) ∧ RowsN (Fr H p) H' us rs ∧ Gs t l H H' ∧ Po H' t l) ⟨n.toNat, fa, [], [], _, _, _, _, _, rfl, rfl, Nat.zero_le _, ⟨fun _ h => (by cases h), fun _ h => (by cases h), fun k r h => (by simp at h)⟩, hf, upd_same, .nil, Gs.new hf, hT.new hf⟩ ?_ ?_
      · rintro m σ' H1 ⟨p, us, rs, x4, x5, x6, x7, x8, rfl, hm, hl, hB, hp0, hp, hrs, g1, T1⟩
        have ul := hrs.len
        refine ⟨_, rfl, _, rfl, _, _, rfl, rfl, _, rfl, ?_⟩
        refine ite2 (fun hc => ?_) (fun hc => ?_)
        · have hc := of_decide_eq_true hc
          refine ⟨_, rfl, _, rfl, _, rfl, _, _, rfl, rfl, 3, _, rfl, t, l, _, rfl, T1, by split <;> omega, by split <;> omega, fun sz H2 s0 s1 g2 T2 => ⟨_, _, rfl, rfl, ?_⟩⟩
          have sb : (rs.length : Int) + (1 + sz) ≤ n := by split at s1 <;> omega
          have ewd : (((1 + sz).toNat : Nat) : Int) = 1 + sz := by omega
          refine ⟨_, rfl, _, rfl, _, rfl, by omega, by omega, fun D hD => ?_⟩
          have g12 := g1.trans g2
          have hD0 := g12.fresh T2 hD
          have nD := hT.free hD0
          have np := hT.free hp0
          have hp2 := g2 _ _ np.1 np.2 hp
          have hpD : p ≠ D := ne_of_none hp2 hD
          refine lc_range (lo := 0) (n := (1 + sz).toNat) (fun i H' => ∃ ws, H' D = some (.lst ws) ∧ RowsN (fun a => H a = none ∧ H2 a = none ∧ a ≠ D) H' ws (List.replicate i (rg rs.length ((rs.length : Int) + (1 + sz)))) ∧ Same H2 H') ⟨[], upd_same, .nil, same_new hD⟩ ?_ ?_
          · rintro i H3 hi ⟨ws, h3, hw, s3⟩
            have wl := hw.len
            rw [List.length_replicate] at wl
            refine ⟨rfl, _, rfl, _, rfl, _, rfl, _, _, rfl, rfl, ?_⟩
            refine ⟨_, _, rfl, rfl, RgOk.of_le (by omega) (by omega) (by omega) (by omega), fun q hq => ?_⟩
            have hq2 := s3.free hq
            have hqD : D ≠ q := ne_of_none h3 hq
            refine ⟨ws, by rw [upd_ne hqD]; exact h3, small_lt (by omega), ws ++ [.ref q], upd_same, ?_, same_mut (s3.trans (same_new hq)) hD⟩
            rw [List.replicate_succ']
            have hwn : RowsN (fun a => H a = none ∧ H2 a = none ∧ a ≠ D) (upd (upd H3 q (.lst (rgV (rs.length : Int) ((rs.length : Int) + (1 + sz))))) D (.lst (ws ++ [.ref q]))) ws (List.replicate i (rg rs.length ((rs.length : Int) + (1 + sz)))) := hw.mono fun a o pa ha => by rw [upd_ne pa.2.2, upd_ne (ne_of_none ha hq)]; exact ha
            refine RowsN.app (.cons ?_ ⟨g12.fresh T2 hq2, hq2, hqD.symm⟩ .nil) hwn
            rw [upd_ne hqD.symm, upd_same, rgV_rg]
          · rintro H3 ⟨ws, h3, hw, s3⟩
            have wl := hw.len
            rw [List.length_replicate] at wl
            have ul3 := s3 _ _ hp2
            refine ⟨p, D, us, ws, rfl, rfl, ul3, h3, by show _ ≤ sizeLine; exact Nat.le_of_lt (small_lt (by omega)), fun p3 hp3 => ?_⟩
            have B2 := hB.more (1 + sz).toNat
            rw [ewd] at B2
            have hlen : (((rs ++ List.replicate (1 + sz).toNat (rg rs.length ((rs.length : Int) + (1 + sz)))).length : Nat) : Int) = (rs.length : Int) + (1 + sz) := by rw [List.length_append, List.length_replicate]; omega
            have s33 : Same H2 (upd H3 p3 (.lst (us ++ ws))) := s3.trans (same_new hp3)
            have hp30 : H p3 = none := g12.fresh T2 (s3.free hp3)
            refine ⟨_, rfl, _, rfl, _, _, rfl, rfl, ?_⟩
            refine ⟨_, ?_, p3, us ++ ws, rs ++ List.replicate (1 + sz).toNat (rg rs.length ((rs.length : Int) + (1 + sz))), some (.int (1 + sz)), x5, x6, x7, x8, by rw [hlen]; rfl, rfl, by omega, B2, hp30, upd_same, ?_, g12.trans (Gs.of s33), T2.keep s33⟩
            · have : (rs ++ List.replicate (1 + sz).toNat (rg rs.length ((rs.length : Int) + (1 + sz)))).length = rs.length + (1 + sz).toNat := by rw [List.length_append, List.length_replicate]
              omega
            · have k1 : RowsN (Fr H p3) (upd H3 p3 (.lst (us ++ ws))) us rs := (hrs.imp (fun a ha pa => ⟨pa.1, ne_of_none (Option.ne_none_iff_exists'.mp ha).choose_spec (g2.fresh T2 (s3.free hp3))⟩)).mono fun a o pa ha => by
                have na := hT.free pa.1
                exact s33 _ _ (g2 _ _ na.1 na.2 ha)
              have k2 : RowsN (Fr H p3) (upd H3 p3 (.lst (us ++ ws))) ws (List.replicate (1 + sz).toNat (rg rs.length ((rs.length : Int) + (1 + sz)))) := (hw.imp (fun a ha pa => (⟨pa.1, ne_of_none (Option.ne_none_iff_exists'.mp ha).choose_spec hp3⟩ : Fr H p3 a))).mono fun a o pa ha => same_new hp3 _ _ ha
              exact RowsN.app k2 k1
        · have hc : ¬ (rs.length : Int) < n := fun z => hc (decide_eq_true z)
          exact ⟨p, us, rs, _, _, _, _, _, rfl, by omega, hB, hp0, hp, hrs, g1, T1⟩
      · exact fun σ H Q Q' kk h => by
          obtain ⟨a, e1, b, e2, i, j, r1, r2, c, r3, r4⟩ := h
          exact ⟨a, e1, b, e2, i, j, r1, r2, c, r3, kk _ _ r4⟩
    · rintro σ' H1 ⟨p, us, rs, x4, x5, x6, x7, x8, rfl, hl, hB, hp0, hp, hrs, g1, T1⟩
      obtain ⟨rs0, ers0⟩ : ∃ rs0, rs0 = rs.length := ⟨_, rfl⟩
      rw [← ers0]
      refine ⟨_, rfl, t, l, 3, rfl, T1, by decide, by decide, fun kd H2 _ _ g2 T2 => ?_⟩
      have g12 := g1.trans g2
      have np := hT.free hp0
      have pre0 : PreR n.toNat (rangeI n) rs := ⟨hl, fun r hr => (hB.asc r hr).imp fun {a b} h z => by omega, fun r hr x hx => by rw [← hl]; exact hB.rng r hr x hx, rangeI_len n, rangeI_nodup n, fun k t ht => by
        have kl : k < rs.length := by
          have := (List.getElem?_eq_some_iff.mp ht).1
          rw [rangeI_len] at this
          omega
        refine ⟨rs[k], List.getElem?_eq_getElem kl, ?_⟩
        have et : t = (k : Int) := by
          unfold rangeI at ht
          rw [List.getElem?_map] at ht
          cases q : (List.range n.toNat)[k]? with
          | none => rw [q] at ht; cases ht
          | some z =>
            rw [q] at ht
            have := List.getElem?_eq_some_iff.mp q
            obtain ⟨_, q2⟩ := this
            rw [List.getElem_range] at q2
            rw [← Option.some.inj ht, q2]
        rw [et]
        exact hB.own k _ (List.getElem?_eq_getElem kl)⟩
      have fr : ∀ {H3 H4 : Hp} {ws : List V} {qs : List (List Int)}, Gs t l H3 H4 → RowsN (Fr H p) H3 ws qs → RowsN (Fr H p) H4 ws qs := fun {H3 H4 ws qs} g h => h.mono fun a o pa ha => by
        have na := hT.free pa.1
        exact g _ _ na.1 na.2 ha
      refine ⟨_, rfl, _, rfl, by omega, by omega, for_range (lo := 0) (n := n.toNat) (fun i σ' H' => ∃ us rs x6 x7, σ' = [some (.ref t), some (.int n), some (.ref p), some (.int ((rs0 : Nat) : Int)), x4, some (.int kd), x6, x7, x8] ∧ PreR n.toNat (rangeI n) rs ∧ H' p = some (.lst us) ∧ RowsN (Fr H p) H' us rs ∧ Gs t l H H' ∧ Po H' t l) ⟨us, rs, _, _, rfl, pre0, g2 _ _ np.1 np.2 hp, fr g2 hrs, g12, T2⟩ ?_ ?_⟩
      · rintro i σ' H3 hi ⟨us, rs, x6, x7, rfl, pre, hp3, hrs3, g3, T3⟩
        have ul := hrs3.len
        have il : i < rs.length := by rw [pre.len]; exact hi
        obtain ⟨r, hr⟩ : ∃ r, rs[i]? = some r := ⟨_, List.getElem?_eq_getElem il⟩
        obtain ⟨a, ha1, ha2, ha3⟩ := hrs3.get hr
        have hix : ∀ (us' : List V) {a : Addr}, us'[i]? = some (.ref a) → atI us' (0 + (i : Int)) = some (.ref a) := fun us' a h => by rw [Int.zero_add]; exact atI_nat h
        have rpos : 0 < r.length := by
          obtain ⟨r', h1, h2⟩ := pre.has i (i : Int) (by unfold rangeI; rw [List.getElem?_map, List.getElem?_range hi]; rfl)
          rw [hr] at h1
          cases h1
          exact List.length_pos_of_mem h2
        refine ⟨_, rfl, _, rfl, p, us, _, .ref a, rfl, rfl, SqL.of hp3, hix us ha1, a, r, rfl, SqL.of ha2, rpos, fun mx hm1 hm2 => ?_⟩
        have mxr := pre.rng r (List.mem_of_getElem? hr) mx hm1
        refine ⟨_, _, rfl, rfl, _, rfl, ?_⟩
        refine ⟨_, _, rfl, ⟨by omega, by omega, by omega, by omega⟩, for_range (lo := mx + 1) (n := (n - (mx + 1)).toNat) (fun j σ' H' => ∃ us rs r x7, σ' = [some (.ref t), some (.int n), some (.ref p), some (.int ((rs0 : Nat) : Int)), x4, some (.int kd), some (.int (0 + (i : Int))), x7, x8] ∧ PreR n.toNat (rangeI n) rs ∧ rs[i]? = some r ∧ (∀ x ∈ r, x < mx + 1 + j) ∧ H' p = some (.lst us) ∧ RowsN (Fr H p) H' us rs ∧ Gs t l H H' ∧ Po H' t l) ⟨us, rs, r, _, rfl, pre, hr, fun x hx => by have := hm2 x hx; omega, hp3, hrs3, g3, T3⟩ ?_ ?_⟩
        · rintro j σ' H4 hj ⟨us, rs, r, x7, rfl, pre, hr, hlt, hp4, hrs4, g4, T4⟩
          refine blk_test rfl rfl T4 fun b H5 g5 T5 => ?_
          have hp5 := g5 _ _ np.1 np.2 hp4
          have hrs5 := fr g5 hrs4
          have g05 := g4.trans g5
          cases b with
          | false => exact ⟨us, rs, r, _, rfl, pre, hr, fun x hx => by have := hlt x hx; omega, hp5, hrs5, g05, T5⟩
          | true =>
            obtain ⟨a, ha1, ha2, ha3⟩ := hrs5.get hr
            have ul := hrs5.len
            have il : i < rs.length := by rw [pre.len]; exact hi
            have rl : r.length ≤ n.toNat := by
              have := Mt.len_le (l2 := rangeI n) (pre.nd r (List.mem_of_getElem? hr)) fun x hx => mem_rangeI.mpr (by have := pre.rng r (List.mem_of_getElem? hr) x hx; omega)
              rwa [rangeI_len] at this
            refine ⟨_, rfl, _, rfl, p, us, _, .ref a, rfl, rfl, SqL.of hp5, hix us ha1, ?_⟩
            refine ⟨_, rfl, by show 1 ≤ sizeLine; decide, fun q hq => ?_⟩
            refine ⟨a, q, r.map V.int, [V.int (mx + 1 + (j : Int))], rfl, rfl, by rw [upd_ne (ne_of_none ha2 hq)]; exact ha2, upd_same, Nat.le_of_lt (small_lt (by rw [List.length_map]; show r.length + 1 ≤ 100000; omega)), fun q2 hq2 => ?_⟩
            have s52 : Same H5 (upd (upd H5 q (.lst [V.int (mx + 1 + (j : Int))])) q2 (.lst (r.map V.int ++ [V.int (mx + 1 + (j : Int))]))) := (same_new hq).trans (same_new hq2)
            have pq2 : p ≠ q2 := ne_of_none (same_new hq _ _ hp5) hq2
            refine ⟨_, rfl, _, rfl, p, us, _, i, rfl, rfl, s52 _ _ hp5, ix0i (by omega), ?_⟩
            have hq20 : H q2 = none := g05.fresh T5 ((same_new hq).free hq2)
            have rr := pre.rng r (List.mem_of_getElem? hr)
            have rn := pre.nd r (List.mem_of_getElem? hr)
            refine ⟨us.set i (.ref q2), rs.set i (r ++ [mx + 1 + (j : Int)]), r ++ [mx + 1 + (j : Int)], _, rfl, pre.set hr ?_ ?_ (fun x hx => List.mem_append_left _ hx), List.getElem?_set_self il, ?_, upd_same, ?_, ?_, ?_⟩
            · refine List.nodup_append.mpr ⟨rn, (List.nodup_cons.mpr ⟨fun h => (by cases h), List.nodup_nil⟩), fun x hx y hy z => ?_⟩
              rw [List.mem_singleton] at hy
              have := hlt x hx
              omega
            · intro x hx
              rcases List.mem_append.mp hx with h | h
              · exact rr x h
              · rw [List.mem_singleton] at h
                omega
            · intro x hx
              rcases List.mem_append.mp hx with h | h
              · have := hlt x h
                omega
              · rw [List.mem_singleton] at h
                omega
            · refine RowsN.set ?_ ⟨hq20, pq2.symm⟩ i (hrs5.mono fun a o pa ha => ?_)
              · rw [upd_ne pq2.symm, upd_same, List.map_append]
                rfl
              · rw [upd_ne pa.2]
                exact s52 _ _ ha
            · exact (g05.trans (Gs.of s52)).mut hp0
            · exact (T5.keep s52).mut np
        · rintro σ' H4 ⟨us, rs, r, x7, rfl, pre, hr, hlt, hp4, hrs4, g4, T4⟩
          exact ⟨us, rs, _, _, rfl, pre, hp4, hrs4, g4, T4⟩
      · rintro σ' H3 ⟨us, rs, x6, x7, rfl, pre, hp3, hrs3, g3, T3⟩
        exact ⟨_, rfl, k p us rs H3 pre hp0 hp3 hrs3 g3 T3⟩
theorem PreR.of {n : Nat} {D : List Int} {rs : List (List Int)} (hl : rs.length = n) (dl : D.length = n) (dn : D.Nodup) (h : ∀ (k : Nat) (r : List Int), rs[k]? = some r → r.Nodup ∧ (∀ x ∈ r, 0 ≤ x ∧ x < (n : Int)) ∧ ∀ t, D[k]? = some t → t ∈ r) : PreR n D rs := by
  refine ⟨hl, fun r hr => ?_, fun r hr => ?_, dl, dn, fun k t ht => ?_⟩
  · obtain ⟨k, hk⟩ := List.mem_iff_getElem?.mp hr
    exact (h k r hk).1
  · obtain ⟨k, hk⟩ := List.mem_iff_getElem?.mp hr
    exact (h k r hk).2.1
  · have kl : k < rs.length := by
      have := (List.getElem?_eq_some_iff.mp ht).1
      omega
    exact ⟨rs[k], List.getElem?_eq_getElem kl, (h k _ (List.getElem?_eq_getElem kl)).2.2 t ht⟩
def WRow (t l : Addr) (n : Int) (H : Hp) (σ' : L2.St) (H' : Hp) : Prop := ∃ x2 x3 x4 p us rs D x6 x7 x8 x9 x10, σ' = [some (.ref t), some (.int n), x2, x3, x4, some (.ref p), x6, x7, x8, x9, x10] ∧ PreR n.toNat D rs ∧ H p = none ∧ H' p = some (.lst us) ∧ RowsN (Fr H p) H' us rs ∧ Gs t l H H' ∧ Po H' t l
def spRowsP (K : PySem.W.Frag) : Sp := fun vs H Q _ => ∃ (t l : Addr) (n : Int), vs = [.ref t, .int n] ∧ Po H t l ∧ 1 ≤ n ∧ n ≤ 12 ∧ ∀ (v : V) (rows : List (List Int)) (H' : Hp), Good rows → (rows.length : Int) = n → (∃ D, Mt.Ds rows D) → Gs t l H H' → Po H' t l → RowsAt K H' v rows → Q v H'
theorem ok_rowsP (A : At K mg "_law_rows" s_law_rows ["pool", "many"]) (T : Tx mg) (G_law_draw : Dfn P w K mg base "_law_draw" ["pool", "many"] 1 spDraw) (G_law_mixed : Dfn P w K mg base "_law_mixed" ["pool", "things"] 2 (spMixed K)) (G_law_blocks : Dfn P w K mg base "_law_blocks" ["pool", "many"] 2 spBlocks) : Dfn P w K mg base "_law_rows" ["pool", "many"] 3 (spRowsP K) := by
  refine A.ok sc_law_rows (fun vs H Q E h => ?_) (fun f cdv A outer s H vs Q E hr h => ?_)
  · obtain ⟨t, l, n, rfl, _⟩ := h
    rfl
  · obtain ⟨t, l, n, rfl, hT, hn, hn2, k⟩ := h
    refine ⟨_, (pss_cons (ps_set (i := 2) sc_law_rows.nd rfl (Or.inl rfl) (pe_d G_law_draw (hr.mono (by decide)) (pa_cons (pv 0) (pa_cons pe_int pa_nil))))
      (pss_cons (ps_set (i := 3) sc_law_rows.nd rfl (Or.inr rfl) (pe_d G_law_mixed (hr.mono (by decide)) (pa_cons (pv 0) (pa_cons (pe_listRg rfl (by rfl) T.list (prg_1 (by rfl) T.range (pv 1))) pa_nil))))
      (Evl.pss_cut (ps_if (pt_cmpR op_lt (pv 2) pe_int (nomark _)) (pss_cons (ps_set (i := 4) sc_law_rows.nd rfl (Or.inr rfl) (pe_op op_add pe_int (pe_d G_law_draw (hr.mono (by decide)) (pa_cons (pv 0) (pa_cons pe_int pa_nil)))))
      (pss_one (ps_set (i := 5) sc_law_rows.nd rfl (Or.inr rfl) (pe_lc (own := [("k", 9)]) (g := (gName 9)) (tt := tYes) (te := (tLc (iRng1 (tCons (tVar 1) tNil)) (gName 10) (tOr (tTest (tOp rEq (tVar 10) (tOp (rIxL K) (tVar 3) (tVar 9)))) (tTest (tOp (rI0 fun i j => V.bl (decide (i < j))) (tCall spDraw [] E0 (tCons (tVar 0) (tCons (tC (V.int 5)) tNil))) (tVar 4)))) (tVar 10) [10])) (by rfl) sc_law_rows.nd (pi_range1 rfl T.range (pa_cons (pv 1) pa_nil)) (blkOk_by (own := [("k", 9)]) (N := n_law_rows) (sc := (defScope s_law_rows)) (by decide +kernel)) (fun _ _ _ _ _ => (pg_name (i := 9) sc_law_rows.nd rfl (Or.inr rfl))) (fun _ _ _ _ _ => pts_nil) (fun _ _ _ _ _ => (pe_lc (own := [("thing", 10)]) (g := (gName 10)) (tt := (tOr (tTest (tOp rEq (tVar 10) (tOp (rIxL K) (tVar 3) (tVar 9)))) (tTest (tOp (rI0 fun i j => V.bl (decide (i < j))) (tCall spDraw [] E0 (tCons (tVar 0) (tCons (tC (V.int 5)) tNil))) (tVar 4))))) (te := (tVar 10)) (by rfl) sc_law_rows.nd (pi_range1 rfl T.range (pa_cons (pv 1) pa_nil)) (blkOk_by (own := [("thing", 10)]) (N := n_law_rows) (sc := (relabel (lcIn s_law_rows [2, 2] 0) (envA (defScope s_law_rows)))) (by decide +kernel)) (fun _ _ _ _ _ => (pg_name (i := 10) sc_law_rows.nd rfl (Or.inl rfl))) (fun _ _ _ _ _ => (pts_one (PW.pt (pw_or (pt_cmpR op_eq (pv 10) (pe_ix ix_list (pv 3) (pv 9) (fun _ _ => rfl)) (nomark _)) (pw_or1 (pt_cmpR op_lt (pe_d G_law_draw (hr.mono (by decide)) (pa_cons (pv 0) (pa_cons pe_int pa_nil))) (pv 4) (nomark _))))))) (fun _ _ _ _ _ => (pv 10)))))))) (pss_one (ps_if (pt_cmpR op_lt (pv 2) pe_int (nomark _)) (pss_one (ps_set (i := 5) sc_law_rows.nd rfl (Or.inr rfl) (pe_d G_law_blocks (hr.mono (by decide)) (pa_cons (pv 0) (pa_cons (pv 1) pa_nil))))) (pss_one (ps_if (PW.pt (pw_and (pt_cmpR op_eq (pv 2) pe_int (nomark _)) (pw_and1 (pt_cmpR op_gt (pv 1) pe_int (nomark _))))) (pss_one (ps_set (i := 5) sc_law_rows.nd rfl (Or.inr rfl) (pe_lc (own := [("k", 9)]) (g := (gName 9)) (tt := tYes) (te := (tLc (iRng1 (tCons (tVar 1) tNil)) (gName 10) (tTest (tOp rNe (tVar 10) (tVar 9))) (tVar 10) [10])) (by rfl) sc_law_rows.nd (pi_range1 rfl T.range (pa_cons (pv 1) pa_nil)) (blkOk_by (own := [("k", 9)]) (N := n_law_rows) (sc := (defScope s_law_rows)) (by decide +kernel)) (fun _ _ _ _ _ => (pg_name (i := 9) sc_law_rows.nd rfl (Or.inr rfl))) (fun _ _ _ _ _ => pts_nil) (fun _ _ _ _ _ => (pe_lc (own := [("thing", 10)]) (g := (gName 10)) (tt := (tTest (tOp rNe (tVar 10) (tVar 9)))) (te := (tVar 10)) (by rfl) sc_law_rows.nd (pi_range1 rfl T.range (pa_cons (pv 1) pa_nil)) (blkOk_by (own := [("thing", 10)]) (N := n_law_rows) (sc := (relabel (lcIn s_law_rows [2, 1, 1, 0] 0) (envA (defScope s_law_rows)))) (by decide +kernel)) (fun _ _ _ _ _ => (pg_name (i := 10) sc_law_rows.nd rfl (Or.inl rfl))) (fun _ _ _ _ _ => (pts_one (pt_cmpR op_ne (pv 10) (pv 9) (nomark _)))) (fun _ _ _ _ _ => (pv 10))))))) (pss_one (ps_set (i := 5) sc_law_rows.nd rfl (Or.inr rfl) (pe_lc (own := [("k", 9)]) (g := (gName 9)) (tt := tYes) (te := (tCB (rSortSetA w) (tCons (tCB (rSetL K w) (tCons (tLst (tCons (tVar 9) (tCons (tOp (rI (fun _ j => 0 < j) fun i j => V.int (i % j)) (tCB rIntOf (tCons (tOp (rI0 fun i j => V.int (i + j)) (tVar 9) (tC (V.int 1))) tNil)) (tVar 1)) tNil))) tNil)) tNil))) (by rfl) sc_law_rows.nd (pi_range1 rfl T.range (pa_cons (pv 1) pa_nil)) (blkOk_by (own := [("k", 9)]) (N := n_law_rows) (sc := (defScope s_law_rows)) (by decide +kernel)) (fun _ _ _ _ _ => (pg_name (i := 9) sc_law_rows.nd rfl (Or.inl rfl))) (fun _ _ _ _ _ => pts_nil) (fun _ _ _ _ _ => (pe_callB (cr_sortSetA rfl) (by rfl) T.sorted (by decide +kernel) (pa_cons (pe_callTy (cr_setL rfl) (by rfl) T.set (by decide +kernel) (pa_cons (pe_lst (pa_cons (pv 9) (pa_cons (pe_op op_mod (pe_callTy c_int (by rfl) T.int (by decide +kernel) (pa_cons (pe_op op_add (pv 9) pe_int) pa_nil)) (pv 1)) pa_nil))) pa_nil)) pa_nil)))))))))))
      (Evl.pss_cut (ps_if (pt_cmpR op_eq (pe_d G_law_draw (hr.mono (by decide)) (pa_cons (pv 0) (pa_cons pe_int pa_nil))) pe_int (nomark _)) (pss_cons (ps_set (i := 6) sc_law_rows.nd rfl (Or.inl rfl) (pe_d G_law_draw (hr.mono (by decide)) (pa_cons (pv 0) (pa_cons (pv 1) pa_nil))))
      (pss_one (ps_asg (pe_callB (cr_sortSetA rfl) (by rfl) T.sorted (by decide +kernel) (pa_cons (pe_callTy (cr_setL rfl) (by rfl) T.set (by decide +kernel) (pa_cons (pe_op op_cat (pe_ix ix_list (pv 5) (pv 6) (fun _ _ => rfl)) (pe_lst (pa_cons (pe_d G_law_draw (hr.mono (by decide)) (pa_cons (pv 0) (pa_cons (pv 1) pa_nil))) pa_nil))) pa_nil)) pa_nil)) (pg_sub (pv 5) (pv 6) set_list)))) pss_nil)
      (pss_cons (ps_set (i := 7) sc_law_rows.nd rfl (Or.inr rfl) (pe_d G_law_mixed (hr.mono (by decide)) (pa_cons (pv 0) (pa_cons (pe_listRg rfl (by rfl) T.list (prg_1 (by rfl) T.range (pv 1))) pa_nil))))
      (pss_cons (ps_set (i := 8) sc_law_rows.nd rfl (Or.inl rfl) (pe_d G_law_mixed (hr.mono (by decide)) (pa_cons (pv 0) (pa_cons (pe_listRg rfl (by rfl) T.list (prg_1 (by rfl) T.range (pv 1))) pa_nil))))
      (pss_one (ps_ret (pe_callTy c_tuple (by rfl) T.tuple (by decide +kernel) (pa_cons (pe_lc (own := [("k", 9)]) (g := (gName 9)) (tt := tYes) (te := (tCB (rTupOf K) (tCons (tCB (rSortedI K) (tCons (tLc (iList K (tOp (rIxL K) (tVar 5) (tVar 9))) (gName 10) tYes (tOp (rIxL K) (tVar 7) (tVar 10)) [10]) tNil)) tNil))) (by rfl) sc_law_rows.nd (pi_list (pv 8)) (blkOk_by (own := [("k", 9)]) (N := n_law_rows) (sc := (defScope s_law_rows)) (by decide +kernel)) (fun _ _ _ _ _ => (pg_name (i := 9) sc_law_rows.nd rfl (Or.inl rfl))) (fun _ _ _ _ _ => pts_nil) (fun _ _ _ _ _ => (pe_callTy c_tuple (by rfl) T.tuple (by decide +kernel) (pa_cons (pe_callB cr_sortedI (by rfl) T.sorted (by decide +kernel) (pa_cons (pe_lc (own := [("thing", 10)]) (g := (gName 10)) (tt := tYes) (te := (tOp (rIxL K) (tVar 7) (tVar 10))) (by rfl) sc_law_rows.nd (pi_list (pe_ix ix_list (pv 5) (pv 9) (fun _ _ => rfl))) (blkOk_by (own := [("thing", 10)]) (N := n_law_rows) (sc := (relabel (lcIn s_law_rows [6] 0) (envA (defScope s_law_rows)))) (by decide +kernel)) (fun _ _ _ _ _ => (pg_name (i := 10) sc_law_rows.nd rfl (Or.inl rfl))) (fun _ _ _ _ _ => pts_nil) (fun _ _ _ _ _ => (pe_ix ix_list (pv 7) (pv 10) (fun _ _ => rfl)))) pa_nil)) pa_nil)))) pa_nil)))))))))), ?_⟩
    refine ⟨_, rfl, t, l, 6, rfl, hT, by decide, by decide, fun kd H1 kd0 kd1 g1 T1 => ?_⟩
    refine ⟨_, rfl, _, rfl, n, rfl, RgOk.of_le (by decide) (by omega) (by decide) (by omega), fun q hq => ?_⟩
    refine ⟨t, l, q, rangeI n, rfl, T1.new hq, SqL.of (by rw [upd_same, rgV_rangeI]), by rw [rangeI_len]; omega, fun po os H2 pm hpo0 hpo g2 T2 => ?_⟩
    have g02 := g1.trans ((Gs.new hq).trans g2)
    have hpoH : H po = none := by
      refine g1.fresh T1 ?_
      cases z : H1 po with
      | none => rfl
      | some o => rw [same_new hq _ _ z] at hpo0; cases hpo0
    have npo := hT.free hpoH
    have ol : os.length = n.toNat := by rw [pm.length_eq, rangeI_len]
    refine ⟨WRow t l n H, ?_, ?_⟩
    · refine ⟨_, rfl, _, _, rfl, rfl, _, rfl, ite2 (fun hc => ?_) (fun hc => ?_)⟩
      · refine ⟨_, rfl, t, l, 4, rfl, T2, by decide, by decide, fun sh H3 _ _ g3 T3 => ⟨_, _, rfl, rfl, ?_⟩⟩
        refine ⟨_, rfl, n, rfl, by omega, by omega, fun D hD => ?_⟩
        have g03 := g02.trans g3
        have hD0 := g03.fresh T3 hD
        have nD := hT.free hD0
        have hpo3 := g3 _ _ npo.1 npo.2 hpo
        have npD : po ≠ D := ne_of_none hpo3 hD
        refine lc_range (lo := 0) (n := n.toNat) (fun i H' => ∃ us rs, H' D = some (.lst us) ∧ RowsN (Fr H D) H' us rs ∧ rs.length = i ∧ (∀ (k : Nat) (r : List Int), rs[k]? = some r → r.Nodup ∧ (∀ x ∈ r, 0 ≤ x ∧ x < (n.toNat : Int)) ∧ ∀ u, os[k]? = some u → u ∈ r) ∧ Gs t l H3 H' ∧ Po H' t l) ⟨[], [], upd_same, .nil, rfl, fun k r h => (by simp at h), Gs.new hD, T3.new hD⟩ ?_ ?_
        · rintro i H4 hi ⟨us, rs, h4, hrs, hl, hall, g4, T4⟩
          have ul := hrs.len
          obtain ⟨d, hd⟩ : ∃ d, os[i]? = some d := ⟨_, List.getElem?_eq_getElem (by omega)⟩
          have dr := mem_rangeI.mp (pm.mem_iff.mp (List.mem_of_getElem? hd))
          have had : atI (os.map V.int) (0 + (i : Int)) = some (.int d) := by rw [Int.zero_add]; exact atI_nat (by rw [List.getElem?_map, hd]; rfl)
          refine ⟨rfl, _, rfl, n, rfl, by omega, by omega, fun D2 hD2 => ?_⟩
          have nD2 := T4.free hD2
          have n12 : D ≠ D2 := ne_of_none h4 hD2
          have hpo4 := g4 _ _ npo.1 npo.2 hpo3
          have hD2H : H D2 = none := (g03.trans g4).fresh T4 hD2
          have npD2 : po ≠ D2 := ne_of_none hpo4 hD2
          refine lc_range (lo := 0) (n := n.toNat) (fun j H' => ∃ out : List Int, H' D2 = some (.lst (out.map V.int)) ∧ out.length ≤ j ∧ out.Pairwise (· < ·) ∧ (∀ x ∈ out, 0 ≤ x ∧ x < (j : Int)) ∧ (d < (j : Int) → d ∈ out) ∧ Gs t l H4 H' ∧ Po H' t l) ⟨[], upd_same, Nat.le_refl _, .nil, fun _ h => (by cases h), fun h => by omega, Gs.new hD2, T4.new hD2⟩ ?_ ?_
          · rintro j H5 hj ⟨out, h5, ol5, oa, oi, od, g5, T5⟩
            have hpo5 := g5 _ _ npo.1 npo.2 hpo4
            have take : ∀ H6, Gs t l H5 H6 → Po H6 t l → ∃ acc, H6 D2 = some (.lst acc) ∧ acc.length < sizeLine ∧ ∃ out : List Int, (upd H6 D2 (.lst (acc ++ [V.int (0 + (j : Int))]))) D2 = some (.lst (out.map V.int)) ∧ out.length ≤ j + 1 ∧ out.Pairwise (· < ·) ∧ (∀ x ∈ out, 0 ≤ x ∧ x < ((j + 1 : Nat) : Int)) ∧ (d < ((j + 1 : Nat) : Int) → d ∈ out) ∧ Gs t l H4 (upd H6 D2 (.lst (acc ++ [V.int (0 + (j : Int))]))) ∧ Po (upd H6 D2 (.lst (acc ++ [V.int (0 + (j : Int))]))) t l := fun H6 g6 T6 => by
              refine ⟨_, g6 _ _ nD2.1 nD2.2 h5, small_lt (by rw [List.length_map]; omega), out ++ [0 + (j : Int)], by rw [upd_same, List.map_append]; rfl, by rw [List.length_append]; exact Nat.succ_le_succ ol5, ?_, fun x hx => ?_, fun h => ?_, ?_, T6.mut nD2⟩
              · refine List.pairwise_append.mpr ⟨oa, List.pairwise_singleton _ _, fun x hx y hy => ?_⟩
                rw [List.mem_singleton] at hy
                have := oi x hx
                omega
              · rcases List.mem_append.mp hx with h | h
                · have := oi x h
                  omega
                · rw [List.mem_singleton] at h
                  omega
              · by_cases c : d < (j : Int)
                · exact List.mem_append_left _ (od c)
                · exact List.mem_append_right _ (List.mem_singleton.mpr (by omega))
              · exact (g5.trans g6).mut hD2
            refine ⟨rfl, _, rfl, _, rfl, _, rfl, po, _, _, _, rfl, rfl, SqL.of hpo5, had, rfl, _, rfl, ?_⟩
            refine ite2 (fun hq => ?_) (fun hq => ?_)
            · exact ⟨_, rfl, take H5 (Gs.refl _) T5⟩
            · have nd : (0 + (j : Int)) ≠ d := fun z => hq (by rw [z]; exact decide_eq_true rfl)
              refine ⟨_, rfl, t, l, 5, rfl, T5, by decide, by decide, fun x H6 _ _ g6 T6 => ⟨_, rfl, _, _, rfl, rfl, _, rfl, ?_⟩⟩
              refine ite2 (fun _ => ⟨_, rfl, take H6 g6 T6⟩) (fun _ => ?_)
              exact ⟨out, g6 _ _ nD2.1 nD2.2 h5, by omega, oa, fun x hx => by have := oi x hx; omega, fun h => od (by omega), g5.trans g6, T6⟩
          · rintro H5 ⟨out, h5, ol5, oa, oi, od, g5, T5⟩
            have h5D := g5 _ _ nD.1 nD.2 h4
            refine ⟨us, h5D, small_lt (by omega), us ++ [.ref D2], rs ++ [out], upd_same, ?_, by rw [List.length_append, hl]; rfl, fun k r hk => ?_, (g4.trans g5).mut hD, T5.mut nD⟩
            · refine RowsN.app (.cons (by rw [upd_ne n12.symm]; exact h5) ⟨hD2H, n12.symm⟩ .nil) (hrs.mono fun a o pa ha => ?_)
              have na := hT.free pa.1
              rw [upd_ne pa.2]
              exact g5 _ _ na.1 na.2 ha
            · by_cases c : k < rs.length
              · rw [List.getElem?_append_left c] at hk
                exact hall k r hk
              · have kl := (List.getElem?_eq_some_iff.mp hk).1
                rw [List.length_append, List.length_singleton] at kl
                have ke : k = rs.length := by omega
                rw [ke, List.getElem?_append_right (Nat.le_refl _), Nat.sub_self] at hk
                cases hk
                refine ⟨oa.imp fun {a b} h z => by omega, oi, fun u hu => ?_⟩
                rw [ke, hl, hd] at hu
                cases hu
                exact od (by omega)
        · rintro H4 ⟨us, rs, h4, hrs, hl, hall, g4, T4⟩
          exact ⟨_, _, _, D, us, rs, os, _, _, _, _, _, rfl, PreR.of hl ol (pm.symm.nodup (rangeI_nodup _)) hall, hD0, h4, hrs, g03.trans g4, T4⟩
      · refine ⟨_, rfl, _, _, rfl, rfl, _, rfl, ite2 (fun hc => ?_) (fun hc => ?_)⟩
        · refine ⟨_, rfl, _, rfl, t, l, n, rfl, T2, hn, hn2, fun p us rs H3 pre hp2 hp hrs g3 T3 => ?_⟩
          exact ⟨_, _, _, p, us, rs, _, _, _, _, _, _, rfl, pre, g02.fresh T2 hp2, hp, hrs.imp fun a _ pa => ⟨g02.fresh T2 pa.1, pa.2⟩, g02.trans g3, T3⟩
        · have ring : tAsg (tLc (iRng1 (tCons (tVar 1) tNil)) (gName 9) tYes (tCB (rSortSetA w) (tCons (tCB (rSetL K w) (tCons (tLst (tCons (tVar 9) (tCons (tOp (rI (fun x j => 0 < j) fun i j => V.int (i % j)) (tCB rIntOf (tCons (tOp (rI0 fun i j => V.int (i + j)) (tVar 9) (tC (V.int 1))) tNil)) (tVar 1)) tNil))) tNil)) tNil)) [9]) (gName 5) { nx := WRow t l n H, rt := fun _ _ => False } [some (.ref t), some (.int n), some (.int kd), some (.ref po), none, none, none, none, none, none, none] H2 := by
            refine ⟨_, rfl, n, rfl, by omega, by omega, fun D hD => ?_⟩
            have hD0 := g02.fresh T2 hD
            refine lc_range (lo := 0) (n := n.toNat) (fun i H' => ∃ us rs, H' D = some (.lst us) ∧ RowsN (Fr H D) H' us rs ∧ rs.length = i ∧ (∀ (k : Nat) (r : List Int), rs[k]? = some r → r.Nodup ∧ (∀ x ∈ r, 0 ≤ x ∧ x < (n.toNat : Int)) ∧ ∀ u, (rangeI n)[k]? = some u → u ∈ r) ∧ Same H2 H') ⟨[], [], upd_same, .nil, rfl, fun k r h => (by simp at h), same_new hD⟩ ?_ ?_
            · rintro i H4 hi ⟨us, rs, h4, hrs, hl, hall, s4⟩
              have ul := hrs.len
              refine ⟨rfl, _, rfl, _, rfl, _, _, rfl, rfl, .inl ⟨_, rfl, _, rfl, _, _, rfl, rfl, (by omega : (0 : Int) < n), ?_⟩⟩
              refine ⟨by show 2 ≤ sizeLine; decide, fun q hq => ?_⟩
              refine ⟨q, [0 + (i : Int), (0 + (i : Int) + 1) % n], rfl, SqL.of upd_same, by show 2 ≤ 4000; decide, fun a c ha hc _ => ?_⟩
              refine ⟨a, _, c, rfl, upd_same, Nat.le_trans hc (by show 2 ≤ 100000; decide), fun ks L asc mem len hL => ?_⟩
              have mem' : ∀ x : Int, x ∈ ks ↔ x ∈ [0 + (i : Int), (0 + (i : Int) + 1) % n] := fun x => (mem x).trans decide_eq_true_iff
              have s5 := (((same_new (H := H4) (o := .lst [V.int (0 + (i : Int)), V.int ((0 + (i : Int) + 1) % n)]) hq).trans (same_new (o := SetO w a (fun j => decide (j ∈ [0 + (i : Int), (0 + (i : Int) + 1) % n])) c) ha)).trans (same_new (o := .lst (ks.map V.int)) hL))
              have s25 := s4.trans s5
              have hL2 : H2 L = none := (s4.trans ((same_new (H := H4) (o := .lst [V.int (0 + (i : Int)), V.int ((0 + (i : Int) + 1) % n)]) hq).trans (same_new (o := SetO w a (fun j => decide (j ∈ [0 + (i : Int), (0 + (i : Int) + 1) % n])) c) ha))).free hL
              have hLH := g02.fresh T2 hL2
              have h5D := s5 _ _ h4
              have nDL : L ≠ D := (ne_of_none (((same_new (H := H4) (o := .lst [V.int (0 + (i : Int)), V.int ((0 + (i : Int) + 1) % n)]) hq).trans (same_new (o := SetO w a (fun j => decide (j ∈ [0 + (i : Int), (0 + (i : Int) + 1) % n])) c) ha)) _ _ h4) hL).symm
              refine ⟨us, h5D, small_lt (by omega), us ++ [.ref L], rs ++ [ks], upd_same, ?_, by rw [List.length_append, hl]; rfl, fun k r hk => ?_, same_mut s25 hD⟩
              · refine RowsN.app (.cons (by rw [upd_ne nDL]; exact upd_same) ⟨hLH, nDL⟩ .nil) (hrs.mono fun a o pa ha => ?_)
                rw [upd_ne pa.2]
                exact s5 _ _ ha
              · by_cases c : k < rs.length
                · rw [List.getElem?_append_left c] at hk
                  exact hall k r hk
                · have kl := (List.getElem?_eq_some_iff.mp hk).1
                  rw [List.length_append, List.length_singleton] at kl
                  have ke : k = rs.length := by omega
                  rw [ke, List.getElem?_append_right (Nat.le_refl _), Nat.sub_self] at hk
                  cases hk
                  refine ⟨asc.imp fun {a b} h z => by omega, fun x hx => ?_, fun u hu => ?_⟩
                  · have := (mem' x).mp hx
                    have e1 := Int.emod_nonneg (0 + (i : Int) + 1) (show n ≠ 0 by omega)
                    have e2 := Int.emod_lt_of_pos (0 + (i : Int) + 1) (show 0 < n by omega)
                    rcases List.mem_cons.mp this with h | h
                    · omega
                    · rw [List.mem_singleton] at h
                      omega
                  · rw [ke, hl] at hu
                    refine (mem' u).mpr ?_
                    unfold rangeI at hu
                    rw [List.getElem?_map, List.getElem?_range hi] at hu
                    rw [← Option.some.inj hu, Int.zero_add]
                    exact List.mem_cons_self
            · rintro H4 ⟨us, rs, h4, hrs, hl, hall, s4⟩
              exact ⟨_, _, _, D, us, rs, _, _, _, _, _, _, rfl, PreR.of hl (rangeI_len n) (rangeI_nodup n) hall, hD0, h4, hrs, g02.trans (Gs.of s4), T2.keep s4⟩
          refine ⟨_, rfl, rfl, _, rfl, ite2 (fun hc => ?_) (fun hc => ring)⟩
          refine ⟨_, rfl, _, _, rfl, rfl, _, rfl, ite2 (fun hc => ?_) (fun hc => ring)⟩
          have n1 : 1 < n := of_decide_eq_true hc
          clear ring
          refine ⟨_, rfl, n, rfl, by omega, by omega, fun D hD => ?_⟩
          have hD0 := g02.fresh T2 hD
          refine lc_range (lo := 0) (n := n.toNat) (fun i H' => ∃ us rs, H' D = some (.lst us) ∧ RowsN (Fr H D) H' us rs ∧ rs.length = i ∧ (∀ (k : Nat) (r : List Int), rs[k]? = some r → r.Nodup ∧ (∀ x ∈ r, 0 ≤ x ∧ x < (n.toNat : Int)) ∧ ∀ u, (nextD n.toNat)[k]? = some u → u ∈ r) ∧ Same H2 H') ⟨[], [], upd_same, .nil, rfl, fun k r h => (by simp at h), same_new hD⟩ ?_ ?_
          · rintro i H4 hi ⟨us, rs, h4, hrs, hl, hall, s4⟩
            have ul := hrs.len
            refine ⟨rfl, _, rfl, n, rfl, by omega, by omega, fun D2 hD2 => ?_⟩
            have n12 : D ≠ D2 := ne_of_none h4 hD2
            have hD2H := g02.fresh T2 (s4.free hD2)
            refine lc_range (lo := 0) (n := n.toNat) (fun j H' => ∃ out : List Int, H' D2 = some (.lst (out.map V.int)) ∧ out.length ≤ j ∧ out.Pairwise (· < ·) ∧ (∀ x ∈ out, 0 ≤ x ∧ x < (j : Int)) ∧ (∀ x : Int, 0 ≤ x → x < (j : Int) → x ≠ (i : Int) → x ∈ out) ∧ Same H4 H') ⟨[], upd_same, Nat.le_refl _, .nil, fun _ h => (by cases h), fun x h0 h1 => by omega, same_new hD2⟩ ?_ ?_
            · rintro j H5 hj ⟨out, h5, ol5, oa, oi, od, s5⟩
              refine ⟨rfl, _, rfl, _, rfl, rfl, _, rfl, ?_⟩
              refine ite2 (fun hq => ?_) (fun hq => ?_)
              · refine ⟨_, rfl, _, h5, small_lt (by rw [List.length_map]; omega), out ++ [0 + (j : Int)], by rw [upd_same, List.map_append]; rfl, by rw [List.length_append]; exact Nat.succ_le_succ ol5, ?_, fun x hx => ?_, fun x x0 x1 xi => ?_, same_mut s5 hD2⟩
                · refine List.pairwise_append.mpr ⟨oa, List.pairwise_singleton _ _, fun x hx y hy => ?_⟩
                  rw [List.mem_singleton] at hy
                  have := oi x hx
                  omega
                · rcases List.mem_append.mp hx with h | h
                  · have := oi x h
                    omega
                  · rw [List.mem_singleton] at h
                    omega
                · by_cases c : x < (j : Int)
                  · exact List.mem_append_left _ (od x x0 c xi)
                  · exact List.mem_append_right _ (List.mem_singleton.mpr (by omega))
              · have ei : (0 + (j : Int)) = 0 + (i : Int) := by
                  refine Classical.byContradiction fun z => hq ?_
                  rw [decide_eq_false (fun z2 => z (by injection z2))]
                  rfl
                exact ⟨out, h5, by omega, oa, fun x hx => by have := oi x hx; omega, fun x x0 x1 xi => od x x0 (by omega) xi, s5⟩
            · rintro H5 ⟨out, h5, ol5, oa, oi, od, s5⟩
              refine ⟨us, s5 _ _ h4, small_lt (by omega), us ++ [.ref D2], rs ++ [out], upd_same, ?_, by rw [List.length_append, hl]; rfl, fun k r hk => ?_, same_mut (s4.trans s5) hD⟩
              · refine RowsN.app (.cons (by rw [upd_ne n12.symm]; exact h5) ⟨hD2H, n12.symm⟩ .nil) (hrs.mono fun a o pa ha => ?_)
                rw [upd_ne pa.2]
                exact s5 _ _ ha
              · by_cases c : k < rs.length
                · rw [List.getElem?_append_left c] at hk
                  exact hall k r hk
                · have kl := (List.getElem?_eq_some_iff.mp hk).1
                  rw [List.length_append, List.length_singleton] at kl
                  have ke : k = rs.length := by omega
                  rw [ke, List.getElem?_append_right (Nat.le_refl _), Nat.sub_self] at hk
                  cases hk
                  refine ⟨oa.imp fun {a b} h z => by omega, oi, fun u hu => ?_⟩
                  rw [ke, hl] at hu
                  obtain ⟨u0, u1, u2⟩ := nextD_at (by omega) hu
                  exact od u u0 (by omega) u2
          · rintro H4 ⟨us, rs, h4, hrs, hl, hall, s4⟩
            exact ⟨_, _, _, D, us, rs, _, _, _, _, _, _, rfl, PreR.of hl nextD_len (nextD_nd _) hall, hD0, h4, hrs, g02.trans (Gs.of s4), T2.keep s4⟩
    · rintro σ' H3 ⟨x2, x3, x4, p, us, rs, D, x6, x7, x8, x9, x10, rfl, pre, hp0, hp, hrs, g3, T3⟩
      refine ⟨WRow t l n H, ?_, ?_⟩
      · refine ⟨_, rfl, t, l, 3, rfl, T3, by decide, by decide, fun x H4 _ _ g4 T4 => ⟨rfl, _, rfl, ite2 (fun _ => ?_) (fun _ => ?_)⟩⟩
        · have np := hT.free hp0
          refine ⟨_, rfl, _, rfl, t, l, n, rfl, T4, by omega, by omega, fun at_ H5 a0 a1 g5 T5 => ?_⟩
          have g35 := g4.trans g5
          have hp5 := g35 _ _ np.1 np.2 hp
          have fr : ∀ {H3 H4 : Hp} {ws : List V} {qs : List (List Int)}, Gs t l H3 H4 → RowsN (Fr H p) H3 ws qs → RowsN (Fr H p) H4 ws qs := fun {H3 H4 ws qs} g h => h.mono fun a o pa ha => by
            have na := hT.free pa.1
            exact g _ _ na.1 na.2 ha
          have hrs5 := fr g35 hrs
          have ul := hrs5.len
          have al : at_.toNat < rs.length := by rw [pre.len]; omega
          obtain ⟨r, hr⟩ : ∃ r, rs[at_.toNat]? = some r := ⟨_, List.getElem?_eq_getElem al⟩
          obtain ⟨a, ha1, ha2, ha3⟩ := hrs5.get hr
          have na := hT.free ha3.1
          have hix : atI us at_ = some (.ref a) := by
            have := atI_nat ha1
            rwa [show ((at_.toNat : Nat) : Int) = at_ by omega] at this
          have rr := pre.rng r (List.mem_of_getElem? hr)
          have rn := pre.nd r (List.mem_of_getElem? hr)
          have rl : r.length ≤ n.toNat := by
            have := Mt.len_le (l2 := rangeI n) rn fun x hx => mem_rangeI.mpr (by have := rr x hx; omega)
            rwa [rangeI_len] at this
          refine ⟨_, rfl, _, rfl, p, us, at_, .ref a, rfl, rfl, SqL.of hp5, hix, ?_⟩
          refine ⟨_, rfl, _, rfl, t, l, n, rfl, T5, by omega, by omega, fun z H6 z0 z1 g6 T6 => ⟨by show 1 ≤ sizeLine; decide, fun q hq => ?_⟩⟩
          have ha6 := g6 _ _ na.1 na.2 ha2
          refine ⟨a, q, r.map V.int, [V.int z], rfl, rfl, same_new hq _ _ ha6, upd_same, Nat.le_of_lt (small_lt (by rw [List.length_map]; show r.length + 1 ≤ 100000; omega)), fun q2 hq2 => ?_⟩
          refine ⟨q2, r ++ [z], rfl, SqL.of (by rw [upd_same, List.map_append]; rfl), by rw [List.length_append, List.length_singleton]; omega, fun sa c hsa hc _ => ?_⟩
          refine ⟨sa, _, c, rfl, upd_same, Nat.le_trans hc (by rw [List.length_append, List.length_singleton]; omega), fun ks L asc mem len hL => ?_⟩
          have mem' : ∀ x : Int, x ∈ ks ↔ x ∈ r ++ [z] := fun x => (mem x).trans decide_eq_true_iff
          obtain ⟨H7, e7⟩ : ∃ H7, H7 = upd (upd (upd H6 q (.lst [V.int z])) q2 (.lst (r.map V.int ++ [V.int z]))) sa (SetO w sa (fun j => decide (j ∈ r ++ [z])) c) := ⟨_, rfl⟩
          have s67 : Same H6 H7 := by rw [e7]; exact ((same_new hq).trans (same_new hq2)).trans (same_new hsa)
          have hL7 : H7 L = none := by rw [e7]; exact hL
          have hp6 := g6 _ _ np.1 np.2 hp5
          have pL : L ≠ p := (ne_of_none (s67 _ _ hp6) hL7).symm
          have g06 := ((g3.trans g35).trans g6)
          have hLH : H L = none := g06.fresh T6 (s67.free hL7)
          have s8 : Same H6 (upd H7 L (.lst (ks.map V.int))) := s67.trans (same_new hL7)
          rw [e7] at s8
          refine ⟨_, rfl, _, rfl, p, us, at_, at_.toNat, rfl, rfl, s8 _ _ hp6, by rw [show at_ = ((at_.toNat : Nat) : Int) by omega]; exact ix_nat (by omega), ?_⟩
          refine ⟨_, _, _, p, us.set at_.toNat (.ref L), rs.set at_.toNat ks, D, _, _, _, _, _, rfl, pre.set hr (asc.imp fun {a b} h z => by omega) (fun x hx => ?_) (fun x hx => (mem' x).mpr (List.mem_append_left _ hx)), hp0, upd_same, ?_, ?_, ?_⟩
          · rcases List.mem_append.mp ((mem' x).mp hx) with h | h
            · exact rr x h
            · rw [List.mem_singleton] at h
              omega
          · refine RowsN.set ?_ ⟨hLH, pL⟩ _ ((fr g6 hrs5).mono fun a o pa ha => ?_)
            · rw [upd_ne pL, upd_same]
            · rw [upd_ne pa.2]
              exact s8 _ _ ha
          · exact (g06.trans (Gs.of s8)).mut hp0
          · exact (T6.keep s8).mut np
        · have np := hT.free hp0
          refine ⟨_, _, _, p, us, rs, D, _, _, _, _, _, rfl, pre, hp0, g4 _ _ np.1 np.2 hp, hrs.mono fun a o pa ha => ?_, g3.trans g4, T4⟩
          have na := hT.free pa.1
          exact g4 _ _ na.1 na.2 ha
      · clear hp hrs pre T3 g3
        rintro σ' H3 ⟨x2, x3, x4, p, us, rs, D, x6, x7, x8, x9, x10, rfl, pre, hp0, hp, hrs, g3, T3⟩
        have np := hT.free hp0
        have ul := hrs.len
        refine ⟨_, rfl, _, rfl, n, rfl, RgOk.of_le (by decide) (by omega) (by decide) (by omega), fun q hq => ?_⟩
        refine ⟨t, l, q, rangeI n, rfl, T3.new hq, SqL.of (by rw [upd_same, rgV_rangeI]), by rw [rangeI_len]; omega, fun pa ps H4 pm4 hpa0 hpa g4 T4 => ?_⟩
        have g34 := (Gs.new (t := t) (l := l) (o := .lst (rgV 0 n)) hq).trans g4
        refine ⟨_, rfl, _, rfl, n, rfl, RgOk.of_le (by decide) (by omega) (by decide) (by omega), fun q2 hq2 => ?_⟩
        refine ⟨t, l, q2, rangeI n, rfl, T4.new hq2, SqL.of (by rw [upd_same, rgV_rangeI]), by rw [rangeI_len]; omega, fun pb os5 H5 pm5 hpb0 hpb g5 T5 => ?_⟩
        have g35 := g34.trans ((Gs.new (t := t) (l := l) (o := .lst (rgV 0 n)) hq2).trans g5)
        have hpaH : H pa = none := g3.fresh T3 (by
          cases zz : H3 pa with
          | none => rfl
          | some o => rw [same_new hq _ _ zz] at hpa0; cases hpa0)
        have npa := hT.free hpaH
        have hpa5 : H5 pa = some (.lst (ps.map V.int)) := g5 _ _ npa.1 npa.2 (same_new hq2 _ _ hpa)
        have hp5 := g35 _ _ np.1 np.2 hp
        have hrs5 : RowsN (Fr H p) H5 us rs := hrs.mono fun a o pa ha => by
          have na := hT.free pa.1
          exact g35 _ _ na.1 na.2 ha
        have psl : ps.length = n.toNat := by rw [pm4.length_eq, rangeI_len]
        have osl : os5.length = n.toNat := by rw [pm5.length_eq, rangeI_len]
        have psn : ps.Nodup := pm4.symm.nodup (rangeI_nodup _)
        have osn : os5.Nodup := pm5.symm.nodup (rangeI_nodup _)
        have psr : ∀ u : Int, 0 ≤ u → u < n → 0 ≤ plc ps u ∧ plc ps u < n ∧ ps[u.toNat]? = some (plc ps u) := fun u u0 u1 => by
          have e := List.getElem?_eq_getElem (l := ps) (i := u.toNat) (by omega)
          have e2 : ps[u.toNat]? = some (plc ps u) := by unfold plc; rw [e]; rfl
          have := mem_rangeI.mp (pm4.mem_iff.mp (List.mem_of_getElem? e2))
          exact ⟨this.1, this.2, e2⟩
        have pin : ∀ u v : Int, 0 ≤ u → u < n → 0 ≤ v → v < n → plc ps u = plc ps v → u = v := fun u v u0 u1 v0 v1 e => by
          have a := (psr u u0 u1).2.2
          have b := (psr v v0 v1).2.2
          rw [e] at a
          have := (List.getElem?_inj (by omega) psn).mp (a.trans b.symm)
          omega
        refine ⟨_, rfl, pb, rfl, ⟨_, SqL.of hpb⟩, fun DD hDD => ?_⟩
        have hDDH : H DD = none := (g3.trans g35).fresh T5 hDD
        refine lc_list (xs := os5.map V.int) (fun i H' => ∃ ws R, H' DD = some (.lst ws) ∧ RowsT K H' ws R ∧ R.length = i ∧ (∀ (k : Nat) (r : List Int), R[k]? = some r → r.Pairwise (· < ·) ∧ (∀ x ∈ r, 0 ≤ x ∧ x < n) ∧ ∀ o, os5[k]? = some o → ∀ tt, D[o.toNat]? = some tt → plc ps tt ∈ r) ∧ Same H5 H') ⟨[], [], upd_same, .nil, rfl, fun k r h => (by simp at h), same_new hDD⟩ (fun i H' _ hp => SqL.of (hp.choose_spec.choose_spec.2.2.2.2 _ _ hpb)) ?_ ?_
        · rintro i y H6 hy ⟨ws, R, h6, hw, hl, hall, s6⟩
          have wl := hw.len
          have il := (List.getElem?_eq_some_iff.mp hy).1
          rw [List.length_map] at il
          obtain ⟨z, ez, hz⟩ : ∃ z, y = V.int z ∧ os5[i]? = some z := by
            rw [List.getElem?_map, List.getElem?_eq_getElem il] at hy
            exact ⟨_, (Option.some.inj hy).symm, List.getElem?_eq_getElem il⟩
          subst ez
          have zr := mem_rangeI.mp (pm5.mem_iff.mp (List.mem_of_getElem? hz))
          have zl : z.toNat < rs.length := by rw [pre.len]; omega
          obtain ⟨r, hr⟩ : ∃ r, rs[z.toNat]? = some r := ⟨_, List.getElem?_eq_getElem zl⟩
          obtain ⟨a, ha1, ha2, ha3⟩ := hrs5.get hr
          have hix : atI us z = some (.ref a) := by
            have := atI_nat ha1
            rwa [show ((z.toNat : Nat) : Int) = z by omega] at this
          have rr := pre.rng r (List.mem_of_getElem? hr)
          have rn := pre.nd r (List.mem_of_getElem? hr)
          have rl : r.length ≤ n.toNat := by
            have := Mt.len_le (l2 := rangeI n) rn fun x hx => mem_rangeI.mpr (by have := rr x hx; omega)
            rwa [rangeI_len] at this
          refine ⟨rfl, _, rfl, _, rfl, p, us, z, .ref a, rfl, rfl, SqL.of (s6 _ _ hp5), hix, a, rfl, ⟨_, SqL.of (s6 _ _ ha2)⟩, fun D2 hD2 => ?_⟩
          refine lc_list (xs := r.map V.int) (fun j H' => H' D2 = some (.lst (((r.take j).map (plc ps)).map V.int)) ∧ Same H6 H') ⟨upd_same, same_new hD2⟩ (fun j H' _ hp => SqL.of (hp.2 _ _ (s6 _ _ ha2))) ?_ ?_
          · rintro j u H7 hu ⟨h7, s7⟩
            have jl := (List.getElem?_eq_some_iff.mp hu).1
            rw [List.length_map] at jl
            obtain ⟨x, ex, hx⟩ : ∃ x, u = V.int x ∧ r[j]? = some x := by
              rw [List.getElem?_map, List.getElem?_eq_getElem jl] at hu
              exact ⟨_, (Option.some.inj hu).symm, List.getElem?_eq_getElem jl⟩
            subst ex
            have xr := rr x (List.mem_of_getElem? hx)
            have hxx : atI (ps.map V.int) x = some (.int (plc ps x)) := by
              have := atI_nat (xs := ps.map V.int) (j := x.toNat) (v := V.int (plc ps x)) (by rw [List.getElem?_map, (psr x xr.1 (by omega)).2.2]; rfl)
              rwa [show ((x.toNat : Nat) : Int) = x by omega] at this
            refine ⟨rfl, _, rfl, _, rfl, pa, _, x, _, rfl, rfl, SqL.of (s7 _ _ (s6 _ _ hpa5)), hxx, _, h7, small_lt (by rw [List.length_map, List.length_map, List.length_take]; omega), ?_, same_mut s7 hD2⟩
            rw [upd_same, List.take_add_one, hx, List.map_append, List.map_append]
            rfl
          · rintro H7 ⟨h7, s7⟩
            rw [List.length_map, List.take_length] at h7
            refine ⟨D2, _, rfl, SqL.of h7, fun ks L pm up hL => ?_⟩
            refine ⟨L, _, rfl, .inl ⟨SqL.of upd_same, fun lt hlt => ?_⟩⟩
            have s8 := (s7.trans (same_new (o := .lst (ks.map V.int)) hL)).trans (same_new (o := .tup (ks.map V.int)) hlt)
            have h8 := s8 _ _ h6
            refine ⟨_, h8, small_lt (by omega), ws ++ [.ref lt], R ++ [ks], upd_same, RowsT.put h8 (RowsT.snoc (SqT.of upd_same) (hw.same s8)), by rw [List.length_append, hl]; rfl, fun k rr' hk => ?_, same_mut (s6.trans s8) hDD⟩
            by_cases c : k < R.length
            · rw [List.getElem?_append_left c] at hk
              exact hall k rr' hk
            · have kl := (List.getElem?_eq_some_iff.mp hk).1
              rw [List.length_append, List.length_singleton] at kl
              have ke : k = R.length := by omega
              rw [ke, List.getElem?_append_right (Nat.le_refl _), Nat.sub_self] at hk
              cases hk
              have knd : ks.Nodup := pm.symm.nodup (by
                unfold List.Nodup
                rw [List.pairwise_map]
                exact rn.imp_of_mem fun {a b} ha hb hne e => hne (pin a b (rr a ha).1 (by have := rr a ha; omega) (rr b hb).1 (by have := rr b hb; omega) e))
              refine ⟨(List.Pairwise.and up knd).imp fun h => by omega, fun x hx => ?_, fun o ho tt htt => ?_⟩
              · obtain ⟨u, hu, rfl⟩ := List.mem_map.mp (pm.mem_iff.mp hx)
                have := rr u hu
                have := psr u this.1 (by omega)
                exact ⟨this.1, this.2.1⟩
              · rw [ke, hl, hz] at ho
                cases ho
                obtain ⟨r', h1, h2⟩ := pre.has _ _ htt
                rw [hr] at h1
                cases h1
                exact pm.mem_iff.mpr (List.mem_map.mpr ⟨tt, h2, rfl⟩)
        · rintro H6 ⟨ws, R, h6, hw, hl, hall, s6⟩
          rw [List.length_map, osl] at hl
          refine ⟨DD, ws, rfl, .inl ⟨SqL.of h6, fun z hz => ?_⟩⟩
          have s7 := s6.trans (same_new (o := .tup ws) hz)
          have allm : ∀ r ∈ R, r.Pairwise (· < ·) ∧ ∀ x ∈ r, 0 ≤ x ∧ x < n := fun r hr => by
            obtain ⟨k, hk⟩ := List.mem_iff_getElem?.mp hr
            exact ⟨(hall k r hk).1, (hall k r hk).2.1⟩
          have lR : (R.length : Int) = n := by omega
          have Dg : ∀ o ∈ os5, ∃ tt, D[o.toNat]? = some tt ∧ 0 ≤ tt ∧ tt < n := fun o ho => by
            have zr := mem_rangeI.mp (pm5.mem_iff.mp ho)
            have hD := List.getElem?_eq_getElem (l := D) (i := o.toNat) (by rw [pre.dl]; omega)
            obtain ⟨r', h1, h2⟩ := pre.has _ _ hD
            have := pre.rng r' (List.mem_of_getElem? h1) _ h2
            exact ⟨_, hD, this.1, by omega⟩
          refine k _ R _ ⟨by omega, fun r hr => (allm r hr).1, fun r hr x hx => by rw [lR]; exact (allm r hr).2 x hx⟩ lR ⟨os5.map fun o => plc ps ((D[o.toNat]?).getD 0), ?_, fun q tt ht => ?_, ?_⟩ ((g3.trans g35).trans (Gs.of s7)) (T5.keep s7) ⟨z, ws, rfl, SqT.of upd_same, hw.same (same_new hz)⟩
          · rw [List.length_map, osl, hl]
          · rw [List.getElem?_map] at ht
            cases e : os5[q]? with
            | none => rw [e] at ht; cases ht
            | some o =>
              rw [e] at ht
              have ql : q < R.length := by
                have := (List.getElem?_eq_some_iff.mp e).1
                omega
              obtain ⟨dd, hd1, hd2, hd3⟩ := Dg o (List.mem_of_getElem? e)
              have := (hall q _ (List.getElem?_eq_getElem ql)).2.2 o e dd hd1
              rw [Mt.row_get (List.getElem?_eq_getElem ql)]
              have et := Option.some.inj ht
              have et : plc ps ((D[o.toNat]?).getD 0) = tt := et
              rw [hd1] at et
              rw [← et]
              exact this
          · unfold List.Nodup
            rw [List.pairwise_map]
            refine osn.imp_of_mem fun {a b} ha hb hne e => hne ?_
            obtain ⟨da, h1, h2, h3⟩ := Dg a ha
            obtain ⟨db, h4, h5, h6⟩ := Dg b hb
            rw [h1, h4] at e
            have e2 := pin da db h2 h3 h5 h6 e
            rw [← e2] at h4
            have za := mem_rangeI.mp (pm5.mem_iff.mp ha)
            have zb := mem_rangeI.mp (pm5.mem_iff.mp hb)
            have := (List.getElem?_inj (by rw [pre.dl]; omega) pre.dn).mp (h1.trans h4.symm)
            omega
end
end Fo
set_option maxRecDepth 100000
set_option maxHeartbeats 1000000
namespace Fo
open PySem PySem.Spec PyProof.Rows L2
theorem ext_len {r : List Int} {n : Nat} (h : r.length ≤ n) : ∀ found : List (List Int), (Mt.ext found r).length ≤ found.length * n
  | [] => Nat.zero_le _
  | d :: l => by
    have ih := ext_len h l
    unfold Mt.ext at ih ⊢
    rw [List.flatMap_cons, List.length_append, List.length_map, List.length_cons, Nat.succ_mul]
    have := List.length_filter_le (fun t => decide (t ∉ d)) r
    omega
theorem deals_len {n : Nat} : ∀ rows : List (List Int), (∀ r ∈ rows, r.length ≤ n) → (Mt.deals rows).length ≤ n ^ rows.length := by
  refine Mt.rev_ind (P := fun rows => (∀ r ∈ rows, r.length ≤ n) → (Mt.deals rows).length ≤ n ^ rows.length) ?_ ?_
  · intro _
    exact Nat.le_refl 1
  · intro l x ih h
    rw [Mt.deals_snoc, List.length_append]
    have h1 := ih fun r hr => h r (List.mem_append_left _ hr)
    have h2 := ext_len (h x (List.mem_append_right _ List.mem_cons_self)) (Mt.deals l)
    show _ ≤ n ^ (l.length + 1)
    rw [Nat.pow_succ]
    exact Nat.le_trans h2 (Nat.mul_le_mul_right n h1)
theorem ext_len2 {r : List Int} {m : Nat} : ∀ found : List (List Int), (∀ d ∈ found, (r.filter fun t => decide (t ∉ d)).length ≤ m) → (Mt.ext found r).length ≤ found.length * m
  | [], _ => Nat.zero_le _
  | d :: l, h => by
    have ih := ext_len2 l fun e he => h e (List.mem_cons_of_mem _ he)
    have h1 := h d List.mem_cons_self
    unfold Mt.ext at ih ⊢
    rw [List.flatMap_cons, List.length_append, List.length_map, List.length_cons, Nat.succ_mul]
    omega
def descL (n : Nat) : Nat → Nat
  | 0 => 1
  | k + 1 => descL n k * (n - k)
theorem left_len {n : Nat} {r d : List Int} (hr : r.Pairwise (· < ·)) (rr : ∀ x ∈ r, 0 ≤ x ∧ x < (n : Int)) (hd : d.Nodup) (dr : ∀ x ∈ d, 0 ≤ x ∧ x < (n : Int)) : (r.filter fun t => decide (t ∉ d)).length ≤ n - d.length := by
  have nr : (r.filter fun t => decide (t ∉ d)).Nodup := List.Pairwise.filter _ (hr.imp fun {a b} h => by omega)
  have nd : (d ++ r.filter fun t => decide (t ∉ d)).Nodup := List.nodup_append.mpr ⟨hd, nr, fun a ha b hb e => by
    have := of_decide_eq_true (List.mem_filter.mp hb).2
    exact this (e ▸ ha)⟩
  have := Mt.len_le (l2 := rangeI n) nd fun x hx => by
    rcases List.mem_append.mp hx with hx | hx
    · exact mem_rangeI.mpr (dr x hx)
    · exact mem_rangeI.mpr (rr x (List.mem_filter.mp hx).1)
  rw [List.length_append, rangeI_len] at this
  omega
theorem deals_desc {n : Nat} : ∀ rows : List (List Int), (∀ r ∈ rows, r.Pairwise (· < ·) ∧ ∀ x ∈ r, 0 ≤ x ∧ x < (n : Int)) → (Mt.deals rows).length ≤ descL n rows.length := by
  refine Mt.rev_ind (P := fun rows => (∀ r ∈ rows, r.Pairwise (· < ·) ∧ ∀ x ∈ r, 0 ≤ x ∧ x < (n : Int)) → (Mt.deals rows).length ≤ descL n rows.length) ?_ ?_
  · intro _
    exact Nat.le_refl 1
  · intro l x ih h
    have i1 := ih fun r hr => h r (List.mem_append_left _ hr)
    obtain ⟨x1, x2⟩ := h x (List.mem_append_right _ List.mem_cons_self)
    rw [Mt.deals_snoc, List.length_append, List.length_singleton]
    show _ ≤ descL n l.length * (n - l.length)
    refine Nat.le_trans (ext_len2 (m := n - l.length) _ fun d hd => ?_) (Nat.mul_le_mul_right _ i1)
    have dd := (Mt.mem_deals d).mp hd
    rw [← dd.len]
    refine left_len x1 x2 dd.nd fun t ht => ?_
    obtain ⟨i, hi⟩ := List.getElem?_of_mem ht
    obtain ⟨r, hr, htr⟩ := row_mem (dd.tie i t hi)
    exact (h r (List.mem_append_left _ hr)).2 t htr
/-- at most ten people, and not too many dealings on the way -/
structure Fit (rows : List (List Int)) : Prop where
  n : rows.length ≤ 10
  few : ∀ i, (Mt.deals (rows.take i)).length ≤ 1048576
  all : (Mt.deals rows).length ≤ 4000
theorem few_of {rows : List (List Int)} {n m : Nat} (h : rows.length ≤ m) (hr : ∀ r ∈ rows, r.length ≤ n) (n0 : 1 ≤ n) (b : n ^ m ≤ 1048576) (i : Nat) : (Mt.deals (rows.take i)).length ≤ 1048576 := by
  have h1 := deals_len (n := n) (rows.take i) fun r h => hr r (List.mem_of_mem_take h)
  have h2 : n ^ (rows.take i).length ≤ n ^ m := Nat.pow_le_pow_right n0 (by rw [List.length_take]; omega)
  omega
theorem desc6 : ∀ n : Nat, n ≤ 6 → descL n n ≤ 720
  | 0, _ => by decide
  | 1, _ => by decide
  | 2, _ => by decide
  | 3, _ => by decide
  | 4, _ => by decide
  | 5, _ => by decide
  | 6, _ => by decide
  | n + 7, h => by omega
theorem fit6 {rows : List (List Int)} (G : Good rows) (h : rows.length ≤ 6) : Fit rows where
  n := by omega
  few := few_of h (fun r hr => Nat.le_trans (G.row_len r hr) h) (by decide) (by decide)
  all := by
    have h1 := deals_desc (n := rows.length) rows fun r hr => ⟨G.asc r hr, G.rng r hr⟩
    have h2 := desc6 _ h
    omega
end Fo
set_option maxRecDepth 100000
set_option maxHeartbeats 4000000
namespace Fo
open PySem PySem.Spec PyProof.Rows L2
abbrev s_law_all : Stmt := top 55
abbrev n_law_all : List Str := ["rows", "found", "row", "longer", "told", "thing"]
theorem sc_law_all : FnScope n_law_all ["rows"] (defScope s_law_all) := ⟨rfl, rfl, rfl, by decide +kernel, rfl, by decide +kernel, by decide +kernel⟩
theorem take_snocA {α : Type} {xs : List α} {i : Nat} {x : α} (h : xs[i]? = some x) : xs.take (i + 1) = xs.take i ++ [x] := by rw [List.take_add_one, h]; rfl
theorem lx_lt2 : ∀ {a b : List Int}, Mt.Lx a b → a < b
  | a, b, ⟨0, x, y, _, h2, h3, h4⟩ => by
    cases a with
    | nil => cases h2
    | cons u a =>
      cases b with
      | nil => cases h3
      | cons v b =>
        rw [Option.some.inj h2, Option.some.inj h3]
        exact List.cons_lt_cons_iff.mpr (.inl h4)
  | a, b, ⟨q + 1, x, y, h1, h2, h3, h4⟩ => by
    cases a with
    | nil => cases h2
    | cons u a =>
      cases b with
      | nil => cases h3
      | cons v b =>
        have e : u = v := Option.some.inj (h1 0 (Nat.succ_pos q))
        rw [e]
        exact List.cons_lt_cons_iff.mpr (.inr ⟨rfl, lx_lt2 ⟨q, x, y, fun j hj => h1 (j + 1) (Nat.succ_lt_succ hj), h2, h3, h4⟩⟩)
theorem keys_rows2 {K : PySem.W.Frag} {H : Hp} : ∀ {os : List (Addr × List Int)}, (∀ b ∈ os, SqT K H b.1 (b.2.map V.int)) → RowsT K H (os.map fun b => V.ref b.1) (os.map fun b => b.2)
  | [], _ => .nil
  | b :: os, h => .cons (h b List.mem_cons_self) (keys_rows2 fun c hc => h c (List.mem_cons_of_mem _ hc))
theorem rowsT_bs {K : PySem.W.Frag} {H : Hp} : ∀ {ws : List V} {R : List (List Int)}, RowsT K H ws R → ∃ bs : List (Addr × List Int), ws = bs.map (fun b => V.ref b.1) ∧ R = bs.map (fun b => b.2) ∧ ∀ b ∈ bs, SqT K H b.1 (b.2.map V.int)
  | _, _, .nil => ⟨[], rfl, rfl, fun _ h => (by cases h)⟩
  | _, _, .cons (a := a) (r := r) h t => by
    obtain ⟨bs, e1, e2, e3⟩ := rowsT_bs t
    refine ⟨(a, r) :: bs, by rw [e1]; rfl, by rw [e2]; rfl, fun b hb => ?_⟩
    rcases List.mem_cons.mp hb with rfl | hb
    · exact h
    · exact e3 b hb
section
variable {P : Program} {w : World} {K : PySem.W.Frag} {mg : Str → Option Value} {base : Heap} {C : Addr}
def spAll (K : PySem.W.Frag) : Sp := fun vs H Q _ => ∃ (rv : V) (rows : List (List Int)), vs = [rv] ∧ RowsAt K H rv rows ∧ Good rows ∧ Fit rows ∧
  ∀ l ws H', Same H H' → H l = none → H' l = some (.lst ws) → RowsT K H' ws (Mt.deals rows) → Q (.ref l) H'
theorem ok_all (A : At K mg "_law_all" s_law_all ["rows"]) (T : Tx mg) : Dfn P w K mg base "_law_all" ["rows"] 1 (spAll K) := by
  refine A.ok sc_law_all (fun vs H Q E h => ?_) (fun f cdv A outer s H vs Q E hr h => ?_)
  · obtain ⟨rv, rows, rfl, _⟩ := h
    rfl
  · obtain ⟨rv, rows, rfl, hR, G, hn, k⟩ := h
    obtain ⟨ra, rvs, rfl, hra, hrt⟩ := id hR
    have rvl := hrt.len
    refine ⟨_, (pss_cons (ps_set (i := 1) sc_law_all.nd rfl (Or.inl rfl) (pe_lst (pa_cons (pe_tup pa_nil) pa_nil)))
      (pss_cons (ps_for PassesOwn.never rfl (pi_tup (pv 0)) (pg_name (i := 2) sc_law_all.nd rfl (Or.inl rfl))
      (pss_cons (ps_set (i := 3) sc_law_all.nd rfl (Or.inl rfl) (pe_lst pa_nil))
      (pss_cons (ps_for PassesOwn.never rfl (pi_list (pv 1)) (pg_name (i := 4) sc_law_all.nd rfl (Or.inr rfl))
      (pss_one (ps_expr (pe_bm PySem.F.plainAttrs_list PySem.F.slot_list_extend PySem.F.type_list_extend mt_extend (pv 3) (pa_cons (pe_lc (own := [("thing", 5)]) (g := (gName 5)) (tt := (tTest (tOp (rIn K true) (tVar 5) (tVar 4)))) (te := (tOp (rCatA K) (tVar 4) (tTup (tCons (tVar 5) tNil)))) (by rfl) sc_law_all.nd (pi_tup (pv 2)) (blkOk_by (own := [("thing", 5)]) (N := n_law_all) (sc := (defScope s_law_all)) (by decide +kernel)) (fun _ _ _ _ _ => (pg_name (i := 5) sc_law_all.nd rfl (Or.inl rfl))) (fun _ _ _ _ _ => (pts_one (pt_cmpR op_notIn_seq (pv 5) (pv 4) rfl))) (fun _ _ _ _ _ => (pe_op op_catA (pv 4) (pe_tup (pa_cons (pv 5) pa_nil))))) pa_nil)))))
      (pss_one (ps_set (i := 1) sc_law_all.nd rfl (Or.inl rfl) (pv 3))))))
      (pss_one (ps_ret (pe_callB (cr_sortedTT hr.units) (by rfl) T.sorted (by decide +kernel) (pa_cons (pv 1) pa_nil)))))), ?_⟩
    have rl : ∀ r ∈ rows, r.length ≤ 10 := fun r hr => Nat.le_trans (G.row_len r hr) hn.n
    have hn10 := hn.n
    have dl : ∀ i, (Mt.deals (rows.take i)).length ≤ 1048576 := hn.few
    refine ⟨by show 0 ≤ sizeLine; decide, fun t0 ht0 => ⟨by show 1 ≤ sizeLine; decide, fun f0 hf0 => ?_⟩⟩
    have s0 : Same H (upd H t0 (.tup [])) := same_new ht0
    have s1 := s0.trans (same_new (o := .lst [V.ref t0]) hf0)
    have r1 : RowsT K (upd (upd H t0 (.tup [])) f0 (.lst [V.ref t0])) [V.ref t0] [[]] := .cons (sqT_same (same_new hf0) (SqT.of upd_same)) .nil
    refine ⟨_, rfl, ra, rfl, ⟨_, sqT_same s1 hra⟩, ?_⟩
    refine for_tup (xs := rvs) (fun i σ' H' => ∃ x2 x3 x4 x5 f ws, σ' = [some (.ref ra), some (.ref f), x2, x3, x4, x5] ∧ H' f = some (.lst ws) ∧ RowsT K H' ws (Mt.deals (rows.take i)) ∧ Same H H' ∧ H f = none) ⟨_, _, _, _, f0, _, rfl, upd_same, r1, s1, s0.free hf0⟩ (fun i σ' H' _ hp => by obtain ⟨_, _, _, _, _, _, _, _, _, s3, _⟩ := hp; exact sqT_same s3 hra) ?_ ?_
    · rintro i x σ' H1 hx ⟨x2, x3, x4, x5, f, ws, rfl, hf, hw, s2, ff⟩
      obtain ⟨q, r, ex, hri, hq2⟩ : ∃ q r, x = .ref q ∧ rows[i]? = some r ∧ SqT K H q (r.map V.int) := by
        have hir : i < rows.length := by have := (List.getElem?_eq_some_iff.mp hx).1; omega
        have hri := List.getElem?_eq_getElem hir
        obtain ⟨q, h1, h2⟩ := hrt.get hri
        rw [hx] at h1
        exact ⟨q, _, Option.some.inj h1, hri, h2⟩
      subst ex
      have rl6 := rl r (List.mem_of_getElem? hri)
      have hir : i < rows.length := (List.getElem?_eq_some_iff.mp hri).1
      refine ⟨by show 0 ≤ sizeLine; decide, fun g hg => ?_⟩
      have nfg : f ≠ g := ne_of_none hf hg
      have s3 := s2.trans (same_new (o := .lst []) hg)
      have fg : H g = none := s2.free hg
      have wl : ws.length = (Mt.deals (rows.take i)).length := hw.len
      have wb := dl i
      refine ⟨_, rfl, f, rfl, ⟨ws, SqL.of (by rw [upd_ne nfg]; exact hf)⟩, ?_⟩
      refine for_list (xs := ws) (fun j σ' H' => ∃ x4 x5 vs, σ' = [some (.ref ra), some (.ref f), some (.ref q), some (.ref g), x4, x5] ∧ H' f = some (.lst ws) ∧ RowsT K H' ws (Mt.deals (rows.take i)) ∧ H' g = some (.lst vs) ∧ RowsT K H' vs (Mt.ext ((Mt.deals (rows.take i)).take j) r) ∧ Same H H') ⟨_, _, [], rfl, by rw [upd_ne nfg]; exact hf, hw.same (same_new hg), upd_same, .nil, s3⟩ (fun j σ' H' _ hp => by obtain ⟨_, _, _, _, h, _⟩ := hp; exact SqL.of h) ?_ ?_
      · rintro j y σ' H2 hy ⟨x4', x5', vs, rfl, hf2, hw2, hg2, hv2, s4⟩
        have jl : j < (Mt.deals (rows.take i)).length := by have := (List.getElem?_eq_some_iff.mp hy).1; omega
        have hdj := List.getElem?_eq_getElem jl
        obtain ⟨d, ed⟩ : ∃ d, d = (Mt.deals (rows.take i))[j] := ⟨_, rfl⟩
        rw [← ed] at hdj
        obtain ⟨b, hb1, hb2⟩ := hw2.get hdj
        rw [hy] at hb1
        have ey : y = .ref b := Option.some.inj hb1
        subst ey
        have dlen : d.length ≤ 10 := by
          have hd := (Mt.mem_deals d).mp (List.mem_of_getElem? hdj)
          have := hd.len
          rw [List.length_take] at this
          omega
        have vb : vs.length ≤ 1048576 * 10 := by
          rw [hv2.len]
          have h1 := ext_len (n := 10) (r := r) rl6 ((Mt.deals (rows.take i)).take j)
          rw [List.length_take] at h1
          have h2 : min j (Mt.deals (rows.take i)).length * 10 ≤ 1048576 * 10 := Nat.mul_le_mul_right 10 (by omega)
          omega
        refine ⟨_, rfl, .inl ⟨rfl, _, SqL.of hg2⟩, _, rfl, q, rfl, ⟨_, sqT_same s4 hq2⟩, fun D hD => ?_⟩
        have nDg : g ≠ D := ne_of_none hg2 hD
        have nDf : f ≠ D := ne_of_none hf2 hD
        refine lc_tup (xs := r.map V.int) (fun l H' => ∃ us, H' D = some (.lst us) ∧ RowsT K H' us (((r.take l).filter fun t => decide (t ∉ d)).map fun t => d ++ [t]) ∧ Same H2 H') ⟨[], upd_same, .nil, same_new hD⟩ (fun l H' _ hp => by obtain ⟨_, _, _, s5⟩ := hp; exact sqT_same (s4.trans s5) hq2) ?_ ?_
        · rintro l z H3 hz ⟨us, hu, hur, s5⟩
          obtain ⟨t, ht, rfl⟩ : ∃ t, r[l]? = some t ∧ z = V.int t := by
            rw [List.getElem?_map] at hz
            cases e : r[l]? with
            | none => rw [e] at hz; cases hz
            | some u => rw [e] at hz; exact ⟨u, rfl, (Option.some.inj hz).symm⟩
          have ub : us.length ≤ 10 := by
            rw [hur.len, List.length_map]
            exact Nat.le_trans (List.length_filter_le _ _) (by rw [List.length_take]; omega)
          refine ⟨rfl, _, rfl, _, rfl, b, _, rfl, .inr (sqT_same s5 hb2), rfl, all_flat_ints _, _, rfl, ?_⟩
          show if (!inV (V.int t) (d.map V.int)) = true then _ else _
          rw [inV_ints]
          by_cases hc : t ∈ d
          · rw [show (!decide (t ∈ d)) = false from by rw [decide_eq_true hc]; rfl]
            refine ⟨us, hu, ?_, s5⟩
            rw [take_snocA ht, List.filter_append, show [t].filter (fun t => decide (t ∉ d)) = [] from by rw [List.filter_cons_of_neg (by simpa using hc)]; rfl, List.append_nil]
            exact hur
          · rw [show (!decide (t ∈ d)) = true from by rw [decide_eq_false hc]; rfl]
            refine ⟨_, rfl, _, rfl, by show 1 ≤ sizeLine; decide, fun o ho => ?_⟩
            have s6 : Same H3 (upd H3 o (.tup [V.int t])) := same_new ho
            refine catA (ys := [V.int t]) (sqT_same (s5.trans s6) hb2) (SqT.of upd_same) (by rw [List.length_map]; show d.length + 1 ≤ 100000; omega) fun c H4 s7 hcq => ?_
            have s67 := s6.trans s7
            refine ⟨us, s67 _ _ hu, small_lt (by omega), us ++ [.ref c], upd_same, ?_, same_mut (s5.trans s67) hD⟩
            rw [take_snocA ht, List.filter_append, show [t].filter (fun t => decide (t ∉ d)) = [t] from by rw [List.filter_cons_of_pos (by simpa using hc)]; rfl, List.map_append]
            have hc2 : SqT K H4 c ((d ++ [t]).map V.int) := by rw [List.map_append]; exact hcq
            exact RowsT.put (s67 _ _ hu) (RowsT.snoc hc2 (hur.same s67))
        · rintro H3 ⟨us, hu, hur, s5⟩
          rw [List.length_map, List.take_length] at hur
          have hg3 := s5 _ _ hg2
          have hf3 := s5 _ _ hf2
          have ub : us.length ≤ 10 := by
            rw [hur.len, List.length_map]
            exact Nat.le_trans (List.length_filter_le _ _) rl6
          have s45 := s4.trans s5
          have bigS : 1048576 * 10 + 10 ≤ sizeLine := by decide
          refine ⟨g, D, vs, us, rfl, rfl, hg3, hu, by omega, ?_⟩
          refine ⟨_, _, vs ++ us, rfl, by rw [upd_ne nfg]; exact hf3, RowsT.put hg3 (hw2.same s5), upd_same, ?_, same_mut s45 fg⟩
          rw [take_snocA hdj]
          have e : Mt.ext ((Mt.deals (rows.take i)).take j ++ [d]) r = Mt.ext ((Mt.deals (rows.take i)).take j) r ++ (r.filter fun t => decide (t ∉ d)).map fun t => d ++ [t] := by
            unfold Mt.ext
            rw [List.flatMap_append, List.flatMap_singleton]
          rw [e]
          exact RowsT.put hg3 ((hv2.same s5).app hur)
      · rintro σ' H2 ⟨x4', x5', vs, rfl, hf2, hw2, hg2, hv2, s4⟩
        rw [List.take_of_length_le (by omega)] at hv2
        refine ⟨_, rfl, _, _, _, _, g, vs, rfl, hg2, ?_, s4, fg⟩
        rw [take_snocA hri, Mt.deals_snoc]
        exact hv2
    · rintro σ' H1 ⟨x2, x3, x4, x5, f, ws, rfl, hf, hw, s2, ff⟩
      rw [List.take_of_length_le (by omega)] at hw
      obtain ⟨bs, eb1, eb2, eb3⟩ := rowsT_bs hw
      rw [eb1] at hf
      have ne : ∀ b ∈ bs, b.2 ≠ [] := fun b hb e => by
        have hm : b.2 ∈ Mt.deals rows := by rw [eb2]; exact List.mem_map.mpr ⟨b, hb, rfl⟩
        have := ((Mt.mem_deals _).mp hm).len
        rw [e] at this
        have := G.pos
        simp at *
        omega
      refine ⟨_, rfl, f, bs, rfl, SqL.of hf, fun b hb => ⟨eb3 b hb, ne b hb⟩, fun os p pm srt hp => ?_⟩
      have eo : os.map (fun b => b.2) = Mt.deals rows := by
        rw [eb2]
        refine (pm.map fun b : Addr × List Int => b.2).eq_of_pairwise (fun a b _ _ h1 h2 => List.le_antisymm h1 h2) srt ?_
        rw [← eb2]
        exact (Mt.deals_lx G.asc).imp fun h => List.le_of_lt (lx_lt2 h)
      have s8 := same_new (o := .lst (os.map fun b => V.ref b.1)) hp
      refine k p _ _ (s2.trans s8) (s2.free hp) upd_same ?_
      rw [← eo]
      exact keys_rows2 fun b hb => sqT_same s8 (eb3 b (pm.mem_iff.mp hb))
end
end Fo
set_option maxRecDepth 100000
set_option maxHeartbeats 4000000
namespace Fo
open PySem PySem.Spec PyProof.Rows L2
theorem catP {K : PySem.W.Frag} {a b : Addr} {xs ys : List V} {H : Hp} {Q : VK} (ha : SqT K H a xs) (hb : SqT K H b ys) (hs : xs.length + ys.length ≤ sizeLine) (k : ∀ p H', Same H H' → SqT K H' p (xs ++ ys) → Q (.ref p) H') : rCatA K (.ref a) (.ref b) H Q := by
  refine ⟨a, b, xs, ys, rfl, rfl, ha, hb, hs, fun e => ?_, fun _ e => ?_, fun _ _ p hp => k p _ (same_new hp) (SqT.of upd_same)⟩
  · subst e
    exact k b H (Same.refl H) hb
  · subst e
    exact k a H (Same.refl H) (by rw [List.append_nil]; exact ha)
end Fo
set_option maxRecDepth 100000
set_option maxHeartbeats 4000000
namespace Fo
open PySem PySem.Spec PyProof.Rows L2
theorem tup_once (l : Addr) (items : Array Value) (n : Nat) (dd : Option Addr) (sl : Array (Option Value)) (u : Tok) :
    Meets (Builtin.«tuple.__mul__» ⟨[.ref l, .int 1 u], []⟩) (fun _ R s => s.heap.get? l = some { cls := .type "tuple", dict := dd, data := .seq items n, slots := sl } ∧ R (.ok (.ret (Value.ref l))) s) :=
  .of_wp fun prog w A R s h => by
    obtain ⟨hp, g, d, tk, os⟩ := s
    obtain ⟨hl, h⟩ := h
    have f1 := AutoSeq1.idx_int
    have c1 : (items.isEmpty || (1 : Int) == 1) = true := by rw [Bool.or_comm]; rfl
    wp_walk using wpAny_loadPart' hl
    repeat (first
      | (refine wpAny_ite_false (decide_eq_false (by decide)) ?_; wp_walk using wpAny_loadPart' hl)
      | (refine wpAny_ite_true (decide_eq_true (by rw [c1])) ?_; wp_walk using wpAny_loadPart' hl)
      | (refine wpAny_ite_true (decide_eq_true (by decide)) ?_; wp_walk using wpAny_loadPart' hl))
    exact ⟨_, rfl, h⟩
def rRepTn (K : PySem.W.Frag) : R2 := fun x y H Q => ∃ l k xs, x = .ref l ∧ y = .int k ∧ SqT K H l xs ∧ xs ≠ [] ∧ 1 ≤ k ∧ k ≤ 1000 ∧ xs.length ≤ 1000 ∧ ∀ p H', Same H H' → SqT K H' p (List.replicate k.toNat xs).flatten → Q (.ref p) H'
section
variable {X : Cx}
theorem op_repTn : OpR X (binaryOp .Mult) (rRepTn X.K) := by
  intro pins s σ H x y v u Q I rx ry h
  obtain ⟨l, k, xs, rfl, rfl, hT, hne, h1, h2, hz, q⟩ := h
  by_cases e : k = 1
  · subst e
    cases rx
    obtain ⟨t, rfl⟩ := ry
    obtain ⟨its, r, ⟨⟨cls, dd, data, sl⟩, ho, hc, n, hd⟩, hs⟩ := I.tuple hT
    simp only at hc hd
    subst hc hd
    refine wpAny_binaryOp_repeat_ref (T := "tuple") (U := "int") (by decide) ⟨_, ho, rfl⟩ (fun s' => typeIs_int s' 1 t) noFill_tuple_mul F.fills_int_mul F.slot_int_rmul repeat_tuple F.slot_int_index.lookup
      (call_meets F.slot_int_rmul (typeIs_int s 1 t) F.entry_int_rmul (F.args_int_rmul_2 _ _) (int_rmul_tuple 1 t l its.toArray n dd sl)
        ⟨ho, rfl, ⟨_, ho, rfl⟩, call_meets F.slot_tuple_mul ⟨_, ho, rfl⟩ F.entry_tuple_mul (F.args_tuple_mul_2 _ _) (tup_once l its.toArray n dd sl t) ⟨ho, ?_⟩⟩)
    refine ⟨.ref l, H, I.tok _, rfl, q l H (Same.refl H) ?_⟩
    rw [show (List.replicate ((1 : Int)).toNat xs).flatten = xs from by show (List.replicate 1 xs).flatten = xs; simp]
    exact hT
  · exact op_repT pins s σ H (.ref l) (.int k) v u Q I rx ry ⟨l, k, xs, rfl, rfl, hT, hne, by omega, h2, hz, fun p hp => q p _ (same_new hp) (SqT.of upd_same)⟩
end
end Fo
set_option maxRecDepth 100000
set_option maxHeartbeats 4000000
namespace Fo
open PySem PySem.Spec PyProof.Rows L2
abbrev s_law_fits : Stmt := top 56
abbrev n_law_fits : List Str := ["standing", "dealing", "k"]
theorem sc_law_fits : FnScope n_law_fits ["standing", "dealing"] (defScope s_law_fits) := ⟨rfl, rfl, rfl, by decide +kernel, rfl, by decide +kernel, by decide +kernel⟩
abbrev s_law_drawn : Stmt := top 57
abbrev n_law_drawn : List Str := ["standing", "person", "thing"]
theorem sc_law_drawn : FnScope n_law_drawn ["standing", "person", "thing"] (defScope s_law_drawn) := ⟨rfl, rfl, rfl, by decide +kernel, rfl, by decide +kernel, by decide +kernel⟩
abbrev s_law_open : Stmt := top 58
abbrev n_law_open : List Str := ["deals", "standing", "person", "told"]
theorem sc_law_open : FnScope n_law_open ["deals", "standing", "person"] (defScope s_law_open) := ⟨rfl, rfl, rfl, by decide +kernel, rfl, by decide +kernel, by decide +kernel⟩
abbrev s_law_is_near : Stmt := top 59
abbrev n_law_is_near : List Str := ["rows", "standing", "person", "thing"]
theorem sc_law_is_near : FnScope n_law_is_near ["rows", "standing"] (defScope s_law_is_near) := ⟨rfl, rfl, rfl, by decide +kernel, rfl, by decide +kernel, by decide +kernel⟩
abbrev s_law_sides : Stmt := top 60
abbrev n_law_sides : List Str := ["rows", "deals", "standing", "person", "custom", "left", "got", "thing"]
theorem sc_law_sides : FnScope n_law_sides ["rows", "deals", "standing", "person", "custom"] (defScope s_law_sides) := ⟨rfl, rfl, rfl, by decide +kernel, rfl, by decide +kernel, by decide +kernel⟩
abbrev s_law_bottom : Stmt := top 61
abbrev n_law_bottom : List Str := ["rows", "deals", "turn", "custom", "dealing", "standing", "found", "person"]
theorem sc_law_bottom : FnScope n_law_bottom ["rows", "deals", "turn", "custom", "dealing"] (defScope s_law_bottom) := ⟨rfl, rfl, rfl, by decide +kernel, rfl, by decide +kernel, by decide +kernel⟩
def fitI (os : List (Option Int)) (E : List Int) (k : Nat) : Bool := match os[k]?.getD none with
  | none => true
  | some t => decide (t = E.getD k 0)
def fitB (os : List (Option Int)) (E : List Int) : Bool := (List.range os.length).all (fitI os E)
/-- the standing behind j draws -/
def stO (n : Nat) (tn : List Nat) (D : List Int) (j : Nat) : List (Option Int) := (List.range n).map fun p => if p ∈ tn.take j then some (D.getD p 0) else none
theorem stO_len {n : Nat} {tn : List Nat} {D : List Int} {j : Nat} : (stO n tn D j).length = n := by
  unfold stO
  rw [List.length_map, List.length_range]
theorem stO_at {n p : Nat} {tn : List Nat} {D : List Int} {j : Nat} (h : p < n) : (stO n tn D j)[p]? = some (if p ∈ tn.take j then some (D.getD p 0) else none) := by
  unfold stO
  rw [List.getElem?_map, List.getElem?_range h]
  rfl
theorem stO_zero {n : Nat} {tn : List Nat} {D : List Int} : stO n tn D 0 = List.replicate n none := by
  unfold stO
  refine List.ext_getElem? fun k => ?_
  rw [List.getElem?_map, List.getElem?_replicate]
  by_cases h : k < n
  · rw [List.getElem?_range h, if_pos h]
    rfl
  · rw [List.getElem?_eq_none (by rw [List.length_range]; omega), if_neg h]
    rfl
theorem stO_succ {n p : Nat} {tn : List Nat} {D : List Int} {j : Nat} (hp : tn[j]? = some p) (h : p < n) : (stO n tn D j).set p (some (D.getD p 0)) = stO n tn D (j + 1) := by
  refine List.ext_getElem? fun k => ?_
  by_cases kn : k < n
  · rw [stO_at kn, List.take_add_one, hp]
    by_cases e : p = k
    · subst e
      rw [List.getElem?_set_self (by rw [stO_len]; exact kn), Option.toList_some, if_pos (List.mem_append_right _ (List.mem_singleton.mpr rfl))]
    · rw [List.getElem?_set_ne e, stO_at kn]
      have : k ∈ tn.take j ++ (some p).toList ↔ k ∈ tn.take j := by
        rw [List.mem_append]
        exact ⟨fun h => h.elim id fun h => absurd (List.mem_singleton.mp h).symm e, .inl⟩
      simp only [this]
  · rw [List.getElem?_eq_none (by rw [List.length_set, stO_len]; omega), List.getElem?_eq_none (by rw [stO_len]; omega)]
theorem fit_st {n : Nat} {tn : List Nat} {D E : List Int} {j : Nat} (hd : D.length = n) (he : E.length = n) (lt : ∀ p ∈ tn, p < n) : fitB (stO n tn D j) E = true ↔ Mt.agree (tn.take j) D E := by
  have at_ : ∀ {X : List Int}, X.length = n → ∀ p, p < n → X[p]? = some (X.getD p 0) := fun {X} hx p hp => by
    rw [List.getD_eq_getElem?_getD, List.getElem?_eq_getElem (by omega)]
    rfl
  unfold fitB
  rw [List.all_eq_true, stO_len]
  constructor
  · intro h p hp
    have pn := lt p (List.mem_of_mem_take hp)
    have := h p (List.mem_range.mpr pn)
    unfold fitI at this
    rw [stO_at pn, if_pos hp] at this
    rw [at_ he p pn, at_ hd p pn]
    exact congrArg some (of_decide_eq_true this).symm
  · intro h p hp
    have pn := List.mem_range.mp hp
    unfold fitI
    rw [stO_at pn]
    by_cases c : p ∈ tn.take j
    · rw [if_pos c]
      have := h p c
      rw [at_ he p pn, at_ hd p pn] at this
      exact decide_eq_true (Option.some.inj this).symm
    · rw [if_neg c]
      rfl
theorem oI_get {os : List (Option Int)} {k : Nat} (h : k < os.length) : (os.map oI)[k]? = some (oI (os[k]?.getD none)) := by
  rw [List.getElem?_map, List.getElem?_eq_getElem h]
  rfl
theorem x_get {E : List Int} {p : Nat} (h : p < E.length) : (E.map V.int)[p]? = some (.int (E.getD p 0)) := by
  rw [List.getElem?_map, List.getD_eq_getElem?_getD, List.getElem?_eq_getElem h]
  rfl
section
variable {P : Program} {w : World} {K : PySem.W.Frag} {mg : Str → Option Value} {base : Heap} {C : Addr}
def spFits (K : PySem.W.Frag) : Sp := fun vs H Q _ => ∃ (a b : Addr) (os : List (Option Int)) (E : List Int), vs = [.ref a, .ref b] ∧ SqT K H a (os.map oI) ∧ SqT K H b (E.map V.int) ∧ E.length = os.length ∧ os.length ≤ 100 ∧ ∀ H', Same H H' → Q (.bl (fitB os E)) H'
theorem ok_fits (A : At K mg "_law_fits" s_law_fits ["standing", "dealing"]) (T : Tx mg) : Dfn P w K mg base "_law_fits" ["standing", "dealing"] 1 (spFits K) := by
  refine A.ok sc_law_fits (fun vs H Q E h => ?_) (fun f cdv A outer s H vs Q E hr h => ?_)
  · obtain ⟨_, _, _, _, rfl, _⟩ := h
    rfl
  · obtain ⟨a, b, os, E0, rfl, ha, hb, hl, hn, k⟩ := h
    refine ⟨_, (pss_one (ps_ret (pe_callB (cr_all rfl) (by rfl) T.all (by decide +kernel) (pa_cons (pe_lc (own := [("k", 2)]) (g := (gName 2)) (tt := tYes) (te := (tOrV (tOp rIsN (tOp (rIxT K) (tVar 0) (tVar 2)) (tC V.non)) (tOp (rEqD K) (tOp (rIxT K) (tVar 0) (tVar 2)) (tOp (rIxT K) (tVar 1) (tVar 2))))) (by rfl) sc_law_fits.nd (pi_range1 rfl T.range (pa_cons (pe_callB c_len (by rfl) T.len (by decide +kernel) (pa_cons (pv 0) pa_nil)) pa_nil)) (blkOk_by (own := [("k", 2)]) (N := n_law_fits) (sc := (defScope s_law_fits)) (by decide +kernel)) (fun _ _ _ _ _ => (pg_name (i := 2) sc_law_fits.nd rfl (Or.inl rfl))) (fun _ _ _ _ _ => pts_nil) (fun _ _ _ _ _ => (pe_or (pe_cmpR op_isN (pe_ix ix_tup (pv 0) (pv 2) (fun _ _ => rfl)) pe_non (nomark _)) (pe_one (pe_cmpR (op_eqD hr.units) (pe_ix ix_tup (pv 0) (pv 2) (fun _ _ => rfl)) (pe_ix ix_tup (pv 1) (pv 2) (fun _ _ => rfl)) (nomark _)))))) pa_nil)))), ?_⟩
    refine ⟨_, rfl, a, _, rfl, .inr ha, _, rfl, by omega, by rw [List.length_map]; omega, fun D hD => ?_⟩
    rw [List.length_map]
    refine lc_range (lo := 0) (n := ((os.length : Nat) : Int).toNat) (fun i H' => H' D = some (.lst (((List.range i).map (fitI os E0)).map V.bl)) ∧ Same H H') ⟨upd_same, same_new hD⟩ ?_ ?_
    · rintro i H1 hi ⟨h1, s1⟩
      have il : i < os.length := by omega
      have fin : ∀ H2, Same H1 H2 → ∃ acc, H2 D = some (.lst acc) ∧ acc.length < sizeLine ∧ upd H2 D (.lst (acc ++ [V.bl (fitI os E0 i)])) D = some (.lst (((List.range (i + 1)).map (fitI os E0)).map V.bl)) ∧ Same H (upd H2 D (.lst (acc ++ [V.bl (fitI os E0 i)]))) := fun H2 s2 => by
        refine ⟨_, s2 _ _ h1, small_lt (by rw [List.length_map, List.length_map, List.length_range]; omega), ?_, same_mut (s1.trans s2) hD⟩
        rw [upd_same, List.range_succ, List.map_append, List.map_append]
        rfl
      have gE : atI (E0.map V.int) (0 + (i : Int)) = some (.int (E0.getD i 0)) := by
        rw [Int.zero_add]
        refine atI_nat ?_
        rw [List.getElem?_map, List.getD_eq_getElem?_getD, List.getElem?_eq_getElem (by omega)]
        rfl
      have gO : atI (os.map oI) (0 + (i : Int)) = some (oI (os[i]?.getD none)) := by rw [Int.zero_add]; exact atI_nat (oI_get il)
      have hf : fitI os E0 i = match os[i]?.getD none with | none => true | some t => decide (t = E0.getD i 0) := rfl
      refine ⟨rfl, _, rfl, _, rfl, a, _, _, _, rfl, rfl, sqT_same s1 ha, gO, rfl, ?_⟩
      generalize os[i]?.getD none = o at hf gO ⊢
      cases o with
      | none =>
        have hf : fitI os E0 i = true := hf
        rw [hf] at fin
        refine ⟨_, rfl, ?_⟩
        exact fin H1 (Same.refl H1)
      | some t =>
        have hf : fitI os E0 i = decide (t = E0.getD i 0) := hf
        rw [hf] at fin
        refine ⟨_, rfl, ?_⟩
        refine ⟨_, rfl, _, rfl, a, _, _, _, rfl, rfl, sqT_same s1 ha, gO, _, rfl, _, rfl, b, _, _, _, rfl, rfl, sqT_same s1 hb, gE, ?_⟩
        refine ⟨.int t, .int (E0.getD i 0), .int t, .int _, rfl, rfl, ?_⟩
        rw [show PyData.eqv (.int t) (.int (E0.getD i 0)) = decide (t = E0.getD i 0) from by rw [PyData.eqv]; rfl]
        exact fin H1 (Same.refl H1)
    · rintro H1 ⟨h1, s1⟩
      rw [Int.toNat_natCast] at h1
      refine ⟨D, _, rfl, SqL.of h1, ?_⟩
      have := k H1 s1
      unfold fitB at this
      rw [show (List.range os.length).all (fitI os E0) = (((List.range os.length).map (fitI os E0)).all id) from by rw [List.all_map]; rfl] at this
      exact this
def spDrawn (K : PySem.W.Frag) : Sp := fun vs H Q _ => ∃ (a : Addr) (os : List (Option Int)) (p : Nat) (t : Int), vs = [.ref a, nV p, .int t] ∧ SqT K H a (os.map oI) ∧ p < os.length ∧ os.length ≤ 100 ∧ ∀ r H', Same H H' → SqT K H' r ((os.set p (some t)).map oI) → Q (.ref r) H'
theorem ok_ldrawn (A : At K mg "_law_drawn" s_law_drawn ["standing", "person", "thing"]) (T : Tx mg) : Dfn P w K mg base "_law_drawn" ["standing", "person", "thing"] 1 (spDrawn K) := by
  refine A.ok sc_law_drawn (fun vs H Q E h => ?_) (fun f cdv A outer s H vs Q E hr h => ?_)
  · obtain ⟨_, _, _, _, rfl, _⟩ := h
    rfl
  · obtain ⟨a, os, p, t, rfl, ha, hp, hn, k⟩ := h
    refine ⟨_, (pss_one (ps_ret (pe_op op_catA (pe_op op_catA (pe_slice sl_tupA (pv 0) po_none (po_some (pv 1))) (pe_tup (pa_cons (pv 2) pa_nil))) (pe_slice sl_tupA (pv 0) (po_some (pe_op op_add (pv 1) pe_int)) po_none)))), ?_⟩
    have bl : ∀ n, n ≤ 1000 → n ≤ sizeLine := fun n h => Nat.le_of_lt (small_lt (by omega))
    refine ⟨_, rfl, _, rfl, _, rfl, ?_⟩
    refine slA ha fun a1 H1 s1 h1 => ?_
    rw [cut_to (by rw [List.length_map]; omega)] at h1
    refine ⟨_, rfl, by show 1 ≤ sizeLine; decide, fun a2 k2 => ?_⟩
    have s2 := same_new (o := .tup [V.int t]) k2
    refine catP (sqT_same s2 h1) (SqT.of (xs := [V.int t]) upd_same) (bl _ (by rw [List.length_take, List.length_map]; show _ + 1 ≤ 1000; omega)) fun a3 H3 s3 h3 => ?_
    have s13 := (s1.trans s2).trans s3
    refine ⟨_, rfl, _, rfl, _, _, rfl, rfl, _, rfl, ?_⟩
    delta tNoPart
    refine slA (sqT_same s13 ha) fun a4 H4 s4 h4 => ?_
    rw [show (p : Int) + 1 = ((p + 1 : Nat) : Int) by omega, cut_from'] at h4
    refine catP (sqT_same s4 h3) h4 (bl _ (by rw [List.length_append, List.length_take, List.length_drop, List.length_map]; show _ + 1 + _ ≤ 1000; omega)) fun a5 H5 s5 h5 => ?_
    refine k a5 H5 ((s13.trans s4).trans s5) ?_
    rw [List.set_eq_take_append_cons_drop, if_pos hp, List.map_append, List.map_cons, List.map_take, List.map_drop]
    rw [List.append_assoc] at h5
    exact h5
def spOpenL (K : PySem.W.Frag) : Sp := fun vs H Q _ => ∃ (dl a : Addr) (ws : List V) (L : List (List Int)) (os : List (Option Int)) (p : Nat), vs = [.ref dl, .ref a, nV p] ∧ H dl = some (.lst ws) ∧ RowsT K H ws L ∧ SqT K H a (os.map oI) ∧ (∀ E ∈ L, E.length = os.length) ∧ p < os.length ∧ os.length ≤ 100 ∧ L.length ≤ 4000 ∧
  ∀ (ks : List Int) r H', Same H H' → ks.Pairwise (· < ·) → (∀ k : Int, k ∈ ks ↔ ∃ E ∈ L, fitB os E = true ∧ E.getD p 0 = k) → SqL K H' r (ks.map V.int) → Q (.ref r) H'
theorem ok_lopen (A : At K mg "_law_open" s_law_open ["deals", "standing", "person"]) (T : Tx mg) (G_law_fits : Dfn P w K mg base "_law_fits" ["standing", "dealing"] 1 (spFits K)) : Dfn P w K mg base "_law_open" ["deals", "standing", "person"] 2 (spOpenL K) := by
  refine A.ok sc_law_open (fun vs H Q E h => ?_) (fun f cdv A outer s H vs Q E hr h => ?_)
  · obtain ⟨_, _, _, _, _, _, rfl, _⟩ := h
    rfl
  · obtain ⟨dl, a, ws, L, os, p, rfl, hdl, hw, ha, hE, hp, hn, hL, k⟩ := h
    refine ⟨_, (pss_one (ps_ret (pe_callB (cr_sortSetA rfl) (by rfl) T.sorted (by decide +kernel) (pa_cons (pe_callTy (cr_setL rfl) (by rfl) T.set (by decide +kernel) (pa_cons (pe_lc (own := [("told", 3)]) (g := (gName 3)) (tt := (tB (tCall (spFits K) [] E0 (tCons (tVar 1) (tCons (tVar 3) tNil))))) (te := (tOp (rIxT K) (tVar 3) (tVar 2))) (by rfl) sc_law_open.nd (pi_list (pv 0)) (blkOk_by (own := [("told", 3)]) (N := n_law_open) (sc := (defScope s_law_open)) (by decide +kernel)) (fun _ _ _ _ _ => (pg_name (i := 3) sc_law_open.nd rfl (Or.inl rfl))) (fun _ _ _ _ _ => (pts_one (pt_val (pe_d G_law_fits (hr.mono (by decide)) (pa_cons (pv 1) (pa_cons (pv 3) pa_nil)))))) (fun _ _ _ _ _ => (pe_ix ix_tup (pv 3) (pv 2) (fun _ _ => rfl)))) pa_nil)) pa_nil)))), ?_⟩
    have wl := hw.len
    refine ⟨_, rfl, dl, rfl, ⟨_, SqL.of hdl⟩, fun D hD => ?_⟩
    refine lc_list (xs := ws) (fun i H' => H' D = some (.lst ((((L.take i).filter (fitB os)).map fun E => E.getD p 0).map V.int)) ∧ Same H H') ⟨upd_same, same_new hD⟩ (fun i H' _ hp => SqL.of (hp.2 _ _ hdl)) ?_ ?_
    · rintro i y H1 hy ⟨h1, s1⟩
      have il : i < L.length := by have := (List.getElem?_eq_some_iff.mp hy).1; omega
      obtain ⟨E, hEi⟩ : ∃ E, L[i]? = some E := ⟨_, List.getElem?_eq_getElem il⟩
      obtain ⟨e, he1, he2⟩ := hw.get hEi
      rw [hy] at he1
      have ey : y = .ref e := Option.some.inj he1
      subst ey
      have El := hE E (List.mem_of_getElem? hEi)
      refine ⟨rfl, _, rfl, _, rfl, a, e, os, E, rfl, sqT_same s1 ha, sqT_same s1 he2, El, hn, fun H2 s2 => ?_⟩
      rw [filt_succ hEi, List.map_append]
      have s12 := s1.trans s2
      refine ⟨_, rfl, ?_⟩
      refine ite2 (fun hc => ?_) (fun hc => ?_)
      · rw [if_pos hc]
        refine ⟨_, rfl, _, rfl, e, _, _, _, rfl, rfl, sqT_same s12 he2, atI_nat (j := p) (x_get (by omega)), ?_⟩
        refine ⟨_, s2 _ _ h1, small_lt (by rw [List.length_map, List.length_map]; exact Nat.le_trans (List.length_filter_le _ _) (by rw [List.length_take]; omega)), ?_, same_mut s12 hD⟩
        rw [upd_same, List.map_append]
        rfl
      · rw [if_neg hc, List.map_nil, List.append_nil]
        exact ⟨s2 _ _ h1, s12⟩
    · rintro H1 ⟨h1, s1⟩
      rw [wl, List.take_length] at h1
      refine ⟨D, _, rfl, SqL.of h1, by rw [List.length_map]; exact Nat.le_trans (List.length_filter_le _ _) hL, fun sa n hsa hn2 _ => ?_⟩
      refine ⟨sa, _, n, rfl, upd_same, by rw [List.length_map] at hn2; exact Nat.le_trans hn2 (Nat.le_trans (List.length_filter_le _ _) (by omega)), fun ks r asc mem len hr => ?_⟩
      refine k ks r _ ((s1.trans (same_new hsa)).trans (same_new hr)) asc (fun z => (mem z).trans ?_) (SqL.of upd_same)
      rw [decide_eq_true_iff, List.mem_map]
      constructor
      · rintro ⟨E, h, e⟩
        obtain ⟨h1, h2⟩ := List.mem_filter.mp h
        exact ⟨E, h1, h2, e⟩
      · rintro ⟨E, h1, h2, e⟩
        exact ⟨E, List.mem_filter.mpr ⟨h1, h2⟩, e⟩
def leftR (r : List Int) (os : List (Option Int)) : List Int := r.filter fun t => !decide (some t ∈ os)
def noneLeft (rows : List (List Int)) (os : List (Option Int)) (p : Nat) : Bool := (os[p]?.getD none).isNone && decide (leftR (Mt.row rows p) os = [])
def nearB (rows : List (List Int)) (os : List (Option Int)) : Bool := (List.range rows.length).all fun p => !noneLeft rows os p
theorem inV_o (t : Int) (os : List (Option Int)) : inV (V.int t) (os.map oI) = decide (some t ∈ os) := by
  unfold inV
  by_cases h : some t ∈ os
  · rw [decide_eq_true h]
    refine List.any_eq_true.mpr ⟨V.int t, List.mem_map.mpr ⟨some t, h, rfl⟩, ?_⟩
    show decide (t = t) = true
    exact decide_eq_true rfl
  · rw [decide_eq_false h]
    refine List.any_eq_false.mpr fun x hx => ?_
    obtain ⟨o, ho, rfl⟩ := List.mem_map.mp hx
    cases o with
    | none => exact fun z => nomatch z
    | some u =>
      show ¬ decide (u = t) = true
      rw [decide_eq_true_iff]
      intro e
      exact h (e ▸ ho)
theorem flat_o (os : List (Option Int)) : (os.map oI).all flatV = true := by
  rw [List.all_eq_true]
  intro x hx
  obtain ⟨o, _, rfl⟩ := List.mem_map.mp hx
  cases o <;> rfl
theorem mem_stO {n : Nat} {tn : List Nat} {D : List Int} {j : Nat} (lt : ∀ p ∈ tn, p < n) {t : Int} : some t ∈ stO n tn D j ↔ t ∈ (Mt.tD D tn).take j := by
  unfold stO Mt.tD
  rw [← List.map_take, List.mem_map, List.mem_map]
  constructor
  · rintro ⟨p, hp, e⟩
    by_cases c : p ∈ tn.take j
    · rw [if_pos c] at e
      exact ⟨p, c, Option.some.inj e⟩
    · rw [if_neg c] at e
      cases e
  · rintro ⟨p, hp, e⟩
    exact ⟨p, List.mem_range.mpr (lt p (List.mem_of_mem_take hp)), by rw [if_pos hp, e]⟩
theorem leftR_st {rows : List (List Int)} {tn : List Nat} {D : List Int} {i j q : Nat} (lt : ∀ p ∈ tn, p < rows.length) (hq : tn[j + i]? = some q) : leftR (Mt.row rows q) (stO rows.length tn D j) = Mt.row (Mt.bh (Mt.tR rows tn) (Mt.tD D tn) j) i := by
  rw [Mt.row_bh, show Mt.row (Mt.tR rows tn) (j + i) = Mt.row rows q from Mt.row_mapP hq]
  unfold leftR
  refine List.filter_congr fun t _ => ?_
  rw [decide_eq_decide.mpr (mem_stO lt)]
theorem leftR_set {r : List Int} {os : List (Option Int)} {p : Nat} {t : Int} (hp : os[p]? = some none) : leftR r (os.set p (some t)) = (leftR r os).filter fun z => !decide (z = t) := by
  unfold leftR
  rw [List.filter_filter]
  refine List.filter_congr fun z _ => ?_
  have pl := (List.getElem?_eq_some_iff.mp hp).1
  have m : some z ∈ os.set p (some t) ↔ z = t ∨ some z ∈ os := by
    constructor
    · intro h
      rcases List.mem_or_eq_of_mem_set h with h | h
      · exact .inr h
      · exact .inl (Option.some.inj h)
    · rintro (rfl | h)
      · exact List.mem_iff_getElem?.mpr ⟨p, List.getElem?_set_self pl⟩
      · obtain ⟨k, hk⟩ := List.getElem?_of_mem h
        have ne : p ≠ k := fun e => by rw [← e, hp] at hk; cases hk
        exact List.mem_iff_getElem?.mpr ⟨k, by rw [List.getElem?_set_ne ne]; exact hk⟩
  by_cases a : z = t
  · rw [decide_eq_true (m.mpr (.inl a)), decide_eq_true a]
    rfl
  · by_cases b : some z ∈ os
    · rw [decide_eq_true (m.mpr (.inr b)), decide_eq_false a, decide_eq_true b]
      rfl
    · rw [decide_eq_false fun h => (m.mp h).elim a b, decide_eq_false a, decide_eq_false b]
      rfl
theorem single_left {s : List Int} {t x : Int} (nd : s.Nodup) (hx : x ∈ s) : (s.filter fun z => !decide (z = t)) = [] ↔ s.length = 1 ∧ t ∈ s := by
  rw [List.filter_eq_nil_iff]
  constructor
  · intro h
    have all : ∀ z ∈ s, z = t := fun z hz => by
      have := h z hz
      by_cases c : z = t
      · exact c
      · rw [decide_eq_false c] at this
        exact absurd rfl this
    match s, nd, hx, all with
    | [a], _, _, all => exact ⟨rfl, List.mem_singleton.mpr (all a (List.mem_singleton.mpr rfl)).symm⟩
    | a :: b :: s, nd, _, all =>
      have h1 := all a List.mem_cons_self
      have h2 := all b (List.mem_cons_of_mem _ List.mem_cons_self)
      exact absurd (by rw [h1, h2]; exact List.mem_cons_self) (List.nodup_cons.mp nd).1
  · rintro ⟨l1, ht⟩ z hz
    obtain ⟨a, rfl⟩ := List.length_eq_one_iff.mp l1
    rw [List.mem_singleton] at ht hz
    rw [hz, ht, decide_eq_true rfl]
    decide
theorem near_eq {rows : List (List Int)} {tn : List Nat} {D : List Int} {j p : Nat} (ht : Mt.Turn rows tn) (nd : ∀ r ∈ rows, r.Nodup) (d : Mt.Ds rows D) (hp : tn[j]? = some p) (t : Int) : nearB rows ((stO rows.length tn D j).set p (some t)) = !leavesB (Mt.bh (Mt.tR rows tn) (Mt.tD D tn) j) t := by
  have pl := ht.lt (List.mem_of_getElem? hp)
  have jl := (List.getElem?_eq_some_iff.mp hp).1
  have lt : ∀ q ∈ tn, q < rows.length := fun q hq => ht.lt hq
  have pn : p ∉ tn.take j := fun h => by
    obtain ⟨i, hi⟩ := List.getElem?_of_mem h
    have il := (List.getElem?_eq_some_iff.mp hi).1
    rw [List.length_take] at il
    rw [List.getElem?_take_of_lt (by omega)] at hi
    have := Mt.nodup_get ht.nd hi hp
    omega
  have hpo : (stO rows.length tn D j)[p]? = some none := by rw [stO_at pl, if_neg pn]
  have dB := Mt.ds_at (ht.ds d) j (by rw [Mt.tR_len]; omega)
  have ndB := Mt.nd_bh (D := Mt.tD D tn) (j := j) (Mt.nd_tR ht nd)
  have key : ∀ i q, tn[j + i]? = some q → 0 < i → (noneLeft rows ((stO rows.length tn D j).set p (some t)) q = true ↔ (Mt.row (Mt.bh (Mt.tR rows tn) (Mt.tD D tn) j) i).length = 1 ∧ t ∈ Mt.row (Mt.bh (Mt.tR rows tn) (Mt.tD D tn) j) i) := fun i q hq hi => by
    have ql := ht.lt (List.mem_of_getElem? hq)
    have il := (List.getElem?_eq_some_iff.mp hq).1
    have qp : p ≠ q := fun e => by rw [← e] at hq; have := Mt.nodup_get ht.nd hp hq; omega
    have qn : q ∉ tn.take j := fun h => by
      obtain ⟨m, hm⟩ := List.getElem?_of_mem h
      have ml := (List.getElem?_eq_some_iff.mp hm).1
      rw [List.length_take] at ml
      rw [List.getElem?_take_of_lt (by omega)] at hm
      have := Mt.nodup_get ht.nd hm hq
      omega
    have iB : i < (Mt.bh (Mt.tR rows tn) (Mt.tD D tn) j).length := by rw [Mt.bh_len, Mt.tR_len]; omega
    obtain ⟨x, _, hx⟩ := dB.get iB
    unfold noneLeft
    rw [List.getElem?_set_ne qp, stO_at ql, if_neg qn, leftR_set hpo, leftR_st lt hq]
    rw [← single_left (ndB _ (by rw [Mt.row_get (List.getElem?_eq_getElem iB)]; exact List.getElem_mem iB)) hx]
    show (true && decide _) = true ↔ _
    rw [Bool.true_and, decide_eq_true_iff]
  cases hb : leavesB (Mt.bh (Mt.tR rows tn) (Mt.tD D tn) j) t with
  | true =>
    unfold leavesB at hb
    obtain ⟨r, hr, h⟩ := List.any_eq_true.mp hb
    obtain ⟨m, hm⟩ := List.getElem?_of_mem hr
    rw [List.getElem?_drop] at hm
    have ml := (List.getElem?_eq_some_iff.mp hm).1
    rw [Mt.bh_len, Mt.tR_len] at ml
    have hq := List.getElem?_eq_getElem (l := tn) (i := j + (1 + m)) (by omega)
    rw [Bool.and_eq_true] at h
    refine List.all_eq_false.mpr ⟨_, List.mem_range.mpr (ht.lt (List.getElem_mem (l := tn) (n := j + (1 + m)) (by omega))), ?_⟩
    rw [(key (1 + m) _ hq (by omega)).mpr (by rw [Mt.row_get hm]; exact ⟨of_decide_eq_true h.1, of_decide_eq_true h.2⟩)]
    decide
  | false =>
    refine List.all_eq_true.mpr fun q hq => ?_
    have ql := List.mem_range.mp hq
    cases hn : noneLeft rows ((stO rows.length tn D j).set p (some t)) q with
    | false => rfl
    | true =>
      obtain ⟨m, hm⟩ := List.getElem?_of_mem (ht.pm.mem_iff.mpr (List.mem_range.mpr ql))
      have open_ : ((stO rows.length tn D j).set p (some t))[q]?.getD none = none := by
        unfold noneLeft at hn
        rw [Bool.and_eq_true] at hn
        exact Option.isNone_iff_eq_none.mp hn.1
      have mj : j < m := by
        rcases Nat.lt_trichotomy m j with h | h | h
        · have qp : p ≠ q := fun e => by rw [← e] at hm; have := Mt.nodup_get ht.nd hp hm; omega
          rw [List.getElem?_set_ne qp, stO_at ql, if_pos (List.mem_of_getElem? (by rw [List.getElem?_take_of_lt h]; exact hm))] at open_
          cases open_
        · subst h
          rw [hp] at hm
          rw [← Option.some.inj hm, List.getElem?_set_self (by rw [stO_len]; exact pl)] at open_
          cases open_
        · exact h
      have hq2 : tn[j + (m - j)]? = some q := by rw [show j + (m - j) = m by omega]; exact hm
      obtain ⟨h1, h2⟩ := (key (m - j) q hq2 (by omega)).mp hn
      have iB : m - j < (Mt.bh (Mt.tR rows tn) (Mt.tD D tn) j).length := by
        rw [Mt.bh_len, Mt.tR_len]
        have := (List.getElem?_eq_some_iff.mp hm).1
        omega
      have : leavesB (Mt.bh (Mt.tR rows tn) (Mt.tD D tn) j) t = true := by
        unfold leavesB
        refine List.any_eq_true.mpr ⟨Mt.row (Mt.bh (Mt.tR rows tn) (Mt.tD D tn) j) (m - j), ?_, by rw [decide_eq_true h1, decide_eq_true h2]; rfl⟩
        rw [Mt.row_get (List.getElem?_eq_getElem iB)]
        refine List.mem_iff_getElem?.mpr ⟨m - j - 1, ?_⟩
        rw [List.getElem?_drop, show 1 + (m - j - 1) = m - j by omega]
        exact List.getElem?_eq_getElem iB
      rw [this] at hb
      cases hb
def spNear (K : PySem.W.Frag) : Sp := fun vs H Q _ => ∃ (rv : V) (a : Addr) (rows : List (List Int)) (os : List (Option Int)), vs = [rv, .ref a] ∧ RowsAt K H rv rows ∧ SqT K H a (os.map oI) ∧ os.length = rows.length ∧ rows.length ≤ 100 ∧ (∀ r ∈ rows, r.length ≤ 100) ∧ ∀ H', Same H H' → Q (.bl (nearB rows os)) H'
theorem ok_lnear (A : At K mg "_law_is_near" s_law_is_near ["rows", "standing"]) (T : Tx mg) : Dfn P w K mg base "_law_is_near" ["rows", "standing"] 1 (spNear K) := by
  refine A.ok sc_law_is_near (fun vs H Q E h => ?_) (fun f cdv A outer s H vs Q E hr h => ?_)
  · obtain ⟨_, _, _, _, rfl, _⟩ := h
    rfl
  · obtain ⟨rv, a, rows, os, rfl, hR, ha, ol, hn, hl, k⟩ := h
    obtain ⟨ra, rvs, rfl, hra, hrb⟩ := id hR
    have vl := hrb.len
    refine ⟨_, (pss_cons (ps_for PassesOwn.never rfl (pi_range1 rfl T.range (pa_cons (pe_callB c_len (by rfl) T.len (by decide +kernel) (pa_cons (pv 0) pa_nil)) pa_nil)) (pg_name (i := 2) sc_law_is_near.nd rfl (Or.inl rfl))
      (pss_one (ps_if (PW.pt (pw_and (pt_cmpR op_isN (pe_ix ix_tup (pv 1) (pv 2) (fun _ _ => rfl)) pe_non (nomark _)) (pw_and1 (pt_cmpR op_eq (pe_callB c_len (by rfl) T.len (by decide +kernel) (pa_cons (pe_lc (own := [("thing", 3)]) (g := (gName 3)) (tt := (tTest (tOp (rIn K true) (tVar 3) (tVar 1)))) (te := (tVar 3)) (by rfl) sc_law_is_near.nd (pi_tup (pe_ix ix_tup (pv 0) (pv 2) (fun _ _ => rfl))) (blkOk_by (own := [("thing", 3)]) (N := n_law_is_near) (sc := (defScope s_law_is_near)) (by decide +kernel)) (fun _ _ _ _ _ => (pg_name (i := 3) sc_law_is_near.nd rfl (Or.inl rfl))) (fun _ _ _ _ _ => (pts_one (pt_cmpR op_notIn_seq (pv 3) (pv 1) rfl))) (fun _ _ _ _ _ => (pv 3))) pa_nil)) pe_int (nomark _))))) (pss_one (ps_ret pe_bl)) pss_nil)))
      (pss_one (ps_ret pe_bl))), ?_⟩
    refine ⟨_, rfl, ra, _, rfl, .inr hra, _, rfl, by omega, by omega, for_range (lo := 0) (n := ((rvs.length : Nat) : Int).toNat) (fun i σ' H' => (∃ x2 x3, σ' = [some (.ref ra), some (.ref a), x2, x3]) ∧ ((List.range i).all fun p => !noneLeft rows os p) = true ∧ Same H H') ⟨⟨_, _, rfl⟩, rfl, Same.refl _⟩ ?_ ?_⟩
    · rintro i σ' H1 hi ⟨⟨x2, x3, rfl⟩, hall, s1⟩
      have il : i < rows.length := by omega
      have gO : atI (os.map oI) (0 + (i : Int)) = some (oI (os[i]?.getD none)) := by rw [Int.zero_add]; exact atI_nat (oI_get (by omega))
      obtain ⟨r, hr1⟩ : ∃ r, rows[i]? = some r := ⟨_, List.getElem?_eq_getElem il⟩
      obtain ⟨b, hb1, hb2⟩ := hrb.get hr1
      have er : Mt.row rows i = r := Mt.row_get hr1
      have rl := hl r (List.mem_of_getElem? hr1)
      have nx : noneLeft rows os i = ((os[i]?.getD none).isNone && decide (leftR r os = [])) := by unfold noneLeft; rw [er]
      have allS : ((List.range (i + 1)).all fun p => !noneLeft rows os p) = !noneLeft rows os i := by
        rw [List.range_succ, List.all_append, hall, Bool.true_and, List.all_cons, List.all_nil, Bool.and_true]
      have no : noneLeft rows os i = true → nearB rows os = false := fun e => List.all_eq_false.mpr ⟨i, List.mem_range.mpr il, by rw [e]; decide⟩
      refine ⟨_, rfl, _, rfl, a, _, _, _, rfl, rfl, sqT_same s1 ha, gO, rfl, ?_⟩
      cases ho : os[i]?.getD none with
      | some t =>
        rw [ho] at nx
        have nx : noneLeft rows os i = false := nx
        refine ⟨_, rfl, ?_⟩
        rw [nx] at allS
        exact ⟨⟨_, _, rfl⟩, allS, s1⟩
      | none =>
        rw [ho] at nx
        have nx : noneLeft rows os i = decide (leftR r os = []) := nx
        refine ⟨_, rfl, ?_⟩
        refine ⟨_, rfl, _, rfl, ra, rvs, _, .ref b, rfl, rfl, sqT_same s1 hra, by rw [Int.zero_add]; exact atI_nat hb1, b, rfl, ⟨_, sqT_same s1 hb2⟩, fun DD hDD => ?_⟩
        have hbB := sqT_same s1 hb2
        have sA := s1
        refine lc_tup (xs := r.map V.int) (fun j H' => H' DD = some (.lst ((leftR (r.take j) os).map V.int)) ∧ Same H1 H') ⟨upd_same, same_new hDD⟩ (fun j H' _ hp => sqT_same hp.2 hbB) ?_ ?_
        · rintro j y H5 hy ⟨h5, s6⟩
          obtain ⟨u, hu, rfl⟩ : ∃ u, r[j]? = some u ∧ y = V.int u := by
            rw [List.getElem?_map] at hy
            cases e : r[j]? with
            | none => rw [e] at hy; cases hy
            | some u => rw [e] at hy; exact ⟨u, rfl, (Option.some.inj hy).symm⟩
          have jl := (List.getElem?_eq_some_iff.mp hu).1
          refine ⟨rfl, _, rfl, _, rfl, a, _, rfl, .inr (sqT_same (sA.trans s6) ha), rfl, flat_o _, ?_⟩
          rw [show (if true = true then !inV (V.int u) (os.map oI) else inV (V.int u) (os.map oI)) = !decide (some u ∈ os) from by rw [if_pos rfl, inV_o]]
          unfold leftR at h5 ⊢
          rw [filt_succ hu]
          refine ⟨_, rfl, ite2 (fun hc => ?_) (fun hc => ?_)⟩
          · rw [if_pos hc]
            refine ⟨_, rfl, _, h5, small_lt (by rw [List.length_map]; exact Nat.le_trans (List.length_filter_le _ _) (by rw [List.length_take]; omega)), ?_, same_mut s6 hDD⟩
            rw [upd_same, List.map_append]
            rfl
          · rw [if_neg hc, List.append_nil]
            exact ⟨h5, s6⟩
        · rintro H5 ⟨h5, s6⟩
          rw [List.length_map, List.take_length] at h5
          refine ⟨DD, _, rfl, .inl (SqL.of h5), rfl, _, rfl, ?_⟩
          have eL : decide (V.int ((((leftR r os).map V.int).length : Nat) : Int) = V.int 0) = decide (leftR r os = []) := by
            rw [int_dec, List.length_map]
            exact decide_eq_decide.mpr ⟨fun h => List.length_eq_zero_iff.mp (by omega), fun h => by rw [h]; rfl⟩
          refine ite2 (fun hc => ?_) (fun hc => ?_)
          · have hc : decide (V.int ((((leftR r os).map V.int).length : Nat) : Int) = V.int 0) = true := hc
            rw [eL] at hc
            have := k H5 (s1.trans s6)
            rw [no (nx.trans hc)] at this
            exact this
          · have hc : ¬ decide (V.int ((((leftR r os).map V.int).length : Nat) : Int) = V.int 0) = true := hc
            rw [eL] at hc
            rw [nx, Bool.eq_false_iff.mpr hc] at allS
            exact ⟨⟨_, _, rfl⟩, allS, s1.trans s6⟩
    · rintro σ' H1 ⟨⟨x2, x3, rfl⟩, hall, s1⟩
      have := k H1 s1
      rw [show nearB rows os = true from by unfold nearB; rw [← hall]; congr 2; omega] at this
      exact this
def spSides (K : PySem.W.Frag) : Sp := fun vs H Q _ => ∃ (rv : V) (dl a : Addr) (cu : Str) (ws : List V) (rows : List (List Int)) (tn : List Nat) (D : List Int) (j p : Nat), vs = [rv, .ref dl, .ref a, nV p, .str cu] ∧ RowsAt K H rv rows ∧ Good rows ∧ rows.length ≤ 40 ∧ H dl = some (.lst ws) ∧ RowsT K H ws (Mt.deals rows) ∧ (Mt.deals rows).length ≤ 4000 ∧ Mt.Turn rows tn ∧ Mt.Ds rows D ∧ tn[j]? = some p ∧ SqT K H a ((stO rows.length tn D j).map oI) ∧ ∀ H', Same H H' → Q (nV (chR cu (Mt.bh (Mt.tR rows tn) (Mt.tD D tn) j))) H'
theorem none_cnt {n j : Nat} {tn : List Nat} {D : List Int} (hp : tn.Perm (List.range n)) (hj : j ≤ n) : ((stO n tn D j).filter fun o => o.isNone).length = n - j := by
  have tl : tn.length = n := by rw [hp.length_eq, List.length_range]
  unfold stO
  rw [List.filter_map, List.length_map]
  have e : (List.range n).filter ((fun o : Option Int => o.isNone) ∘ fun p => if p ∈ tn.take j then some (D.getD p 0) else none) = (List.range n).filter fun p => decide (p ∈ tn.drop j) := by
    refine List.filter_congr fun p hpn => ?_
    have nd : tn.Nodup := hp.nodup_iff.mpr List.nodup_range
    have mm : p ∈ tn := hp.mem_iff.mpr hpn
    rw [← List.take_append_drop j tn] at mm nd
    have dj := (List.nodup_append.mp nd).2.2
    show (if p ∈ tn.take j then some (D.getD p 0) else none).isNone = _
    by_cases c : p ∈ tn.take j
    · rw [if_pos c, decide_eq_false fun h => dj p c p h rfl]
      rfl
    · rw [if_neg c, decide_eq_true ((List.mem_append.mp mm).resolve_left c)]
      rfl
  rw [e]
  have : ((List.range n).filter fun p => decide (p ∈ tn.drop j)).length = (tn.drop j).length := Mt.len_eq_of (List.nodup_range.sublist List.filter_sublist) ((hp.nodup_iff.mpr List.nodup_range).sublist (List.drop_sublist _ _)) fun x => by
    rw [List.mem_filter, decide_eq_true_iff]
    exact ⟨fun h => h.2, fun h => ⟨hp.mem_iff.mp (List.mem_of_mem_drop h), h⟩⟩
  rw [this, List.length_drop, tl]
theorem ok_lsides (A : At K mg "_law_sides" s_law_sides ["rows", "deals", "standing", "person", "custom"]) (T : Tx mg) (G_law_open : Dfn P w K mg base "_law_open" ["deals", "standing", "person"] 2 (spOpenL K)) (G_law_is_near : Dfn P w K mg base "_law_is_near" ["rows", "standing"] 1 (spNear K)) (G_law_drawn : Dfn P w K mg base "_law_drawn" ["standing", "person", "thing"] 1 (spDrawn K)) : Dfn P w K mg base "_law_sides" ["rows", "deals", "standing", "person", "custom"] 3 (spSides K) := by
  refine A.ok sc_law_sides (fun vs H Q E h => ?_) (fun f cdv A outer s H vs Q E hr h => ?_)
  · obtain ⟨_, _, _, _, _, _, _, _, _, _, rfl, _⟩ := h
    rfl
  · obtain ⟨rv, dl, a, cu, ws, rows, tn, D, j, p, rfl, hR, G, hn, hdl, hw, few, ht, d, hp, ha, k⟩ := h
    obtain ⟨ra, rvs, rfl, hra, hrb⟩ := id hR
    refine ⟨_, (pss_cons (ps_if (pt_cmpR op_eq (pv 4) pe_str (nomark _)) (pss_one (ps_ret (pe_callB c_len (by rfl) T.len (by decide +kernel) (pa_cons (pe_d G_law_open (hr.mono (by decide)) (pa_cons (pv 1) (pa_cons (pv 2) (pa_cons (pv 3) pa_nil)))) pa_nil)))) pss_nil)
      (pss_cons (ps_if (pt_cmpR op_eq (pv 4) pe_str (nomark _)) (pss_one (ps_ret (pe_callB c_len (by rfl) T.len (by decide +kernel) (pa_cons (pe_lc (own := [("got", 6)]) (g := (gName 6)) (tt := (tTest (tOp rIsN (tVar 6) (tC V.non)))) (te := (tVar 6)) (by rfl) sc_law_sides.nd (pi_tup (pv 2)) (blkOk_by (own := [("got", 6)]) (N := n_law_sides) (sc := (defScope s_law_sides)) (by decide +kernel)) (fun _ _ _ _ _ => (pg_name (i := 6) sc_law_sides.nd rfl (Or.inl rfl))) (fun _ _ _ _ _ => (pts_one (pt_cmpR op_isN (pv 6) pe_non (nomark _)))) (fun _ _ _ _ _ => (pv 6))) pa_nil)))) pss_nil)
      (pss_cons (ps_setLc (i := 5) (own := [("thing", 7)]) (g := (gName 7)) (tt := (tTest (tOp (rIn K true) (tVar 7) (tVar 2)))) (te := (tVar 7)) (by rfl) sc_law_sides.nd rfl rfl (sw_true rfl rfl rfl (by decide +kernel)) (pi_tup (pe_ix ix_tup (pv 0) (pv 3) (fun _ _ => rfl))) (blkOk_by (own := [("thing", 7)]) (N := n_law_sides) (sc := (defScope s_law_sides)) (by decide +kernel)) (fun _ _ _ _ _ => (pg_name (i := 7) sc_law_sides.nd rfl (Or.inl rfl))) (fun _ _ _ _ _ => (pts_one (pt_cmpR op_notIn_seq (pv 7) (pv 2) rfl))) (fun _ _ _ _ _ => (pv 7)))
      (pss_cons (ps_if (pt_cmpR op_eq (pv 4) pe_str (nomark _)) (pss_one (ps_setLc (i := 5) (own := [("thing", 7)]) (g := (gName 7)) (tt := (tB (tCall (spNear K) [] E0 (tCons (tVar 0) (tCons (tCall (spDrawn K) [] E0 (tCons (tVar 2) (tCons (tVar 3) (tCons (tVar 7) tNil)))) tNil))))) (te := (tVar 7)) (by rfl) sc_law_sides.nd rfl rfl (sw_true rfl rfl rfl (by decide +kernel)) (pi_list (pv 5)) (blkOk_by (own := [("thing", 7)]) (N := n_law_sides) (sc := (defScope s_law_sides)) (by decide +kernel)) (fun _ _ _ _ _ => (pg_name (i := 7) sc_law_sides.nd rfl (Or.inl rfl))) (fun _ _ _ _ _ => (pts_one (pt_val (pe_d G_law_is_near (hr.mono (by decide)) (pa_cons (pv 0) (pa_cons (pe_d G_law_drawn (hr.mono (by decide)) (pa_cons (pv 2) (pa_cons (pv 3) (pa_cons (pv 7) pa_nil)))) pa_nil)))))) (fun _ _ _ _ _ => (pv 7)))) pss_nil)
      (pss_one (ps_ret (pe_callB c_len (by rfl) T.len (by decide +kernel) (pa_cons (pv 5) pa_nil)))))))), ?_⟩
    have pl := ht.lt (List.mem_of_getElem? hp)
    have jl := (List.getElem?_eq_some_iff.mp hp).1
    have tl := ht.len
    have lt : ∀ q ∈ tn, q < rows.length := fun q hq => ht.lt hq
    have ndR : ∀ r ∈ rows, r.Nodup := fun r hr => (G.asc r hr).imp fun {a b} h => by omega
    unfold chR at k
    refine ⟨_, rfl, rfl, _, rfl, ite2 (fun c => ?_) (fun c => ?_)⟩
    · have e : cu = "ahead" := by have := of_decide_eq_true c; injection this
      rw [if_neg (by rw [e]; decide), if_pos e] at k
      refine ⟨_, rfl, _, rfl, _, rfl, dl, a, ws, _, _, p, rfl, hdl, hw, ha, fun E hE => by rw [stO_len]; exact ((Mt.mem_deals E).mp hE).len, by rw [stO_len]; exact pl, by rw [stO_len]; omega, few, fun ks r H1 s1 asc mem hr1 => ?_⟩
      refine ⟨r, _, rfl, .inl hr1, ?_⟩
      have e : ks.length = (Mt.row (Mt.liveR (Mt.bh (Mt.tR rows tn) (Mt.tD D tn) j)) 0).length := Mt.len_eq_of (asc.imp fun {a b} h => by omega) (Mt.nd_live (Mt.nd_bh (Mt.nd_tR ht ndR)) 0) fun x => by
        rw [mem, ht.open_iff d hp]
        constructor
        · rintro ⟨E, h1, h2, h3⟩
          have dE := (Mt.mem_deals E).mp h1
          exact ⟨E, dE, (fit_st d.len dE.len lt).mp h2, by rw [Mt.ds_getD dE pl, h3]⟩
        · rintro ⟨E, h1, h2, h3⟩
          refine ⟨E, (Mt.mem_deals E).mpr h1, (fit_st d.len h1.len lt).mpr h2, ?_⟩
          rw [Mt.ds_getD h1 pl] at h3
          exact Option.some.inj h3
      rw [List.length_map, e]
      exact k H1 s1
    · have e1 : ¬ cu = "ahead" := fun z => c (decide_eq_true (by rw [z]))
      refine ⟨_, rfl, rfl, _, rfl, ite2 (fun c => ?_) (fun c => ?_)⟩
      · have e : cu = "strict" := by have := of_decide_eq_true c; injection this
        rw [if_pos e, Mt.bh_len, Mt.tR_len] at k
        refine ⟨_, rfl, a, rfl, ⟨_, ha⟩, fun DD hDD => ?_⟩
        refine lc_tup (xs := (stO rows.length tn D j).map oI) (fun i H' => H' DD = some (.lst ((((stO rows.length tn D j).take i).filter fun o => o.isNone).map oI)) ∧ Same H H') ⟨upd_same, same_new hDD⟩ (fun i H' _ hp => sqT_same hp.2 ha) ?_ ?_
        · rintro i y H5 hy ⟨h5, s6⟩
          obtain ⟨o, ho, rfl⟩ : ∃ o, (stO rows.length tn D j)[i]? = some o ∧ y = oI o := by
            rw [List.getElem?_map] at hy
            cases e : (stO rows.length tn D j)[i]? with
            | none => rw [e] at hy; cases hy
            | some u => rw [e] at hy; exact ⟨u, rfl, (Option.some.inj hy).symm⟩
          rw [filt_succ ho]
          have il := (List.getElem?_eq_some_iff.mp ho).1
          rw [stO_len] at il
          refine ⟨rfl, _, rfl, rfl, _, rfl, ?_⟩
          cases o with
          | none =>
            refine ⟨_, rfl, _, h5, small_lt (by rw [List.length_map]; exact Nat.le_trans (List.length_filter_le _ _) (by rw [List.length_take]; omega)), ?_, same_mut s6 hDD⟩
            rw [upd_same, show (if (none : Option Int).isNone = true then [(none : Option Int)] else []) = [none] from rfl, List.map_append]
            rfl
          | some t =>
            rw [show decide (oI (some t) = V.non) = false from decide_eq_false (fun h => by cases h), show (if (some t).isNone = true then [some t] else []) = ([] : List (Option Int)) from rfl, List.append_nil]
            exact ⟨h5, s6⟩
        · rintro H5 ⟨h5, s6⟩
          rw [List.length_map, List.take_length] at h5
          refine ⟨DD, _, rfl, .inl (SqL.of h5), ?_⟩
          rw [List.length_map, none_cnt ht.pm (by omega)]
          rw [tl] at k
          exact k H5 s6
      · have e2 : ¬ cu = "strict" := fun z => c (decide_eq_true (by rw [z]))
        rw [if_neg e2, if_neg e1] at k
        obtain ⟨r, hr1⟩ : ∃ r, rows[p]? = some r := ⟨_, List.getElem?_eq_getElem pl⟩
        obtain ⟨b, hb1, hb2⟩ := hrb.get hr1
        have er : Mt.row rows p = r := Mt.row_get hr1
        have rl := Nat.le_trans (G.row_len r (List.mem_of_getElem? hr1)) hn
        have eB : leftR r (stO rows.length tn D j) = Mt.row (Mt.bh (Mt.tR rows tn) (Mt.tD D tn) j) 0 := by rw [← er]; exact leftR_st lt hp
        refine ⟨_, rfl, _, rfl, ra, rvs, _, .ref b, rfl, rfl, hra, atI_nat hb1, b, rfl, ⟨_, hb2⟩, fun DD hDD => ?_⟩
        obtain ⟨os, eos⟩ : ∃ os, os = stO rows.length tn D j := ⟨_, rfl⟩
        have near := near_eq ht ndR d hp
        rw [← eos] at ha eB near
        have osl : os.length = rows.length := by rw [eos, stO_len]
        have hbB := hb2
        have sA := Same.refl H
        refine lc_tup (xs := r.map V.int) (fun j H' => H' DD = some (.lst ((leftR (r.take j) os).map V.int)) ∧ Same H H') ⟨upd_same, same_new hDD⟩ (fun j H' _ hp => sqT_same hp.2 hbB) ?_ ?_
        · rintro j y H5 hy ⟨h5, s6⟩
          obtain ⟨u, hu, rfl⟩ : ∃ u, r[j]? = some u ∧ y = V.int u := by
            rw [List.getElem?_map] at hy
            cases e : r[j]? with
            | none => rw [e] at hy; cases hy
            | some u => rw [e] at hy; exact ⟨u, rfl, (Option.some.inj hy).symm⟩
          have jl := (List.getElem?_eq_some_iff.mp hu).1
          refine ⟨rfl, _, rfl, _, rfl, a, _, rfl, .inr (sqT_same (sA.trans s6) ha), rfl, flat_o _, ?_⟩
          rw [show (if true = true then !inV (V.int u) (os.map oI) else inV (V.int u) (os.map oI)) = !decide (some u ∈ os) from by rw [if_pos rfl, inV_o]]
          unfold leftR at h5 ⊢
          rw [filt_succ hu]
          refine ⟨_, rfl, ite2 (fun hc => ?_) (fun hc => ?_)⟩
          · rw [if_pos hc]
            refine ⟨_, rfl, _, h5, small_lt (by rw [List.length_map]; exact Nat.le_trans (List.length_filter_le _ _) (by rw [List.length_take]; omega)), ?_, same_mut s6 hDD⟩
            rw [upd_same, List.map_append]
            rfl
          · rw [if_neg hc, List.append_nil]
            exact ⟨h5, s6⟩
        · rintro H5 ⟨h5, s6⟩
          rw [List.length_map, List.take_length] at h5
          refine ⟨_, rfl, rfl, _, rfl, ite2 (fun c => ?_) (fun c => ?_)⟩
          · have e : cu = "near" := by have := of_decide_eq_true c; injection this
            rw [if_pos e] at k
            refine ⟨_, rfl, DD, rfl, ⟨_, SqL.of h5⟩, fun D2 hD2 => ?_⟩
            refine lc_list (xs := (leftR r os).map V.int) (fun i H' => H' D2 = some (.lst ((((leftR r os).take i).filter fun z => !leavesB (Mt.bh (Mt.tR rows tn) (Mt.tD D tn) j) z).map V.int)) ∧ Same H5 H') ⟨upd_same, same_new hD2⟩ (fun i H' _ hp => SqL.of (hp.2 _ _ h5)) ?_ ?_
            · rintro i y H7 hy ⟨h7, s7⟩
              obtain ⟨u, hu, rfl⟩ : ∃ u, (leftR r os)[i]? = some u ∧ y = V.int u := by
                rw [List.getElem?_map] at hy
                cases e : (leftR r os)[i]? with
                | none => rw [e] at hy; cases hy
                | some u => rw [e] at hy; exact ⟨u, rfl, (Option.some.inj hy).symm⟩
              have il := (List.getElem?_eq_some_iff.mp hu).1
              have ll : (leftR r os).length ≤ r.length := List.length_filter_le _ _
              have s67 := s6.trans s7
              refine ⟨rfl, _, rfl, _, rfl, _, rfl, _, rfl, a, os, p, u, rfl, sqT_same s67 ha, by omega, by omega, fun r2 H8 s8 hr2 => ?_⟩
              have s68 := s67.trans s8
              refine ⟨.ref ra, r2, rows, os.set p (some u), rfl, hR.same s68, hr2, by rw [List.length_set, osl], by omega, fun r hr => by have := G.row_len r hr; omega, fun H9 s9 => ?_⟩
              rw [near u, filt_succ hu]
              have s79 := s8.trans s9
              refine ⟨_, rfl, ite2 (fun hc => ?_) (fun hc => ?_)⟩
              · rw [if_pos hc]
                refine ⟨_, rfl, _, s79 _ _ h7, small_lt (by rw [List.length_map]; exact Nat.le_trans (List.length_filter_le _ _) (by rw [List.length_take]; omega)), ?_, same_mut (s7.trans s79) hD2⟩
                rw [upd_same, List.map_append]
                rfl
              · rw [if_neg hc, List.append_nil]
                exact ⟨s79 _ _ h7, s7.trans s79⟩
            · rintro H7 ⟨h7, s7⟩
              rw [List.length_map, List.take_length] at h7
              refine ⟨_, rfl, D2, _, rfl, .inl (SqL.of h7), ?_⟩
              rw [List.length_map, eB]
              exact k H7 (s6.trans s7)
          · have e : ¬ cu = "near" := fun z => c (decide_eq_true (by rw [z]))
            rw [if_neg e] at k
            refine ⟨_, rfl, DD, _, rfl, .inl (SqL.of h5), ?_⟩
            rw [List.length_map, eB]
            exact k H5 s6
def spLBot (K : PySem.W.Frag) : Sp := fun vs H Q _ => ∃ (rv : V) (dl a b : Addr) (cu : Str) (ws : List V) (rows : List (List Int)) (tn : List Nat) (D : List Int), vs = [rv, .ref dl, .ref a, .str cu, .ref b] ∧ RowsAt K H rv rows ∧ Good rows ∧ rows.length ≤ 40 ∧ H dl = some (.lst ws) ∧ RowsT K H ws (Mt.deals rows) ∧ (Mt.deals rows).length ≤ 4000 ∧ SqT K H a (tn.map nV) ∧ Mt.Turn rows tn ∧ SqT K H b (D.map V.int) ∧ Mt.Ds rows D ∧ ∀ H', Same H H' → Q (nV (botR cu (Mt.tR rows tn) (Mt.tD D tn) rows.length)) H'
theorem ok_lbottom (A : At K mg "_law_bottom" s_law_bottom ["rows", "deals", "turn", "custom", "dealing"]) (T : Tx mg) (G_law_sides : Dfn P w K mg base "_law_sides" ["rows", "deals", "standing", "person", "custom"] 3 (spSides K)) (G_law_drawn : Dfn P w K mg base "_law_drawn" ["standing", "person", "thing"] 1 (spDrawn K)) : Dfn P w K mg base "_law_bottom" ["rows", "deals", "turn", "custom", "dealing"] 4 (spLBot K) := by
  refine A.ok sc_law_bottom (fun vs H Q E h => ?_) (fun f cdv A outer s H vs Q E hr h => ?_)
  · obtain ⟨_, _, _, _, _, _, _, _, _, rfl, _⟩ := h
    rfl
  · obtain ⟨rv, dl, a, b, cu, ws, rows, tn, D, rfl, hR, G, hn, hdl, hw, few, ha, ht, hb, d, k⟩ := h
    obtain ⟨ra, rvs, rfl, hra, hrb⟩ := id hR
    have vl := hrb.len
    have gp := G.pos
    have tl := ht.len
    refine ⟨_, (pss_cons (ps_set (i := 5) sc_law_bottom.nd rfl (Or.inl rfl) (pe_op op_repTn (pe_tup (pa_cons pe_non pa_nil)) (pe_callB c_len (by rfl) T.len (by decide +kernel) (pa_cons (pv 0) pa_nil))))
      (pss_cons (ps_set (i := 6) sc_law_bottom.nd rfl (Or.inl rfl) pe_int)
      (pss_cons (ps_for PassesOwn.never rfl (pi_tup (pv 2)) (pg_name (i := 7) sc_law_bottom.nd rfl (Or.inl rfl))
      (pss_cons (ps_set (i := 6) sc_law_bottom.nd rfl (Or.inl rfl) (pe_op op_mul (pv 6) (pe_d G_law_sides (hr.mono (by decide)) (pa_cons (pv 0) (pa_cons (pv 1) (pa_cons (pv 5) (pa_cons (pv 7) (pa_cons (pv 3) pa_nil))))))))
      (pss_one (ps_set (i := 5) sc_law_bottom.nd rfl (Or.inl rfl) (pe_d G_law_drawn (hr.mono (by decide)) (pa_cons (pv 5) (pa_cons (pv 7) (pa_cons (pe_ix ix_tup (pv 4) (pv 7) (fun _ _ => rfl)) pa_nil))))))))
      (pss_one (ps_ret (pv 6)))))), ?_⟩
    refine ⟨by show 1 ≤ sizeLine; decide, fun a1 k1 => ?_⟩
    have c1 := same_new (o := .tup [V.non]) k1
    refine ⟨_, rfl, ra, _, rfl, .inr (sqT_same c1 hra), a1, _, [V.non], rfl, rfl, SqT.of upd_same, (fun z => by cases z), by omega, by omega, by show 1 ≤ 1000; decide, fun a2 B2 c2 f2 => ?_⟩
    have c12 := c1.trans c2
    have e0 : (List.replicate (((rvs.length : Nat) : Int)).toNat [V.non]).flatten = (stO rows.length tn D 0).map oI := by
      rw [stO_zero, Int.toNat_natCast, List.flatten_replicate_singleton, List.map_replicate, vl]
    rw [e0] at f2
    have rlB : ∀ j, ∀ r ∈ Mt.bh (Mt.tR rows tn) (Mt.tD D tn) j, r.length ≤ 100 := fun j r hr => by
      obtain ⟨s, hs, rfl⟩ := List.mem_map.mp hr
      obtain ⟨p, hp, rfl⟩ := List.mem_map.mp (List.mem_of_mem_drop hs)
      have := G.row_all p
      exact Nat.le_trans (List.length_filter_le _ _) (by omega)
    refine ⟨_, rfl, a, rfl, ⟨_, sqT_same c12 ha⟩, for_tup (xs := tn.map nV) (fun i σ' H' => (∃ st x7, σ' = [some (.ref ra), some (.ref dl), some (.ref a), some (.str cu), some (.ref b), some (.ref st), some (nV (botR cu (Mt.tR rows tn) (Mt.tD D tn) i)), x7] ∧ SqT K H' st ((stO rows.length tn D i).map oI)) ∧ Same H H') ⟨⟨a2, _, rfl, f2⟩, c12⟩ (fun i σ' H' _ hp => sqT_same hp.2 ha) ?_ ?_⟩
    · rintro i y σ' H2 hy ⟨⟨st, x7, rfl, hst⟩, s2⟩
      obtain ⟨q, hq, rfl⟩ : ∃ q, tn[i]? = some q ∧ y = nV q := by
        rw [List.getElem?_map] at hy
        cases e : tn[i]? with
        | none => rw [e] at hy; cases hy
        | some u => rw [e] at hy; exact ⟨u, rfl, (Option.some.inj hy).symm⟩
      have ql := ht.lt (List.mem_of_getElem? hq)
      have il := (List.getElem?_eq_some_iff.mp hq).1
      have hDq := Mt.ds_getD d ql
      refine ⟨_, rfl, _, rfl, _, rfl, _, rfl, _, rfl, _, rfl, .ref ra, dl, st, cu, ws, rows, tn, D, i, q, rfl, hR.same s2, G, hn, s2 _ _ hdl, hw.same s2, few, ht, d, hq, hst, fun H3 s3 => ?_⟩
      have cb : chR cu (Mt.bh (Mt.tR rows tn) (Mt.tD D tn) i) ≤ 100 := chR_le (by rw [Mt.bh_len, Mt.tR_len]; omega) (rlB i)
      refine ⟨_, _, rfl, rfl, .inr ⟨by omega, by omega⟩, ?_⟩
      have s23 := s2.trans s3
      refine ⟨_, rfl, _, rfl, _, rfl, _, rfl, b, _, _, _, rfl, rfl, sqT_same s23 hb, atI_nat (j := q) (x_get (by rw [d.len]; exact ql)), ?_⟩
      refine ⟨st, _, q, D.getD q 0, rfl, sqT_same s3 hst, by rw [stO_len]; exact ql, by rw [stO_len]; omega, fun r2 H4 s4 hr2 => ?_⟩
      rw [stO_succ hq ql] at hr2
      exact ⟨⟨r2, _, rfl, hr2⟩, s23.trans s4⟩
    · rintro σ' H2 ⟨⟨st, x7, rfl, hst⟩, s2⟩
      rw [List.length_map, tl]
      exact ⟨_, rfl, k H2 s2⟩
end
end Fo
set_option maxRecDepth 100000
set_option maxHeartbeats 4000000
namespace Mt
theorem q_num (a : Int) {b : Int} (hb : 0 < b) : (Rat.divInt a b).num = a / ((Nat.gcd a.natAbs b.natAbs : Nat) : Int) := by
  rw [Rat.num_divInt, Int.sign_eq_one_of_pos hb, Int.one_mul]
  have : (b.gcd a : Int) = ((Nat.gcd a.natAbs b.natAbs : Nat) : Int) := by
    rw [Nat.gcd_comm]
    rfl
  rw [this]
theorem q_den (a : Int) {b : Int} (hb : 0 < b) : ((Rat.divInt a b).den : Int) = b / ((Nat.gcd a.natAbs b.natAbs : Nat) : Int) := by
  rw [Rat.den_divInt, if_neg (by omega)]
  have e : b.gcd a = Nat.gcd a.natAbs b.natAbs := by
    rw [Nat.gcd_comm]
    rfl
  rw [e, Int.natCast_ediv, show ((b.natAbs : Nat) : Int) = b by omega]
theorem q_mul (x y : Rat) : Rat.divInt (x.num * y.num) ((x.den : Int) * (y.den : Int)) = x * y := by
  have hx := x.den_nz
  have hy := y.den_nz
  rw [← Rat.divInt_mul_divInt, Rat.num_divInt_den, Rat.num_divInt_den]
end Mt
set_option maxRecDepth 100000
set_option maxHeartbeats 4000000
namespace Mt
/-- the rows behind the first one's draw -/
def bh1 (R : Rows) (t : Int) : Rows := (R.drop 1).map fun r => r.filter fun z => !decide (z = t)
theorem bh1_len {R : Rows} {t : Int} : (bh1 R t).length = R.length - 1 := by
  unfold bh1
  rw [List.length_map, List.length_drop]
theorem bh1_cons {r : List Int} {R : Rows} {t : Int} : bh1 (r :: R) t = R.map fun r => r.filter fun z => !decide (z = t) := rfl
theorem mem_bh1 {R : Rows} {t u : Int} {p : Nat} : u ∈ row (bh1 R t) p ↔ u ∈ row R (p + 1) ∧ u ≠ t := by
  unfold bh1 row
  rw [List.getElem?_map, List.getElem?_drop, Nat.add_comm 1 p]
  cases R[p + 1]? with
  | none => exact ⟨fun h => (by cases h), fun h => (by cases h.1)⟩
  | some r =>
    show u ∈ r.filter (fun z => !decide (z = t)) ↔ u ∈ r ∧ u ≠ t
    rw [List.mem_filter]
    refine and_congr_right fun _ => ?_
    by_cases h : u = t
    · rw [decide_eq_true h]
      exact ⟨fun z => (by cases z), fun z => absurd h z⟩
    · rw [decide_eq_false h]
      exact ⟨fun _ => h, fun _ => rfl⟩
theorem ds_cons {R : Rows} {t : Int} {F : List Int} (h : 0 < R.length) : Ds R (t :: F) ↔ t ∈ row R 0 ∧ Ds (bh1 R t) F := by
  constructor
  · intro d
    have nd := List.nodup_cons.mp d.nd
    have dl := d.len
    rw [List.length_cons] at dl
    refine ⟨d.tie 0 t rfl, ⟨by rw [bh1_len]; omega, fun p u e => mem_bh1.mpr ⟨d.tie (p + 1) u e, fun z => nd.1 (by rw [← z]; exact List.mem_of_getElem? e)⟩, nd.2⟩⟩
  · rintro ⟨h1, d⟩
    have dl := d.len
    rw [bh1_len] at dl
    refine ⟨by rw [List.length_cons]; omega, fun p u e => ?_, List.nodup_cons.mpr ⟨fun hm => ?_, d.nd⟩⟩
    · match p, e with
      | 0, e => cases e; exact h1
      | p + 1, e => exact (mem_bh1.mp (d.tie p u e)).1
    · obtain ⟨i, hi⟩ := List.getElem?_of_mem hm
      exact (mem_bh1.mp (d.tie i t hi)).2 rfl
abbrev Tag := List (Bool × List Int)
def allT (Z : Tag) : Rows := Z.map fun z => z.2
def clT (b : Bool) (Z : Tag) : Rows := (Z.filter fun z => z.1 == b).map fun z => z.2
def Apart (Z : Tag) : Prop := ∀ z ∈ Z, ∀ y ∈ Z, z.1 ≠ y.1 → ∀ t ∈ z.2, t ∉ y.2
end Mt
set_option maxRecDepth 100000
set_option maxHeartbeats 4000000
namespace Mt
/-- what ch may look at: only the lot of the first one -/
def Loc (ch : Rows → Nat) : Prop := ∀ (b : Bool) (r : List Int) (Z : Tag), Apart ((b, r) :: Z) → ch (allT ((b, r) :: Z)) = ch (clT b ((b, r) :: Z))
/-- rows with other numbers of things -/
def renR (σ : Int → Int) (R : Rows) : Rows := R.map fun r => r.map σ
def InjR (σ : Int → Int) (R : Rows) : Prop := ∀ r ∈ R, ∀ s ∈ R, ∀ t ∈ r, ∀ u ∈ s, σ t = σ u → t = u
theorem ren_bh1 {σ : Int → Int} {R : Rows} (inj : InjR σ R) {t : Int} (ht : t ∈ row R 0) : bh1 (renR σ R) (σ t) = renR σ (bh1 R t) := by
  match R, inj, ht with
  | r :: R, inj, ht =>
    show (R.map fun r => r.map σ).map (fun r => r.filter fun z => !decide (z = σ t)) = (R.map fun r => r.filter fun z => !decide (z = t)).map fun r => r.map σ
    rw [List.map_map, List.map_map]
    refine List.map_congr_left fun s hs => ?_
    show (s.map σ).filter _ = (s.filter _).map σ
    rw [List.filter_map]
    refine congrArg _ (List.filter_congr fun u hu => ?_)
    show (!decide (σ u = σ t)) = !decide (u = t)
    congr 1
    exact decide_eq_decide.mpr ⟨fun h => inj s (List.mem_cons_of_mem _ hs) r List.mem_cons_self u hu t ht h, fun h => by rw [h]⟩
theorem inj_bh1 {σ : Int → Int} {R : Rows} (inj : InjR σ R) (t : Int) : InjR σ (bh1 R t) := fun r hr s hs a ha b hb e => by
  obtain ⟨r', hr', rfl⟩ := List.mem_map.mp hr
  obtain ⟨s', hs', rfl⟩ := List.mem_map.mp hs
  exact inj r' (List.mem_of_mem_drop hr') s' (List.mem_of_mem_drop hs') a (List.mem_filter.mp ha).1 b (List.mem_filter.mp hb).1 e
end Mt
set_option maxRecDepth 100000
set_option maxHeartbeats 4000000
namespace Mt
/-- the numbers of choices on the way to a dealing, multiplied -/
def btF (ch : Rows → Nat) : Rows → List Int → Nat
  | _, [] => 1
  | R, t :: F => ch R * btF ch (bh1 R t) F
theorem asc_bh1 {R : Rows} (h : ∀ r ∈ R, r.Pairwise (· < ·)) (t : Int) : ∀ r ∈ bh1 R t, r.Pairwise (· < ·) := fun r hr => by
  obtain ⟨s, hs, rfl⟩ := List.mem_map.mp hr
  exact (h s (List.mem_of_mem_drop hs)).sublist List.filter_sublist
theorem deals_first {r : List Int} {R : Rows} (asc : ∀ s ∈ r :: R, s.Pairwise (· < ·)) : (deals (r :: R)).Perm (r.flatMap fun t => (deals (bh1 (r :: R) t)).map fun F => t :: F) := by
  refine (List.perm_ext_iff_of_nodup (deals_nd asc) ?_).mpr fun E => ?_
  · refine List.pairwise_flatMap.mpr ⟨fun t _ => nodup_map (deals_nd (asc_bh1 asc t)) fun a _ b _ e => (List.cons.inj e).2, ?_⟩
    refine (asc r List.mem_cons_self).imp fun {a b} hab x hx y hy e => ?_
    obtain ⟨F, _, rfl⟩ := List.mem_map.mp hx
    obtain ⟨F', _, rfl⟩ := List.mem_map.mp hy
    have := (List.cons.inj e).1
    omega
  · rw [mem_deals, List.mem_flatMap]
    constructor
    · intro d
      match E, d with
      | [], d => exact absurd d.len (by simp)
      | t :: F, d =>
        have := (ds_cons (by simp)).mp d
        exact ⟨t, this.1, List.mem_map.mpr ⟨F, (mem_deals F).mpr this.2, rfl⟩⟩
    · rintro ⟨t, ht, hE⟩
      obtain ⟨F, hF, rfl⟩ := List.mem_map.mp hE
      exact (ds_cons (by simp)).mpr ⟨ht, (mem_deals F).mp hF⟩
def botJ (ch : Rows → Nat) (R : Rows) (D : List Int) : Nat → Nat
  | 0 => 1
  | j + 1 => botJ ch R D j * ch (bh R D j)
theorem bh_cons {R : Rows} {t : Int} {F : List Int} (j : Nat) : bh R (t :: F) (j + 1) = bh (bh1 R t) F j := by
  unfold bh bh1
  rw [List.take_succ_cons, ← List.map_drop, List.map_map, List.drop_drop, Nat.add_comm 1 j]
  refine List.map_congr_left fun r _ => ?_
  show r.filter _ = (r.filter _).filter _
  rw [List.filter_filter]
  refine List.filter_congr fun z _ => ?_
  by_cases a : z = t
  · rw [decide_eq_true a, decide_eq_true (by rw [a]; exact List.mem_cons_self)]
    simp
  · by_cases b : z ∈ F.take j
    · rw [decide_eq_true (List.mem_cons_of_mem _ b), decide_eq_true b]
      rfl
    · rw [decide_eq_false a, decide_eq_false b, decide_eq_false fun h => (List.mem_cons.mp h).elim a b]
      rfl
theorem botJ_cons (ch : Rows → Nat) (R : Rows) (t : Int) (F : List Int) : ∀ j, botJ ch R (t :: F) (j + 1) = ch R * botJ ch (bh1 R t) F j
  | 0 => by
    show 1 * ch (bh R (t :: F) 0) = ch R * 1
    rw [bh_zero, Nat.one_mul, Nat.mul_one]
  | j + 1 => by
    show botJ ch R (t :: F) (j + 1) * ch (bh R (t :: F) (j + 1)) = ch R * (botJ ch (bh1 R t) F j * ch (bh (bh1 R t) F j))
    rw [botJ_cons ch R t F j, bh_cons, Nat.mul_assoc]
theorem botJ_btF (ch : Rows → Nat) : ∀ (F : List Int) (R : Rows), botJ ch R F F.length = btF ch R F
  | [], _ => rfl
  | t :: F, R => by
    rw [List.length_cons, botJ_cons, botJ_btF ch F (bh1 R t)]
    rfl
end Mt
namespace Mt
/-- the first person in whom they differ has less -/
def leF (P : List Int) (f g : Int → Int) : Prop := (∀ p ∈ P, f p = g p) ∨ ∃ p ∈ P, f p < g p ∧ ∀ q ∈ P, q < p → f q = g q
theorem leF.refl (P : List Int) (f : Int → Int) : leF P f f := .inl fun _ _ => rfl
theorem leF.trans {P : List Int} {f g h : Int → Int} (a : leF P f g) (b : leF P g h) : leF P f h := by
  rcases a with a | ⟨p, hp, a1, a2⟩
  · rcases b with b | ⟨q, hq, b1, b2⟩
    · exact .inl fun x hx => (a x hx).trans (b x hx)
    · exact .inr ⟨q, hq, by rw [a q hq]; exact b1, fun x hx hl => (a x hx).trans (b2 x hx hl)⟩
  · rcases b with b | ⟨q, hq, b1, b2⟩
    · exact .inr ⟨p, hp, by rw [← b p hp]; exact a1, fun x hx hl => (a2 x hx hl).trans (b x hx)⟩
    · rcases Int.lt_trichotomy p q with h | h | h
      · exact .inr ⟨p, hp, by rw [← b2 p hp h]; exact a1, fun x hx hl => (a2 x hx hl).trans (b2 x hx (by omega))⟩
      · subst h
        exact .inr ⟨p, hp, by omega, fun x hx hl => (a2 x hx hl).trans (b2 x hx hl)⟩
      · exact .inr ⟨q, hq, by rw [a2 q hq h]; exact b1, fun x hx hl => (a2 x hx (by omega)).trans (b2 x hx hl)⟩
theorem leF.sub {P Q : List Int} {f g : Int → Int} (h : ∀ p, p ∈ P ↔ p ∈ Q) (a : leF P f g) : leF Q f g := by
  rcases a with a | ⟨p, hp, a1, a2⟩
  · exact .inl fun x hx => a x ((h x).mpr hx)
  · exact .inr ⟨p, (h p).mp hp, a1, fun x hx hl => a2 x ((h x).mpr hx) hl⟩
theorem leF.congr {P : List Int} {f g f' g' : Int → Int} (hf : ∀ p ∈ P, f p = f' p) (hg : ∀ p ∈ P, g p = g' p) (a : leF P f g) : leF P f' g' := by
  rcases a with a | ⟨p, hp, a1, a2⟩
  · exact .inl fun x hx => by rw [← hf x hx, ← hg x hx]; exact a x hx
  · exact .inr ⟨p, hp, by rw [← hf p hp, ← hg p hp]; exact a1, fun x hx hl => by rw [← hf x hx, ← hg x hx]; exact a2 x hx hl⟩
/-- two lots put together: as the first says for its own people, else as the second -/
def mrg (A : List Int) (f g : Int → Int) : Int → Int := fun p => if p ∈ A then f p else g p
theorem leF.mrg {A B : List Int} (dis : ∀ p ∈ A, p ∉ B) {f f' g g' : Int → Int} (a : leF A f f') (b : leF B g g') : leF (A ++ B) (mrg A f g) (mrg A f' g') := by
  have ea : ∀ {f g : Int → Int} {p}, p ∈ A → Mt.mrg A f g p = f p := fun h => if_pos h
  have eb : ∀ {f g : Int → Int} {p}, p ∈ B → Mt.mrg A f g p = g p := fun {f g p} h => if_neg fun q => dis p q h
  rcases a with a | ⟨p, hp, a1, a2⟩
  · rcases b with b | ⟨q, hq, b1, b2⟩
    · refine .inl fun x hx => ?_
      rcases List.mem_append.mp hx with h | h
      · rw [ea h, ea h]; exact a x h
      · rw [eb h, eb h]; exact b x h
    · refine .inr ⟨q, List.mem_append.mpr (.inr hq), by rw [eb hq, eb hq]; exact b1, fun x hx hl => ?_⟩
      rcases List.mem_append.mp hx with h | h
      · rw [ea h, ea h]; exact a x h
      · rw [eb h, eb h]; exact b2 x h hl
  · rcases b with b | ⟨q, hq, b1, b2⟩
    · refine .inr ⟨p, List.mem_append.mpr (.inl hp), by rw [ea hp, ea hp]; exact a1, fun x hx hl => ?_⟩
      rcases List.mem_append.mp hx with h | h
      · rw [ea h, ea h]; exact a2 x h hl
      · rw [eb h, eb h]; exact b x h
    · by_cases h : p < q
      · refine .inr ⟨p, List.mem_append.mpr (.inl hp), by rw [ea hp, ea hp]; exact a1, fun x hx hl => ?_⟩
        rcases List.mem_append.mp hx with h2 | h2
        · rw [ea h2, ea h2]; exact a2 x h2 hl
        · rw [eb h2, eb h2]; exact b2 x h2 (by omega)
      · have ne : p ≠ q := fun e => dis p hp (e ▸ hq)
        refine .inr ⟨q, List.mem_append.mpr (.inr hq), by rw [eb hq, eb hq]; exact b1, fun x hx hl => ?_⟩
        rcases List.mem_append.mp hx with h2 | h2
        · rw [ea h2, ea h2]; exact a2 x h2 (by omega)
        · rw [eb h2, eb h2]; exact b2 x h2 hl
abbrev Wl := List (Nat × (Int → Int))
abbrev Cl := List (Nat × Nat × (Int → Int))
/-- how many parts of this bottom, told and there -/
def cm (L : Cl) (b : Nat) : Nat := (L.map fun c => if c.1 = b then c.2.1 else 0).sum
def wm (W : Wl) (b : Nat) : Nat := (W.map fun w => if w.1 = b then 1 else 0).sum
theorem cm_pos {L : Cl} {b : Nat} (n : ∀ c ∈ L, c.1 ≠ b) : cm L b = 0 := by
  induction L with
  | nil => rfl
  | cons c L ih =>
    have e := ih fun x hx => n x (List.mem_cons_of_mem _ hx)
    unfold cm at e ⊢
    rw [List.map_cons, List.sum_cons, if_neg (n c List.mem_cons_self), Nat.zero_add]
    exact e
theorem wm_zero {W : Wl} {b : Nat} (n : ∀ c ∈ W, c.1 ≠ b) : wm W b = 0 := by
  induction W with
  | nil => rfl
  | cons c L ih =>
    have e := ih fun x hx => n x (List.mem_cons_of_mem _ hx)
    unfold wm at e ⊢
    rw [List.map_cons, List.sum_cons, if_neg (n c List.mem_cons_self), Nat.zero_add]
    exact e
/-- the parts L stand for the weighted lots W, for the bottoms that K tells -/
structure Rep (K : Nat → Prop) (P : List Int) (W : Wl) (L : Cl) : Prop where
  key : ∀ c ∈ L, ∃ w ∈ W, w.1 = c.1
  many : ∀ b, K b → cm L b = wm W b
  low : ∀ w ∈ W, K w.1 → ∃ c ∈ L, c.1 = w.1 ∧ leF P c.2.2 w.2
  own : ∀ c ∈ L, K c.1 → ∃ w ∈ W, w.1 = c.1 ∧ ∀ p ∈ P, w.2 p = c.2.2 p
theorem cm_app (L M : Cl) (b : Nat) : cm (L ++ M) b = cm L b + cm M b := by
  unfold cm
  rw [List.map_append, List.sum_append]
theorem wm_app (L M : Wl) (b : Nat) : wm (L ++ M) b = wm L b + wm M b := by
  unfold wm
  rw [List.map_append, List.sum_append]
theorem Rep.nil {K : Nat → Prop} {P : List Int} : Rep K P [] [] := ⟨fun _ h => (by cases h), fun _ _ => rfl, fun _ h => (by cases h), fun _ h => (by cases h)⟩
theorem Rep.app {K : Nat → Prop} {P : List Int} {W V : Wl} {L M : Cl} (a : Rep K P W L) (b : Rep K P V M) : Rep K P (W ++ V) (L ++ M) where
  key := fun c hc => by
    rcases List.mem_append.mp hc with h | h
    · obtain ⟨w, hw, e⟩ := a.key c h
      exact ⟨w, List.mem_append.mpr (.inl hw), e⟩
    · obtain ⟨w, hw, e⟩ := b.key c h
      exact ⟨w, List.mem_append.mpr (.inr hw), e⟩
  many := fun x hx => by rw [cm_app, wm_app, a.many x hx, b.many x hx]
  low := fun w hw hk => by
    rcases List.mem_append.mp hw with h | h
    · obtain ⟨c, hc, e⟩ := a.low w h hk
      exact ⟨c, List.mem_append.mpr (.inl hc), e⟩
    · obtain ⟨c, hc, e⟩ := b.low w h hk
      exact ⟨c, List.mem_append.mpr (.inr hc), e⟩
  own := fun c hc hk => by
    rcases List.mem_append.mp hc with h | h
    · obtain ⟨w, hw, e⟩ := a.own c h hk
      exact ⟨w, List.mem_append.mpr (.inl hw), e⟩
    · obtain ⟨w, hw, e⟩ := b.own c h hk
      exact ⟨w, List.mem_append.mpr (.inr hw), e⟩
theorem wm_perm {W V : Wl} (h : W.Perm V) (b : Nat) : wm W b = wm V b := by
  unfold wm
  exact (h.map _).sum_nat
theorem Rep.perm {K : Nat → Prop} {P : List Int} {W V : Wl} {L : Cl} (h : W.Perm V) (a : Rep K P W L) : Rep K P V L where
  key := fun c hc => by
    obtain ⟨w, hw, e⟩ := a.key c hc
    exact ⟨w, h.mem_iff.mp hw, e⟩
  many := fun x hx => by rw [a.many x hx, wm_perm h]
  low := fun w hw hk => a.low w (h.mem_iff.mpr hw) hk
  own := fun c hc hk => by
    obtain ⟨w, hw, e⟩ := a.own c hc hk
    exact ⟨w, h.mem_iff.mp hw, e⟩
theorem Rep.less {K K' : Nat → Prop} {P : List Int} {W : Wl} {L : Cl} (a : Rep K P W L) (h : ∀ w ∈ W, K' w.1 → K w.1) : Rep K' P W L where
  key := a.key
  many := fun b hb => by
    by_cases q : ∃ w ∈ W, w.1 = b
    · obtain ⟨w, hw, e⟩ := q
      exact a.many b (e ▸ h w hw (e ▸ hb))
    · rw [cm_pos fun c hc e => ?_, wm_zero fun w hw e => q ⟨w, hw, e⟩]
      obtain ⟨w, hw, e2⟩ := a.key c hc
      exact q ⟨w, hw, e2.trans e⟩
  low := fun w hw hk => a.low w hw (h w hw hk)
  own := fun c hc hk => by
    obtain ⟨w, hw, e⟩ := a.key c hc
    exact a.own c hc (e ▸ h w hw (e ▸ hk))
theorem zeros {α : Type} : ∀ l : List α, (l.map fun _ => (0 : Nat)).sum = 0
  | [] => rfl
  | _ :: l => by rw [List.map_cons, List.sum_cons, zeros l]
/-- all bottoms times k, lots changed alike -/
theorem Rep.times {K K' : Nat → Prop} {P Q : List Int} {W : Wl} {L : Cl} (k : Nat) (hk : 0 < k) (φ : (Int → Int) → Int → Int) (hφ : ∀ u ∈ W, ∀ v ∈ W, leF P u.2 v.2 → leF Q (φ u.2) (φ v.2)) (hφ2 : ∀ f g, (∀ p ∈ P, f p = g p) → ∀ q ∈ Q, φ f q = φ g q) (h : ∀ w ∈ W, K' (k * w.1) → K w.1) (a : Rep K P W L) :
    Rep K' Q (W.map fun w => (k * w.1, φ w.2)) (L.map fun c => (k * c.1, c.2.1, φ c.2.2)) := by
  have a := a.less (K' := fun b => K' (k * b)) h
  refine ⟨fun c hc => ?_, fun b hb => ?_, fun w hw hkw => ?_, fun c hc hkc => ?_⟩
  · obtain ⟨c0, h0, rfl⟩ := List.mem_map.mp hc
    obtain ⟨w, hw, e⟩ := a.key c0 h0
    exact ⟨_, List.mem_map.mpr ⟨w, hw, rfl⟩, by show k * w.1 = k * c0.1; rw [e]⟩
  · unfold cm wm
    rw [List.map_map, List.map_map]
    by_cases q : ∃ x, k * x = b
    · obtain ⟨x, rfl⟩ := q
      have e := a.many x hb
      unfold cm wm at e
      have e1 : ∀ y : Nat, (k * y = k * x) = (y = x) := fun y => propext ⟨fun z => Nat.eq_of_mul_eq_mul_left hk z, fun z => by rw [z]⟩
      simp only [Function.comp_def, e1]
      exact e
    · have n1 : ∀ y : Nat, ¬ k * y = b := fun y z => q ⟨y, z⟩
      simp only [Function.comp_def, n1, if_false]
      exact (zeros _).trans (zeros _).symm
  · obtain ⟨w0, h0, rfl⟩ := List.mem_map.mp hw
    obtain ⟨c, hc, e, l⟩ := a.low w0 h0 hkw
    obtain ⟨u, hu, _, eu⟩ := a.own c hc (show K' (k * c.1) by rw [e]; exact hkw)
    exact ⟨_, List.mem_map.mpr ⟨c, hc, rfl⟩, by show k * c.1 = k * w0.1; rw [e], (hφ u hu w0 h0 (l.congr (fun p hp => (eu p hp).symm) fun _ _ => rfl)).congr (hφ2 _ _ eu) fun _ _ => rfl⟩
  · obtain ⟨c0, h0, rfl⟩ := List.mem_map.mp hc
    obtain ⟨w, hw, e, l⟩ := a.own c0 h0 hkc
    exact ⟨_, List.mem_map.mpr ⟨w, hw, rfl⟩, by show k * w.1 = k * c0.1; rw [e], fun q hq => hφ2 _ _ l q hq⟩
theorem sumN_add {α : Type} (f g : α → Nat) : ∀ l : List α, (l.map fun x => f x + g x).sum = (l.map f).sum + (l.map g).sum
  | [] => rfl
  | x :: l => by
    rw [List.map_cons, List.map_cons, List.map_cons, List.sum_cons, List.sum_cons, List.sum_cons, sumN_add f g l]
    omega
structure DictOf (P : List Int) (L d : Cl) : Prop where
  nd : (d.map (·.1)).Nodup
  many : ∀ b, cm d b = cm L b
  low : ∀ c ∈ L, ∃ e ∈ d, e.1 = c.1 ∧ leF P e.2.2 c.2.2
  own : ∀ e ∈ d, ∃ c ∈ L, c.1 = e.1 ∧ ∀ p ∈ P, c.2.2 p = e.2.2 p
theorem Rep.dict {K : Nat → Prop} {P : List Int} {W : Wl} {L d : Cl} (a : Rep K P W L) (h : DictOf P L d) : Rep K P W d where
  key := fun e he => by
    obtain ⟨c, hc, q, _⟩ := h.own e he
    obtain ⟨w, hw, z⟩ := a.key c hc
    exact ⟨w, hw, z.trans q⟩
  many := fun b hb => (h.many b).trans (a.many b hb)
  low := fun w hw hk => by
    obtain ⟨c, hc, q, l⟩ := a.low w hw hk
    obtain ⟨e, he, z, m⟩ := h.low c hc
    exact ⟨e, he, z.trans q, m.trans l⟩
  own := fun e he hk => by
    obtain ⟨c, hc, q, l⟩ := h.own e he
    obtain ⟨w, hw, z, m⟩ := a.own c hc (q ▸ hk)
    exact ⟨w, hw, z.trans q, fun p hp => (m p hp).trans (l p hp)⟩
theorem DictOf.none {P : List Int} : DictOf P [] [] := ⟨.nil, fun _ => rfl, fun _ h => (by cases h), fun _ h => (by cases h)⟩
theorem DictOf.new {P : List Int} {L d : Cl} (h : DictOf P L d) {c : Nat × Nat × (Int → Int)} (n : ∀ e ∈ d, e.1 ≠ c.1) : DictOf P (L ++ [c]) (d ++ [c]) where
  nd := by
    rw [List.map_append, List.nodup_append]
    exact ⟨h.nd, by simp, fun a ha b hb => by
      obtain ⟨e, he, rfl⟩ := List.mem_map.mp ha
      rw [List.map_cons, List.map_nil, List.mem_singleton] at hb
      rw [hb]
      exact n e he⟩
  many := fun b => by rw [cm_app, cm_app, h.many b]
  low := fun x hx => by
    rcases List.mem_append.mp hx with q | q
    · obtain ⟨e, he, z⟩ := h.low x q
      exact ⟨e, List.mem_append.mpr (.inl he), z⟩
    · rw [List.mem_singleton.mp q]
      exact ⟨c, List.mem_append.mpr (.inr List.mem_cons_self), rfl, leF.refl _ _⟩
  own := fun e he => by
    rcases List.mem_append.mp he with q | q
    · obtain ⟨x, hx, z⟩ := h.own e q
      exact ⟨x, List.mem_append.mpr (.inl hx), z⟩
    · rw [List.mem_singleton.mp q]
      exact ⟨c, List.mem_append.mpr (.inr List.mem_cons_self), rfl, fun _ _ => rfl⟩
theorem DictOf.old {P : List Int} {L d1 d2 : Cl} {e c : Nat × Nat × (Int → Int)} (h : DictOf P L (d1 ++ e :: d2)) (k : e.1 = c.1) {g : Int → Int} (l1 : leF P g c.2.2) (l2 : leF P g e.2.2) (o : (∀ p ∈ P, c.2.2 p = g p) ∨ ∀ p ∈ P, e.2.2 p = g p) : DictOf P (L ++ [c]) (d1 ++ (e.1, e.2.1 + c.2.1, g) :: d2) where
  nd := by
    have := h.nd
    rw [List.map_append, List.map_cons] at this ⊢
    exact this
  many := fun b => by
    have q := h.many b
    have e1 : cm (e :: d2) b = (if e.1 = b then e.2.1 else 0) + cm d2 b := by unfold cm; rw [List.map_cons, List.sum_cons]
    have e2 : cm ((e.1, e.2.1 + c.2.1, g) :: d2) b = (if e.1 = b then e.2.1 + c.2.1 else 0) + cm d2 b := by unfold cm; rw [List.map_cons, List.sum_cons]
    have e3 : cm [c] b = if c.1 = b then c.2.1 else 0 := by unfold cm; rw [List.map_cons, List.sum_cons]; rfl
    rw [cm_app] at q ⊢
    rw [cm_app, ← q, e1, e2, e3, k]
    by_cases z : c.1 = b
    · rw [if_pos z, if_pos z, if_pos z]; omega
    · rw [if_neg z, if_neg z, if_neg z]; omega
  low := fun x hx => by
    have new : (e.1, e.2.1 + c.2.1, g) ∈ d1 ++ (e.1, e.2.1 + c.2.1, g) :: d2 := List.mem_append.mpr (.inr List.mem_cons_self)
    rcases List.mem_append.mp hx with q | q
    · obtain ⟨y, hy, z, l⟩ := h.low x q
      rcases List.mem_append.mp hy with r | r
      · exact ⟨y, List.mem_append.mpr (.inl r), z, l⟩
      · rcases List.mem_cons.mp r with r | r
        · subst r
          exact ⟨_, new, z, l2.trans l⟩
        · exact ⟨y, List.mem_append.mpr (.inr (List.mem_cons_of_mem _ r)), z, l⟩
    · rw [List.mem_singleton.mp q]
      exact ⟨_, new, k, l1⟩
  own := fun y hy => by
    have old : ∀ y ∈ d1 ++ e :: d2, ∃ x ∈ L ++ [c], x.1 = y.1 ∧ ∀ p ∈ P, x.2.2 p = y.2.2 p := fun y hy => by
      obtain ⟨x, hx, z⟩ := h.own y hy
      exact ⟨x, List.mem_append.mpr (.inl hx), z⟩
    rcases List.mem_append.mp hy with r | r
    · exact old y (List.mem_append.mpr (.inl r))
    · rcases List.mem_cons.mp r with r | r
      · rw [r]
        rcases o with o | o
        · exact ⟨c, List.mem_append.mpr (.inr List.mem_cons_self), k.symm, o⟩
        · obtain ⟨x, hx, z, m⟩ := old e (List.mem_append.mpr (.inr List.mem_cons_self))
          exact ⟨x, hx, z, fun p hp => (m p hp).trans (o p hp)⟩
      · exact old y (List.mem_append.mpr (.inr (List.mem_cons_of_mem _ r)))
theorem cm_one {e : Nat × Nat × (Int → Int)} : ∀ {d : Cl}, (d.map (·.1)).Nodup → e ∈ d → cm d e.1 = e.2.1
  | [], _, h => by cases h
  | x :: d, nd, h => by
    rw [List.map_cons, List.nodup_cons] at nd
    have q : cm (x :: d) e.1 = (if x.1 = e.1 then x.2.1 else 0) + cm d e.1 := by unfold cm; rw [List.map_cons, List.sum_cons]
    rw [q]
    rcases List.mem_cons.mp h with r | r
    · subst r
      rw [if_pos rfl, cm_pos fun c hc z => nd.1 (List.mem_map.mpr ⟨c, hc, z⟩), Nat.add_zero]
    · rw [if_neg fun z => nd.1 (List.mem_map.mpr ⟨e, r, z.symm⟩), Nat.zero_add]
      exact cm_one nd.2 r
def Ends (W : Wl) (b : Nat) : Prop := (∀ w ∈ W, b ≤ w.1) ∨ ∀ w ∈ W, w.1 ≤ b
theorem Ends.times {W : Wl} {k : Nat} (hk : 0 < k) {φ : (Int → Int) → Int → Int} {b : Nat} (h : Ends (W.map fun w => (k * w.1, φ w.2)) (k * b)) : Ends W b := by
  rcases h with h | h
  · exact .inl fun x hx => Nat.le_of_mul_le_mul_left (h _ (List.mem_map.mpr ⟨x, hx, rfl⟩)) hk
  · exact .inr fun x hx => Nat.le_of_mul_le_mul_left (h _ (List.mem_map.mpr ⟨x, hx, rfl⟩)) hk
theorem Ends.sub {W V : Wl} (s : ∀ w ∈ W, w ∈ V) {b : Nat} (h : Ends V b) : Ends W b := by
  rcases h with h | h
  · exact .inl fun x hx => h x (s x hx)
  · exact .inr fun x hx => h x (s x hx)
end Mt
set_option maxRecDepth 100000
set_option maxHeartbeats 4000000
set_option maxRecDepth 100000
set_option maxHeartbeats 4000000
namespace Mt
def Bq : Nat := 2 ^ 40
def Sz (k : Nat) (x : Rat) : Prop := x.den ≤ Bq ^ k ∧ x.num.natAbs ≤ Bq ^ k
theorem den_mul (x y : Rat) : (x * y).den ≤ x.den * y.den := by
  have hx := x.den_nz
  have hy := y.den_nz
  have h := q_den (x.num * y.num) (b := (x.den : Int) * (y.den : Int)) (Int.mul_pos (by omega) (by omega))
  rw [q_mul] at h
  have h2 : ((x.den : Int) * (y.den : Int)) / ((Nat.gcd (x.num * y.num).natAbs ((x.den : Int) * (y.den : Int)).natAbs : Nat) : Int) ≤ (x.den : Int) * (y.den : Int) := Int.ediv_le_self _ (Int.mul_nonneg (by omega) (by omega))
  rw [← h] at h2
  exact_mod_cast h2
theorem num_mul (x y : Rat) : (x * y).num.natAbs ≤ x.num.natAbs * y.num.natAbs := by
  have hx := x.den_nz
  have hy := y.den_nz
  have h := q_num (x.num * y.num) (b := (x.den : Int) * (y.den : Int)) (Int.mul_pos (by omega) (by omega))
  rw [q_mul] at h
  rw [h, ← Int.natAbs_mul]
  exact Int.natAbs_ediv_le_natAbs _ _
theorem Sz.mul {a b : Nat} {x y : Rat} (h : Sz a x) (k : Sz b y) : Sz (a + b) (x * y) := by
  refine ⟨Nat.le_trans (den_mul x y) ?_, Nat.le_trans (num_mul x y) ?_⟩
  · rw [Nat.pow_add]
    exact Nat.mul_le_mul h.1 k.1
  · rw [Nat.pow_add]
    exact Nat.mul_le_mul h.2 k.2
theorem Sz.one : Sz 0 1 := ⟨Nat.le_refl 1, Nat.le_refl 1⟩
theorem Sz.mono {a b : Nat} {x : Rat} (h : Sz a x) (k : a ≤ b) : Sz b x := ⟨Nat.le_trans h.1 (Nat.pow_le_pow_right (by decide) k), Nat.le_trans h.2 (Nat.pow_le_pow_right (by decide) k)⟩
theorem Sz.small {k : Nat} {x : Rat} (h : Sz k x) (hk : k ≤ 50) : x.den < 2 ^ 4000 ∧ x.num.natAbs < 2 ^ 4000 := by
  have e : Bq ^ k ≤ 2 ^ 2000 := by
    unfold Bq
    rw [← Nat.pow_mul]
    exact Nat.pow_le_pow_right (by decide) (by omega)
  have f : (2 : Nat) ^ 2000 < 2 ^ 4000 := Nat.pow_lt_pow_right (by decide) (by decide)
  have := h.1
  have := h.2
  exact ⟨by omega, by omega⟩
end Mt
set_option maxRecDepth 100000
set_option maxHeartbeats 4000000
namespace Mt
def SubR (S R : Rows) : Prop := ∀ p t, t ∈ row S p → t ∈ row R p
theorem SubR.refl (R : Rows) : SubR R R := fun _ _ h => h
theorem SubR.ds {S R : Rows} (h : SubR S R) (hl : S.length = R.length) {F : List Int} (d : Ds S F) : Ds R F := ⟨by rw [d.len, hl], fun p t e => h p t (d.tie p t e), d.nd⟩
abbrev Tag2 := List (Bool × List Int × List Int)
def tgR (Z : Tag2) : Tag := Z.map fun z => (z.1, z.2.1)
def tgS (Z : Tag2) : Tag := Z.map fun z => (z.1, z.2.2)
def In2 (Z : Tag2) : Prop := ∀ z ∈ Z, ∀ t ∈ z.2.2, t ∈ z.2.1
theorem In2.apart {Z : Tag2} (h : In2 Z) (a : Apart (tgR Z)) : Apart (tgS Z) := fun x hx y hy ne t ht hu => by
  obtain ⟨x', hx', rfl⟩ := List.mem_map.mp hx
  obtain ⟨y', hy', rfl⟩ := List.mem_map.mp hy
  exact a (x'.1, x'.2.1) (List.mem_map.mpr ⟨x', hx', rfl⟩) (y'.1, y'.2.1) (List.mem_map.mpr ⟨y', hy', rfl⟩) ne t (h x' hx' t ht) (h y' hy' t hu)
/-- what ch may look at where there is a dealing: only the lot of the first one -/
def LocD (ch : Rows → Nat) : Prop := ∀ (b : Bool) (r : List Int) (Z : Tag), Apart ((b, r) :: Z) → (∃ F, Ds (allT ((b, r) :: Z)) F) → ch (allT ((b, r) :: Z)) = ch (clT b ((b, r) :: Z))
theorem Loc.d {ch : Rows → Nat} (h : Loc ch) : LocD ch := fun b r Z a _ => h b r Z a
theorem InjR.sub {σ : Int → Int} {R S : Rows} (inj : InjR σ R) (sub : SubR S R) : InjR σ S := fun r hr s hs t ht u hu e => by
  have go : ∀ (q : List Int) (z : Int), q ∈ S → z ∈ q → ∃ q' ∈ R, z ∈ q' := fun q z hq hz => by
    obtain ⟨i, hi⟩ := List.getElem?_of_mem hq
    have := sub i z (by rw [row_get hi]; exact hz)
    unfold row at this
    cases e : R[i]? with
    | none => rw [e] at this; cases this
    | some q' => rw [e] at this; exact ⟨q', List.mem_of_getElem? e, this⟩
  obtain ⟨r', hr', ht'⟩ := go r t hr ht
  obtain ⟨s', hs', hu'⟩ := go s u hs hu
  exact inj r' hr' s' hs' t ht' u hu' e
end Mt
set_option maxRecDepth 100000
set_option maxHeartbeats 4000000
set_option maxRecDepth 100000
set_option maxHeartbeats 4000000
namespace Mt
structure PermR (R R' : Rows) : Prop where
  len : R.length = R'.length
  row : ∀ i, (row R i).Perm (row R' i)
  nd : ∀ r ∈ R, r.Nodup
theorem PermR.ds {R R' : Rows} (h : PermR R R') (F : List Int) : Ds R F ↔ Ds R' F :=
  ⟨fun d => ⟨by rw [d.len, h.len], fun p t e => (h.row p).mem_iff.mp (d.tie p t e), d.nd⟩, fun d => ⟨by rw [d.len, h.len], fun p t e => (h.row p).mem_iff.mpr (d.tie p t e), d.nd⟩⟩
end Mt
namespace Mt
def setF (n t : Int) (f : Int → Int) : Int → Int := fun p => if p = n then t else f p
def fnOf : List Int → List Int → Int → Int
  | n :: ns, t :: F => setF n t (fnOf ns F)
  | _, _ => fun _ => 0
def wOf (ch : Rows → Nat) (R : Rows) (ns : List Int) : Wl := (deals R).map fun F => (btF ch R F, fnOf ns F)
theorem deals_nil : deals [] = [[]] := by
  have p : (deals []).Perm [[]] := (List.perm_ext_iff_of_nodup (deals_nd fun r hr => by cases hr) (List.nodup_cons.mpr ⟨List.not_mem_nil, List.nodup_nil⟩)).mpr fun E => by
    rw [mem_deals, List.mem_singleton]
    constructor
    · intro d
      exact List.length_eq_zero_iff.mp d.len
    · rintro rfl
      exact ⟨rfl, fun p t e => (by simp at e), List.nodup_nil⟩
  exact List.perm_singleton.mp p
theorem wOf_nil (ch : Rows → Nat) (ns : List Int) : wOf ch [] ns = [(1, fnOf ns [])] := by
  unfold wOf
  rw [deals_nil]
  rfl
theorem wOf_cons {ch : Rows → Nat} {r : List Int} {R : Rows} {n : Int} {ns : List Int} (asc : ∀ s ∈ r :: R, s.Pairwise (· < ·)) : (wOf ch (r :: R) (n :: ns)).Perm (r.flatMap fun t => (wOf ch (bh1 (r :: R) t) ns).map fun w => (ch (r :: R) * w.1, setF n t w.2)) := by
  unfold wOf
  refine ((deals_first asc).map _).trans (List.Perm.of_eq ?_)
  rw [List.map_flatMap]
  congr 1
  funext t
  rw [List.map_map, List.map_map]
  rfl
theorem flat_perm {α β : Type} {f g : α → List β} : ∀ l : List α, (∀ x ∈ l, (f x).Perm (g x)) → (l.flatMap f).Perm (l.flatMap g)
  | [], _ => .nil
  | x :: l, h => by
    rw [List.flatMap_cons, List.flatMap_cons]
    exact (h x List.mem_cons_self).append (flat_perm l fun y hy => h y (List.mem_cons_of_mem _ hy))
end Mt
namespace Mt
def renF (ns : List Int) (σ : Int → Int) (f : Int → Int) : Int → Int := fun p => if p ∈ ns then σ (f p) else 0
theorem renF_set {n : Int} {ns : List Int} {σ : Int → Int} {t : Int} {f : Int → Int} : setF n (σ t) (renF ns σ f) = renF (n :: ns) σ (setF n t f) := by
  funext p
  unfold renF setF
  by_cases e : p = n
  · rw [if_pos e, if_pos (by rw [e]; exact List.mem_cons_self), if_pos e]
  · rw [if_neg e, if_neg e]
    show (if p ∈ ns then σ (f p) else 0) = if p ∈ n :: ns then σ (f p) else 0
    by_cases q : p ∈ ns
    · rw [if_pos q, if_pos (List.mem_cons_of_mem _ q)]
    · rw [if_neg q, if_neg fun z => q ((List.mem_cons.mp z).resolve_left e)]
theorem wOf_ren {ch : Rows → Nat} {σ : Int → Int} (hch : ∀ R, InjR σ R → ch (renR σ R) = ch R) : ∀ (ns : List Int) (R : Rows), R.length = ns.length → InjR σ R → (∀ r ∈ R, r.Pairwise (· < ·)) → (∀ r ∈ renR σ R, r.Pairwise (· < ·)) → (wOf ch (renR σ R) ns).Perm ((wOf ch R ns).map fun w => (w.1, renF ns σ w.2))
  | [], R, h, _, _, _ => by
    have : R = [] := List.length_eq_zero_iff.mp h
    subst this
    show (wOf ch [] []).Perm ((wOf ch [] []).map _)
    rw [wOf_nil]
    refine List.Perm.of_eq ?_
    show [(1, fnOf [] [])] = [(1, renF [] σ (fnOf [] []))]
    have e : renF [] σ (fnOf [] []) = fnOf [] [] := by
      funext p
      unfold renF
      rw [if_neg (by simp)]
      rfl
    rw [e]
  | n :: ns, R, h, inj, asc, asc2 => by
    match R, h, inj, asc, asc2 with
    | r :: R, h, inj, asc, asc2 =>
      have hl : R.length = ns.length := by simpa using h
      have er : renR σ (r :: R) = r.map σ :: renR σ R := rfl
      refine (show (wOf ch (renR σ (r :: R)) (n :: ns)).Perm _ from wOf_cons (by rw [er] at asc2; exact asc2)).trans ?_
      refine List.Perm.trans ?_ ((wOf_cons asc).map _).symm
      rw [List.map_flatMap]
      show ((r.map σ).flatMap _).Perm _
      rw [List.flatMap_map]
      refine flat_perm r fun t ht => ?_
      have eb : bh1 (renR σ (r :: R)) (σ t) = renR σ (bh1 (r :: R) t) := ren_bh1 inj ht
      have ec : ch (renR σ (r :: R)) = ch (r :: R) := hch _ inj
      show ((wOf ch (bh1 (renR σ (r :: R)) (σ t)) ns).map fun w => (ch (renR σ (r :: R)) * w.1, setF n (σ t) w.2)).Perm _
      rw [eb, ec]
      have ih := wOf_ren hch ns (bh1 (r :: R) t) (by rw [bh1_len]; exact hl) (inj_bh1 inj t) (asc_bh1 asc t) (by rw [← eb]; exact asc_bh1 asc2 (σ t))
      refine (ih.map _).trans (List.Perm.of_eq ?_)
      rw [List.map_map, List.map_map]
      refine List.map_congr_left fun w _ => ?_
      show (ch (r :: R) * w.1, setF n (σ t) (renF ns σ w.2)) = (ch (r :: R) * w.1, renF (n :: ns) σ (setF n t w.2))
      rw [renF_set]
theorem fnOf_out : ∀ {ns F : List Int} {q : Int}, q ∉ ns → fnOf ns F q = 0
  | [], F, q, _ => by cases F <;> rfl
  | n :: ns, [], q, _ => rfl
  | n :: ns, t :: F, q, h => by
    show (if q = n then t else fnOf ns F q) = 0
    rw [if_neg fun e => h (by rw [e]; exact List.mem_cons_self), fnOf_out fun e => h (List.mem_cons_of_mem _ e)]
theorem fnOf_map {ρ : Int → Int} : ∀ {ns F : List Int} {p : Int}, (∀ a ∈ ns, ρ a = ρ p → a = p) → fnOf (ns.map ρ) F (ρ p) = fnOf ns F p
  | [], F, p, _ => by cases F <;> rfl
  | n :: ns, [], p, _ => rfl
  | n :: ns, t :: F, p, h => by
    show (if ρ p = ρ n then t else fnOf (ns.map ρ) F (ρ p)) = if p = n then t else fnOf ns F p
    rw [fnOf_map fun a ha => h a (List.mem_cons_of_mem _ ha)]
    by_cases e : p = n
    · rw [if_pos e, if_pos (by rw [e])]
    · rw [if_neg e, if_neg fun z => e (h n List.mem_cons_self z.symm).symm]
def namF (Q : List Int) (g : Int → Int) (f : Int → Int) : Int → Int := fun q => if q ∈ Q then f (g q) else 0
theorem wOf_names {ch : Rows → Nat} {R : Rows} {ns : List Int} {ρ g : Int → Int} (hg : ∀ p ∈ ns, g (ρ p) = p) : wOf ch R (ns.map ρ) = (wOf ch R ns).map fun w => (w.1, namF (ns.map ρ) g w.2) := by
  unfold wOf
  rw [List.map_map]
  refine List.map_congr_left fun F _ => ?_
  show (btF ch R F, fnOf (ns.map ρ) F) = (btF ch R F, namF (ns.map ρ) g (fnOf ns F))
  congr 1
  funext q
  unfold namF
  by_cases h : q ∈ ns.map ρ
  · rw [if_pos h]
    obtain ⟨p, hp, rfl⟩ := List.mem_map.mp h
    rw [hg p hp]
    exact fnOf_map fun a ha e => by rw [← hg a ha, e, hg p hp]
  · rw [if_neg h, fnOf_out h]
/-- the order of lots goes over where names and things keep theirs -/
theorem leF_move {P Q : List Int} {ρ g σ : Int → Int} (hQ : ∀ q ∈ Q, g q ∈ P ∧ ρ (g q) = q) (hP : ∀ p ∈ P, ρ p ∈ Q ∧ g (ρ p) = p) (mono : ∀ p ∈ P, ∀ q ∈ P, p < q → ρ p < ρ q) {u v : Int → Int} (inc : ∀ p ∈ P, u p < v p → σ (u p) < σ (v p)) (h : leF P u v) : leF Q (fun q => σ (u (g q))) (fun q => σ (v (g q))) := by
  rcases h with h | ⟨p, hp, h1, h2⟩
  · exact .inl fun q hq => by show σ (u (g q)) = σ (v (g q)); rw [h _ (hQ q hq).1]
  · refine .inr ⟨ρ p, (hP p hp).1, ?_, fun x hx hl => ?_⟩
    · show σ (u (g (ρ p))) < σ (v (g (ρ p)))
      rw [(hP p hp).2]
      exact inc p hp h1
    · show σ (u (g x)) = σ (v (g x))
      obtain ⟨gx, ex⟩ := hQ x hx
      rw [h2 (g x) gx ?_]
      rcases Int.lt_trichotomy (g x) p with q | q | q
      · exact q
      · rw [q] at ex; omega
      · have := mono p hp (g x) gx q
        omega
theorem fnOf_val : ∀ {ns F : List Int} {p : Int}, ns.length = F.length → p ∈ ns → ∃ i : Nat, F[i]? = some (fnOf ns F p)
  | [], _, _, _, h => by cases h
  | n :: ns, [], _, h, _ => by cases h
  | n :: ns, t :: F, p, h, hp => by
    by_cases e : p = n
    · refine ⟨0, ?_⟩
      show some t = some (if p = n then t else fnOf ns F p)
      rw [if_pos e]
    · obtain ⟨i, hi⟩ := fnOf_val (by simpa using h) ((List.mem_cons.mp hp).resolve_left e)
      refine ⟨i + 1, ?_⟩
      show F[i]? = some (if p = n then t else fnOf ns F p)
      rw [if_neg e, hi]
theorem wOf_val {ch : Rows → Nat} {R : Rows} {ns : List Int} (h : R.length = ns.length) {w : Nat × (Int → Int)} (hw : w ∈ wOf ch R ns) {p : Int} (hp : p ∈ ns) : ∃ i, w.2 p ∈ row R i := by
  obtain ⟨F, hF, rfl⟩ := List.mem_map.mp hw
  have d := (mem_deals F).mp hF
  obtain ⟨i, hi⟩ := fnOf_val (ns := ns) (F := F) (p := p) (by rw [← h]; exact d.len.symm) hp
  exact ⟨i, d.tie i _ hi⟩
end Mt
namespace Mt
/-- the bottoms that are kept: all, or the ends alone -/
def Kt (tr : Bool) (W : Wl) : Nat → Prop := fun b => tr = true → Ends W b
theorem Kt.sub {tr : Bool} {W V : Wl} (s : ∀ w ∈ W, w ∈ V) {b : Nat} (h : Kt tr V b) : Kt tr W b := fun e => (h e).sub s
/-- lots that say the same of these people -/
theorem Rep.same {K : Nat → Prop} {P : List Int} {W : Wl} {L : Cl} {φ ψ : (Int → Int) → Int → Int} (h : ∀ w ∈ W, ∀ p ∈ P, φ w.2 p = ψ w.2 p) (a : Rep K P (W.map fun w => (w.1, φ w.2)) L) : Rep K P (W.map fun w => (w.1, ψ w.2)) L where
  key := fun c hc => by
    obtain ⟨w, hw, e⟩ := a.key c hc
    obtain ⟨u, hu, rfl⟩ := List.mem_map.mp hw
    exact ⟨_, List.mem_map.mpr ⟨u, hu, rfl⟩, e⟩
  many := fun b hb => by
    rw [a.many b hb]
    unfold wm
    rw [List.map_map, List.map_map]
    rfl
  low := fun w hw hk => by
    obtain ⟨u, hu, rfl⟩ := List.mem_map.mp hw
    obtain ⟨c, hc, e, l⟩ := a.low _ (List.mem_map.mpr ⟨u, hu, rfl⟩) hk
    exact ⟨c, hc, e, l.congr (fun _ _ => rfl) (h u hu)⟩
  own := fun c hc hk => by
    obtain ⟨w, hw, e, l⟩ := a.own c hc hk
    obtain ⟨u, hu, rfl⟩ := List.mem_map.mp hw
    exact ⟨_, List.mem_map.mpr ⟨u, hu, rfl⟩, e, fun p hp => by rw [← l p hp]; exact (h u hu p hp).symm⟩
theorem leF_set {P : List Int} {n t : Int} (hn : n ∉ P) {f g : Int → Int} (h : leF P f g) : leF (n :: P) (mrg P f fun _ => t) (mrg P g fun _ => t) :=
  (h.mrg (B := [n]) (fun p hp hq => hn (List.mem_singleton.mp hq ▸ hp)) (leF.refl _ _)).sub fun p => by
    rw [List.mem_append, List.mem_singleton, List.mem_cons]
    exact Or.comm
/-- a thing more that the first may draw: k choices there -/
theorem Rep.thing {tr : Bool} {P : List Int} {n t : Int} (hn : n ∉ P) {k : Nat} (hk : 0 < k) {W V : Wl} {L : Cl} (a : Rep (Kt tr W) P W L) (sub : ∀ w ∈ W.map (fun w => (k * w.1, setF n t w.2)), w ∈ V) :
    Rep (Kt tr V) (n :: P) (W.map fun w => (k * w.1, setF n t w.2)) (L.map fun c => (k * c.1, c.2.1, mrg P c.2.2 fun _ => t)) := by
  have h := a.times (K' := Kt tr V) (Q := n :: P) k hk (fun f => mrg P f fun _ => t) (fun u _ v _ l => leF_set hn l) (fun f g e q hq => by
    show mrg P f (fun _ => t) q = mrg P g (fun _ => t) q
    unfold mrg
    by_cases z : q ∈ P
    · rw [if_pos z, if_pos z]; exact e q z
    · rw [if_neg z, if_neg z]) (fun w hw h e => by
    rcases h e with h | h
    · exact .inl fun x hx => Nat.le_of_mul_le_mul_left (h _ (sub _ (List.mem_map.mpr ⟨x, hx, rfl⟩))) hk
    · exact .inr fun x hx => Nat.le_of_mul_le_mul_left (h _ (sub _ (List.mem_map.mpr ⟨x, hx, rfl⟩))) hk)
  have e1 : (W.map fun w => (k * w.1, setF n t w.2)) = (W.map fun w => (k * w.1, w.2)).map fun w => (w.1, setF n t w.2) := by
    rw [List.map_map]; rfl
  have e2 : (W.map fun w => (k * w.1, (fun f => mrg P f fun _ => t) w.2)) = (W.map fun w => (k * w.1, w.2)).map fun w => (w.1, (fun f => mrg P f fun _ => t) w.2) := by
    rw [List.map_map]; rfl
  rw [e1]
  rw [e2] at h
  refine Rep.same (φ := fun f => mrg P f fun _ => t) (ψ := setF n t) (fun w _ p hp => ?_) h
  show mrg P w.2 (fun _ => t) p = setF n t w.2 p
  unfold mrg setF
  rcases List.mem_cons.mp hp with e | e
  · rw [if_neg (by rw [e]; exact hn), if_pos e]
  · rw [if_pos e, if_neg fun z => hn (by rw [← z]; exact e)]
/-- under the names of a part's people, with its things -/
theorem Rep.move {tr : Bool} {P Q : List Int} {ρ g σ : Int → Int} {W : Wl} {L : Cl} {φ : (Int → Int) → Int → Int} (hφ : ∀ f, ∀ q ∈ Q, φ f q = σ (f (g q))) (hQ : ∀ q ∈ Q, g q ∈ P ∧ ρ (g q) = q) (hP : ∀ p ∈ P, ρ p ∈ Q ∧ g (ρ p) = p) (mono : ∀ p ∈ P, ∀ q ∈ P, p < q → ρ p < ρ q)
    (inc : ∀ u ∈ W, ∀ v ∈ W, ∀ p ∈ P, u.2 p < v.2 p → σ (u.2 p) < σ (v.2 p)) (a : Rep (Kt tr W) P W L) : Rep (Kt tr (W.map fun w => (w.1, φ w.2))) Q (W.map fun w => (w.1, φ w.2)) (L.map fun c => (c.1, c.2.1, φ c.2.2)) := by
  have h := a.times (K' := Kt tr (W.map fun w => (w.1, φ w.2))) (Q := Q) 1 Nat.zero_lt_one φ (fun u hu v hv l => (leF_move (σ := σ) hQ hP mono (inc u hu v hv) l).congr (fun q hq => (hφ _ q hq).symm) fun q hq => (hφ _ q hq).symm) (fun f f' e q hq => by rw [hφ f q hq, hφ f' q hq, e _ (hQ q hq).1]) (fun w hw h e => by
    rw [Nat.one_mul] at h
    rcases h e with h | h
    · exact .inl fun x hx => h (x.1, φ x.2) (List.mem_map.mpr ⟨x, hx, rfl⟩)
    · exact .inr fun x hx => h (x.1, φ x.2) (List.mem_map.mpr ⟨x, hx, rfl⟩))
  simpa only [Nat.one_mul] using h
end Mt
namespace Mt
theorem nd_sub : ∀ {l m : List Nat}, l.Nodup → (∀ b ∈ l, b ∈ m) → l.length ≤ m.length
  | [], _, _, _ => Nat.zero_le _
  | b :: l, m, nd, h => by
    rw [List.nodup_cons] at nd
    have hb := h b List.mem_cons_self
    have ih := nd_sub (l := l) (m := m.erase b) nd.2 fun x hx => (List.mem_erase_of_ne fun z => nd.1 (by rw [← z]; exact hx)).mpr (h x (List.mem_cons_of_mem _ hx))
    rw [List.length_erase_of_mem hb] at ih
    have := List.length_pos_of_mem hb
    rw [List.length_cons]
    omega
/-- no more parts than dealings -/
theorem Rep.len {K : Nat → Prop} {P : List Int} {W : Wl} {L : Cl} (a : Rep K P W L) (nd : (L.map (·.1)).Nodup) : L.length ≤ W.length := by
  have h : (L.map (·.1)).length ≤ (W.map (·.1)).length := nd_sub nd fun b hb => by
    obtain ⟨c, hc, rfl⟩ := List.mem_map.mp hb
    obtain ⟨w, hw, e⟩ := a.key c hc
    exact List.mem_map.mpr ⟨w, hw, e⟩
  simpa using h
/-- how great a bottom is -/
theorem btF_le {ch : Rows → Nat} {N : Nat} (hch : ∀ R : Rows, R.length ≤ N → (∀ r ∈ R, r.length ≤ N) → ch R ≤ N) : ∀ (F : List Int) (R : Rows), F.length = R.length → R.length ≤ N → (∀ r ∈ R, r.length ≤ N) → btF ch R F ≤ N ^ R.length
  | [], R, h, _, _ => by
    have : R.length = 0 := h.symm
    rw [this]
    exact Nat.le_refl _
  | t :: F, R, h, hn, hr => by
    have e : (bh1 R t).length = F.length := by
      rw [bh1_len, ← h]
      rfl
    have ih := btF_le hch F (bh1 R t) e.symm (by rw [bh1_len]; omega) (fun r hx => by
      obtain ⟨s, hs, rfl⟩ := List.mem_map.mp hx
      exact Nat.le_trans (List.length_filter_le _ _) (hr s (List.mem_of_mem_drop hs)))
    show ch R * btF ch (bh1 R t) F ≤ N ^ R.length
    rw [← h, List.length_cons, Nat.pow_succ, Nat.mul_comm (N ^ F.length)]
    rw [e] at ih
    exact Nat.mul_le_mul (hch R hn hr) ih
end Mt
namespace Mt
theorem Kt.perm {tr : Bool} {W V : Wl} (h : W.Perm V) {b : Nat} (k : Kt tr W b) : Kt tr V b := Kt.sub (fun w hw => h.mem_iff.mpr hw) k
theorem Rep.pk {tr : Bool} {P : List Int} {W V : Wl} {L : Cl} (h : W.Perm V) (a : Rep (Kt tr W) P W L) : Rep (Kt tr V) P V L := (a.perm h).less fun w _ k => Kt.perm h.symm k
structure Spd (tr : Bool) (P : List Int) (W : Wl) (D : Cl) : Prop where
  rep : Rep (Kt tr W) P W D
  nd : (D.map (·.1)).Nodup
  kt : ∀ e ∈ D, Kt tr W e.1
  two : tr = true → D.length ≤ 2
theorem Spd.perm {tr : Bool} {P : List Int} {W V : Wl} {D : Cl} (h : W.Perm V) (a : Spd tr P W D) : Spd tr P V D := ⟨a.rep.pk h, a.nd, fun e he => Kt.perm h (a.kt e he), a.two⟩
theorem Spd.one {tr : Bool} {f : Int → Int} {ch : Rows → Nat} : Spd tr [] (wOf ch [] []) [(1, 1, f)] := by
  rw [wOf_nil]
  refine ⟨⟨fun c hc => ?_, fun b _ => ?_, fun w hw _ => ?_, fun c hc _ => ?_⟩, by simp, fun e he _ => ?_, fun _ => by simp⟩
  · rw [List.mem_singleton.mp hc]
    exact ⟨_, List.mem_singleton.mpr rfl, rfl⟩
  · unfold cm wm
    simp
  · rw [List.mem_singleton.mp hw]
    exact ⟨_, List.mem_singleton.mpr rfl, rfl, .inl fun p hp => (by cases hp)⟩
  · rw [List.mem_singleton.mp hc]
    exact ⟨_, List.mem_singleton.mpr rfl, rfl, fun p hp => (by cases hp)⟩
  · rw [List.mem_singleton.mp he]
    exact .inl fun w hw => by rw [List.mem_singleton.mp hw]; exact Nat.le_refl _
/-- what is not trimmed -/
theorem Spd.plain {P : List Int} {W : Wl} {D : Cl} (a : Rep (Kt false W) P W D) (nd : (D.map (·.1)).Nodup) : Spd false P W D := ⟨a, nd, fun _ _ h => (by cases h), fun h => (by cases h)⟩
theorem wOf_len {ch : Rows → Nat} {R : Rows} {ns : List Int} : (wOf ch R ns).length = (deals R).length := List.length_map _
theorem wm_le (W : Wl) (b : Nat) : wm W b ≤ W.length := by
  unfold wm
  induction W with
  | nil => exact Nat.le_refl _
  | cons w W ih =>
    rw [List.map_cons, List.sum_cons, List.length_cons]
    by_cases q : w.1 = b
    · rw [if_pos q]; omega
    · rw [if_neg q]; omega
theorem Spd.small {tr : Bool} {ch : Rows → Nat} {N : Nat} (hch : ∀ R : Rows, R.length ≤ N → (∀ r ∈ R, r.length ≤ N) → ch R ≤ N) (hN : 0 < N) {R : Rows} {ns P : List Int} {D : Cl} (hn : R.length ≤ N) (hr : ∀ r ∈ R, r.length ≤ N) (s : Spd tr P (wOf ch R ns) D) : ∀ e ∈ D, e.1 ≤ N ^ R.length ∧ e.2.1 ≤ N ^ R.length := fun e he => by
  refine ⟨?_, ?_⟩
  · obtain ⟨w, hw, e1⟩ := s.rep.key e he
    obtain ⟨F, hF, rfl⟩ := List.mem_map.mp hw
    rw [← e1]
    exact btF_le hch F R ((mem_deals F).mp hF).len hn hr
  · rw [← cm_one s.nd he, s.rep.many _ (s.kt e he)]
    refine Nat.le_trans (wm_le _ _) ?_
    rw [wOf_len]
    exact Fo.deals_len R hr
theorem Spd.len {tr : Bool} {ch : Rows → Nat} {R : Rows} {ns P : List Int} {D : Cl} {N : Nat} (h2 : 2 ≤ N) (few : tr = false → (deals R).length ≤ N) (s : Spd tr P (wOf ch R ns) D) : D.length ≤ N := by
  cases tr with
  | true => exact Nat.le_trans (s.two rfl) h2
  | false =>
    have := s.rep.len s.nd
    rw [wOf_len] at this
    exact Nat.le_trans this (few rfl)
theorem Kt.keys {tr : Bool} {W V : Wl} (h : ∀ w ∈ W, ∃ v ∈ V, v.1 = w.1) {b : Nat} (k : Kt tr V b) : Kt tr W b := fun e => by
  rcases k e with k | k
  · exact .inl fun w hw => by obtain ⟨v, hv, q⟩ := h w hw; rw [← q]; exact k v hv
  · exact .inr fun w hw => by obtain ⟨v, hv, q⟩ := h w hw; rw [← q]; exact k v hv
theorem keys_map {W : Wl} {φ ψ : (Int → Int) → Int → Int} : ∀ w ∈ W.map (fun w => (w.1, φ w.2)), ∃ v ∈ W.map (fun w => (w.1, ψ w.2)), v.1 = w.1 := fun w hw => by
  obtain ⟨u, hu, rfl⟩ := List.mem_map.mp hw
  exact ⟨_, List.mem_map.mpr ⟨u, hu, rfl⟩, rfl⟩
theorem keys_mapR {W : Wl} {φ : (Int → Int) → Int → Int} : ∀ w ∈ W.map (fun w => (w.1, φ w.2)), ∃ v ∈ W, v.1 = w.1 := fun w hw => by
  obtain ⟨u, hu, rfl⟩ := List.mem_map.mp hw
  exact ⟨u, hu, rfl⟩
theorem Spd.part {tr : Bool} {ch : Rows → Nat} {σ ρ g : Int → Int} (hch : ∀ R, InjR σ R → ch (renR σ R) = ch R) {Rg : Rows} {order P own : List Int} {D : Cl} {φ : (Int → Int) → Int → Int} (hl : Rg.length = order.length) (hO : ∀ p, p ∈ order ↔ p ∈ P)
    (hφ : ∀ f, ∀ q ∈ own, φ f q = σ (f (g q))) (hQ : ∀ q ∈ own, g q ∈ P ∧ ρ (g q) = q) (hP : ∀ p ∈ P, ρ p ∈ own ∧ g (ρ p) = p) (mono : ∀ p ∈ P, ∀ q ∈ P, p < q → ρ p < ρ q)
    (inc : ∀ r ∈ Rg, ∀ s ∈ Rg, ∀ t ∈ r, ∀ u ∈ s, t < u → σ t < σ u) (asc : ∀ r ∈ Rg, r.Pairwise (· < ·)) (s : Spd tr P (wOf ch Rg order) D) :
    Spd tr own (wOf ch (renR σ Rg) (order.map ρ)) (D.map fun c => (c.1, c.2.1, φ c.2.2)) := by
  have inj : InjR σ Rg := fun r hr r' hr' t ht u hu e => by
    rcases Int.lt_trichotomy t u with q | q | q
    · have := inc r hr r' hr' t ht u hu q; omega
    · exact q
    · have := inc r' hr' r hr u hu t ht q; omega
  have asc' : ∀ r ∈ renR σ Rg, r.Pairwise (· < ·) := fun r hr => by
    obtain ⟨r0, h0, rfl⟩ := List.mem_map.mp hr
    rw [List.pairwise_map]
    exact (asc r0 h0).imp_of_mem fun {a b} ha hb h => inc r0 h0 r0 h0 a ha b hb h
  have h1 := wOf_ren hch order Rg hl inj asc asc'
  have h2 := wOf_names (ch := ch) (R := renR σ Rg) (ns := order) (ρ := ρ) (g := g) fun p hp => (hP p ((hO p).mp hp)).2
  have rowM : ∀ {p : Int} {w : Nat × (Int → Int)}, w ∈ wOf ch Rg order → p ∈ P → ∃ r ∈ Rg, w.2 p ∈ r := fun {p w} hw hp => by
    obtain ⟨i, hi⟩ := wOf_val hl hw ((hO p).mpr hp)
    have il : i < Rg.length := by
      refine Classical.byContradiction fun n => ?_
      unfold row at hi
      rw [List.getElem?_eq_none (by omega)] at hi
      cases hi
    rw [row_get (List.getElem?_eq_getElem il)] at hi
    exact ⟨_, List.getElem_mem il, hi⟩
  have mv := Rep.move (φ := φ) hφ hQ hP mono (fun u hu v hv p hp l => by
    obtain ⟨r, hr, a⟩ := rowM hu hp
    obtain ⟨r', hr', b⟩ := rowM hv hp
    exact inc r hr r' hr' _ a _ b l) s.rep
  obtain ⟨ψ, eψ⟩ : ∃ ψ : (Int → Int) → Int → Int, ψ = fun f => namF (order.map ρ) g (renF order σ f) := ⟨_, rfl⟩
  have sm := Rep.same (ψ := ψ) (fun w hw q hq => by
    have hw : w ∈ (wOf ch Rg order).map fun w => (w.1, w.2) := by simpa using hw
    show φ w.2 q = ψ w.2 q
    obtain ⟨a, b⟩ := hQ q hq
    have m : g q ∈ order := (hO _).mpr a
    rw [hφ _ q hq, eψ]
    show _ = namF (order.map ρ) g (renF order σ w.2) q
    unfold namF renF
    rw [if_pos (List.mem_map.mpr ⟨g q, m, b⟩), if_pos m]) mv
  have fin : Spd tr own ((wOf ch Rg order).map fun w => (w.1, ψ w.2)) (D.map fun c => (c.1, c.2.1, φ c.2.2)) := by
    refine ⟨sm.less fun w _ k => Kt.keys keys_map k, ?_, fun e he => ?_, fun h => by rw [List.length_map]; exact s.two h⟩
    · rw [List.map_map]
      exact s.nd
    · obtain ⟨c, hc, rfl⟩ := List.mem_map.mp he
      exact Kt.keys keys_mapR (s.kt c hc)
  rw [h2]
  refine fin.perm ?_
  have h3 := (h1.map fun w : Nat × (Int → Int) => (w.1, namF (order.map ρ) g w.2)).symm
  rw [List.map_map] at h3
  rw [eψ]
  exact h3
def un (n : Nat) (G : List (List Nat)) (i : Nat) : List Nat := (List.range n).filter fun p => decide (p ∈ (G.take i).flatten) == true
theorem Rep.congr {K : Nat → Prop} {P : List Int} {W V : Wl} {L : Cl} (h1 : ∀ w ∈ W, ∃ v ∈ V, v.1 = w.1 ∧ ∀ p ∈ P, v.2 p = w.2 p) (h2 : ∀ v ∈ V, ∃ w ∈ W, w.1 = v.1 ∧ ∀ p ∈ P, w.2 p = v.2 p) (hm : ∀ b, wm W b = wm V b) (a : Rep K P W L) : Rep K P V L where
  key := fun c hc => by
    obtain ⟨w, hw, e⟩ := a.key c hc
    obtain ⟨v, hv, e2, _⟩ := h1 w hw
    exact ⟨v, hv, e2.trans e⟩
  many := fun b hb => (a.many b hb).trans (hm b)
  low := fun v hv hk => by
    obtain ⟨w, hw, e, s⟩ := h2 v hv
    obtain ⟨c, hc, e2, l⟩ := a.low w hw (by rw [e]; exact hk)
    exact ⟨c, hc, e2.trans e, l.congr (fun _ _ => rfl) s⟩
  own := fun c hc hk => by
    obtain ⟨w, hw, e, s⟩ := a.own c hc hk
    obtain ⟨v, hv, e2, s2⟩ := h1 w hw
    exact ⟨v, hv, e2.trans e, fun p hp => (s2 p hp).trans (s p hp)⟩
theorem Spd.congr {tr : Bool} {P : List Int} {W V : Wl} {D : Cl} (h1 : ∀ w ∈ W, ∃ v ∈ V, v.1 = w.1 ∧ ∀ p ∈ P, v.2 p = w.2 p) (h2 : ∀ v ∈ V, ∃ w ∈ W, w.1 = v.1 ∧ ∀ p ∈ P, w.2 p = v.2 p) (hm : ∀ b, wm W b = wm V b) (a : Spd tr P W D) : Spd tr P V D := by
  have k1 : ∀ {b : Nat}, Kt tr W b → Kt tr V b := fun {b} k => Kt.keys (fun v hv => by obtain ⟨w, hw, e, _⟩ := h2 v hv; exact ⟨w, hw, e⟩) k
  have k2 : ∀ {b : Nat}, Kt tr V b → Kt tr W b := fun {b} k => Kt.keys (fun w hw => by obtain ⟨v, hv, e, _⟩ := h1 w hw; exact ⟨v, hv, e⟩) k
  exact ⟨(a.rep.congr h1 h2 hm).less fun w _ k => k2 k, a.nd, fun e he => k1 (a.kt e he), a.two⟩
theorem perm_back {α β : Type} {f : α → β} {os ys : List β} (h : os.Perm ys) : ∀ {bs : List α}, ys = bs.map f → ∃ bs' : List α, os = bs'.map f ∧ bs'.Perm bs := by
  induction h with
  | nil => exact fun {bs} e => ⟨[], rfl, by rw [List.map_eq_nil_iff.mp e.symm]⟩
  | cons x _ ih =>
    intro bs e
    obtain ⟨b, l, rfl, rfl, e2⟩ := List.map_eq_cons_iff.mp e.symm
    obtain ⟨bs', rfl, p⟩ := ih e2.symm
    exact ⟨b :: bs', rfl, p.cons b⟩
  | swap x y l =>
    intro bs e
    obtain ⟨b, l1, rfl, rfl, e2⟩ := List.map_eq_cons_iff.mp e.symm
    obtain ⟨c, l2, rfl, rfl, rfl⟩ := List.map_eq_cons_iff.mp e2
    exact ⟨c :: b :: l2, rfl, .swap _ _ _⟩
  | trans _ _ ih1 ih2 =>
    intro bs e
    obtain ⟨b1, rfl, p1⟩ := ih2 e
    obtain ⟨b2, rfl, p2⟩ := ih1 rfl
    exact ⟨b2, rfl, p2.trans p1⟩
end Mt
set_option maxRecDepth 100000
set_option maxHeartbeats 4000000
namespace Mt
/-- what the choices of the first one come to: 0 none, 1 unlike, k + 2 alike k -/
def lpS (k : Nat → Nat → Nat) (x j c : Nat) : Nat := match x with
  | 0 => k j c
  | 1 => 1
  | x + 2 => match j with
    | 0 => k (x + 2) (Nat.succ c)
    | i + 1 => cond (Nat.beq i (x + 1)) (k (x + 2) (Nat.succ c)) 1
def lpE (fx : Option Nat) (j c : Nat) : Nat := match j with
  | 0 => 0
  | 1 => 1
  | k + 2 => match fx with
    | none => Nat.add (Nat.mul c k) 2
    | some f => Nat.add (Nat.mul f k) 2
def lp (g : Nat → Nat) (m a : Nat) (fx : Option Nat) : List Nat → Nat → Nat → Nat
  | [], j, c => lpE fx j c
  | b :: bs, j, c => lpS (lp g m a fx bs) (cond (Nat.beq (Nat.land m b) 0) 0 (g (Nat.sub a b))) j c
def pc4 (m : Nat) : Nat := cond (Nat.beq (Nat.land m 1) 0) 0 1 + cond (Nat.beq (Nat.land m 2) 0) 0 1 + cond (Nat.beq (Nat.land m 4) 0) 0 1 + cond (Nat.beq (Nat.land m 8) 0) 0 1
def al (an : Bool) : List Nat → Nat → Nat
  | [], _ => 3
  | r :: R, a => lp (al an R) (Nat.land r a) a (cond an (some (pc4 (Nat.land r a))) none) [1, 2, 4, 8] 0 0
/-- the values of the choices that there are -/
def vls (g : Nat → Nat) (m a : Nat) (qs : List Nat) : List Nat := ((qs.filter fun b => !Nat.beq (Nat.land m b) 0).map fun b => g (Nat.sub a b)).filter fun v => !Nat.beq v 0
theorem vls_no {g : Nat → Nat} {m a b : Nat} {qs : List Nat} (h : Nat.beq (Nat.land m b) 0 = true) : vls g m a (b :: qs) = vls g m a qs := by
  unfold vls
  rw [List.filter_cons_of_neg (by rw [h]; decide)]
theorem vls_zero {g : Nat → Nat} {m a b : Nat} {qs : List Nat} (h : Nat.beq (Nat.land m b) 0 = false) (z : g (Nat.sub a b) = 0) : vls g m a (b :: qs) = vls g m a qs := by
  unfold vls
  rw [List.filter_cons_of_pos (by rw [h]; decide), List.map_cons, List.filter_cons_of_neg (by rw [z]; decide)]
theorem vls_yes {g : Nat → Nat} {m a b v : Nat} {qs : List Nat} (h : Nat.beq (Nat.land m b) 0 = false) (z : g (Nat.sub a b) = v + 1) : vls g m a (b :: qs) = (v + 1) :: vls g m a qs := by
  unfold vls
  rw [List.filter_cons_of_pos (by rw [h]; decide), List.map_cons, z, List.filter_cons_of_pos (by rfl)]
theorem lp_all {g : Nat → Nat} {m a : Nat} {fx : Option Nat} {v : Nat} (hv : 2 ≤ v) : ∀ (qs : List Nat) (j c : Nat), j = 0 ∨ j = v → (∀ w ∈ vls g m a qs, w = v) → lp g m a fx qs j c = lpE fx (if vls g m a qs = [] then j else v) (c + (vls g m a qs).length)
  | [], j, c, _, _ => rfl
  | b :: qs, j, c, hj, hw => by
    show lpS (lp g m a fx qs) (cond (Nat.beq (Nat.land m b) 0) 0 (g (Nat.sub a b))) j c = _
    cases hb : Nat.beq (Nat.land m b) 0 with
    | true =>
      rw [vls_no hb] at hw ⊢
      exact lp_all hv qs j c hj hw
    | false =>
      show lpS (lp g m a fx qs) (g (Nat.sub a b)) j c = _
      cases z : g (Nat.sub a b) with
      | zero =>
        rw [vls_zero hb z] at hw ⊢
        exact lp_all hv qs j c hj hw
      | succ x =>
        rw [vls_yes hb z] at hw ⊢
        have e := hw _ List.mem_cons_self
        have hw2 := fun w h => hw w (List.mem_cons_of_mem _ h)
        match x, e with
        | 0, e => omega
        | x + 1, e =>
          have ih := fun c => lp_all (fx := fx) hv qs v c (.inr rfl) hw2
          have iv : (if vls g m a qs = [] then v else v) = v := by split <;> rfl
          rw [if_neg (by simp), List.length_cons]
          have fin : lp g m a fx qs (x + 2) (Nat.succ c) = lpE fx v (c + ((vls g m a qs).length + 1)) := by
            rw [show x + 2 = v from e, ih, iv]
            congr 1
            omega
          match j, hj with
          | 0, _ => exact fin
          | i + 1, hj =>
            have : i = x + 1 := by omega
            show cond (Nat.beq i (x + 1)) (lp g m a fx qs (x + 2) (Nat.succ c)) 1 = _
            rw [this, Nat.beq_refl]
            exact fin
theorem lp_bad {g : Nat → Nat} {m a : Nat} {fx : Option Nat} : ∀ (qs : List Nat) (j c : Nat), j ≠ 1 → (∃ w ∈ vls g m a qs, w = 1 ∨ (∃ w' ∈ vls g m a qs, w' ≠ w) ∨ (j ≠ 0 ∧ w ≠ j)) → lp g m a fx qs j c = 1
  | [], j, c, _, h => by
    obtain ⟨w, hw, _⟩ := h
    cases hw
  | b :: qs, j, c, hj, h => by
    show lpS (lp g m a fx qs) (cond (Nat.beq (Nat.land m b) 0) 0 (g (Nat.sub a b))) j c = _
    cases hb : Nat.beq (Nat.land m b) 0 with
    | true =>
      rw [vls_no hb] at h
      exact lp_bad qs j c hj h
    | false =>
      show lpS (lp g m a fx qs) (g (Nat.sub a b)) j c = _
      cases z : g (Nat.sub a b) with
      | zero =>
        rw [vls_zero hb z] at h
        exact lp_bad qs j c hj h
      | succ x =>
        rw [vls_yes hb z] at h
        match x with
        | 0 => rfl
        | x + 1 =>
          -- behind it one is 1 or unlike x + 2
          have step : j = 0 ∨ j = x + 2 → ∃ w ∈ vls g m a qs, w = 1 ∨ (∃ w' ∈ vls g m a qs, w' ≠ w) ∨ (x + 2 ≠ 0 ∧ w ≠ x + 2) := fun hj2 => by
            obtain ⟨w, hw, r⟩ := h
            rcases List.mem_cons.mp hw with e | hw
            · subst e
              rcases r with r | ⟨w', hw', ne⟩ | ⟨r1, r2⟩
              · omega
              · rcases List.mem_cons.mp hw' with e | hw'
                · exact absurd e ne
                · exact ⟨w', hw', .inr (.inr ⟨by omega, ne⟩)⟩
              · omega
            · refine ⟨w, hw, ?_⟩
              rcases r with r | ⟨w', hw', ne⟩ | ⟨r1, r2⟩
              · exact .inl r
              · rcases List.mem_cons.mp hw' with e | hw'
                · exact .inr (.inr ⟨by omega, fun q => ne (by rw [e, q])⟩)
                · exact .inr (.inl ⟨w', hw', ne⟩)
              · exact .inr (.inr ⟨by omega, fun q => r2 (by omega)⟩)
          match j, hj with
          | 0, _ => exact lp_bad qs (x + 2) (Nat.succ c) (by omega) (step (.inl rfl))
          | i + 1, hj =>
            show cond (Nat.beq i (x + 1)) (lp g m a fx qs (x + 2) (Nat.succ c)) 1 = 1
            cases q : Nat.beq i (x + 1) with
            | false => rfl
            | true => exact lp_bad qs (x + 2) (Nat.succ c) (by omega) (step (.inr (by have := Nat.eq_of_beq_eq_true q; omega)))
noncomputable def chL (R : Rows) : Nat := (row (liveR R) 0).length
noncomputable def chB (an : Bool) (R : Rows) : Nat := cond an (row R 0).length (chL R)
def tb (b : Nat) : Int := if b = 1 then 0 else if b = 2 then 1 else if b = 4 then 2 else 3
abbrev bts : List Nat := [1, 2, 4, 8]
def mR (m : Nat) : List Int := (bts.filter fun b => !Nat.beq (Nat.land m b) 0).map tb
def TR (R : List Nat) (a : Nat) : Rows := R.map fun m => mR (Nat.land m a)
theorem m_less : ∀ m : Fin 16, ∀ a : Fin 16, ∀ b ∈ bts, Nat.beq (Nat.land a.val b) 0 = false → mR (Nat.land m.val (Nat.sub a.val b)) = (mR (Nat.land m.val a.val)).filter fun z => !decide (z = tb b) := by decide +kernel
theorem m_land : ∀ m : Fin 16, ∀ a : Fin 16, Nat.land m.val a.val < 16 ∧ ∀ b ∈ bts, Nat.beq (Nat.land (Nat.land m.val a.val) b) 0 = false → Nat.beq (Nat.land a.val b) 0 = false := by decide +kernel
theorem pc_len : ∀ m : Fin 16, pc4 m.val = (mR m.val).length := by decide +kernel
theorem tb_inj : ∀ x ∈ bts, ∀ y ∈ bts, tb x = tb y → x = y := by decide
structure Sp (ch : Rows → Nat) (v : Nat) (T : Rows) : Prop where
  no : v = 0 → ∀ F, ¬ Ds T F
  yes : v ≠ 0 → ∃ F, Ds T F
  un : v = 1 → ∃ F F', Ds T F ∧ Ds T F' ∧ btF ch T F ≠ btF ch T F'
  alk : ∀ k, v = k + 2 → ∀ F, Ds T F → btF ch T F = k
theorem bh1_TR {r : List Int} {R : List Nat} {a b : Nat} (hR : ∀ m ∈ R, m < 16) (ha : a < 16) (hb : b ∈ bts) (h : Nat.beq (Nat.land a b) 0 = false) : bh1 (r :: TR R a) (tb b) = TR R (Nat.sub a b) := by
  rw [bh1_cons]
  unfold TR
  rw [List.map_map]
  refine List.map_congr_left fun m hm => ?_
  exact (m_less ⟨m, hR m hm⟩ ⟨a, ha⟩ b hb h).symm
theorem al_spec (an : Bool) : ∀ (R : List Nat) (a : Nat), (∀ m ∈ R, m < 16) → a < 16 → Sp (chB an) (al an R a) (TR R a)
  | [], a, _, _ => by
    have nil : ∀ F, Ds (TR [] a) F → F = [] := fun F d => List.length_eq_zero_iff.mp d.len
    refine ⟨fun h => absurd h (by show (3 : Nat) ≠ 0; decide), fun _ => ⟨[], rfl, fun p t e => by simp at e, List.nodup_nil⟩, fun h => absurd h (by show (3 : Nat) ≠ 1; decide), fun k e F d => ?_⟩
    rw [nil F d]
    have e : 3 = k + 2 := e
    show 1 = k
    omega
  | r :: R, a, hR, ha => by
    have hR' : ∀ m ∈ R, m < 16 := fun m hm => hR m (List.mem_cons_of_mem _ hm)
    have hr := hR r List.mem_cons_self
    obtain ⟨m, em⟩ : ∃ m, m = Nat.land r a := ⟨_, rfl⟩
    have ml := m_land ⟨r, hr⟩ ⟨a, ha⟩
    have m16 : m < 16 := by rw [em]; exact ml.1
    have inA : ∀ b ∈ bts, Nat.beq (Nat.land m b) 0 = false → Nat.beq (Nat.land a b) 0 = false := fun b hb h => ml.2 b hb (by rw [← em]; exact h)
    obtain ⟨g, eg⟩ : ∃ g, g = al an R := ⟨_, rfl⟩
    have eT : TR (r :: R) a = mR m :: TR R a := by unfold TR; rw [List.map_cons, em]
    have row0 : row (mR m :: TR R a) 0 = mR m := rfl
    have h0 : 0 < (mR m :: TR R a).length := by simp
    have spb : ∀ b ∈ bts, Nat.beq (Nat.land m b) 0 = false → Sp (chB an) (g (Nat.sub a b)) (bh1 (mR m :: TR R a) (tb b)) := fun b hb h => by
      rw [bh1_TR hR' ha hb (inA b hb h), eg]
      exact al_spec an R (Nat.sub a b) hR' (Nat.lt_of_le_of_lt (Nat.sub_le a b) ha)
    have mem : ∀ t, t ∈ mR m ↔ ∃ b ∈ bts, Nat.beq (Nat.land m b) 0 = false ∧ tb b = t := fun t => by
      unfold mR
      rw [List.mem_map]
      constructor
      · rintro ⟨b, hb, e⟩
        obtain ⟨h1, h2⟩ := List.mem_filter.mp hb
        exact ⟨b, h1, by simpa using h2, e⟩
      · rintro ⟨b, hb, h, e⟩
        exact ⟨b, List.mem_filter.mpr ⟨hb, by rw [h]; rfl⟩, e⟩
    have cons : ∀ {b F}, b ∈ bts → Nat.beq (Nat.land m b) 0 = false → Ds (bh1 (mR m :: TR R a) (tb b)) F → Ds (mR m :: TR R a) (tb b :: F) := fun {b F} hb h d => (ds_cons h0).mpr ⟨(mem _).mpr ⟨b, hb, h, rfl⟩, d⟩
    have unc : ∀ {D}, Ds (mR m :: TR R a) D → ∃ b F, b ∈ bts ∧ Nat.beq (Nat.land m b) 0 = false ∧ D = tb b :: F ∧ Ds (bh1 (mR m :: TR R a) (tb b)) F := fun {D} d => by
      match D, d with
      | [], d => exact absurd d.len (by simp)
      | t :: F, d =>
        obtain ⟨h1, h2⟩ := (ds_cons h0).mp d
        obtain ⟨b, hb, h, e⟩ := (mem t).mp h1
        subst e
        exact ⟨b, F, hb, h, rfl, h2⟩
    have step : ∀ t F, btF (chB an) (mR m :: TR R a) (t :: F) = chB an (mR m :: TR R a) * btF (chB an) (bh1 (mR m :: TR R a) t) F := fun _ _ => rfl
    obtain ⟨W, eW⟩ : ∃ W, W = vls g m a bts := ⟨_, rfl⟩
    have memW : ∀ w, w ∈ W ↔ ∃ b ∈ bts, Nat.beq (Nat.land m b) 0 = false ∧ g (Nat.sub a b) = w ∧ w ≠ 0 := fun w => by
      rw [eW]
      unfold vls
      rw [List.mem_filter, List.mem_map]
      constructor
      · rintro ⟨⟨b, hb, e⟩, h⟩
        obtain ⟨h1, h2⟩ := List.mem_filter.mp hb
        exact ⟨b, h1, by simpa using h2, e, fun z => by rw [z] at h; exact absurd h (by decide)⟩
      · rintro ⟨b, hb, h, e, n⟩
        refine ⟨⟨b, List.mem_filter.mpr ⟨hb, by rw [h]; rfl⟩, e⟩, ?_⟩
        cases q : Nat.beq w 0 with
        | false => rfl
        | true => exact absurd (Nat.eq_of_beq_eq_true q) n
    have live : ∀ b ∈ bts, Nat.beq (Nat.land m b) 0 = false → (Live (mR m :: TR R a) 0 (tb b) ↔ g (Nat.sub a b) ≠ 0) := fun b hb h => by
      constructor
      · rintro ⟨D, d, e⟩ z
        obtain ⟨b', F, hb', h', eD, d'⟩ := unc d
        rw [eD] at e
        have : tb b' = tb b := Option.some.inj e
        have := tb_inj b' hb' b hb this
        subst this
        exact (spb b' hb' h').no z F d'
      · intro n
        obtain ⟨F, d⟩ := (spb b hb h).yes n
        exact ⟨_, cons hb h d, rfl⟩
    have lenW : W.length = chL (mR m :: TR R a) := by
      unfold chL
      rw [row_liveR, row0, eW]
      unfold vls mR
      rw [List.filter_map, List.filter_map, List.length_map, List.length_map]
      refine congrArg List.length (List.filter_congr fun b hb => ?_)
      obtain ⟨h1, h2⟩ := List.mem_filter.mp hb
      have l := live b h1 (by simpa using h2)
      show (!Nat.beq (g (Nat.sub a b)) 0) = _
      cases q : Nat.beq (g (Nat.sub a b)) 0 with
      | true => exact (@decide_eq_false _ (_) fun z => (l.mp z) (Nat.eq_of_beq_eq_true q)).symm
      | false => exact (@decide_eq_true _ (_) (l.mpr fun z => by rw [z] at q; exact absurd q (by decide))).symm
    have chp : W ≠ [] → 0 < chB an (mR m :: TR R a) := fun n => by
      cases an with
      | false =>
        show 0 < chL _
        rw [← lenW]
        exact List.length_pos_iff.mpr n
      | true =>
        obtain ⟨w, hw⟩ := List.exists_mem_of_ne_nil _ n
        obtain ⟨b, hb, h, _⟩ := (memW w).mp hw
        exact List.length_pos_of_mem ((mem (tb b)).mpr ⟨b, hb, h, rfl⟩)
    have eal : al an (r :: R) a = lp g m a (cond an (some (pc4 m)) none) bts 0 0 := by rw [eg, em]; rfl
    rw [eT, eal]
    by_cases hn : W = []
    · have e1 := lp_all (fx := cond an (some (pc4 m)) none) (v := 2) (Nat.le_refl 2) bts 0 0 (.inl rfl) (g := g) (m := m) (a := a) fun w hw => by rw [← eW, hn] at hw; cases hw
      rw [← eW, if_pos hn] at e1
      rw [e1]
      have none : ∀ F, ¬ Ds (mR m :: TR R a) F := fun D d => by
        obtain ⟨b, F, hb, h, _, d'⟩ := unc d
        have : g (Nat.sub a b) ≠ 0 := fun z => (spb b hb h).no z F d'
        have := (memW _).mpr ⟨b, hb, h, rfl, this⟩
        rw [hn] at this
        cases this
      exact ⟨fun _ => none, fun n => absurd rfl n, fun n => absurd n (by show (0 : Nat) ≠ 1; decide), fun k e F d => absurd d (none F)⟩
    · by_cases hu : ∃ w ∈ W, w = 1 ∨ ∃ w' ∈ W, w' ≠ w
      · obtain ⟨w, hw, r2⟩ := hu
        rw [lp_bad bts 0 0 (by decide) ⟨w, by rw [← eW]; exact hw, by rw [← eW]; exact r2.elim .inl fun z => .inr (.inl z)⟩]
        have cp := chp hn
        have un1 : ∀ w ∈ W, w = 1 → ∃ F F', Ds (mR m :: TR R a) F ∧ Ds (mR m :: TR R a) F' ∧ btF (chB an) (mR m :: TR R a) F ≠ btF (chB an) (mR m :: TR R a) F' := fun w hw e => by
          obtain ⟨b, hb, h, ew, _⟩ := (memW w).mp hw
          obtain ⟨F, F', d, d', ne⟩ := (spb b hb h).un (ew.trans e)
          refine ⟨_, _, cons hb h d, cons hb h d', fun z => ne ?_⟩
          rw [step, step] at z
          exact Nat.eq_of_mul_eq_mul_left cp z
        have un : ∃ F F', Ds (mR m :: TR R a) F ∧ Ds (mR m :: TR R a) F' ∧ btF (chB an) (mR m :: TR R a) F ≠ btF (chB an) (mR m :: TR R a) F' := by
          rcases r2 with e | ⟨w', hw', ne⟩
          · exact un1 w hw e
          · by_cases w1 : w = 1
            · exact un1 w hw w1
            · by_cases w1' : w' = 1
              · exact un1 w' hw' w1'
              · obtain ⟨b, hb, h, ew, n0⟩ := (memW w).mp hw
                obtain ⟨b', hb', h', ew', n0'⟩ := (memW w').mp hw'
                obtain ⟨F, d⟩ := (spb b hb h).yes (by rw [ew]; exact n0)
                obtain ⟨F', d'⟩ := (spb b' hb' h').yes (by rw [ew']; exact n0')
                refine ⟨_, _, cons hb h d, cons hb' h' d', fun z => ?_⟩
                rw [step, step] at z
                have z := Nat.eq_of_mul_eq_mul_left cp z
                rw [(spb b hb h).alk (w - 2) (by omega) F d, (spb b' hb' h').alk (w' - 2) (by omega) F' d'] at z
                omega
        obtain ⟨F, F', d, d', ne⟩ := un
        exact ⟨fun n => absurd n (by decide), fun _ => ⟨F, d⟩, fun _ => ⟨F, F', d, d', ne⟩, fun k e => by omega⟩
      · have al2 : ∀ w ∈ W, w ≠ 1 ∧ ∀ w' ∈ W, w' = w := fun w hw => ⟨fun e => hu ⟨w, hw, .inl e⟩, fun w' hw' => Classical.byContradiction fun n => hu ⟨w, hw, .inr ⟨w', hw', n⟩⟩⟩
        obtain ⟨v, hv⟩ := List.exists_mem_of_ne_nil _ hn
        obtain ⟨v1, vall⟩ := al2 v hv
        obtain ⟨b0, hb0, h0b, ev0, v0⟩ := (memW v).mp hv
        have e1 := lp_all (fx := cond an (some (pc4 m)) none) (v := v) (by omega) bts 0 0 (.inl rfl) (g := g) (m := m) (a := a) fun w hw => vall w (by rw [eW]; exact hw)
        rw [← eW, if_neg hn, Nat.zero_add] at e1
        obtain ⟨k, ek⟩ : ∃ k, v = k + 2 := ⟨v - 2, by omega⟩
        have e2 : lpE (cond an (some (pc4 m)) none) v W.length = chB an (mR m :: TR R a) * k + 2 := by
          rw [ek]
          cases an with
          | false =>
            show W.length * k + 2 = chL _ * k + 2
            rw [lenW]
          | true =>
            show pc4 m * k + 2 = (mR m).length * k + 2
            rw [pc_len ⟨m, m16⟩]
        rw [e1, e2]
        obtain ⟨F0, d0⟩ := (spb b0 hb0 h0b).yes (by rw [ev0]; exact v0)
        refine ⟨fun n => absurd n (by omega), fun _ => ⟨_, cons hb0 h0b d0⟩, fun n => absurd n (by omega), fun q e D d => ?_⟩
        obtain ⟨b, F, hb, h, eD, d'⟩ := unc d
        have ge : g (Nat.sub a b) = v := by
          have n0 : g (Nat.sub a b) ≠ 0 := fun z => (spb b hb h).no z F d'
          exact vall _ ((memW _).mpr ⟨b, hb, h, rfl, n0⟩)
        rw [eD, step, (spb b hb h).alk k (ge.trans ek) F d']
        omega
end Mt
set_option maxRecDepth 100000
set_option maxHeartbeats 4000000
namespace Mt
def ins (x : Nat) : List Nat → List (List Nat)
  | [] => [[x]]
  | y :: l => (x :: y :: l) :: (ins x l).map (y :: ·)
def pms : List Nat → List (List Nat)
  | [] => [[]]
  | x :: l => (pms l).flatMap (ins x)
def evA (an : Bool) (R : List Nat) (a : Nat) : Bool := (pms R).all fun P => !Nat.beq (al an P a) 1
def hds : List Nat → List (Nat × List Nat)
  | [] => []
  | x :: l => (x, l) :: (hds l).map fun q => (q.1, x :: q.2)
def lvB (R : List Nat) (a : Nat) : Bool := (hds R).all fun q => bts.all fun b => Nat.beq (Nat.land q.1 b) 0 || !Nat.beq (al false q.2 (Nat.sub a b)) 0
def nice2 (x y : Nat) : Bool := Nat.beq (Nat.land x y) 0 || Nat.beq x y || (Nat.beq (pc4 x) 2 && Nat.beq (pc4 y) 2)
def niB (R : List Nat) : Bool := R.all fun x => R.all fun y => nice2 x y
def tkC (R : List Nat) (b : Nat) : Nat := (R.filter fun r => !Nat.beq (Nat.land r b) 0).length
def niC (R : List Nat) : Bool := bts.all fun x => bts.all fun y =>
  (R.all fun r => Nat.beq (Nat.land r x) 0 || Nat.beq (Nat.land r y) 0) || (R.all fun r => Nat.beq (Nat.land r x) 0 == Nat.beq (Nat.land r y) 0) || (Nat.beq (tkC R x) 2 && Nat.beq (tkC R y) 2)
def okR (R : List Nat) (a : Nat) : Bool := !lvB R a || (niB R == evA false R a && niC R == niB R)
def up (a : Nat) : Nat → Nat → List (List Nat)
  | 0, _ => [[]]
  | n + 1, lo => (List.range (a + 1)).flatMap fun i => cond (Nat.ble lo i) ((up a n i).map (i :: ·)) []
/-- anew: whoever may get one of what one has live gets it all -/
def whB (R : List Nat) (a : Nat) : Bool := (hds R).all fun q => bts.all fun b => bts.all fun c => Nat.beq (Nat.land q.1 b) 0 || Nat.beq (Nat.land q.1 c) 0 || Nat.beq (al true q.2 (Nat.sub a b)) 0 || Nat.beq (al true q.2 (Nat.sub a c)) 0 || R.all fun r => Nat.beq (Nat.land r b) 0 == Nat.beq (Nat.land r c) 0
def okN (R : List Nat) (a : Nat) : Bool := Nat.beq (al true R a) 0 || (whB R a == evA true R a)
theorem ins_mem (x : Nat) : ∀ (u v : List Nat), u ++ x :: v ∈ ins x (u ++ v)
  | [], [] => List.mem_singleton.mpr rfl
  | [], y :: v => List.mem_cons_self
  | y :: u, v => List.mem_cons_of_mem _ (List.mem_map.mpr ⟨u ++ x :: v, ins_mem x u v, rfl⟩)
theorem ins_perm {x : Nat} : ∀ {l P : List Nat}, P ∈ ins x l → P.Perm (x :: l)
  | [], P, h => by rw [List.mem_singleton.mp h]
  | y :: l, P, h => by
    rcases List.mem_cons.mp h with e | h
    · rw [e]
    · obtain ⟨Q, hQ, rfl⟩ := List.mem_map.mp h
      exact ((ins_perm hQ).cons y).trans (List.Perm.swap x y l)
theorem mem_pms : ∀ {L P : List Nat}, P ∈ pms L ↔ P.Perm L
  | [], P => by
    show P ∈ [[]] ↔ _
    rw [List.mem_singleton]
    exact ⟨fun h => by rw [h], fun h => List.Perm.eq_nil h⟩
  | x :: l, P => by
    show P ∈ (pms l).flatMap (ins x) ↔ _
    rw [List.mem_flatMap]
    constructor
    · rintro ⟨Q, hQ, hP⟩
      exact (ins_perm hP).trans ((mem_pms.mp hQ).cons x)
    · intro h
      obtain ⟨u, v, e⟩ := List.append_of_mem (h.mem_iff.mpr List.mem_cons_self)
      subst e
      have h2 : (u ++ v).Perm l := List.Perm.cons_inv ((List.perm_middle.symm).trans h)
      exact ⟨u ++ v, mem_pms.mpr h2, ins_mem x u v⟩
theorem hds_perm : ∀ {L : List Nat} {q : Nat × List Nat}, q ∈ hds L → (q.1 :: q.2).Perm L
  | [], _, h => by cases h
  | x :: l, q, h => by
    rcases List.mem_cons.mp h with e | h
    · rw [e]
    · obtain ⟨z, hz, rfl⟩ := List.mem_map.mp h
      exact (List.Perm.swap x z.1 z.2).trans ((hds_perm hz).cons x)
theorem hds_of : ∀ {L : List Nat} {x : Nat}, x ∈ L → ∃ l, (x, l) ∈ hds L
  | y :: l, x, h => by
    rcases List.mem_cons.mp h with e | h
    · exact ⟨l, by rw [e]; exact List.mem_cons_self⟩
    · obtain ⟨l', h'⟩ := hds_of h
      exact ⟨y :: l', List.mem_cons_of_mem _ (List.mem_map.mpr ⟨_, h', rfl⟩)⟩
theorem mem_up {a : Nat} : ∀ {S : List Nat} {lo : Nat}, S.Pairwise (· ≤ ·) → (∀ x ∈ S, lo ≤ x ∧ x ≤ a) → S ∈ up a S.length lo
  | [], lo, _, _ => List.mem_singleton.mpr rfl
  | x :: S, lo, h, hx => by
    have p := List.pairwise_cons.mp h
    obtain ⟨h1, h2⟩ := hx x List.mem_cons_self
    refine List.mem_flatMap.mpr ⟨x, List.mem_range.mpr (by omega), ?_⟩
    rw [Nat.ble_eq_true_of_le h1]
    exact List.mem_map.mpr ⟨S, mem_up p.2 fun y hy => ⟨p.1 y hy, (hx y (List.mem_cons_of_mem _ hy)).2⟩, rfl⟩
def AlkG (ch : Rows → Nat) (R : Rows) : Prop := ∀ F F', Ds R F → Ds R F' → btF ch R F = btF ch R F'
theorem evA_iff {an : Bool} {R : List Nat} {a : Nat} (hR : ∀ m ∈ R, m < 16) (ha : a < 16) : evA an R a = true ↔ ∀ P : List Nat, P.Perm R → AlkG (chB an) (TR P a) := by
  have sp := fun (P : List Nat) (h : P.Perm R) => al_spec an P a (fun m hm => hR m (h.mem_iff.mp hm)) ha
  unfold evA
  rw [List.all_eq_true]
  constructor
  · intro h P hP F F' d d'
    have q := h P (mem_pms.mpr hP)
    have s := sp P hP
    have n1 : al an P a ≠ 1 := fun z => by rw [z] at q; exact absurd q (by decide)
    have n0 : al an P a ≠ 0 := fun z => s.no z F d
    have e := s.alk (al an P a - 2) (by omega)
    rw [e F d, e F' d']
  · intro h P hP
    have hP := mem_pms.mp hP
    cases q : Nat.beq (al an P a) 1 with
    | false => rfl
    | true =>
      obtain ⟨F, F', d, d', ne⟩ := (sp P hP).un (Nat.eq_of_beq_eq_true q)
      exact absurd (h P hP F F' d d') ne
def mk4 (c0 c1 c2 c3 : Bool) : Nat := cond c0 1 0 + cond c1 2 0 + cond c2 4 0 + cond c3 8 0
theorem mk4_bits : ∀ c0 c1 c2 c3 : Bool, mk4 c0 c1 c2 c3 < 16 ∧ Nat.beq (Nat.land (mk4 c0 c1 c2 c3) 1) 0 = !c0 ∧ Nat.beq (Nat.land (mk4 c0 c1 c2 c3) 2) 0 = !c1 ∧ Nat.beq (Nat.land (mk4 c0 c1 c2 c3) 4) 0 = !c2 ∧ Nat.beq (Nat.land (mk4 c0 c1 c2 c3) 8) 0 = !c3 := by decide
def mkR (r : List Int) : Nat := mk4 (decide ((0 : Int) ∈ r)) (decide ((1 : Int) ∈ r)) (decide ((2 : Int) ∈ r)) (decide ((3 : Int) ∈ r))
theorem mkR_16 (r : List Int) : mkR r < 16 := (mk4_bits _ _ _ _).1
theorem mkR_bit (r : List Int) : ∀ b ∈ bts, Nat.beq (Nat.land (mkR r) b) 0 = !decide (tb b ∈ r) := by
  obtain ⟨_, h1, h2, h4, h8⟩ := mk4_bits (decide ((0 : Int) ∈ r)) (decide ((1 : Int) ∈ r)) (decide ((2 : Int) ∈ r)) (decide ((3 : Int) ∈ r))
  intro b hb
  rcases List.mem_cons.mp hb with rfl | hb
  · exact h1
  · rcases List.mem_cons.mp hb with rfl | hb
    · exact h2
    · rcases List.mem_cons.mp hb with rfl | hb
      · exact h4
      · rw [List.mem_singleton.mp hb]
        exact h8
theorem mem_mR {m : Nat} {t : Int} : t ∈ mR m ↔ ∃ b ∈ bts, Nat.beq (Nat.land m b) 0 = false ∧ tb b = t := by
  unfold mR
  rw [List.mem_map]
  constructor
  · rintro ⟨b, hb, e⟩
    obtain ⟨h1, h2⟩ := List.mem_filter.mp hb
    exact ⟨b, h1, by simpa using h2, e⟩
  · rintro ⟨b, hb, h, e⟩
    exact ⟨b, List.mem_filter.mpr ⟨hb, by rw [h]; rfl⟩, e⟩
theorem bit_mR {m b : Nat} (hb : b ∈ bts) : Nat.beq (Nat.land m b) 0 = false ↔ tb b ∈ mR m := by
  rw [mem_mR]
  constructor
  · exact fun h => ⟨b, hb, h, rfl⟩
  · rintro ⟨c, hc, h, e⟩
    rw [← tb_inj c hc b hb e]
    exact h
theorem mR_asc : ∀ m : Fin 16, (mR m.val).Pairwise (· < ·) := by decide +kernel
theorem bitOf4 {t : Int} (h0 : 0 ≤ t) (h4 : t < 4) : ∃ b ∈ bts, tb b = t := by
  have : t = 0 ∨ t = 1 ∨ t = 2 ∨ t = 3 := by omega
  rcases this with rfl | rfl | rfl | rfl
  · exact ⟨1, by decide, rfl⟩
  · exact ⟨2, by decide, rfl⟩
  · exact ⟨4, by decide, rfl⟩
  · exact ⟨8, by decide, rfl⟩
theorem asc_extM : ∀ {l1 l2 : List Int}, l1.Pairwise (· < ·) → l2.Pairwise (· < ·) → (∀ x, x ∈ l1 ↔ x ∈ l2) → l1 = l2
  | [], [], _, _, _ => rfl
  | [], y :: r, _, _, h => absurd ((h y).mpr List.mem_cons_self) (by simp)
  | x :: r, [], _, _, h => absurd ((h x).mp List.mem_cons_self) (by simp)
  | x :: r, y :: q, h1, h2, h => by
    have p1 := List.pairwise_cons.mp h1
    have p2 := List.pairwise_cons.mp h2
    have e : x = y := by
      rcases List.mem_cons.mp ((h x).mp List.mem_cons_self) with e | m
      · exact e
      · rcases List.mem_cons.mp ((h y).mpr List.mem_cons_self) with e | m2
        · exact e.symm
        · have := p2.1 x m
          have := p1.1 y m2
          omega
    subst e
    rw [asc_extM p1.2 p2.2 fun z => by
      constructor
      · intro hz
        refine (List.mem_cons.mp ((h z).mp (List.mem_cons_of_mem _ hz))).resolve_left fun e => ?_
        have := p1.1 z hz
        omega
      · intro hz
        refine (List.mem_cons.mp ((h z).mpr (List.mem_cons_of_mem _ hz))).resolve_left fun e => ?_
        have := p2.1 z hz
        omega]
theorem mR_mkR {r : List Int} (asc : r.Pairwise (· < ·)) (rng : ∀ t ∈ r, 0 ≤ t ∧ t < 4) : mR (mkR r) = r := by
  refine asc_extM (mR_asc ⟨mkR r, mkR_16 r⟩) asc fun t => ?_
  rw [mem_mR]
  constructor
  · rintro ⟨b, hb, h, rfl⟩
    rw [mkR_bit r b hb] at h
    simpa using h
  · intro h
    obtain ⟨b, hb, e⟩ := bitOf4 (rng t h).1 (rng t h).2
    refine ⟨b, hb, ?_, e⟩
    rw [mkR_bit r b hb, e, decide_eq_true h]
    rfl
theorem land_all : ∀ n ∈ [1, 2, 3, 4], ∀ m : Fin 16, m.val ≤ 2 ^ n - 1 → Nat.land m.val (2 ^ n - 1) = m.val := by decide +kernel
theorem mk4_le : ∀ n ∈ [1, 2, 3, 4], ∀ c0 c1 c2 c3 : Bool, (n < 2 → c1 = false) → (n < 3 → c2 = false) → (n < 4 → c3 = false) → mk4 c0 c1 c2 c3 ≤ 2 ^ n - 1 := by decide
theorem mkR_le {n : Nat} (hn : n ∈ [1, 2, 3, 4]) {r : List Int} (rng : ∀ t ∈ r, 0 ≤ t ∧ t < (n : Int)) : mkR r ≤ 2 ^ n - 1 :=
  mk4_le n hn _ _ _ _ (fun h => decide_eq_false fun z => by have := rng _ z; omega) (fun h => decide_eq_false fun z => by have := rng _ z; omega) fun h => decide_eq_false fun z => by have := rng _ z; omega
def NiceR (L : Rows) : Prop := ∀ r ∈ L, ∀ s ∈ L, (∃ t, t ∈ r ∧ t ∈ s) → r = s ∨ (r.length = 2 ∧ s.length = 2)
theorem nice2_ok : ∀ x y : Fin 16, nice2 x.val y.val = true ↔ ((∃ t ∈ mR x.val, t ∈ mR y.val) → mR x.val = mR y.val ∨ ((mR x.val).length = 2 ∧ (mR y.val).length = 2)) := by decide +kernel
structure F4 (rows : Rows) : Prop where
  hn : rows.length ∈ [1, 2, 3, 4]
  asc : ∀ r ∈ rows, r.Pairwise (· < ·)
  rng : ∀ r ∈ rows, ∀ t ∈ r, 0 ≤ t ∧ t < (rows.length : Int)
theorem F4.le {rows : Rows} (f : F4 rows) : rows.length ≤ 4 := by
  have h : ∀ n ∈ [1, 2, 3, 4], n ≤ 4 := by decide
  exact h _ f.hn
theorem F4.rw_ {rows : Rows} (f : F4 rows) {p : Nat} (hp : p < rows.length) : row rows p ∈ rows := by
  rw [row_get (List.getElem?_eq_getElem hp)]
  exact List.getElem_mem hp
theorem F4.back {rows : Rows} (f : F4 rows) {r : List Int} (hr : r ∈ rows) : mR (mkR r) = r := mR_mkR (f.asc r hr) fun t ht => by
  have := f.rng r hr t ht
  have := f.le
  omega
theorem F4.cut {rows : Rows} (f : F4 rows) {r : List Int} (hr : r ∈ rows) : Nat.land (mkR r) (2 ^ rows.length - 1) = mkR r := land_all _ f.hn ⟨mkR r, mkR_16 r⟩ (mkR_le f.hn (f.rng r hr))
theorem a16 : ∀ n ∈ [1, 2, 3, 4], 2 ^ n - 1 < 16 := by decide
theorem range_rows {rows : Rows} : (List.range rows.length).map (row rows) = rows := by
  refine List.ext_getElem (by rw [List.length_map, List.length_range]) fun i h1 h2 => ?_
  rw [List.getElem_map, List.getElem_range]
  exact row_get (List.getElem?_eq_getElem h2)
theorem F4.turn {rows : Rows} (f : F4 rows) {P : List Nat} (h : P.Perm (rows.map mkR)) : ∃ tn, Turn rows tn ∧ TR P (2 ^ rows.length - 1) = tR rows tn := by
  have e : rows.map mkR = (List.range rows.length).map fun p => mkR (row rows p) := by
    have h := congrArg (List.map mkR) (range_rows (rows := rows)).symm
    rw [List.map_map] at h
    exact h
  obtain ⟨tn, h1, h2⟩ := perm_back h e
  refine ⟨tn, ⟨h2⟩, ?_⟩
  rw [h1]
  unfold TR tR
  rw [List.map_map]
  refine List.map_congr_left fun p hp => ?_
  have hp := List.mem_range.mp (h2.mem_iff.mp hp)
  show mR (Nat.land (mkR (row rows p)) (2 ^ rows.length - 1)) = row rows p
  rw [f.cut (f.rw_ hp), f.back (f.rw_ hp)]
theorem F4.masks {rows : Rows} (f : F4 rows) {tn : List Nat} (ht : Turn rows tn) : ∃ P : List Nat, P.Perm (rows.map mkR) ∧ TR P (2 ^ rows.length - 1) = tR rows tn := by
  refine ⟨tn.map fun p => mkR (row rows p), ?_, ?_⟩
  · have q := ht.pm.map fun p => mkR (row rows p)
    have h := congrArg (List.map mkR) (range_rows (rows := rows)).symm
    rw [List.map_map] at h
    rw [h]
    exact q
  · unfold TR tR
    rw [List.map_map]
    refine List.map_congr_left fun p hp => ?_
    have hp := List.mem_range.mp (ht.pm.mem_iff.mp hp)
    show mR (Nat.land (mkR (row rows p)) (2 ^ rows.length - 1)) = row rows p
    rw [f.cut (f.rw_ hp), f.back (f.rw_ hp)]
theorem F4.sorted {rows : Rows} (f : F4 rows) (ne : ∀ r ∈ rows, r ≠ []) : ∃ S : List Nat, S ∈ up (2 ^ rows.length - 1) rows.length 1 ∧ S.Perm (rows.map mkR) := by
  obtain ⟨S, eS⟩ : ∃ S, S = (rows.map mkR).mergeSort := ⟨_, rfl⟩
  have pm : S.Perm (rows.map mkR) := by rw [eS]; exact List.mergeSort_perm _ _
  have sl : S.length = rows.length := by rw [pm.length_eq, List.length_map]
  have so : S.Pairwise (· ≤ ·) := by
    have h := List.pairwise_mergeSort (le := fun (a b : Nat) => decide (a ≤ b)) (fun a b c h1 h2 => by simp at h1 h2 ⊢; omega) (fun a b => by simp; omega) (rows.map mkR)
    rw [eS]
    exact h.imp fun {a b} q => of_decide_eq_true q
  refine ⟨S, ?_, pm⟩
  rw [← sl]
  refine mem_up so fun x hx => ?_
  obtain ⟨r, hr, rfl⟩ := List.mem_map.mp (pm.mem_iff.mp hx)
  refine ⟨?_, by rw [sl]; exact mkR_le f.hn (f.rng r hr)⟩
  refine Nat.pos_of_ne_zero fun z => ne r hr ?_
  rw [← f.back hr, z]
  decide
theorem F4.small {rows : Rows} (f : F4 rows) {S : List Nat} (pm : S.Perm (rows.map mkR)) : ∀ m ∈ S, m < 16 := fun m hm => by
  obtain ⟨r, _, rfl⟩ := List.mem_map.mp (pm.mem_iff.mp hm)
  exact mkR_16 r
theorem F4.ev {rows : Rows} (f : F4 rows) {S : List Nat} (pm : S.Perm (rows.map mkR)) (an : Bool) : evA an S (2 ^ rows.length - 1) = true ↔ ∀ tn, Turn rows tn → AlkG (chB an) (tR rows tn) := by
  rw [evA_iff (f.small pm) (a16 _ f.hn)]
  constructor
  · intro h tn ht
    obtain ⟨P, hP, e⟩ := f.masks ht
    rw [← e]
    exact h P (hP.trans pm.symm)
  · intro h P hP
    obtain ⟨tn, ht, e⟩ := f.turn (hP.trans pm)
    rw [e]
    exact h tn ht
/-- who comes up first may get what the rows behind it leave -/
theorem F4.first {rows : Rows} (f : F4 rows) {S : List Nat} (pm : S.Perm (rows.map mkR)) {x : Nat} {l : List Nat} (h : (x, l) ∈ hds S) (an : Bool) : ∃ p, p < rows.length ∧ row rows p = mR x ∧ ∀ b ∈ bts, tb b ∈ mR x → (al an l (Nat.sub (2 ^ rows.length - 1) b) ≠ 0 ↔ Live rows p (tb b)) := by
  have hp := (hds_perm h).trans pm
  obtain ⟨tn, ht, e⟩ := f.turn hp
  have sm : ∀ m ∈ l, m < 16 := fun m hm => f.small pm m ((hds_perm h).mem_iff.mp (List.mem_cons_of_mem _ hm))
  have x16 : x < 16 := f.small pm x ((hds_perm h).mem_iff.mp List.mem_cons_self)
  have a := a16 _ f.hn
  have tl : tn.length = rows.length := ht.len
  match tn, ht, e, tl with
  | [], ht, e, tl =>
    have := f.hn
    rw [← tl] at this
    exact absurd this (by decide)
  | p :: tn, ht, e, tl =>
    have e' : mR (Nat.land x (2 ^ rows.length - 1)) :: TR l (2 ^ rows.length - 1) = row rows p :: tR rows tn := e
    have pl := ht.lt (List.mem_cons_self (a := p) (l := tn))
    injection e' with e1 e2
    have ex : Nat.land x (2 ^ rows.length - 1) = x := by
      obtain ⟨r, hr, er⟩ := List.mem_map.mp (hp.mem_iff.mp (List.mem_cons_self (a := x) (l := l)))
      rw [← er]
      exact f.cut hr
    rw [ex] at e1
    refine ⟨p, pl, e1.symm, fun b hb hm => ?_⟩
    have inA : Nat.beq (Nat.land (2 ^ rows.length - 1) b) 0 = false := by
      have := (m_land ⟨x, x16⟩ ⟨2 ^ rows.length - 1, a⟩).2 b hb
      refine this ?_
      show Nat.beq (Nat.land (Nat.land x (2 ^ rows.length - 1)) b) 0 = false
      rw [ex]
      exact (bit_mR hb).mpr hm
    have eb := bh1_TR (r := mR x) sm a hb inA
    have eR : mR x :: TR l (2 ^ rows.length - 1) = tR rows (p :: tn) := by rw [e1, e2]; rfl
    rw [eR] at eb
    have s := al_spec an l (Nat.sub (2 ^ rows.length - 1) b) sm (Nat.lt_of_le_of_lt (Nat.sub_le _ _) a)
    rw [← eb] at s
    have h0 : 0 < (tR rows (p :: tn)).length := by unfold tR; simp
    have r0 : row (tR rows (p :: tn)) 0 = mR x := e1.symm
    constructor
    · intro n
      obtain ⟨F, d⟩ := s.yes n
      have d2 : Ds (tR rows (p :: tn)) (tb b :: F) := (ds_cons h0).mpr ⟨by rw [r0]; exact hm, d⟩
      obtain ⟨E, dE, eE⟩ := ht.back d2
      refine ⟨E, dE, ?_⟩
      have : (tD E (p :: tn))[0]? = some (tb b) := by rw [eE]; rfl
      have h1 : some (E.getD p 0) = some (tb b) := this
      rw [← h1, List.getD_eq_getElem?_getD, List.getElem?_eq_getElem (by rw [dE.len]; exact pl)]
      rfl
    · rintro ⟨D, d, eD⟩ z
      have d2 := ht.ds d
      have : tD D (p :: tn) = tb b :: tD D tn := by
        show D.getD p 0 :: _ = _
        rw [List.getD_eq_getElem?_getD, eD]
        rfl
      rw [this] at d2
      exact s.no z _ ((ds_cons h0).mp d2).2
theorem ok1 : ((up (2 ^ 1 - 1) 1 1).all fun R => okR R (2 ^ 1 - 1) && okN R (2 ^ 1 - 1)) = true := by decide +kernel
theorem ok2 : ((up (2 ^ 2 - 1) 2 1).all fun R => okR R (2 ^ 2 - 1) && okN R (2 ^ 2 - 1)) = true := by decide +kernel
theorem ok3 : ((up (2 ^ 3 - 1) 3 1).all fun R => okR R (2 ^ 3 - 1) && okN R (2 ^ 3 - 1)) = true := by decide +kernel
end Mt
set_option maxRecDepth 100000
set_option maxHeartbeats 4000000
namespace Mt
theorem F4.mem {rows : Rows} {S : List Nat} (pm : S.Perm (rows.map mkR)) {x : Nat} : x ∈ S ↔ ∃ r ∈ rows, mkR r = x := by
  rw [pm.mem_iff, List.mem_map]
theorem F4.nice {rows : Rows} (f : F4 rows) {S : List Nat} (pm : S.Perm (rows.map mkR)) : niB S = true ↔ NiceR rows := by
  unfold niB NiceR
  rw [List.all_eq_true]
  have two : ∀ r ∈ rows, ∀ s ∈ rows, nice2 (mkR r) (mkR s) = true ↔ ((∃ t, t ∈ r ∧ t ∈ s) → r = s ∨ (r.length = 2 ∧ s.length = 2)) := fun r hr s hs => by
    have h := nice2_ok ⟨mkR r, mkR_16 r⟩ ⟨mkR s, mkR_16 s⟩
    rw [f.back hr, f.back hs] at h
    exact h
  constructor
  · intro h r hr s hs
    have := h (mkR r) ((F4.mem pm).mpr ⟨r, hr, rfl⟩)
    rw [List.all_eq_true] at this
    exact (two r hr s hs).mp (this (mkR s) ((F4.mem pm).mpr ⟨s, hs, rfl⟩))
  · intro h x hx
    rw [List.all_eq_true]
    intro y hy
    obtain ⟨r, hr, rfl⟩ := (F4.mem pm).mp hx
    obtain ⟨s, hs, rfl⟩ := (F4.mem pm).mp hy
    exact (two r hr s hs).mpr (h r hr s hs)
theorem F4.lv {rows : Rows} (f : F4 rows) {S : List Nat} (pm : S.Perm (rows.map mkR)) (lv : ∀ p t, t ∈ row rows p → Live rows p t) : lvB S (2 ^ rows.length - 1) = true := by
  unfold lvB
  rw [List.all_eq_true]
  rintro ⟨x, l⟩ hq
  rw [List.all_eq_true]
  intro b hb
  obtain ⟨p, hp, er, h⟩ := f.first pm hq false
  show (Nat.beq (Nat.land x b) 0 || !Nat.beq (al false l (Nat.sub (2 ^ rows.length - 1) b)) 0) = true
  cases z : Nat.beq (Nat.land x b) 0 with
  | true => rfl
  | false =>
    have m := (bit_mR hb).mp z
    have n := (h b hb m).mpr (lv p (tb b) (by rw [er]; exact m))
    cases y : Nat.beq (al false l (Nat.sub (2 ^ rows.length - 1) b)) 0 with
    | false => rfl
    | true => exact absurd (Nat.eq_of_beq_eq_true y) n
end Mt
set_option maxRecDepth 100000
set_option maxHeartbeats 4000000
namespace Fo
open PySem PySem.Spec PyProof.Rows L2
theorem thg_lenA {rows : List (List Int)} (G : Good rows) {D : List Int} (d : Mt.Ds rows D) {F : List (List Nat)} (hF : Mt.Groups (Mt.liveR rows) F) {g : List Nat} (hg : g ∈ F) : (thgR rows g).length = g.length :=
  hF.things G.live.few (Mt.ds_liveR.mpr d) hg (thgR_asc.imp fun {a b} z e => by omega) fun t => mem_thgR G
theorem one_at (x : Int) : ∀ T : List Int, T.Nodup → x ∈ T → (T.map fun t => if x = t then 1 else 0).sum = 1
  | [], _, h => by cases h
  | t :: T, nd, h => by
    rw [List.nodup_cons] at nd
    rw [List.map_cons, List.sum_cons]
    by_cases e : x = t
    · subst e
      have z : (T.map fun t => if x = t then 1 else 0) = T.map fun _ => 0 := List.map_congr_left fun u hu => if_neg fun q => nd.1 (by rw [q]; exact hu)
      rw [if_pos rfl, z, Mt.zeros]
    · rw [if_neg e, Nat.zero_add]
      exact one_at x T nd.2 ((List.mem_cons.mp h).resolve_left e)
theorem sum_count {T : List Int} (nd : T.Nodup) : ∀ l : List Int, (∀ x ∈ l, x ∈ T) → (T.map fun t => l.count t).sum = l.length
  | [], _ => by
    have z : (T.map fun t => ([] : List Int).count t) = T.map fun _ => 0 := List.map_congr_left fun u _ => List.count_nil
    rw [z, Mt.zeros]
    rfl
  | x :: l, h => by
    have z : (T.map fun t => (x :: l).count t) = T.map fun t => l.count t + if x = t then 1 else 0 := List.map_congr_left fun u _ => by
      rw [List.count_cons]
      by_cases e : x = u
      · rw [if_pos e, if_pos (by rw [e]; exact beq_self_eq_true u)]
      · rw [if_neg e, if_neg (by rw [beq_iff_eq]; exact e)]
    rw [z, Mt.sumN_add, sum_count nd l fun y hy => h y (List.mem_cons_of_mem _ hy), one_at x T nd (h x List.mem_cons_self), List.length_cons]
theorem sum_two {f : Int → Nat} : ∀ T : List Int, (∀ t ∈ T, 2 ≤ f t) → 2 * T.length ≤ (T.map f).sum ∧ ((T.map f).sum = 2 * T.length → ∀ t ∈ T, f t = 2)
  | [], _ => ⟨Nat.le_refl _, fun _ _ h => nomatch h⟩
  | t :: T, h => by
    have ih := sum_two T fun u hu => h u (List.mem_cons_of_mem _ hu)
    have h0 := h t List.mem_cons_self
    rw [List.map_cons, List.sum_cons, List.length_cons]
    refine ⟨by omega, fun e u hu => ?_⟩
    rcases List.mem_cons.mp hu with q | hu
    · rw [q]; omega
    · exact ih.2 (by omega) u hu
theorem flat_two {L : List (List Int)} : ∀ g : List Nat, (∀ p ∈ g, (Mt.row L p).length = 2) → (givenL L g).length = 2 * g.length
  | [], _ => rfl
  | p :: g, h => by
    have ih := flat_two g fun q hq => h q (List.mem_cons_of_mem _ hq)
    unfold givenL at ih ⊢
    rw [List.map_cons, List.flatten_cons, List.length_append, ih, h p List.mem_cons_self, List.length_cons]
    omega
theorem live_mem {rows : List (List Int)} {r : List Int} : r ∈ Mt.liveR rows ↔ ∃ p, p < rows.length ∧ Mt.row (Mt.liveR rows) p = r := by
  constructor
  · intro h
    obtain ⟨p, hp, e⟩ := List.getElem_of_mem h
    exact ⟨p, by rw [Mt.liveR_len] at hp; exact hp, Mt.row_get (by rw [List.getElem?_eq_getElem hp, e])⟩
  · rintro ⟨p, hp, e⟩
    have hp : p < (Mt.liveR rows).length := by rw [Mt.liveR_len]; exact hp
    rw [← e, Mt.row_get (List.getElem?_eq_getElem hp)]
    exact List.getElem_mem hp
theorem live_asc {rows : List (List Int)} (G : Good rows) (p : Nat) : (Mt.row (Mt.liveR rows) p).Pairwise (· < ·) := by
  rw [Mt.row_liveR]
  exact (G.row_asc p).filter _
theorem onto {rows : List (List Int)} (G : Good rows) {D : List Int} (d : Mt.Ds rows D) {t : Int} (h0 : 0 ≤ t) (h1 : t < (rows.length : Int)) : ∃ q : Nat, D[q]? = some t := by
  have hm : t ∈ D := by
    have := Mt.all_in (l1 := D) (l2 := rangeI rows.length) d.nd (fun x hx => by
      obtain ⟨i, hi⟩ := List.getElem?_of_mem hx
      exact mem_rangeI.mpr (G.row_rng (d.tie i x hi))) (by rw [rangeI_len, d.len, Int.toNat_natCast]; exact Nat.le_refl _)
    exact this t (mem_rangeI.mpr ⟨h0, h1⟩)
  exact List.getElem?_of_mem hm
theorem kind_other {L : List (List Int)} {g : List Nat} : kindS L g ≠ "other" ↔ fullG L g = true ∨ ringB L g = true := by
  unfold kindS
  by_cases h1 : fullG L g = true
  · rw [if_pos h1]
    exact ⟨fun _ => .inl h1, fun _ => by decide⟩
  · rw [if_neg h1]
    by_cases h2 : ringB L g = true
    · rw [if_pos h2]
      exact ⟨fun _ => .inr h2, fun _ => by decide⟩
    · rw [if_neg h2]
      exact ⟨fun h => absurd rfl h, fun h => h.elim (fun z => absurd z h1) fun z => absurd z h2⟩
theorem kinds_nice {rows : List (List Int)} (G : Good rows) {D : List Int} (d : Mt.Ds rows D) {F : List (List Nat)} (hF : Mt.Groups (Mt.liveR rows) F) : (∀ g ∈ F, kindS (Mt.liveR rows) g ≠ "other") ↔ Mt.NiceR (Mt.liveR rows) := by
  have nd0 : ∀ p, (Mt.row (Mt.liveR rows) p).Nodup := fun p => (live_asc G p).imp fun {a b} h => by omega
  have ndT : ∀ g, (thgR rows g).Nodup := fun g => thgR_asc.imp fun {a b} z e => by omega
  have sub : ∀ {g p}, p ∈ g → ∀ t ∈ Mt.row (Mt.liveR rows) p, t ∈ thgR rows g := fun {g p} hp t ht => (mem_thgR G).mpr ⟨p, hp, ht⟩
  have eqT : ∀ {g}, g ∈ F → ∀ {p}, p ∈ g → (Mt.row (Mt.liveR rows) p).length = g.length → Mt.row (Mt.liveR rows) p = thgR rows g := fun {g} hg {p} hp hl => by
    refine asc_ext (live_asc G p) thgR_asc fun t => ⟨sub hp t, ?_⟩
    exact Mt.all_in (nd0 p) (sub hp) (by rw [thg_lenA G d hF hg, hl]; exact Nat.le_refl _) t
  constructor
  · rintro h r hr s hs ⟨t, t1, t2⟩
    obtain ⟨p, hp, rfl⟩ := live_mem.mp hr
    obtain ⟨q, hq, rfl⟩ := live_mem.mp hs
    obtain ⟨g, hg, hpg⟩ := List.mem_flatten.mp (hF.perm.mem_iff.mpr (List.mem_range.mpr (by rw [Mt.liveR_len]; exact hp)))
    have hqg := hF.tied hg hpg (by rw [Mt.liveR_len]; exact hq) ⟨t, t1, t2⟩
    rcases kind_other.mp (h g hg) with k | k
    · unfold fullG at k
      rw [List.all_eq_true] at k
      exact .inl ((eqT hg hpg (of_decide_eq_true (k p hpg))).trans (eqT hg hqg (of_decide_eq_true (k q hqg))).symm)
    · unfold ringB at k
      rw [Bool.and_eq_true] at k
      have k1 := List.all_eq_true.mp k.1
      exact .inr ⟨of_decide_eq_true (k1 p hpg), of_decide_eq_true (k1 q hqg)⟩
  · intro h g hg
    refine kind_other.mpr ?_
    obtain ⟨p0, hp0⟩ := List.exists_mem_of_ne_nil _ (hF.ne g hg)
    have lt : ∀ {p}, p ∈ g → p < rows.length := fun {p} hp => by have := hF.lt hg hp; rw [Mt.liveR_len] at this; exact this
    have inL : ∀ {p}, p < rows.length → Mt.row (Mt.liveR rows) p ∈ Mt.liveR rows := fun {p} hp => live_mem.mpr ⟨p, hp, rfl⟩
    have ltT : ∀ {p q}, Mt.Tied (Mt.liveR rows) p q → q < rows.length := fun {p q} ⟨t, _, h2⟩ => by have := Mt.row_lt h2; rw [Mt.liveR_len] at this; exact this
    have p0l := lt hp0
    by_cases two : (Mt.row (Mt.liveR rows) p0).length = 2
    · have all2 : ∀ q, Mt.Conn (Mt.liveR rows) p0 q → q < rows.length ∧ (Mt.row (Mt.liveR rows) q).length = 2 := fun q c => by
        induction c with
        | refl => exact ⟨p0l, two⟩
        | step c ht ih =>
          have rl := ltT ht
          refine ⟨rl, ?_⟩
          rcases h _ (inL ih.1) _ (inL rl) ht with e | e
          · rw [← e]; exact ih.2
          · exact e.2
      have g2 : ∀ p ∈ g, (Mt.row (Mt.liveR rows) p).length = 2 := fun p hp => (all2 p (hF.conn g hg p0 hp0 p hp)).2
      refine .inr ?_
      unfold ringB
      rw [Bool.and_eq_true]
      refine ⟨List.all_eq_true.mpr fun p hp => decide_eq_true (g2 p hp), List.all_eq_true.mpr fun t ht => decide_eq_true ?_⟩
      have inT : ∀ x ∈ givenL (Mt.liveR rows) g, x ∈ thgR rows g := fun x hx => by
        unfold givenL at hx
        obtain ⟨r, hr, hx⟩ := List.mem_flatten.mp hx
        obtain ⟨p, hp, rfl⟩ := List.mem_map.mp hr
        exact sub hp x hx
      have cnt := sum_count (ndT g) (givenL (Mt.liveR rows) g) inT
      rw [flat_two g g2, ← thg_lenA G d hF hg] at cnt
      have ge2 : ∀ t ∈ thgR rows g, 2 ≤ (givenL (Mt.liveR rows) g).count t := fun t ht => by
        obtain ⟨p, hp, hl⟩ := (mem_thgR G).mp ht
        obtain ⟨t', ht', ne⟩ : ∃ t' ∈ Mt.row (Mt.liveR rows) p, t' ≠ t := by
          refine Classical.byContradiction fun n => ?_
          have : (Mt.row (Mt.liveR rows) p).length ≤ [t].length := Mt.len_le (nd0 p) fun x hx => Classical.byContradiction fun z => n ⟨x, hx, fun e => z (List.mem_singleton.mpr e)⟩
          rw [g2 p hp] at this
          exact absurd this (by show ¬ 2 ≤ 1; decide)
        obtain ⟨E, dE, eE⟩ := Mt.mem_liveR.mp ht'
        have tr : 0 ≤ t ∧ t < (rows.length : Int) := by
          obtain ⟨E0, d0, e0⟩ := Mt.mem_liveR.mp hl
          exact G.row_rng (d0.tie p t e0)
        obtain ⟨q, hq⟩ := onto G dE tr.1 tr.2
        have hql : t ∈ Mt.row (Mt.liveR rows) q := Mt.mem_liveR.mpr ⟨E, dE, hq⟩
        have npq : p ≠ q := fun e => by
          rw [← e, eE] at hq
          exact ne (Option.some.inj hq)
        have qg := hF.tied hg hp (by have := Mt.row_lt hql; exact this) ⟨t, hl, hql⟩
        rw [cnt_flat nd0 t g]
        have : [p, q].length ≤ (g.filter fun p => decide (t ∈ Mt.row (Mt.liveR rows) p)).length := Mt.len_le (List.nodup_cons.mpr ⟨by simpa using npq, by simp⟩) fun x hx => by
          rcases List.mem_cons.mp hx with e | hx
          · rw [e]; exact List.mem_filter.mpr ⟨hp, decide_eq_true hl⟩
          · rw [List.mem_singleton.mp hx]; exact List.mem_filter.mpr ⟨qg, decide_eq_true hql⟩
        exact this
      exact (sum_two _ ge2).2 cnt t (inT t ht)
    · have same : ∀ q, Mt.Conn (Mt.liveR rows) p0 q → q < rows.length ∧ Mt.row (Mt.liveR rows) q = Mt.row (Mt.liveR rows) p0 := fun q c => by
        induction c with
        | refl => exact ⟨p0l, rfl⟩
        | step c ht ih =>
          have rl := ltT ht
          refine ⟨rl, ?_⟩
          rcases h _ (inL ih.1) _ (inL rl) ht with e | e
          · rw [← e]; exact ih.2
          · exact absurd (by rw [← ih.2]; exact e.1) two
      have gs : ∀ p ∈ g, Mt.row (Mt.liveR rows) p = Mt.row (Mt.liveR rows) p0 := fun p hp => (same p (hF.conn g hg p0 hp0 p hp)).2
      refine .inl ?_
      unfold fullG
      refine List.all_eq_true.mpr fun p hp => decide_eq_true ?_
      rw [gs p hp, ← thg_lenA G d hF hg]
      refine Mt.len_eq_of (nd0 p0) (ndT g) fun t => ⟨sub hp0 t, fun ht => ?_⟩
      obtain ⟨q, hq, hl⟩ := (mem_thgR G).mp ht
      rw [gs q hq] at hl
      exact hl
theorem botR_JA {cu : Str} {R : List (List Int)} {D : List Int} : ∀ j, botR cu R D j = Mt.botJ (chR cu) R D j
  | 0 => rfl
  | j + 1 => by
    show botR cu R D j * _ = Mt.botJ (chR cu) R D j * _
    rw [botR_JA j]
theorem botR_F {cu : Str} {rows : List (List Int)} {tn : List Nat} (ht : Mt.Turn rows tn) (D : List Int) : botR cu (Mt.tR rows tn) (Mt.tD D tn) rows.length = Mt.btF (chR cu) (Mt.tR rows tn) (Mt.tD D tn) := by
  rw [botR_JA, ← Mt.botJ_btF, Mt.tD_len, ht.len]
end Fo
set_option maxRecDepth 100000
set_option maxHeartbeats 4000000
namespace Fo
open PySem PySem.Spec PyProof.Rows L2
abbrev s_beside : Stmt := top 35
abbrev n_beside : List Str := ["one", "other", "moved", "row", "thing"]
theorem sc_beside : FnScope n_beside ["one", "other"] (defScope s_beside) := ⟨rfl, rfl, rfl, by decide +kernel, rfl, by decide +kernel, by decide +kernel⟩
section
variable {P : Program} {w : World} {K : PySem.W.Frag} {mg : Str → Option Value} {base : Heap} {C : Addr}
/-- rows whose things begin at a number -/
def shiftR (n : Int) (R : List (List Int)) : List (List Int) := R.map fun r => r.map fun t => n + t
def spBeside (K : PySem.W.Frag) (C : Addr) : Sp := fun vs H Q _ => ∃ (x y : V) (A B : List (List Int)), vs = [x, y] ∧ TableAt K C H x A ∧ TableAt K C H y B ∧ Good A ∧ Good B ∧ A.length + B.length ≤ 40 ∧ ∀ p H', Same H H' → H p = none → TableAt K C H' (.ref p) (A ++ shiftR A.length B) → Q (.ref p) H'
theorem ok_beside (A : At K mg "beside" s_beside ["one", "other"]) (T : Tx mg) (tc : TC K C) {tk : Tok} (hMB : mg "MOST_BESIDE" = some (.int 40 tk)) (G_table_of : Dfn P w K mg base "table_of" ["rows"] 8 (spTableOf K C)) : Dfn P w K mg base "beside" ["one", "other"] 9 (spBeside K C) := by
  refine A.ok sc_beside (fun vs H Q E h => ?_) (fun f cdv A0 outer s H vs Q E hr h => ?_)
  · obtain ⟨_, _, _, _, rfl, _⟩ := h
    rfl
  · obtain ⟨x, y, A, B, rfl, ta, tb, GA, GB, hn, k⟩ := h
    refine ⟨_, (pss_cons (ps_if (pt_cmpR op_gt (pe_op op_add (pe_fld (pv 0) rfl) (pe_fld (pv 1) rfl)) (pe_glob (v := V.int 40) (by rfl) hMB ⟨_, rfl⟩) (nomark _)) (pss_one ps_never) pss_nil)
      (pss_cons (ps_setLc (i := 2) (own := [("row", 3)]) (g := (gName 3)) (tt := tYes) (te := (tCB (rTupOf K) (tCons (tLc (iTup K (tVar 3)) (gName 4) tYes (tOp (rI0 fun i j => V.int (i + j)) (tFld K (tVar 0) "size") (tVar 4)) [4]) tNil))) (by rfl) sc_beside.nd rfl rfl (sw_true rfl rfl rfl (by decide +kernel)) (pi_tup (pe_fld (pv 1) rfl)) (blkOk_by (own := [("row", 3)]) (N := n_beside) (sc := (defScope s_beside)) (by decide +kernel)) (fun _ _ _ _ _ => (pg_name (i := 3) sc_beside.nd rfl (Or.inl rfl))) (fun _ _ _ _ _ => pts_nil) (fun _ _ _ _ _ => (pe_callTy c_tuple (by rfl) T.tuple (by decide +kernel) (pa_cons (pe_lc (own := [("thing", 4)]) (g := (gName 4)) (tt := tYes) (te := (tOp (rI0 fun i j => V.int (i + j)) (tFld K (tVar 0) "size") (tVar 4))) (by rfl) sc_beside.nd (pi_tup (pv 3)) (blkOk_by (own := [("thing", 4)]) (N := n_beside) (sc := (relabel (lcIn s_beside [1] 0) (envA (defScope s_beside)))) (by decide +kernel)) (fun _ _ _ _ _ => (pg_name (i := 4) sc_beside.nd rfl (Or.inl rfl))) (fun _ _ _ _ _ => pts_nil) (fun _ _ _ _ _ => (pe_op op_add (pe_fld (pv 0) rfl) (pv 4)))) pa_nil))))
      (pss_one (ps_ret (pe_d G_table_of (hr.mono (by decide)) (pa_cons (pe_op op_catA (pe_fld (pv 0) rfl) (pe_callTy c_tuple (by rfl) T.tuple (by decide +kernel) (pa_cons (pv 2) pa_nil))) pa_nil)))))), ?_⟩
    obtain ⟨p1, d1, v1, rfl, hp1, hRA⟩ := id ta
    obtain ⟨p2, d2, v2, rfl, hp2, hRB⟩ := id tb
    obtain ⟨ra, avs, rfl, hra, hrA⟩ := id hRA
    obtain ⟨rb, bvs, rfl, hrb, hrB⟩ := id hRB
    have al := hrA.len
    have bl := hrB.len
    refine ⟨_, rfl, p1, C, d1, _, _, rfl, hp1, tc.cl, tc.nS, tf_size _ _, _, rfl, p2, C, d2, _, _, rfl, hp2, tc.cl, tc.nS, tf_size _ _, _, _, rfl, rfl, _, _, rfl, rfl, _, rfl, ?_⟩
    refine ite2 (fun hc => absurd (of_decide_eq_true hc) (by omega)) (fun _ => ?_)
    refine ⟨_, rfl, p2, C, d2, _, _, rfl, hp2, tc.cl, tc.nR, tf_rows _ _, rb, rfl, ⟨_, hrb⟩, fun D hD => ?_⟩
    refine lc_tup (xs := bvs) (fun i H' => ∃ vs, H' D = some (.lst vs) ∧ RowsT K H' vs (shiftR A.length (B.take i)) ∧ Same H H') ⟨[], upd_same, .nil, same_new hD⟩ (fun i H' _ hp => by obtain ⟨_, _, _, s⟩ := hp; exact sqT_same s hrb) ?_ ?_
    · rintro i y H3 hy ⟨vs, h3, hv, s3⟩
      have il : i < B.length := by have := (List.getElem?_eq_some_iff.mp hy).1; omega
      have hri := List.getElem?_eq_getElem il
      obtain ⟨r, er⟩ : ∃ r, r = B[i] := ⟨_, rfl⟩
      rw [← er] at hri
      obtain ⟨a, ha1, ha2⟩ := hrB.get hri
      rw [hy] at ha1
      have ey : y = .ref a := Option.some.inj ha1
      subst ey
      have rl : r.length ≤ 40 := Nat.le_trans (GB.row_len r (List.mem_of_getElem? hri)) (by omega)
      have vl := hv.len
      unfold shiftR at vl
      rw [List.length_map, List.length_take] at vl
      refine ⟨rfl, _, rfl, a, rfl, ⟨_, sqT_same s3 ha2⟩, fun D2 hD2 => ?_⟩
      refine lc_tup (xs := r.map V.int) (fun j H' => H' D2 = some (.lst (((r.take j).map fun t => (A.length : Int) + t).map V.int)) ∧ Same H3 H') ⟨upd_same, same_new hD2⟩ (fun j H' _ hp => sqT_same (s3.trans hp.2) ha2) ?_ ?_
      · rintro j z H4 hz ⟨h4, s4⟩
        obtain ⟨t, ht, rfl⟩ : ∃ t, r[j]? = some t ∧ z = V.int t := by
          rw [List.getElem?_map] at hz
          cases e : r[j]? with
          | none => rw [e] at hz; cases hz
          | some u => rw [e] at hz; exact ⟨u, rfl, (Option.some.inj hz).symm⟩
        refine ⟨rfl, _, rfl, p1, C, d1, _, _, rfl, s4 _ _ (s3 _ _ hp1), tc.cl, tc.nS, tf_size _ _, _, rfl, _, _, rfl, rfl, _, h4, small_lt (by rw [List.length_map, List.length_map, List.length_take]; omega), ?_, same_mut s4 hD2⟩
        rw [upd_same, List.take_add_one, ht, List.map_append, List.map_append]
        rfl
      · rintro H4 ⟨h4, s4⟩
        rw [List.length_map, List.take_length] at h4
        refine ⟨D2, _, rfl, .inl ⟨SqL.of h4, fun z hz => ?_⟩⟩
        have s5 := same_new (o := .tup ((r.map fun t => (A.length : Int) + t).map V.int)) hz
        have s35 := s4.trans s5
        refine ⟨vs, s35 _ _ h3, small_lt (by omega), _, upd_same, ?_, same_mut (s3.trans s35) hD⟩
        have e : shiftR A.length (B.take (i + 1)) = shiftR A.length (B.take i) ++ [r.map fun t => (A.length : Int) + t] := by
          unfold shiftR
          rw [List.take_add_one, hri, List.map_append]
          rfl
        rw [e]
        exact (RowsT.snoc (SqT.of upd_same) (hv.same s35)).put (s35 _ _ h3)
    · rintro H3 ⟨vs, h3, hv, s3⟩
      rw [bl, List.take_length] at hv
      have vl := hv.len
      refine ⟨_, rfl, p1, C, d1, _, _, rfl, s3 _ _ hp1, tc.cl, tc.nR, tf_rows _ _, _, rfl, D, vs, rfl, .inl ⟨SqL.of h3, fun z hz => ?_⟩⟩
      have s4 := same_new (o := .tup vs) hz
      have s34 := s3.trans s4
      have shl : (shiftR A.length B).length = B.length := by unfold shiftR; rw [List.length_map]
      have ap := GA.pos
      have bp := GB.pos
      have wa := hrA.same s34
      have wb := hv.same s4
      refine ⟨ra, z, avs, vs, rfl, rfl, sqT_same s34 hra, SqT.of upd_same, by rw [vl, shl, al]; exact Nat.le_of_lt (small_lt (by omega)), fun e => ?_, fun _ e => ?_, fun _ _ q hq => ?_⟩
      · rw [e] at al
        exact absurd al (by simp; omega)
      · rw [e] at vl
        exact absurd vl (by rw [shl]; simp; omega)
      · have s5 := same_new (o := .tup (avs ++ vs)) hq
        refine ⟨.ref q, _, rfl, ⟨q, _, rfl, SqT.of upd_same, RowsT.app (wa.same s5) (wb.same s5)⟩, fun p H5 s6 f6 t6 => ?_⟩
        exact k p H5 ((s34.trans s5).trans s6) ((s34.trans s5).free f6) t6
end
end Fo
set_option maxRecDepth 100000
set_option maxHeartbeats 4000000
namespace Fo
open PySem PySem.Spec PyProof.Rows L2
theorem all_nil {α : Type} {p : α → Prop} : ∀ c ∈ ([] : List α), p c := fun c h => by cases h
theorem all_cons {α : Type} {p : α → Prop} {a : α} {l : List α} (h : p a) (t : ∀ c ∈ l, p c) : ∀ c ∈ a :: l, p c := fun c hc => by
  rcases List.mem_cons.mp hc with rfl | hc
  · exact h
  · exact t c hc
end Fo
set_option maxRecDepth 100000
set_option maxHeartbeats 4000000
namespace Fo
open PySem PySem.Spec PyProof.Rows L2
abbrev s_check_size : Stmt := top 36
abbrev n_check_size : List Str := ["size"]
theorem sc_check_size : FnScope n_check_size ["size"] (defScope s_check_size) := ⟨rfl, rfl, rfl, by decide +kernel, rfl, by decide +kernel, by decide +kernel⟩
abbrev s_full : Stmt := top 37
abbrev n_full : List Str := ["size"]
theorem sc_full : FnScope n_full ["size"] (defScope s_full) := ⟨rfl, rfl, rfl, by decide +kernel, rfl, by decide +kernel, by decide +kernel⟩
section
variable {P : Program} {w : World} {K : PySem.W.Frag} {mg : Str → Option Value} {base : Heap} {C : Addr}
def spCkSize (K : PySem.W.Frag) (C : Addr) : Sp := fun vs H Q _ => ∃ n : Nat, vs = [nV n] ∧ 1 ≤ n ∧ n ≤ 12 ∧ Q .non H
theorem ok_check_size (A : At K mg "_check_size" s_check_size ["size"]) (T : Tx mg) {tk : Tok} (hMR : mg "MOST_ROWS" = some (.int 12 tk)) (G_is_integer : Dfn P w K mg base "is_integer" ["thing"] 1 (spInteger K C)) : Dfn P w K mg base "_check_size" ["size"] 3 (spCkSize K C) := by
  refine A.ok sc_check_size (fun vs H Q E h => ?_) (fun f cdv A outer s H vs Q E hr h => ?_)
  · obtain ⟨_, rfl, _⟩ := h
    rfl
  · obtain ⟨n, rfl, n0, n1, k⟩ := h
    refine ⟨_, (pss_one (ps_if (PW.pt (pw_or (pt_not (pt_val (pe_d G_is_integer (hr.mono (by decide)) (pa_cons (pv 0) pa_nil)))) (pw_or1 (pt_not (pt_chain op_le op_le pe_int (pv 0) (pe_glob (v := V.int 12) (by rfl) hMR ⟨_, rfl⟩)))))) (pss_one ps_never) pss_nil)), ?_⟩
    refine ⟨_, rfl, _, rfl, th_int, _, rfl, ?_⟩
    refine ⟨_, rfl, _, _, rfl, rfl, _, rfl, ?_⟩
    rw [decide_eq_true (show (1 : Int) ≤ (n : Int) by omega)]
    refine ⟨_, _, rfl, rfl, _, rfl, ?_⟩
    rw [decide_eq_true (show (n : Int) ≤ 12 by omega)]
    exact k
def spTabOf (K : PySem.W.Frag) (C : Addr) (F : Nat → List (List Int)) : Sp := fun vs H Q _ => ∃ n : Nat, vs = [nV n] ∧ 1 ≤ n ∧ n ≤ 12 ∧ ∀ p H', Same H H' → H p = none → TableAt K C H' (.ref p) (F n) → Q (.ref p) H'
theorem ok_full (A : At K mg "full" s_full ["size"]) (T : Tx mg) (G_check_size : Dfn P w K mg base "_check_size" ["size"] 3 (spCkSize K C)) (G_table_of : Dfn P w K mg base "table_of" ["rows"] 8 (spTableOf K C)) : Dfn P w K mg base "full" ["size"] 9 (spTabOf K C Mt.fullR) := by
  refine A.ok sc_full (fun vs H Q E h => ?_) (fun f cdv A outer s H vs Q E hr h => ?_)
  · obtain ⟨_, rfl, _⟩ := h
    rfl
  · obtain ⟨n, rfl, n0, n1, k⟩ := h
    refine ⟨_, (pss_cons (ps_expr (pe_d G_check_size (hr.mono (by decide)) (pa_cons (pv 0) pa_nil)))
      (pss_one (ps_ret (pe_d G_table_of (hr.mono (by decide)) (pa_cons (pe_op op_repTn (pe_tup (pa_cons (pe_tupRg rfl (by rfl) T.tuple (prg_1 (by rfl) T.range (pv 0))) pa_nil)) (pv 0)) pa_nil))))), ?_⟩
    refine ⟨_, rfl, n, rfl, n0, n1, ?_⟩
    refine ⟨_, rfl, _, rfl, ⟨by omega, by omega⟩, fun q hq => ⟨by show 1 ≤ sizeLine; decide, fun c hc => ?_⟩⟩
    have s1 := same_new (o := .tup (rgV 0 ((n : Nat) : Int))) hq
    have s2 := same_new (o := .tup [V.ref q]) hc
    refine ⟨_, rfl, c, _, _, rfl, rfl, SqT.of upd_same, List.cons_ne_nil _ _, by omega, by omega, by show 1 ≤ 1000; decide, fun e H3 s3 he => ?_⟩
    have hr1 : SqT K H3 q ((Mt.rangeZ n).map V.int) := by
      have := sqT_same (K := K) (s2.trans s3) (SqT.of (upd_same (H := H) (a := q) (o := .tup (rgV 0 ((n : Nat) : Int)))))
      rw [rgV_rangeI] at this
      unfold rangeI at this
      rw [Int.toNat_natCast] at this
      exact this
    have rws : ∀ m : Nat, RowsT K H3 (List.replicate m [V.ref q]).flatten (List.replicate m (Mt.rangeZ n)) := fun m => by
      induction m with
      | zero => exact .nil
      | succ m ih => rw [List.replicate_succ, List.replicate_succ, List.flatten_cons]; exact .cons hr1 ih
    refine ⟨.ref e, _, rfl, ⟨e, _, rfl, he, by rw [Int.toNat_natCast]; exact rws n⟩, fun p H4 s4 f4 t4 => ?_⟩
    exact k p H4 (((s1.trans s2).trans s3).trans s4) (((s1.trans s2).trans s3).free f4) t4
end
end Fo
set_option maxRecDepth 100000
set_option maxHeartbeats 4000000
namespace Mt
theorem row_full {n p : Nat} (hp : p < n) : row (fullR n) p = rangeZ n := row_get (by unfold fullR; rw [List.getElem?_replicate, if_pos hp])
theorem mem_rangeZ {n : Nat} {x : Int} : x ∈ rangeZ n ↔ 0 ≤ x ∧ x < (n : Int) := by
  unfold rangeZ
  rw [List.mem_map]
  constructor
  · rintro ⟨i, hi, rfl⟩
    have := List.mem_range.mp hi
    omega
  · intro h
    exact ⟨x.toNat, List.mem_range.mpr (by omega), by omega⟩
theorem ds_full {n : Nat} {E : List Int} : Ds (fullR n) E ↔ E.length = n ∧ (∀ x ∈ E, 0 ≤ x ∧ x < (n : Int)) ∧ E.Nodup := by
  have fl : (fullR n).length = n := List.length_replicate
  constructor
  · intro d
    refine ⟨by rw [d.len, fl], fun x hx => ?_, d.nd⟩
    obtain ⟨p, hp⟩ := List.mem_iff_getElem?.mp hx
    have pl := (List.getElem?_eq_some_iff.mp hp).1
    rw [d.len, fl] at pl
    have := d.tie p x hp
    rw [row_full pl] at this
    exact mem_rangeZ.mp this
  · rintro ⟨h1, h2, h3⟩
    refine ⟨by rw [h1, fl], fun p t hp => ?_, h3⟩
    have pl := (List.getElem?_eq_some_iff.mp hp).1
    rw [h1] at pl
    rw [row_full pl]
    exact mem_rangeZ.mpr (h2 t (List.mem_of_getElem? hp))
end Mt
set_option maxRecDepth 100000
set_option maxHeartbeats 4000000
namespace Fo
open PySem PySem.Spec PyProof.Rows L2
theorem asc_rangeG (n : Nat) : (Mt.rangeZ n).Pairwise (· < ·) := by
  unfold Mt.rangeZ
  exact List.pairwise_map.mpr (List.pairwise_lt_range.imp fun h => by omega)
theorem rowG_full {n p : Nat} (hp : p < n) : Mt.row (Mt.fullR n) p = Mt.rangeZ n := Mt.row_full hp
theorem lenG_full {n : Nat} : (Mt.fullR n).length = n := List.length_replicate
theorem good_rowsG {R : List (List Int)} {n : Nat} (h : 0 < n) (hl : R.length = n) (ha : ∀ p < n, (Mt.row R p).Pairwise (· < ·) ∧ ∀ t ∈ Mt.row R p, 0 ≤ t ∧ t < (n : Int)) : Good R := by
  have at_ : ∀ r ∈ R, ∃ p, p < n ∧ Mt.row R p = r := fun r hr => by
    obtain ⟨p, hp, e⟩ := List.getElem_of_mem hr
    exact ⟨p, by omega, Mt.row_get (by rw [List.getElem?_eq_getElem hp, e])⟩
  refine ⟨by omega, fun r hr => ?_, fun r hr x hx => ?_⟩
  · obtain ⟨p, hp, rfl⟩ := at_ r hr
    exact (ha p hp).1
  · obtain ⟨p, hp, rfl⟩ := at_ r hr
    rw [hl]
    exact (ha p hp).2 x hx
theorem good_fullG {n : Nat} (h : 0 < n) : Good (Mt.fullR n) := good_rowsG h lenG_full fun p hp => by
  rw [rowG_full hp]
  exact ⟨asc_rangeG n, fun t ht => Mt.mem_rangeZ.mp ht⟩
/-- everybody gets the thing so many further on -/
def shN (n k p : Nat) : Nat := if p + k < n then p + k else p + k - n
def shD (n k : Nat) : List Int := (List.range n).map fun p => ((shN n k p : Nat) : Int)
theorem shD_at {n k p : Nat} (hp : p < n) : (shD n k)[p]? = some ((shN n k p : Nat) : Int) := by
  unfold shD
  rw [List.getElem?_map, List.getElem?_range hp]
  rfl
theorem sh_ds {R : List (List Int)} {n k : Nat} (hl : R.length = n) (hk : k < n) (h : ∀ p < n, ((shN n k p : Nat) : Int) ∈ Mt.row R p) : Mt.Ds R (shD n k) := by
  have len : (shD n k).length = n := by unfold shD; rw [List.length_map, List.length_range]
  refine ⟨by rw [len, hl], fun p t e => ?_, ?_⟩
  · have hp : p < n := by rw [← len]; exact (List.getElem?_eq_some_iff.mp e).1
    rw [shD_at hp] at e
    rw [← Option.some.inj e]
    exact h p hp
  · unfold shD
    refine Mt.nodup_map List.nodup_range fun a ha b hb e => ?_
    have ha := List.mem_range.mp ha
    have hb := List.mem_range.mp hb
    have e : ((shN n k a : Nat) : Int) = ((shN n k b : Nat) : Int) := e
    unfold shN at e
    split at e <;> split at e <;> omega
end Fo
set_option maxRecDepth 100000
set_option maxHeartbeats 4000000
namespace Mt
theorem ok4n : ((up (2 ^ 4 - 1) 4 1).all fun R => okN R (2 ^ 4 - 1)) = true := by decide +kernel
theorem F4.okn {rows : Rows} (f : F4 rows) {S : List Nat} (h : S ∈ up (2 ^ rows.length - 1) rows.length 1) : okN S (2 ^ rows.length - 1) = true := by
  have hn : rows.length = 1 ∨ rows.length = 2 ∨ rows.length = 3 ∨ rows.length = 4 := by
    have h : ∀ n ∈ [1, 2, 3, 4], n = 1 ∨ n = 2 ∨ n = 3 ∨ n = 4 := by decide
    exact h _ f.hn
  rcases hn with e | e | e | e
  · rw [e] at h ⊢
    exact (Bool.and_eq_true_iff.mp (List.all_eq_true.mp ok1 S h)).2
  · rw [e] at h ⊢
    exact (Bool.and_eq_true_iff.mp (List.all_eq_true.mp ok2 S h)).2
  · rw [e] at h ⊢
    exact (Bool.and_eq_true_iff.mp (List.all_eq_true.mp ok3 S h)).2
  · rw [e] at h ⊢
    exact List.all_eq_true.mp ok4n S h
theorem ds_swap {rows : Rows} {D : List Int} {p q : Nat} {a b : Int} (d : Ds rows D) (hp : D[p]? = some a) (hq : D[q]? = some b) (h1 : b ∈ row rows p) (h2 : a ∈ row rows q) : ∃ E, Ds rows E ∧ E[p]? = some b := by
  refine ⟨D.map fun z => if z = a then b else if z = b then a else z, ⟨by rw [List.length_map]; exact d.len, fun i t e => ?_, ?_⟩, ?_⟩
  · rw [List.getElem?_map] at e
    obtain ⟨z, hz, rfl⟩ := Option.map_eq_some_iff.mp e
    have il := (List.getElem?_eq_some_iff.mp hz).1
    by_cases ea : z = a
    · rw [if_pos ea]
      have : i = p := (List.getElem?_inj il d.nd).mp (by rw [hz, hp, ea])
      rw [this]
      exact h1
    · rw [if_neg ea]
      by_cases eb : z = b
      · rw [if_pos eb]
        have : i = q := (List.getElem?_inj il d.nd).mp (by rw [hz, hq, eb])
        rw [this]
        exact h2
      · rw [if_neg eb]
        exact d.tie i z hz
  · refine nodup_map d.nd fun x _ y _ e => ?_
    by_cases xa : x = a <;> by_cases ya : y = a <;> by_cases xb : x = b <;> by_cases yb : y = b <;> simp_all
  · rw [List.getElem?_map, hp]
    show some (if a = a then b else _) = some b
    rw [if_pos rfl]
theorem live_row {rows : Rows} {p q : Nat} {t : Int} (hp : p < rows.length) (hq : q < rows.length) (e : row rows p = row rows q) (h : Live rows p t) : Live rows q t := by
  obtain ⟨D, d, h⟩ := h
  obtain ⟨u, hu, m⟩ := d.get hq
  exact ds_swap d hu h (by rw [← e]; exact d.tie p t h) (by rw [e]; exact m)
/-- whoever may get one of what somebody has live gets all of it -/
def WhR (rows : Rows) : Prop := ∀ p b c, Live rows p b → Live rows p c → ∀ r ∈ rows, b ∈ r ↔ c ∈ r
theorem F4.wh {rows : Rows} (f : F4 rows) {S : List Nat} (pm : S.Perm (rows.map mkR)) : whB S (2 ^ rows.length - 1) = true ↔ WhR rows := by
  unfold whB
  rw [List.all_eq_true]
  have lvtie : ∀ {p t}, Live rows p t → p < rows.length ∧ t ∈ row rows p := fun {p t} ⟨D, d, e⟩ => ⟨row_lt (d.tie p t e), d.tie p t e⟩
  have B : ∀ b ∈ bts, ∀ c ∈ bts, (S.all fun r => Nat.beq (Nat.land r b) 0 == Nat.beq (Nat.land r c) 0) = true ↔ ∀ r ∈ rows, tb b ∈ r ↔ tb c ∈ r := fun b hb c hc => by
    rw [List.all_eq_true]
    have q : ∀ r : List Int, ((!decide (tb b ∈ r)) == (!decide (tb c ∈ r))) = true ↔ (tb b ∈ r ↔ tb c ∈ r) := fun r => by
      by_cases h1 : tb b ∈ r <;> by_cases h2 : tb c ∈ r <;> simp [h1, h2]
    constructor
    · intro h r hr
      have := h (mkR r) ((F4.mem pm).mpr ⟨r, hr, rfl⟩)
      rw [mkR_bit r b hb, mkR_bit r c hc] at this
      exact (q r).mp this
    · intro h x hx
      obtain ⟨r, hr, rfl⟩ := (F4.mem pm).mp hx
      rw [mkR_bit r b hb, mkR_bit r c hc]
      exact (q r).mpr (h r hr)
  constructor
  · intro h p b c lb lc
    obtain ⟨hp, tb1⟩ := lvtie lb
    have tc1 := (lvtie lc).2
    have big : ∀ t ∈ row rows p, ∃ b ∈ bts, tb b = t := fun t ht => by
      have := f.rng _ (f.rw_ hp) t ht
      have := f.le
      exact bitOf4 (by omega) (by omega)
    obtain ⟨b, hb, rfl⟩ := big b tb1
    obtain ⟨c, hc, rfl⟩ := big c tc1
    have hx : mkR (row rows p) ∈ S := (F4.mem pm).mpr ⟨_, f.rw_ hp, rfl⟩
    obtain ⟨l, hl⟩ := hds_of hx
    obtain ⟨p', hp', er, lv⟩ := f.first pm hl true
    rw [f.back (f.rw_ hp)] at er lv
    have q := h _ hl
    rw [List.all_eq_true] at q
    have q := q b hb
    rw [List.all_eq_true] at q
    have q := q c hc
    have n1 : Nat.beq (Nat.land (mkR (row rows p)) b) 0 = false := by rw [mkR_bit _ b hb, decide_eq_true tb1]; rfl
    have n2 : Nat.beq (Nat.land (mkR (row rows p)) c) 0 = false := by rw [mkR_bit _ c hc, decide_eq_true tc1]; rfl
    have nb : ∀ {x : Nat}, x ≠ 0 → Nat.beq x 0 = false := fun {x} n => by
      cases z : Nat.beq x 0 with
      | false => rfl
      | true => exact absurd (Nat.eq_of_beq_eq_true z) n
    have n3 := nb ((lv b hb tb1).mpr (live_row hp hp' er.symm lb))
    have n4 := nb ((lv c hc tc1).mpr (live_row hp hp' er.symm lc))
    have q : ((((Nat.beq (Nat.land (mkR (row rows p)) b) 0 || Nat.beq (Nat.land (mkR (row rows p)) c) 0) || Nat.beq (al true l (Nat.sub (2 ^ rows.length - 1) b)) 0) || Nat.beq (al true l (Nat.sub (2 ^ rows.length - 1) c)) 0) || S.all fun r => Nat.beq (Nat.land r b) 0 == Nat.beq (Nat.land r c) 0) = true := q
    rw [n1, n2, n3, n4] at q
    exact (B b hb c hc).mp q
  · intro h ⟨x, l⟩ hq
    rw [List.all_eq_true]
    intro b hb
    rw [List.all_eq_true]
    intro c hc
    obtain ⟨p, hp, er, hl⟩ := f.first pm hq true
    show ((((Nat.beq (Nat.land x b) 0 || Nat.beq (Nat.land x c) 0) || Nat.beq (al true l (Nat.sub (2 ^ rows.length - 1) b)) 0) || Nat.beq (al true l (Nat.sub (2 ^ rows.length - 1) c)) 0) || S.all fun r => Nat.beq (Nat.land r b) 0 == Nat.beq (Nat.land r c) 0) = true
    cases z1 : Nat.beq (Nat.land x b) 0 with
    | true => rfl
    | false =>
      cases z2 : Nat.beq (Nat.land x c) 0 with
      | true => rfl
      | false =>
        cases z3 : Nat.beq (al true l (Nat.sub (2 ^ rows.length - 1) b)) 0 with
        | true => rfl
        | false =>
          cases z4 : Nat.beq (al true l (Nat.sub (2 ^ rows.length - 1) c)) 0 with
          | true => rfl
          | false =>
            have n3 : al true l (Nat.sub (2 ^ rows.length - 1) b) ≠ 0 := fun z => by rw [z] at z3; exact absurd z3 (by decide)
            have n4 : al true l (Nat.sub (2 ^ rows.length - 1) c) ≠ 0 := fun z => by rw [z] at z4; exact absurd z4 (by decide)
            exact (B b hb c hc).mpr (h p (tb b) (tb c) ((hl b hb ((bit_mR hb).mp z1)).mp n3) ((hl c hc ((bit_mR hc).mp z2)).mp n4))
theorem F4.anew {rows : Rows} (f : F4 rows) {D : List Int} (d : Ds rows D) : (∀ tn, Turn rows tn → AlkG (chB true) (tR rows tn)) ↔ WhR rows := by
  have ne : ∀ r ∈ rows, r ≠ [] := fun r hr z => by
    obtain ⟨p, hp, e⟩ := List.getElem_of_mem hr
    obtain ⟨t, _, ht⟩ := d.get hp
    rw [row_get (List.getElem?_eq_getElem hp), e, z] at ht
    cases ht
  obtain ⟨S, hS, pm⟩ := f.sorted ne
  have ok := f.okn hS
  unfold okN at ok
  rw [← f.ev pm true, ← f.wh pm]
  have n0 : Nat.beq (al true S (2 ^ rows.length - 1)) 0 = false := by
    cases z : Nat.beq (al true S (2 ^ rows.length - 1)) 0 with
    | false => rfl
    | true =>
      have s := al_spec true S (2 ^ rows.length - 1) (f.small pm) (a16 _ f.hn)
      obtain ⟨tn, ht, e⟩ := f.turn pm
      rw [e] at s
      exact absurd (ht.ds d) (s.no (Nat.eq_of_beq_eq_true z) _)
  rw [n0, Bool.false_or, beq_iff_eq] at ok
  rw [ok]
end Mt
set_option maxRecDepth 100000
set_option maxHeartbeats 4000000
namespace Fo
open PySem PySem.Spec PyProof.Rows L2
abbrev s_check_custom : Stmt := top 16
abbrev n_check_custom : List Str := ["customs", "custom"]
theorem sc_check_custom : FnScope n_check_custom ["customs", "custom"] (defScope s_check_custom) := ⟨rfl, rfl, rfl, by decide +kernel, rfl, by decide +kernel, by decide +kernel⟩
abbrev s_is_all_or_nothing : Stmt := top 47
abbrev n_is_all_or_nothing : List Str := ["table", "things", "row", "thing"]
theorem sc_is_all_or_nothing : FnScope n_is_all_or_nothing ["table", "things"] (defScope s_is_all_or_nothing) := ⟨rfl, rfl, rfl, by decide +kernel, rfl, by decide +kernel, by decide +kernel⟩
abbrev s_always_even : Stmt := top 46
abbrev n_always_even : List Str := ["table", "custom", "_", "things"]
theorem sc_always_even : FnScope n_always_even ["table", "custom"] (defScope s_always_even) := ⟨rfl, rfl, rfl, by decide +kernel, rfl, by decide +kernel, by decide +kernel⟩
abbrev s_law_all_or_none : Stmt := top 64
abbrev n_law_all_or_none : List Str := ["rows", "told", "people", "things", "row", "thing"]
theorem sc_law_all_or_none : FnScope n_law_all_or_none ["rows", "told"] (defScope s_law_all_or_none) := ⟨rfl, rfl, rfl, by decide +kernel, rfl, by decide +kernel, by decide +kernel⟩
theorem all_take {α : Type} {l : List α} {j : Nat} {a : α} (h : l[j]? = some a) {p : α → Prop} : (∀ x ∈ l.take (j + 1), p x) ↔ (∀ x ∈ l.take j, p x) ∧ p a := by
  rw [List.take_add_one, h]
  constructor
  · intro q
    exact ⟨fun x hx => q x (List.mem_append_left _ hx), q a (List.mem_append_right _ (List.mem_singleton.mpr rfl))⟩
  · rintro ⟨q1, q2⟩ x hx
    rcases List.mem_append.mp hx with hx | hx
    · exact q1 x hx
    · rw [List.mem_singleton.mp hx]
      exact q2
theorem togQ {r T : List Int} : ((T.filter fun t => decide (t ∈ r)).length = 0 ∨ (T.filter fun t => decide (t ∈ r)).length = T.length) ↔ ∀ b ∈ T, ∀ c ∈ T, (b ∈ r ↔ c ∈ r) := by
  constructor
  · rintro (h | h) b hb c hc
    · have h := List.filter_eq_nil_iff.mp (List.length_eq_zero_iff.mp h)
      have h1 := h b hb
      have h2 := h c hc
      rw [decide_eq_true_iff] at h1 h2
      exact ⟨fun z => absurd z h1, fun z => absurd z h2⟩
    · have h := List.length_filter_eq_length_iff.mp h
      exact ⟨fun _ => of_decide_eq_true (h c hc), fun _ => of_decide_eq_true (h b hb)⟩
  · intro h
    by_cases e : ∃ t ∈ T, t ∈ r
    · obtain ⟨t, ht, e⟩ := e
      exact .inr (List.length_filter_eq_length_iff.mpr fun c hc => decide_eq_true ((h t ht c hc).mp e))
    · refine .inl (List.length_eq_zero_iff.mpr (List.filter_eq_nil_iff.mpr fun c hc => ?_))
      rw [decide_eq_true_iff]
      exact fun z => e ⟨c, hc, z⟩
theorem togP {r T : List Int} (hr : r.Nodup) (hT : T.Nodup) : (r.filter fun t => decide (t ∈ T)).length = (T.filter fun t => decide (t ∈ r)).length :=
  Mt.len_eq_of (hr.filter _) (hT.filter _) fun t => by
    rw [List.mem_filter, List.mem_filter, decide_eq_true_iff, decide_eq_true_iff]
    exact ⟨fun h => ⟨h.2, h.1⟩, fun h => ⟨h.2, h.1⟩⟩
/-- who may get one of these things gets them all -/
def Tog (rows : List (List Int)) (T : List Int) : Prop := ∀ r ∈ rows, ∀ b ∈ T, ∀ c ∈ T, (b ∈ r ↔ c ∈ r)
theorem wh_near {rows : List (List Int)} (G : Good rows) {F : List (List Nat)} (hF : Mt.Groups (Mt.liveR rows) F) (wh : Mt.WhR rows) {g : List Nat} (hg : g ∈ F) : Tog rows (thgR rows g) := by
  intro r hr b hb c hc
  obtain ⟨p, hp, lb⟩ := (mem_thgR G).mp hb
  obtain ⟨q, hq, lc⟩ := (mem_thgR G).mp hc
  have key : ∀ q, Mt.Conn (Mt.liveR rows) p q → ∀ c ∈ Mt.row (Mt.liveR rows) q, (b ∈ r ↔ c ∈ r) := fun q cn => by
    induction cn with
    | refl => exact fun c hc => wh p b c (Mt.mem_liveR.mp lb) (Mt.mem_liveR.mp hc) r hr
    | step cn ht ih =>
      obtain ⟨t, t1, t2⟩ := ht
      exact fun c hc => (ih t t1).trans (wh _ t c (Mt.mem_liveR.mp t2) (Mt.mem_liveR.mp hc) r hr)
  exact key q (hF.conn g hg p hp q hq) c lc
theorem tog_wh {rows : List (List Int)} (G : Good rows) {F : List (List Nat)} (hF : Mt.Groups (Mt.liveR rows) F) : (∀ g ∈ F, Tog rows (thgR rows g)) ↔ Mt.WhR rows := by
  constructor
  · intro h p b c lb lc r hr
    have hp : p < rows.length := by
      obtain ⟨D, d, e⟩ := lb
      exact Mt.row_lt (d.tie p b e)
    obtain ⟨g, hg, hpg⟩ := List.mem_flatten.mp (hF.perm.mem_iff.mpr (List.mem_range.mpr (by rw [Mt.liveR_len]; exact hp)))
    exact h g hg r hr b ((mem_thgR G).mpr ⟨p, hpg, Mt.mem_liveR.mpr lb⟩) c ((mem_thgR G).mpr ⟨p, hpg, Mt.mem_liveR.mpr lc⟩)
  · exact fun wh g hg => wh_near G hF wh hg
theorem wh_full {rows : List (List Int)} (G : Good rows) {D : List Int} (d : Mt.Ds rows D) {F : List (List Nat)} (hF : Mt.Groups (Mt.liveR rows) F) (wh : Mt.WhR rows) {g : List Nat} (hg : g ∈ F) : kindS (Mt.liveR rows) g = "full" := by
  unfold kindS
  rw [if_pos]
  unfold fullG
  refine List.all_eq_true.mpr fun p hp => decide_eq_true ?_
  have nd0 : ∀ p, (Mt.row (Mt.liveR rows) p).Nodup := fun p => (live_asc G p).imp fun {a b} h => by omega
  have ndT : (thgR rows g).Nodup := thgR_asc.imp fun {a b} z e => by omega
  have pl : p < rows.length := by have := hF.lt hg hp; rw [Mt.liveR_len] at this; exact this
  rw [← thg_lenA G d hF hg]
  refine Mt.len_eq_of (nd0 p) ndT fun t => ⟨fun ht => (mem_thgR G).mpr ⟨p, hp, ht⟩, fun ht => ?_⟩
  have tg := wh_near G hF wh hg
  have inR : ∀ {p}, p < rows.length → Mt.row rows p ∈ rows := fun {p} hp => by
    rw [Mt.row_get (List.getElem?_eq_getElem hp)]
    exact List.getElem_mem hp
  obtain ⟨q, hq, lt⟩ := (mem_thgR G).mp ht
  obtain ⟨E, dE, eE⟩ := Mt.mem_liveR.mp lt
  obtain ⟨u, hu, mu⟩ := dE.get pl
  have lu : u ∈ Mt.row (Mt.liveR rows) p := Mt.mem_liveR.mpr ⟨E, dE, hu⟩
  have hu2 := (mem_thgR G).mpr ⟨p, hp, lu⟩
  have ql : q < rows.length := Mt.row_lt (dE.tie q t eE)
  obtain ⟨E', d', e'⟩ := Mt.ds_swap dE hu eE ((tg _ (inR pl) u hu2 t ht).mp mu) ((tg _ (inR ql) u hu2 t ht).mpr (dE.tie q t eE))
  exact Mt.mem_liveR.mpr ⟨E', d', e'⟩
def cusA : List V := [.str "ahead", .str "anew"]
structure CusA (K : PySem.W.Frag) (mg : Str → Option Value) (cu : Addr) : Prop where
  g : mg "ALWAYS_CUSTOMS" = some (.ref cu)
  t : ∀ H, SqT K H cu cusA
theorem cusA_mk {K : PySem.W.Frag} {mg : Str → Option Value} {cu : Addr} {od : Option Addr} {n : Nat} {sl : Array (Option Value)} {t0 t1 : Tok} (g : mg "ALWAYS_CUSTOMS" = some (.ref cu)) (l : K.lookup cu = some ⟨.type "tuple", od, .seq #[.str "ahead" t0, .str "anew" t1] n, sl⟩) : CusA K mg cu := ⟨g, fun H => .inr ⟨_, _, _, l, rfl, rfl, by show 2 ≤ sizeLine; decide, .cons ⟨_, rfl⟩ (.cons ⟨_, rfl⟩ .nil)⟩⟩
section
variable {P : Program} {w : World} {K : PySem.W.Frag} {mg : Str → Option Value} {base : Heap} {C : Addr}
def spCkCuA (K : PySem.W.Frag) : Sp := fun vs H Q _ => ∃ (cu : Addr) (z : Str), vs = [.ref cu, .str z] ∧ SqT K H cu cusA ∧ (z = "ahead" ∨ z = "anew") ∧ ∀ H', Same H H' → Q .non H'
theorem ok_check_customA (A : At K mg "check_custom" s_check_custom ["customs", "custom"]) (T : Tx mg) : Dfn P w K mg base "check_custom" ["customs", "custom"] 1 (spCkCuA K) := by
  refine A.ok sc_check_custom (fun vs H Q E h => ?_) (fun f cdv A outer s H vs Q E hr h => ?_)
  · obtain ⟨_, _, rfl, _⟩ := h
    rfl
  · obtain ⟨cu, z, rfl, hc, hz, k⟩ := h
    refine ⟨_, (pss_one (ps_if (PW.pt (pw_or (pt_not (pt_val (pe_callB call_isi (by rfl) T.isinstance (by decide +kernel) (pa_cons (pv 1) (pa_cons (pe_bltn (v := V.ty "str") (by rfl) T.str (by decide +kernel) rfl) pa_nil))))) (pw_or1 (pt_cmpR op_notIn_seq (pv 1) (pv 0) rfl)))) (pss_one ps_never) pss_nil)), ?_⟩
    refine ⟨_, rfl, .str z, .ty "str", .type "str", .type "str", true, rfl, .ty "str", .base (.str z), kit_ty (by decide +kernel), true, rfl, ?_⟩
    refine ⟨_, rfl, _, rfl, cu, _, rfl, .inr hc, rfl, by decide, ?_⟩
    rw [show (if true = true then !inV (V.str z) cusA else inV (V.str z) cusA) = false from by
      rcases hz with rfl | rfl <;> decide]
    exact ⟨_, rfl, k H (Same.refl H)⟩
theorem inV_kinds {L : List (List Int)} {F : List (List Nat)} : inV (V.str "other") ((F.map (kindS L)).map V.str) = true ↔ ∃ g ∈ F, kindS L g = "other" := by
  unfold inV
  rw [List.any_eq_true]
  constructor
  · rintro ⟨x, hx, h⟩
    obtain ⟨z, hz, rfl⟩ := List.mem_map.mp hx
    obtain ⟨g, hg, rfl⟩ := List.mem_map.mp hz
    refine ⟨g, hg, ?_⟩
    have h : decide (kindS L g = "other") = true := h
    exact of_decide_eq_true h
  · rintro ⟨g, hg, e⟩
    refine ⟨_, List.mem_map.mpr ⟨_, List.mem_map.mpr ⟨g, hg, rfl⟩, rfl⟩, ?_⟩
    rw [e]
    rfl
def aonB (T r : List Int) : Bool := decide ((T.filter fun t => decide (t ∈ r)).length = 0 ∨ (T.filter fun t => decide (t ∈ r)).length = T.length)
theorem aonB_iff {T r : List Int} : aonB T r = true ↔ ∀ b ∈ T, ∀ c ∈ T, (b ∈ r ↔ c ∈ r) := by
  unfold aonB
  rw [decide_eq_true_iff]
  exact togQ
theorem aonB_all {T : List Int} {rows : List (List Int)} : ((rows.map (aonB T)).all id = true) ↔ Tog rows T := by
  rw [List.all_eq_true]
  constructor
  · exact fun h r hr => aonB_iff.mp (h _ (List.mem_map.mpr ⟨r, hr, rfl⟩))
  · intro h x hx
    obtain ⟨r, hr, rfl⟩ := List.mem_map.mp hx
    exact aonB_iff.mpr (h r hr)
theorem inV_two {n m : Nat} : inV (V.int (n : Int)) [V.int 0, V.int (m : Int)] = decide (n = 0 ∨ n = m) := by
  have h := inV_ints (n : Int) [0, (m : Int)]
  refine h.trans (decide_eq_decide.mpr ?_)
  rw [List.mem_cons, List.mem_singleton]
  omega
def spAon (K : PySem.W.Frag) (C : Addr) : Sp := fun vs H Q _ => ∃ (x : V) (rows : List (List Int)) (a : Addr) (T : List Int), vs = [x, .ref a] ∧ TableAt K C H x rows ∧ Good rows ∧ rows.length ≤ 40 ∧ SqT K H a (T.map V.int) ∧ T.Nodup ∧ T.length ≤ 100 ∧ ∀ b H', Same H H' → (b = true ↔ Tog rows T) → Q (.bl b) H'
theorem ok_aon (A : At K mg "_is_all_or_nothing" s_is_all_or_nothing ["table", "things"]) (T : Tx mg) (tc : TC K C) : Dfn P w K mg base "_is_all_or_nothing" ["table", "things"] 1 (spAon K C) := by
  refine A.ok sc_is_all_or_nothing (fun vs H Q E h => ?_) (fun f cdv A outer s H vs Q E hr h => ?_)
  · obtain ⟨_, _, _, _, rfl, _⟩ := h
    rfl
  · obtain ⟨x, rows, a, T', rfl, tb, G, hn, ha, nd, hT, k⟩ := h
    refine ⟨_, (pss_one (ps_ret (pe_callB (cr_all rfl) (by rfl) T.all (by decide +kernel) (pa_cons (pe_lc (own := [("row", 2)]) (g := (gName 2)) (tt := tYes) (te := (tOp (rIn K false) (tCB (rLenS K) (tCons (tLc (iTup K (tVar 2)) (gName 3) (tTest (tOp (rIn K false) (tVar 3) (tVar 1))) (tVar 3) [3]) tNil)) (tTup (tCons (tC (V.int 0)) (tCons (tCB (rLenS K) (tCons (tVar 1) tNil)) tNil))))) (by rfl) sc_is_all_or_nothing.nd (pi_tup (pe_fld (pv 0) rfl)) (blkOk_by (own := [("row", 2)]) (N := n_is_all_or_nothing) (sc := (defScope s_is_all_or_nothing)) (by decide +kernel)) (fun _ _ _ _ _ => (pg_name (i := 2) sc_is_all_or_nothing.nd rfl (Or.inl rfl))) (fun _ _ _ _ _ => pts_nil) (fun _ _ _ _ _ => (pe_cmpR op_in_seq (pe_callB c_len (by rfl) T.len (by decide +kernel) (pa_cons (pe_lc (own := [("thing", 3)]) (g := (gName 3)) (tt := (tTest (tOp (rIn K false) (tVar 3) (tVar 1)))) (te := (tVar 3)) (by rfl) sc_is_all_or_nothing.nd (pi_tup (pv 2)) (blkOk_by (own := [("thing", 3)]) (N := n_is_all_or_nothing) (sc := (relabel (lcIn s_is_all_or_nothing [0] 0) (envA (defScope s_is_all_or_nothing)))) (by decide +kernel)) (fun _ _ _ _ _ => (pg_name (i := 3) sc_is_all_or_nothing.nd rfl (Or.inl rfl))) (fun _ _ _ _ _ => (pts_one (pt_cmpR op_in_seq (pv 3) (pv 1) rfl))) (fun _ _ _ _ _ => (pv 3))) pa_nil)) (pe_tup (pa_cons pe_int (pa_cons (pe_callB c_len (by rfl) T.len (by decide +kernel) (pa_cons (pv 1) pa_nil)) pa_nil))) rfl))) pa_nil)))), ?_⟩
    obtain ⟨p, dx, rv, rfl, hp, hR⟩ := id tb
    obtain ⟨ra, rvs, rfl, hra, hrb⟩ := id hR
    have vl := hrb.len
    have nb : ∀ {n : Nat}, n ≤ 100 → n < sizeLine := fun {n} h => Nat.lt_of_lt_of_le (show n < 4001 by omega) (by rw [sizeLine_eq]; decide)
    refine ⟨_, rfl, p, C, dx, _, .ref ra, rfl, hp, tc.cl, tc.nR, tf_rows _ _, ra, rfl, ⟨_, hra⟩, fun D hD => ?_⟩
    refine lc_tup (xs := rvs) (fun i H' => H' D = some (.lst (((rows.take i).map (aonB T')).map V.bl)) ∧ Same H H') ⟨upd_same, same_new hD⟩ (fun i H' _ p => sqT_same p.2 hra) ?_ ?_
    · rintro i y H1 hy ⟨h1, s1⟩
      have il : i < rows.length := by have := (List.getElem?_eq_some_iff.mp hy).1; omega
      obtain ⟨r, hr⟩ : ∃ r, rows[i]? = some r := ⟨_, List.getElem?_eq_getElem il⟩
      obtain ⟨q, hq1, hq2⟩ := hrb.get hr
      rw [hy] at hq1
      have ey : y = .ref q := Option.some.inj hq1
      subst ey
      have hq := sqT_same s1 hq2
      have rasc : r.Pairwise (· < ·) := G.asc r (List.mem_of_getElem? hr)
      have rl : r.length ≤ 40 := Nat.le_trans (G.row_len r (List.mem_of_getElem? hr)) hn
      refine ⟨rfl, _, rfl, q, rfl, ⟨_, hq⟩, fun E hE => ?_⟩
      refine lc_tup (xs := r.map V.int) (fun j H' => H' E = some (.lst (((r.take j).filter fun t => decide (t ∈ T')).map V.int)) ∧ Same H1 H') ⟨upd_same, same_new hE⟩ (fun j H' _ p => sqT_same p.2 hq) ?_ ?_
      · rintro j y H2 hy2 ⟨h2, s2⟩
        obtain ⟨t, ht, ey⟩ : ∃ t, r[j]? = some t ∧ V.int t = y := by
          rw [List.getElem?_map] at hy2
          exact Option.map_eq_some_iff.mp hy2
        subst ey
        refine ⟨rfl, _, rfl, _, rfl, a, _, rfl, .inr (sqT_same (s1.trans s2) ha), rfl, all_flat_ints _, _, rfl, ?_⟩
        show if inV (V.int t) (T'.map V.int) = true then _ else _
        rw [inV_ints, take_snocA ht, List.filter_append]
        by_cases hc : t ∈ T'
        · rw [decide_eq_true hc, show [t].filter (fun t => decide (t ∈ T')) = [t] from by rw [List.filter_cons_of_pos (by simpa using hc)]; rfl]
          refine ⟨_, rfl, _, h2, nb (by rw [List.length_map]; have := List.length_filter_le (fun t => decide (t ∈ T')) (r.take j); rw [List.length_take] at this; omega), ?_, same_mut s2 hE⟩
          rw [upd_same, List.map_append]
          rfl
        · rw [decide_eq_false hc, show [t].filter (fun t => decide (t ∈ T')) = [] from by rw [List.filter_cons_of_neg (by simpa using hc)]; rfl, List.append_nil]
          exact ⟨h2, s2⟩
      · rintro H2 ⟨h2, s2⟩
        rw [List.length_map, List.take_length] at h2
        refine ⟨E, _, rfl, .inl (SqL.of h2), ?_⟩
        refine ⟨_, rfl, a, _, rfl, .inr (sqT_same (s1.trans s2) ha), by show 2 ≤ sizeLine; decide, fun tp htp => ?_⟩
        have s3 := s2.trans (same_new (o := .tup [V.int 0, V.int ((T'.map V.int).length : Nat)]) htp)
        refine ⟨tp, _, rfl, .inr (SqT.of upd_same), rfl, rfl, ?_⟩
        refine ⟨_, s3 _ _ h1, nb (by rw [List.length_map, List.length_map, List.length_take]; omega), ?_, same_mut (s1.trans s3) hD⟩
        rw [upd_same, List.take_add_one, hr, List.map_append, List.map_append]
        have e : inV (V.int (((r.filter fun t => decide (t ∈ T')).map V.int).length : Nat)) [V.int 0, V.int ((T'.map V.int).length : Nat)] = aonB T' r := by
          rw [inV_two, List.length_map, List.length_map, togP (rasc.imp fun {a b} h => by omega) nd]
          rfl
        show some (HO.lst (_ ++ [V.bl (inV (V.int (((r.filter fun t => decide (t ∈ T')).map V.int).length : Nat)) [V.int 0, V.int ((T'.map V.int).length : Nat)])])) = _
        rw [e]
        rfl
    · rintro H1 ⟨h1, s1⟩
      rw [vl, List.take_length] at h1
      exact ⟨D, _, rfl, SqL.of h1, k _ H1 s1 aonB_all⟩
def spAevW (K : PySem.W.Frag) (C : Addr) : Sp := fun vs H Q _ => ∃ (x : V) (cu : Str) (rows : List (List Int)), vs = [x, .str cu] ∧ (cu = "ahead" ∨ cu = "anew") ∧ TableAt K C H x rows ∧ Good rows ∧ rows.length ≤ 40 ∧ (∃ D, Mt.Ds rows D) ∧ ∀ b H', Same H H' → (cu = "ahead" → (b = true ↔ Mt.NiceR (Mt.liveR rows))) → (cu = "anew" → (b = true ↔ Mt.WhR rows)) → Q (.bl b) H'
theorem ok_aevW {cu : Addr} (A : At K mg "always_even" s_always_even ["table", "custom"]) (T : Tx mg) (hcu : CusA K mg cu) (G_check_custom : Dfn P w K mg base "check_custom" ["customs", "custom"] 1 (spCkCuA K)) (G_piece_kinds : Dfn P w K mg base "piece_kinds" ["table"] 6 (spPkE K C)) (G_pieces : Dfn P w K mg base "pieces" ["table"] 6 (spPieces K C)) (G_is_all_or_nothing : Dfn P w K mg base "_is_all_or_nothing" ["table", "things"] 1 (spAon K C)) : Dfn P w K mg base "always_even" ["table", "custom"] 7 (spAevW K C) := by
  refine A.ok sc_always_even (fun vs H Q E h => ?_) (fun f cdv A outer s H vs Q E hr h => ?_)
  · obtain ⟨_, _, _, rfl, _⟩ := h
    rfl
  · obtain ⟨x, c, rows, rfl, hc, tb, G, hn, ⟨D, d⟩, k⟩ := h
    refine ⟨_, (pss_cons (ps_expr (pe_d G_check_custom (hr.mono (by decide)) (pa_cons (pe_glob (v := V.ref cu) (by rfl) hcu.g rfl) (pa_cons (pv 1) pa_nil))))
      (pss_cons (ps_if (pt_cmpR op_eq (pv 1) pe_str (nomark _)) (pss_one (ps_ret (pe_cmpR op_notIn_seq pe_str (pe_d G_piece_kinds (hr.mono (by decide)) (pa_cons (pv 0) pa_nil)) rfl))) pss_nil)
      (pss_one (ps_ret (pe_callB (cr_all rfl) (by rfl) T.all (by decide +kernel) (pa_cons (pe_lc (own := [("_", 2), ("things", 3)]) (g := (gTup K 2 (gCons (gName 2) (gCons (gName 3) gNil)))) (tt := tYes) (te := (tCall _ [] E0 (tCons (tVar 0) (tCons (tVar 3) tNil)))) (by rfl) sc_always_even.nd (pi_list (pe_d G_pieces (hr.mono (by decide)) (pa_cons (pv 0) pa_nil))) (blkOk_by (own := [("_", 2), ("things", 3)]) (N := n_always_even) (sc := (defScope s_always_even)) (by decide +kernel)) (fun _ _ _ _ _ => (pg_tup rfl (pgs_cons (pg_name (i := 2) sc_always_even.nd rfl (Or.inl rfl)) (pgs_cons (pg_name (i := 3) sc_always_even.nd rfl (Or.inl rfl)) pgs_nil)))) (fun _ _ _ _ _ => pts_nil) (fun _ _ _ _ _ => (pe_d G_is_all_or_nothing (hr.mono (by decide)) (pa_cons (pv 0) (pa_cons (pv 3) pa_nil))))) pa_nil)))))), ?_⟩
    refine ⟨_, rfl, cu, c, rfl, hcu.t _, hc, fun H1 s1 => ?_⟩
    refine ⟨_, rfl, rfl, _, rfl, ?_⟩
    refine ite2 (fun e => ?_) (fun e => ?_)
    · have e : V.str c = V.str "ahead" := of_decide_eq_true e
      injection e with e
      subst e
      refine ⟨_, rfl, x, rows, rfl, tb.same s1, G, hn, ⟨D, d⟩, fun F l H2 hF up s2 fl hl => ?_⟩
      refine ⟨l, _, rfl, .inl (SqL.of hl), rfl, ?_, ?_⟩
      · exact List.all_eq_true.mpr fun x hx => by
          obtain ⟨z, _, rfl⟩ := List.mem_map.mp hx
          rfl
      · refine k _ H2 (s1.trans s2) (fun _ => ?_) (fun e => absurd e (by decide))
        rw [← kinds_nice G d hF]
        show (!inV (V.str "other") ((F.map (kindS (Mt.liveR rows))).map V.str)) = true ↔ _
        rw [Bool.not_eq_true', ← Bool.not_eq_true, inV_kinds]
        exact ⟨fun z g hg q => z ⟨g, hg, q⟩, fun z ⟨g, hg, q⟩ => z g hg q⟩
    · have ec : c = "anew" := hc.resolve_left fun z => e (by rw [z]; exact decide_eq_true rfl)
      subst ec
      have tb1 := tb.same s1
      refine ⟨_, rfl, x, rows, rfl, tb1, G, hn, ⟨D, d⟩, fun F l ws H2 hF up s2 fl hl hw => ?_⟩
      have wl := hw.len
      rw [List.length_map] at wl
      have fn : F.length ≤ 40 := by have := hF.num; rw [Mt.liveR_len] at this; omega
      have nb : ∀ {n : Nat}, n ≤ 100 → n < sizeLine := fun {n} h => Nat.lt_of_lt_of_le (show n < 4001 by omega) (by rw [sizeLine_eq]; decide)
      have tb2 := tb1.same s2
      refine ⟨l, rfl, ⟨_, SqL.of hl⟩, fun D1 hD1 => ?_⟩
      refine lc_list (xs := ws) (fun i H' => ∃ bs : List Bool, H' D1 = some (.lst (bs.map V.bl)) ∧ bs.length = i ∧ (bs.all id = true ↔ ∀ g ∈ F.take i, Tog rows (thgR rows g)) ∧ Same H2 H') ⟨[], upd_same, rfl, ⟨fun _ g hg => absurd hg (by rw [List.take_zero]; exact List.not_mem_nil), fun _ => rfl⟩, same_new hD1⟩ (fun i H' _ hp => by obtain ⟨_, _, _, _, s⟩ := hp; exact SqL.of (s _ _ hl)) ?_ ?_
      · rintro i y H3 hy ⟨bs, h3, bl, hbs, s3⟩
        have il : i < F.length := by have := (List.getElem?_eq_some_iff.mp hy).1; omega
        obtain ⟨g, hg⟩ : ∃ g, F[i]? = some g := ⟨_, List.getElem?_eq_getElem il⟩
        obtain ⟨R, hR, at_⟩ := hw.get hy
        rw [List.getElem?_map, hg] at hR
        have hR : pieceR rows g = R := Option.some.inj hR
        subst hR
        have at3 := at_.same s3
        obtain ⟨pa, pvs, ey, hpa, hpb⟩ := at3
        subst ey
        obtain ⟨q0, e0, hq0⟩ := hpb.get (i := 0) rfl
        obtain ⟨q1, e1, hq1⟩ := hpb.get (i := 1) rfl
        have pl := hpb.len
        have epv : pvs = [.ref q0, .ref q1] := by
          match pvs, pl, e0, e1 with
          | [u, v], _, e0, e1 =>
            rw [Option.some.inj e0, Option.some.inj e1]
        subst epv
        have len100 : (thgR rows g).length ≤ 100 := by
          have gm := List.mem_of_getElem? hg
          rw [thg_lenA G d hF gm]
          have := Mt.len_le (hF.nd gm) (l2 := List.range rows.length) fun p hp => List.mem_range.mpr (by have := hF.lt gm hp; rw [Mt.liveR_len] at this; exact this)
          rw [List.length_range] at this
          omega
        refine ⟨pa, _, rfl, hpa, rfl, ?_⟩
        refine ⟨_, _, rfl, _, _, rfl, rfl, rfl, ?_⟩
        refine ⟨_, rfl, _, rfl, x, rows, q1, thgR rows g, rfl, tb2.same s3, G, hn, hq1, thgR_asc.imp fun {a b} z e => by omega, len100, fun b H4 s4 hb => ?_⟩
        refine ⟨_, s4 _ _ h3, nb (by rw [List.length_map]; omega), bs ++ [b], ?_, by rw [List.length_append, List.length_singleton, bl], ?_, same_mut (s3.trans s4) hD1⟩
        · rw [upd_same, List.map_append]
          rfl
        · rw [all_take hg, ← hbs, ← hb, List.all_append, Bool.and_eq_true]
          show (_ ∧ (id b && true) = true) ↔ _
          rw [Bool.and_true]
          exact Iff.rfl
      · rintro H3 ⟨bs, h3, bl, hbs, s3⟩
        rw [List.take_of_length_le (by omega)] at hbs
        exact ⟨D1, bs, rfl, SqL.of h3, k _ H3 (s1.trans (s2.trans s3)) (fun e => absurd e (by decide)) fun _ => hbs.trans (tog_wh G hF)⟩
def spLAon (K : PySem.W.Frag) : Sp := fun vs H Q _ => ∃ (rv : V) (l : Addr) (ws : List V) (rows : List (List Int)) (F : List (List Nat)), vs = [rv, .ref l] ∧ RowsAt K H rv rows ∧ Good rows ∧ rows.length ≤ 40 ∧ H l = some (.lst ws) ∧ PrsT K H ws (F.map (pieceR rows)) ∧ (∀ g ∈ F, (thgR rows g).length ≤ 100) ∧ ∀ b H', Same H H' → (b = true ↔ ∀ g ∈ F, Tog rows (thgR rows g)) → Q (.bl b) H'
theorem ok_laon (A : At K mg "_law_all_or_none" s_law_all_or_none ["rows", "told"]) (T : Tx mg) : Dfn P w K mg base "_law_all_or_none" ["rows", "told"] 1 (spLAon K) := by
  refine A.ok sc_law_all_or_none (fun vs H Q E h => ?_) (fun f cdv A outer s H vs Q E hr h => ?_)
  · obtain ⟨_, _, _, _, _, rfl, _⟩ := h
    rfl
  · obtain ⟨rv, l, ws, rows, F, rfl, hR, G, hn, hl, hw, hT, k⟩ := h
    refine ⟨_, (pss_cons (ps_for PassesOwn.never rfl (pi_list (pv 1)) (pg_tup rfl (pgs_cons (pg_name (i := 2) sc_law_all_or_none.nd rfl (Or.inl rfl)) (pgs_cons (pg_name (i := 3) sc_law_all_or_none.nd rfl (Or.inl rfl)) pgs_nil)))
      (pss_one (ps_for PassesOwn.never rfl (pi_tup (pv 0)) (pg_name (i := 4) sc_law_all_or_none.nd rfl (Or.inr rfl))
      (pss_one (ps_if (pt_cmpR op_notIn_seq (pe_callB c_len (by rfl) T.len (by decide +kernel) (pa_cons (pe_lc (own := [("thing", 5)]) (g := (gName 5)) (tt := (tTest (tOp (rIn K false) (tVar 5) (tVar 4)))) (te := (tVar 5)) (by rfl) sc_law_all_or_none.nd (pi_tup (pv 3)) (blkOk_by (own := [("thing", 5)]) (N := n_law_all_or_none) (sc := (defScope s_law_all_or_none)) (by decide +kernel)) (fun _ _ _ _ _ => (pg_name (i := 5) sc_law_all_or_none.nd rfl (Or.inl rfl))) (fun _ _ _ _ _ => (pts_one (pt_cmpR op_in_seq (pv 5) (pv 4) rfl))) (fun _ _ _ _ _ => (pv 5))) pa_nil)) (pe_lst (pa_cons pe_int (pa_cons (pe_callB c_len (by rfl) T.len (by decide +kernel) (pa_cons (pv 3) pa_nil)) pa_nil))) rfl) (pss_one (ps_ret pe_bl)) pss_nil)))))
      (pss_one (ps_ret pe_bl))), ?_⟩
    obtain ⟨ra, rvs, rfl, hra, hrb⟩ := id hR
    have vl := hrb.len
    have wl := hw.len
    rw [List.length_map] at wl
    have nb : ∀ {n : Nat}, n ≤ 100 → n < sizeLine := fun {n} h => Nat.lt_of_lt_of_le (show n < 4001 by omega) (by rw [sizeLine_eq]; decide)
    refine ⟨_, rfl, l, rfl, ⟨_, SqL.of hl⟩, for_list (xs := ws) (fun i σ' H' => (∃ x2 x3 x4 x5, σ' = [some (.ref ra), some (.ref l), x2, x3, x4, x5]) ∧ (∀ g ∈ F.take i, Tog rows (thgR rows g)) ∧ Same H H') ⟨⟨_, _, _, _, rfl⟩, fun g hg => absurd hg (by rw [List.take_zero]; exact List.not_mem_nil), Same.refl _⟩ (fun i σ' H' _ hp => SqL.of (hp.2.2 _ _ hl)) ?_ ?_⟩
    · rintro i y σ' H1 hy ⟨⟨x2, x3, x4, x5, rfl⟩, all, s1⟩
      have il : i < F.length := by have := (List.getElem?_eq_some_iff.mp hy).1; omega
      obtain ⟨g, hg⟩ : ∃ g, F[i]? = some g := ⟨_, List.getElem?_eq_getElem il⟩
      obtain ⟨R, hR2, at_⟩ := hw.get hy
      rw [List.getElem?_map, hg] at hR2
      have hR2 : pieceR rows g = R := Option.some.inj hR2
      subst hR2
      obtain ⟨pa, pvs, ey, hpa, hpb⟩ := at_.same s1
      subst ey
      obtain ⟨q0, e0, hq0⟩ := hpb.get (i := 0) rfl
      obtain ⟨q1, e1, hq1⟩ := hpb.get (i := 1) rfl
      have pl := hpb.len
      have epv : pvs = [.ref q0, .ref q1] := by
        match pvs, pl, e0, e1 with
        | [u, v], _, e0, e1 =>
          rw [Option.some.inj e0, Option.some.inj e1]
      subst epv
      obtain ⟨T', eT⟩ : ∃ T', T' = thgR rows g := ⟨_, rfl⟩
      have hq1 : SqT K H1 q1 (T'.map V.int) := by rw [eT]; exact hq1
      have lT : T'.length ≤ 100 := by rw [eT]; exact hT g (List.mem_of_getElem? hg)
      refine ⟨pa, _, rfl, hpa, rfl, ?_⟩
      refine ⟨_, _, rfl, _, _, rfl, rfl, ?_⟩
      refine ⟨_, rfl, ra, rfl, ⟨_, sqT_same s1 hra⟩, for_tup (xs := rvs) (fun j σ' H' => (∃ x4 x5, σ' = [some (.ref ra), some (.ref l), some (.ref q0), some (.ref q1), x4, x5]) ∧ (∀ r ∈ rows.take j, ∀ b ∈ T', ∀ c ∈ T', (b ∈ r ↔ c ∈ r)) ∧ Same H1 H') ⟨⟨_, _, rfl⟩, fun r hr => absurd hr (by rw [List.take_zero]; exact List.not_mem_nil), Same.refl _⟩ (fun j σ' H' _ hp => sqT_same (s1.trans hp.2.2) hra) ?_ ?_⟩
      · rintro j y σ' H2 hy2 ⟨⟨x4, x5, rfl⟩, all2, s2⟩
        have jl : j < rows.length := by have := (List.getElem?_eq_some_iff.mp hy2).1; omega
        obtain ⟨r, hr⟩ : ∃ r, rows[j]? = some r := ⟨_, List.getElem?_eq_getElem jl⟩
        obtain ⟨q, hqa, hqb⟩ := hrb.get hr
        rw [hy2] at hqa
        have ey : y = .ref q := Option.some.inj hqa
        subst ey
        have hq := sqT_same (s1.trans s2) hqb
        have ht := sqT_same s2 hq1
        have back : ∀ H3, Same H1 H3 → (∃ g ∈ F, ¬ Tog rows (thgR rows g)) → Q (.bl false) H3 := fun H3 s3 ⟨g, hg, n⟩ => k false H3 (s1.trans s3) ⟨(fun z => by cases z), fun z => absurd (z g hg) n⟩
        refine ⟨_, rfl, q1, rfl, ⟨_, ht⟩, fun E hE => ?_⟩
        refine lc_tup (xs := T'.map V.int) (fun m H' => H' E = some (.lst (((T'.take m).filter fun t => decide (t ∈ r)).map V.int)) ∧ Same H2 H') ⟨upd_same, same_new hE⟩ (fun m H' _ p => sqT_same p.2 ht) ?_ ?_
        · rintro m y H3 hy3 ⟨h3, s3⟩
          obtain ⟨t, ht3, ey⟩ : ∃ t, T'[m]? = some t ∧ V.int t = y := by
            rw [List.getElem?_map] at hy3
            exact Option.map_eq_some_iff.mp hy3
          subst ey
          refine ⟨rfl, _, rfl, _, rfl, q, _, rfl, .inr (sqT_same s3 hq), rfl, all_flat_ints _, _, rfl, ?_⟩
          show if inV (V.int t) (r.map V.int) = true then _ else _
          rw [inV_ints, take_snocA ht3, List.filter_append]
          by_cases hc : t ∈ r
          · rw [decide_eq_true hc, show [t].filter (fun t => decide (t ∈ r)) = [t] from by rw [List.filter_cons_of_pos (by simpa using hc)]; rfl]
            refine ⟨_, rfl, _, h3, nb (by rw [List.length_map]; have := List.length_filter_le (fun t => decide (t ∈ r)) (T'.take m); rw [List.length_take] at this; omega), ?_, same_mut s3 hE⟩
            rw [upd_same, List.map_append]
            rfl
          · rw [decide_eq_false hc, show [t].filter (fun t => decide (t ∈ r)) = [] from by rw [List.filter_cons_of_neg (by simpa using hc)]; rfl, List.append_nil]
            exact ⟨h3, s3⟩
        · rintro H3 ⟨h3, s3⟩
          rw [List.length_map, List.take_length] at h3
          refine ⟨E, _, rfl, .inl (SqL.of h3), ?_⟩
          refine ⟨_, rfl, q1, _, rfl, .inr (sqT_same s3 ht), by show 2 ≤ sizeLine; decide, fun tp htp => ?_⟩
          have s4 := s3.trans (same_new (o := .lst [V.int 0, V.int ((T'.map V.int).length : Nat)]) htp)
          refine ⟨tp, _, rfl, .inl (SqL.of upd_same), rfl, rfl, ?_⟩
          have e : inV (V.int (((T'.filter fun t => decide (t ∈ r)).map V.int).length : Nat)) [V.int 0, V.int ((T'.map V.int).length : Nat)] = aonB T' r := by
            rw [inV_two, List.length_map, List.length_map]
            rfl
          refine ⟨_, rfl, ?_⟩
          rw [e]
          have s24 := s2.trans s4
          refine ite2 (fun c => ?_) (fun c => ?_)
          · have c : (!aonB T' r) = true := c
            rw [Bool.not_eq_true'] at c
            refine back _ s24 ⟨g, List.mem_of_getElem? hg, fun z => ?_⟩
            have := (aonB_iff (T := T') (r := r)).mpr (by rw [eT]; exact z r (List.mem_of_getElem? hr))
            rw [c] at this
            cases this
          · have c : ¬ (!aonB T' r) = true := c
            rw [Bool.not_eq_true', Bool.not_eq_false] at c
            refine ⟨⟨_, _, rfl⟩, ?_, s24⟩
            rw [all_take hr]
            exact ⟨all2, aonB_iff.mp c⟩
      · rintro σ' H2 ⟨⟨x4, x5, rfl⟩, all2, s2⟩
        rw [List.take_of_length_le (by omega)] at all2
        refine ⟨⟨_, _, _, _, rfl⟩, ?_, s1.trans s2⟩
        rw [all_take hg]
        exact ⟨all, by rw [← eT]; exact all2⟩
    · rintro σ' H1 ⟨⟨x2, x3, x4, x5, rfl⟩, all, s1⟩
      rw [List.take_of_length_le (by omega)] at all
      exact k true H1 s1 ⟨fun _ => all, fun _ => rfl⟩
end
end Fo
set_option maxRecDepth 100000
set_option maxHeartbeats 4000000
namespace Fo
open PySem PySem.Spec PyProof.Rows L2
structure Gt (n p k : Nat) (R : List (List Int)) : Prop where
  n2 : 2 ≤ n
  pn : p < n
  k6 : k ≤ 6
  len : R.length = n + 6
  asc : ∀ q < n + 6, (Mt.row R q).Pairwise (· < ·)
  mem : ∀ q < n + 6, ∀ z, z ∈ Mt.row R q ↔ (q < n ∧ 0 ≤ z ∧ z < (n : Int)) ∨ (n ≤ q ∧ (n : Int) ≤ z ∧ z < (n : Int) + 6) ∨ (q = p ∧ (n : Int) ≤ z ∧ z < (n : Int) + k)
theorem Gt.good {n p k : Nat} {R : List (List Int)} (g : Gt n p k R) : Good R := good_rowsG (n := n + 6) (by omega) g.len fun q hq => ⟨g.asc q hq, fun t ht => by
  have := (g.mem q hq t).mp ht
  have := g.k6
  omega⟩
theorem Gt.ds {n p k : Nat} {R : List (List Int)} (g : Gt n p k R) : Mt.Ds R (shD (n + 6) 0) := sh_ds g.len (by omega) fun q hq => by
  rw [g.mem q hq]
  unfold shN
  rw [if_pos (by omega)]
  omega
theorem Gt.at_ {n p k : Nat} {R : List (List Int)} (g : Gt n p k R) {q : Nat} (hq : q < n + 6) : (shD (n + 6) 0)[q]? = some (q : Int) := by
  rw [shD_at hq]
  unfold shN
  rw [if_pos (by omega)]
  rfl
theorem Gt.live {n p k : Nat} {R : List (List Int)} (g : Gt n p k R) {q : Nat} {z : Int} : Mt.Live R q z ↔ (q < n ∧ 0 ≤ z ∧ z < (n : Int)) ∨ (n ≤ q ∧ q < n + 6 ∧ (n : Int) ≤ z ∧ z < (n : Int) + 6) := by
  constructor
  · rintro ⟨D, d, e⟩
    have ql : q < n + 6 := by rw [← g.len]; exact Mt.row_lt (d.tie q z e)
    have m := (g.mem q ql z).mp (d.tie q z e)
    have k6 := g.k6
    by_cases hq : q < n
    · by_cases hz : z < (n : Int)
      · omega
      · exfalso
        have dl : D.length = n + 6 := d.len.trans g.len
        have nd : (D.drop n).Nodup := d.nd.sublist (List.drop_sublist n D)
        have sub : ∀ x ∈ D.drop n, x ∈ (List.range 6).map fun (i : Nat) => (n : Int) + i := fun x hx => by
          obtain ⟨i, hi, ex⟩ := List.getElem_of_mem hx
          have i6 : i < 6 := by rw [List.length_drop] at hi; omega
          have ex2 : D[n + i]? = some x := by
            rw [← ex, List.getElem_drop]
            exact List.getElem?_eq_getElem _
          have := (g.mem (n + i) (by omega) x).mp (d.tie _ _ ex2)
          have pn := g.pn
          exact List.mem_map.mpr ⟨(x - n).toNat, List.mem_range.mpr (by omega), by omega⟩
        have all := Mt.all_in nd sub (by rw [List.length_map, List.length_range, List.length_drop]; omega) z (List.mem_map.mpr ⟨(z - n).toNat, List.mem_range.mpr (by omega), by omega⟩)
        obtain ⟨i, hi, ex⟩ := List.getElem_of_mem all
        have ex2 : D[n + i]? = some z := by
          rw [← ex, List.getElem_drop]
          exact List.getElem?_eq_getElem _
        have := (List.getElem?_inj (List.getElem?_eq_some_iff.mp e).1 d.nd).mp (e.trans ex2.symm)
        omega
    · have pn := g.pn
      omega
  · intro h
    obtain ⟨y, rfl⟩ : ∃ y : Nat, z = (y : Int) := ⟨z.toNat, by omega⟩
    have ql : q < n + 6 := by have := g.n2; omega
    have yl : y < n + 6 := by omega
    exact Mt.ds_swap g.ds (g.at_ ql) (g.at_ yl) ((g.mem q ql _).mpr (by omega)) ((g.mem y yl _).mpr (by omega))
theorem Gt.wh {n p k : Nat} {R : List (List Int)} (g : Gt n p k R) : Mt.WhR R ↔ k = 0 ∨ k = 6 := by
  have k6 := g.k6
  have pn := g.pn
  constructor
  · intro h
    refine Classical.byContradiction fun no => ?_
    have rp : Mt.row R p ∈ R := by
      rw [Mt.row_get (List.getElem?_eq_getElem (by have := g.len; omega))]
      exact List.getElem_mem _
    have := h n n ((n : Int) + 5) (g.live.mpr (by omega)) (g.live.mpr (by omega)) _ rp
    rw [g.mem p (by omega), g.mem p (by omega)] at this
    omega
  · intro h q b c lb lc r hr
    obtain ⟨i, hi, ei⟩ := List.getElem_of_mem hr
    have er : Mt.row R i = r := Mt.row_get (by rw [List.getElem?_eq_getElem hi, ei])
    have hi : i < n + 6 := by rw [← g.len]; exact hi
    rw [← er, g.mem i hi, g.mem i hi]
    have lb := g.live.mp lb
    have lc := g.live.mp lc
    rcases h with h | h <;> subst h <;> omega
theorem Gt.nice {n p k : Nat} {R : List (List Int)} (g : Gt n p k R) : Mt.NiceR (Mt.liveR R) := by
  rintro r hr s hs ⟨t, t1, t2⟩
  obtain ⟨q, hq, rfl⟩ := live_mem.mp hr
  obtain ⟨q', hq', rfl⟩ := live_mem.mp hs
  have l1 := g.live.mp (Mt.mem_liveR.mp t1)
  have l2 := g.live.mp (Mt.mem_liveR.mp t2)
  refine .inl (asc_ext (live_asc g.good q) (live_asc g.good q') fun x => ?_)
  rw [Mt.mem_liveR, Mt.mem_liveR]
  have := @Gt.live n p k R g q x
  have := @Gt.live n p k R g q' x
  constructor
  · intro z
    exact g.live.mpr (by have := g.live.mp z; omega)
  · intro z
    exact g.live.mpr (by have := g.live.mp z; omega)
theorem gt_start {n p : Nat} (n2 : 2 ≤ n) (pn : p < n) : Gt n p 0 (Mt.fullR n ++ shiftR (Mt.fullR n).length (Mt.fullR 6)) := by
  have sl : (shiftR (Mt.fullR n).length (Mt.fullR 6)).length = 6 := by unfold shiftR; rw [List.length_map]; exact lenG_full
  have fl : (Mt.fullR n).length = n := lenG_full
  have row1 : ∀ q < n, Mt.row (Mt.fullR n ++ shiftR (Mt.fullR n).length (Mt.fullR 6)) q = Mt.rangeZ n := fun q hq => Mt.row_get (by
    rw [List.getElem?_append_left (by omega)]
    unfold Mt.fullR
    rw [List.getElem?_replicate, if_pos hq])
  have row2 : ∀ q, n ≤ q → q < n + 6 → Mt.row (Mt.fullR n ++ shiftR (Mt.fullR n).length (Mt.fullR 6)) q = (Mt.rangeZ 6).map fun t => (n : Int) + t := fun q h1 h2 => Mt.row_get (by
    rw [List.getElem?_append_right (by omega), fl]
    unfold shiftR
    rw [List.getElem?_map]
    unfold Mt.fullR
    rw [List.getElem?_replicate, if_pos (by omega)]
    rfl)
  refine ⟨n2, pn, by omega, by rw [List.length_append, sl, fl], fun q hq => ?_, fun q hq z => ?_⟩
  · by_cases h : q < n
    · rw [row1 q h]
      exact asc_rangeG n
    · rw [row2 q (by omega) hq]
      exact List.pairwise_map.mpr ((asc_rangeG 6).imp fun h => by omega)
  · by_cases h : q < n
    · rw [row1 q h, Mt.mem_rangeZ]
      omega
    · rw [row2 q (by omega) hq, List.mem_map]
      constructor
      · rintro ⟨t, ht, rfl⟩
        have := Mt.mem_rangeZ.mp ht
        omega
      · intro h
        exact ⟨z - n, Mt.mem_rangeZ.mpr (by omega), by omega⟩
theorem Gt.put {n p k : Nat} {R : List (List Int)} (g : Gt n p k R) (hk : k < 6) {r r' : List Int} (hr : R[p]? = some r) (asc : r'.Pairwise (· < ·)) (hm : ∀ z, z ∈ r' ↔ z ∈ r ∨ z = (n : Int) + k) : Gt n p (k + 1) (R.set p r') := by
  have pl : p < R.length := by have := g.len; have := g.pn; omega
  refine ⟨g.n2, g.pn, by omega, by rw [List.length_set]; exact g.len, fun q hq => ?_, fun q hq z => ?_⟩
  · rw [Mt.row_set pl]
    split
    · exact asc
    · exact g.asc q hq
  · rw [Mt.row_set pl]
    by_cases e : q = p
    · have m := g.mem q hq z
      rw [if_pos e, hm]
      have : Mt.row R q = r := by rw [e]; exact Mt.row_get hr
      rw [this] at m
      rw [m]
      have := g.pn
      omega
    · rw [if_neg e, g.mem q hq]
      omega
end Fo
set_option maxRecDepth 100000
set_option maxHeartbeats 4000000
namespace Fo
open PySem PySem.Spec PyProof.Rows L2
abbrev s_law_flag : Stmt := top 51
abbrev n_law_flag : List Str := ["told", "due"]
theorem sc_law_flag : FnScope n_law_flag ["told", "due"] (defScope s_law_flag) := ⟨rfl, rfl, rfl, by decide +kernel, rfl, by decide +kernel, by decide +kernel⟩
abbrev s_law_alike : Stmt := top 62
abbrev n_law_alike : List Str := ["rows", "deals", "turn", "custom", "bottoms", "told"]
theorem sc_law_alike : FnScope n_law_alike ["rows", "deals", "turn", "custom"] (defScope s_law_alike) := ⟨rfl, rfl, rfl, by decide +kernel, rfl, by decide +kernel, by decide +kernel⟩
section
variable {P : Program} {w : World} {K : PySem.W.Frag} {mg : Str → Option Value} {base : Heap} {C : Addr}
def spFlag : Sp := fun vs H Q _ => ∃ (a b : Bool), vs = [.bl a, .bl b] ∧ Q (.bl (decide (a = b))) H
theorem ok_flag (A : At K mg "_law_flag" s_law_flag ["told", "due"]) (T : Tx mg) : Dfn P w K mg base "_law_flag" ["told", "due"] 1 spFlag := by
  refine A.ok sc_law_flag (fun vs H Q E h => ?_) (fun f cdv A outer s H vs Q E hr h => ?_)
  · obtain ⟨a, b, rfl, _⟩ := h
    rfl
  · obtain ⟨a, b, rfl, k⟩ := h
    refine ⟨_, (pss_one (ps_ret (pe_and (pe_callB call_isi (by rfl) T.isinstance (by decide +kernel) (pa_cons (pv 0) (pa_cons (pe_bltn (v := V.ty "bool") (by rfl) T.bool (by decide +kernel) rfl) pa_nil))) (pe_one (pe_cmpR op_eq (pv 0) (pv 1) (nomark _)))))), ?_⟩
    refine ⟨_, rfl, .bl a, .ty "bool", .type "bool", .type "bool", true, rfl, .ty "bool", .base (.bl a), kit_ty (by decide +kernel), true, rfl, ?_⟩
    have e : decide (V.bl a = V.bl b) = decide (a = b) := decide_eq_decide.mpr ⟨fun q => by injection q, fun q => by rw [q]⟩
    rw [← e] at k
    exact ⟨_, rfl, _, rfl, rfl, k⟩
def spAlk (K : PySem.W.Frag) : Sp := fun vs H Q _ => ∃ (rv : V) (dl a : Addr) (cu : Str) (ws : List V) (rows : List (List Int)) (tn : List Nat), vs = [rv, .ref dl, .ref a, .str cu] ∧ RowsAt K H rv rows ∧ Good rows ∧ rows.length ≤ 10 ∧ H dl = some (.lst ws) ∧ RowsT K H ws (Mt.deals rows) ∧ (Mt.deals rows).length ≤ 4000 ∧ SqT K H a (tn.map nV) ∧ Mt.Turn rows tn ∧ (∃ D, Mt.Ds rows D) ∧
  ∀ b H', Same H H' → (b = true ↔ ∀ D E, Mt.Ds rows D → Mt.Ds rows E → botR cu (Mt.tR rows tn) (Mt.tD D tn) rows.length = botR cu (Mt.tR rows tn) (Mt.tD E tn) rows.length) → Q (.bl b) H'
theorem ok_lalike (A : At K mg "_law_alike" s_law_alike ["rows", "deals", "turn", "custom"]) (T : Tx mg) (Tmax : mg "max" = none) (G_law_bottom : Dfn P w K mg base "_law_bottom" ["rows", "deals", "turn", "custom", "dealing"] 4 (spLBot K)) : Dfn P w K mg base "_law_alike" ["rows", "deals", "turn", "custom"] 5 (spAlk K) := by
  refine A.ok sc_law_alike (fun vs H Q E h => ?_) (fun f cdv A outer s H vs Q E hr h => ?_)
  · obtain ⟨_, _, _, _, _, _, _, rfl, _⟩ := h
    rfl
  · obtain ⟨rv, dl, a, cu, ws, rows, tn, rfl, hR, G, hn, hdl, hw, few, ha, ht, ⟨D0, d0⟩, k⟩ := h
    refine ⟨_, (pss_cons (ps_setLc (i := 4) (own := [("told", 5)]) (g := (gName 5)) (tt := tYes) (te := (tCall (spLBot K) [] E0 (tCons (tVar 0) (tCons (tVar 1) (tCons (tVar 2) (tCons (tVar 3) (tCons (tVar 5) tNil))))))) (by rfl) sc_law_alike.nd rfl rfl (sw_true rfl rfl rfl (by decide +kernel)) (pi_list (pv 1)) (blkOk_by (own := [("told", 5)]) (N := n_law_alike) (sc := (defScope s_law_alike)) (by decide +kernel)) (fun _ _ _ _ _ => (pg_name (i := 5) sc_law_alike.nd rfl (Or.inl rfl))) (fun _ _ _ _ _ => pts_nil) (fun _ _ _ _ _ => (pe_d G_law_bottom (hr.mono (by decide)) (pa_cons (pv 0) (pa_cons (pv 1) (pa_cons (pv 2) (pa_cons (pv 3) (pa_cons (pv 5) pa_nil))))))))
      (pss_one (ps_ret (pe_cmpR op_eq (pe_callB (cr_min rfl) (by rfl) T.min (by decide +kernel) (pa_cons (pv 4) pa_nil)) (pe_callB (cr_max rfl) (by rfl) Tmax (by decide +kernel) (pa_cons (pv 4) pa_nil)) (nomark _))))), ?_⟩
    have wl := hw.len
    obtain ⟨bs, ebs⟩ : ∃ bs, bs = (Mt.deals rows).map fun D => ((botR cu (Mt.tR rows tn) (Mt.tD D tn) rows.length : Nat) : Int) := ⟨_, rfl⟩
    refine ⟨_, rfl, dl, rfl, ⟨_, SqL.of hdl⟩, fun D1 hD1 => ?_⟩
    refine lc_list (xs := ws) (fun i H' => H' D1 = some (.lst ((bs.take i).map V.int)) ∧ Same H H') ⟨by rw [List.take_zero]; exact upd_same, same_new hD1⟩ (fun i H' _ hp => SqL.of (hp.2 _ _ hdl)) ?_ ?_
    · rintro i y H1 hy ⟨h1, s1⟩
      have il : i < (Mt.deals rows).length := by have := (List.getElem?_eq_some_iff.mp hy).1; omega
      obtain ⟨D, hD⟩ : ∃ D, (Mt.deals rows)[i]? = some D := ⟨_, List.getElem?_eq_getElem il⟩
      obtain ⟨e, he1, he2⟩ := hw.get hD
      rw [hy] at he1
      have ey : y = .ref e := Option.some.inj he1
      subst ey
      have d := (Mt.mem_deals D).mp (List.mem_of_getElem? hD)
      refine ⟨rfl, _, rfl, _, rfl, _, rfl, _, rfl, _, rfl, rv, dl, a, e, cu, ws, rows, tn, D, rfl, hR.same s1, G, by omega, s1 _ _ hdl, hw.same s1, few, sqT_same s1 ha, ht, sqT_same s1 he2, d, fun H2 s2 => ?_⟩
      refine ⟨_, s2 _ _ h1, Nat.lt_of_lt_of_le (show _ < 4001 by rw [List.length_map, List.length_take]; omega) (by rw [sizeLine_eq]; decide), ?_, same_mut (s1.trans s2) hD1⟩
      rw [upd_same, List.take_add_one, ebs, List.getElem?_map, hD, List.map_append]
      rfl
    · rintro H1 ⟨h1, s1⟩
      have bl : bs.length = (Mt.deals rows).length := by rw [ebs, List.length_map]
      rw [List.take_of_length_le (by omega)] at h1
      have pos : 0 < bs.length := by
        rw [bl]
        exact List.length_pos_of_mem ((Mt.mem_deals D0).mpr d0)
      refine ⟨_, rfl, D1, _, rfl, SqL.of h1, pos, fun lo hlo lo2 => ?_⟩
      refine ⟨_, rfl, D1, _, rfl, SqL.of h1, pos, fun hi hhi hi2 => ?_⟩
      have mem : ∀ {z}, z ∈ bs ↔ ∃ D, Mt.Ds rows D ∧ ((botR cu (Mt.tR rows tn) (Mt.tD D tn) rows.length : Nat) : Int) = z := fun {z} => by
        rw [ebs, List.mem_map]
        exact ⟨fun ⟨D, h, e⟩ => ⟨D, (Mt.mem_deals D).mp h, e⟩, fun ⟨D, h, e⟩ => ⟨D, (Mt.mem_deals D).mpr h, e⟩⟩
      refine ⟨rfl, k _ H1 s1 ?_⟩
      rw [decide_eq_true_iff]
      constructor
      · intro q D E d e
        have q : lo = hi := by injection q
        have a1 := lo2 _ (mem.mpr ⟨D, d, rfl⟩)
        have a2 := lo2 _ (mem.mpr ⟨E, e, rfl⟩)
        have b1 := hi2 _ (mem.mpr ⟨D, d, rfl⟩)
        have b2 := hi2 _ (mem.mpr ⟨E, e, rfl⟩)
        omega
      · intro h
        obtain ⟨D, d, e1⟩ := mem.mp hlo
        obtain ⟨E, e, e2⟩ := mem.mp hhi
        rw [← e1, ← e2, h D E d e]
end
end Fo
set_option maxRecDepth 100000
set_option maxHeartbeats 4000000
namespace Fo
open PySem PySem.Spec PyProof.Rows L2
abbrev s_law_turns : Stmt := top 63
abbrev n_law_turns : List Str := ["many", "found", "k", "longer", "turn", "person"]
theorem sc_law_turns : FnScope n_law_turns ["many"] (defScope s_law_turns) := ⟨rfl, rfl, rfl, by decide +kernel, rfl, by decide +kernel, by decide +kernel⟩
section
variable {P : Program} {w : World} {K : PySem.W.Frag} {mg : Str → Option Value} {base : Heap} {C : Addr}
/-- all turns: as the dealings where everybody may get all -/
def spTurns (K : PySem.W.Frag) : Sp := fun vs H Q _ => ∃ n : Nat, vs = [nV n] ∧ n ≤ 4 ∧
  ∀ l ws H', Same H H' → H l = none → H' l = some (.lst ws) → RowsT K H' ws (Mt.deals (Mt.fullR n)) → Q (.ref l) H'
theorem rangeZ_at {n l : Nat} (h : l < n) : (Mt.rangeZ n)[l]? = some (l : Int) := by
  unfold Mt.rangeZ
  rw [List.getElem?_map, List.getElem?_range h]
  rfl
theorem ok_turns (A : At K mg "_law_turns" s_law_turns ["many"]) (T : Tx mg) : Dfn P w K mg base "_law_turns" ["many"] 1 (spTurns K) := by
  refine A.ok sc_law_turns (fun vs H Q E h => ?_) (fun f cdv A outer s H vs Q E hr h => ?_)
  · obtain ⟨_, rfl, _⟩ := h
    rfl
  · obtain ⟨n, rfl, hn, k⟩ := h
    refine ⟨_, (pss_cons (ps_set (i := 1) sc_law_turns.nd rfl (Or.inl rfl) (pe_lst (pa_cons (pe_tup pa_nil) pa_nil)))
      (pss_cons (ps_for PassesOwn.never rfl (pi_range1 rfl T.range (pa_cons (pv 0) pa_nil)) (pg_name (i := 2) sc_law_turns.nd rfl (Or.inl rfl))
      (pss_cons (ps_set (i := 3) sc_law_turns.nd rfl (Or.inl rfl) (pe_lst pa_nil))
      (pss_cons (ps_for PassesOwn.never rfl (pi_list (pv 1)) (pg_name (i := 4) sc_law_turns.nd rfl (Or.inr rfl))
      (pss_one (ps_expr (pe_bm PySem.F.plainAttrs_list PySem.F.slot_list_extend PySem.F.type_list_extend mt_extend (pv 3) (pa_cons (pe_lc (own := [("person", 5)]) (g := (gName 5)) (tt := (tTest (tOp (rIn K true) (tVar 5) (tVar 4)))) (te := (tOp (rCatA K) (tVar 4) (tTup (tCons (tVar 5) tNil)))) (by rfl) sc_law_turns.nd (pi_range1 rfl T.range (pa_cons (pv 0) pa_nil)) (blkOk_by (own := [("person", 5)]) (N := n_law_turns) (sc := (defScope s_law_turns)) (by decide +kernel)) (fun _ _ _ _ _ => (pg_name (i := 5) sc_law_turns.nd rfl (Or.inl rfl))) (fun _ _ _ _ _ => (pts_one (pt_cmpR op_notIn_seq (pv 5) (pv 4) rfl))) (fun _ _ _ _ _ => (pe_op op_catA (pv 4) (pe_tup (pa_cons (pv 5) pa_nil))))) pa_nil)))))
      (pss_one (ps_set (i := 1) sc_law_turns.nd rfl (Or.inl rfl) (pv 3))))))
      (pss_one (ps_ret (pv 1))))), ?_⟩
    obtain ⟨r, er⟩ : ∃ r, r = Mt.rangeZ n := ⟨_, rfl⟩
    have rl : r.length = n := by rw [er]; unfold Mt.rangeZ; rw [List.length_map, List.length_range]
    obtain ⟨rows, erows⟩ : ∃ rows, rows = Mt.fullR n := ⟨_, rfl⟩
    have fl : rows.length = n := by rw [erows]; exact List.length_replicate
    have dl : ∀ i, (Mt.deals (rows.take i)).length ≤ 256 := fun i => by
      have h := deals_len (n := 4) (rows.take i) fun q hq => by
        have hq := List.mem_of_mem_take hq
        rw [erows] at hq
        rw [List.eq_of_mem_replicate hq, ← er, rl]
        exact hn
      refine Nat.le_trans h (Nat.le_trans (Nat.pow_le_pow_right (by decide) (show (rows.take i).length ≤ 4 by rw [List.length_take]; omega)) (by decide))
    refine ⟨by show 0 ≤ sizeLine; decide, fun t0 ht0 => ⟨by show 1 ≤ sizeLine; decide, fun f0 hf0 => ?_⟩⟩
    have s0 : Same H (upd H t0 (.tup [])) := same_new ht0
    have s1 := s0.trans (same_new (o := .lst [V.ref t0]) hf0)
    have r1 : RowsT K (upd (upd H t0 (.tup [])) f0 (.lst [V.ref t0])) [V.ref t0] [[]] := .cons (sqT_same (same_new hf0) (SqT.of upd_same)) .nil
    refine ⟨_, rfl, _, rfl, by omega, by omega, for_range (lo := 0) (n := ((n : Nat) : Int).toNat) (fun i σ' H' => ∃ x2 x3 x4 x5 f ws, σ' = [some (nV n), some (.ref f), x2, x3, x4, x5] ∧ H' f = some (.lst ws) ∧ RowsT K H' ws (Mt.deals (rows.take i)) ∧ Same H H' ∧ H f = none) ⟨_, _, _, _, f0, _, rfl, upd_same, r1, s1, s0.free hf0⟩ ?_ ?_⟩
    · rintro i σ' H1 hi ⟨x2, x3, x4, x5, f, ws, rfl, hf, hw, s2, ff⟩
      rw [Int.toNat_natCast] at hi
      have hri : rows[i]? = some r := by rw [erows, er]; unfold Mt.fullR; rw [List.getElem?_replicate, if_pos hi]
      refine ⟨by show 0 ≤ sizeLine; decide, fun g hg => ?_⟩
      have nfg : f ≠ g := ne_of_none hf hg
      have s3 := s2.trans (same_new (o := .lst []) hg)
      have fg : H g = none := s2.free hg
      have wl : ws.length = (Mt.deals (rows.take i)).length := hw.len
      have wb := dl i
      refine ⟨_, rfl, f, rfl, ⟨ws, SqL.of (by rw [upd_ne nfg]; exact hf)⟩, ?_⟩
      refine for_list (xs := ws) (fun j σ' H' => ∃ x4 x5 vs, σ' = [some (nV n), some (.ref f), some (.int (0 + (i : Int))), some (.ref g), x4, x5] ∧ H' f = some (.lst ws) ∧ RowsT K H' ws (Mt.deals (rows.take i)) ∧ H' g = some (.lst vs) ∧ RowsT K H' vs (Mt.ext ((Mt.deals (rows.take i)).take j) r) ∧ Same H H') ⟨_, _, [], rfl, by rw [upd_ne nfg]; exact hf, hw.same (same_new hg), upd_same, .nil, s3⟩ (fun j σ' H' _ hp => by obtain ⟨_, _, _, _, h, _⟩ := hp; exact SqL.of h) ?_ ?_
      · rintro j y σ' H2 hy ⟨x4', x5', vs, rfl, hf2, hw2, hg2, hv2, s4⟩
        have jl : j < (Mt.deals (rows.take i)).length := by have := (List.getElem?_eq_some_iff.mp hy).1; omega
        have hdj := List.getElem?_eq_getElem jl
        obtain ⟨d, ed⟩ : ∃ d, d = (Mt.deals (rows.take i))[j] := ⟨_, rfl⟩
        rw [← ed] at hdj
        obtain ⟨b, hb1, hb2⟩ := hw2.get hdj
        rw [hy] at hb1
        have ey : y = .ref b := Option.some.inj hb1
        subst ey
        have dlen : d.length ≤ 10 := by
          have hd := (Mt.mem_deals d).mp (List.mem_of_getElem? hdj)
          have := hd.len
          rw [List.length_take] at this
          omega
        have vb : vs.length ≤ 256 * 10 := by
          rw [hv2.len]
          have h1 := ext_len (n := 10) (r := r) (by omega) ((Mt.deals (rows.take i)).take j)
          rw [List.length_take] at h1
          have h2 : min j (Mt.deals (rows.take i)).length * 10 ≤ 256 * 10 := Nat.mul_le_mul_right 10 (by omega)
          omega
        refine ⟨_, rfl, .inl ⟨rfl, _, SqL.of hg2⟩, _, rfl, _, rfl, by omega, by omega, fun D hD => ?_⟩
        have nDg : g ≠ D := ne_of_none hg2 hD
        have nDf : f ≠ D := ne_of_none hf2 hD
        refine lc_range (lo := 0) (n := ((n : Nat) : Int).toNat) (fun l H' => ∃ us, H' D = some (.lst us) ∧ RowsT K H' us (((r.take l).filter fun t => decide (t ∉ d)).map fun t => d ++ [t]) ∧ Same H2 H') ⟨[], upd_same, .nil, same_new hD⟩ ?_ ?_
        · rintro l H3 hl ⟨us, hu, hur, s5⟩
          rw [Int.toNat_natCast] at hl
          rw [Int.zero_add (l : Int)]
          have ht : r[l]? = some (l : Int) := by rw [er]; exact rangeZ_at hl
          obtain ⟨t, et⟩ : ∃ t : Int, t = (l : Int) := ⟨_, rfl⟩
          rw [← et] at ht ⊢
          have ub : us.length ≤ 10 := by
            rw [hur.len, List.length_map]
            exact Nat.le_trans (List.length_filter_le _ _) (by rw [List.length_take]; omega)
          refine ⟨rfl, _, rfl, _, rfl, b, _, rfl, .inr (sqT_same s5 hb2), rfl, all_flat_ints _, _, rfl, ?_⟩
          show if (!inV (V.int t) (d.map V.int)) = true then _ else _
          rw [inV_ints]
          by_cases hc : t ∈ d
          · rw [show (!decide (t ∈ d)) = false from by rw [decide_eq_true hc]; rfl]
            refine ⟨us, hu, ?_, s5⟩
            rw [take_snocA ht, List.filter_append, show [t].filter (fun t => decide (t ∉ d)) = [] from by rw [List.filter_cons_of_neg (by simpa using hc)]; rfl, List.append_nil]
            exact hur
          · rw [show (!decide (t ∈ d)) = true from by rw [decide_eq_false hc]; rfl]
            refine ⟨_, rfl, _, rfl, by show 1 ≤ sizeLine; decide, fun o ho => ?_⟩
            have s6 : Same H3 (upd H3 o (.tup [V.int t])) := same_new ho
            refine catA (ys := [V.int t]) (sqT_same (s5.trans s6) hb2) (SqT.of upd_same) (by rw [List.length_map]; show d.length + 1 ≤ 100000; omega) fun c H4 s7 hcq => ?_
            have s67 := s6.trans s7
            refine ⟨us, s67 _ _ hu, small_lt (by omega), us ++ [.ref c], upd_same, ?_, same_mut (s5.trans s67) hD⟩
            rw [take_snocA ht, List.filter_append, show [t].filter (fun t => decide (t ∉ d)) = [t] from by rw [List.filter_cons_of_pos (by simpa using hc)]; rfl, List.map_append]
            have hc2 : SqT K H4 c ((d ++ [t]).map V.int) := by rw [List.map_append]; exact hcq
            exact RowsT.put (s67 _ _ hu) (RowsT.snoc hc2 (hur.same s67))
        · rintro H3 ⟨us, hu, hur, s5⟩
          rw [Int.toNat_natCast, List.take_of_length_le (by omega)] at hur
          have hg3 := s5 _ _ hg2
          have hf3 := s5 _ _ hf2
          have ub : us.length ≤ 10 := by
            rw [hur.len, List.length_map]
            exact Nat.le_trans (List.length_filter_le _ _) (by omega)
          have s45 := s4.trans s5
          have bigS : 256 * 10 + 10 ≤ sizeLine := by decide
          refine ⟨g, D, vs, us, rfl, rfl, hg3, hu, by omega, ?_⟩
          refine ⟨_, _, vs ++ us, rfl, by rw [upd_ne nfg]; exact hf3, RowsT.put hg3 (hw2.same s5), upd_same, ?_, same_mut s45 fg⟩
          rw [take_snocA hdj]
          have e : Mt.ext ((Mt.deals (rows.take i)).take j ++ [d]) r = Mt.ext ((Mt.deals (rows.take i)).take j) r ++ (r.filter fun t => decide (t ∉ d)).map fun t => d ++ [t] := by
            unfold Mt.ext
            rw [List.flatMap_append, List.flatMap_singleton]
          rw [e]
          exact RowsT.put hg3 ((hv2.same s5).app hur)
      · rintro σ' H2 ⟨x4', x5', vs, rfl, hf2, hw2, hg2, hv2, s4⟩
        rw [List.take_of_length_le (by omega)] at hv2
        refine ⟨_, rfl, _, _, _, _, g, vs, rfl, hg2, ?_, s4, fg⟩
        rw [take_snocA hri, Mt.deals_snoc]
        exact hv2
    · rintro σ' H1 ⟨x2, x3, x4, x5, f, ws, rfl, hf, hw, s2, ff⟩
      rw [Int.toNat_natCast, List.take_of_length_le (by omega)] at hw
      refine ⟨_, rfl, k f ws H1 s2 ff hf (by rw [← erows]; exact hw)⟩
/-- a turn as one of them -/
theorem turns_turn {rows : List (List Int)} {T : List Int} (h : T ∈ Mt.deals (Mt.fullR rows.length)) : ∃ tn : List Nat, T.map V.int = tn.map nV ∧ Mt.Turn rows tn := by
  obtain ⟨h1, h2, h3⟩ := Mt.ds_full.mp ((Mt.mem_deals T).mp h)
  have e : (T.map Int.toNat).map (fun (p : Nat) => (p : Int)) = T := by
    rw [List.map_map]
    refine (List.map_congr_left fun x hx => ?_ : _ = T.map id).trans (List.map_id T)
    have := h2 x hx
    show ((x.toNat : Nat) : Int) = x
    omega
  refine ⟨T.map Int.toNat, ?_, ⟨?_⟩⟩
  · rw [show ((T.map Int.toNat).map nV) = ((T.map Int.toNat).map (fun (p : Nat) => (p : Int))).map V.int from by rw [List.map_map (g := V.int)]; rfl, e]
  · have nd : (T.map Int.toNat).Nodup := Mt.nodup_map h3 fun a ha b hb e => by
      have := h2 a ha
      have := h2 b hb
      omega
    refine (List.perm_ext_iff_of_nodup nd List.nodup_range).mpr fun p => ?_
    rw [List.mem_range]
    constructor
    · intro hp
      obtain ⟨x, hx, rfl⟩ := List.mem_map.mp hp
      have := h2 x hx
      omega
    · intro hp
      have := Mt.all_in (l1 := T.map Int.toNat) (l2 := List.range rows.length) nd (fun x hx => by
        obtain ⟨y, hy, rfl⟩ := List.mem_map.mp hx
        have := h2 y hy
        exact List.mem_range.mpr (by omega)) (by rw [List.length_range, List.length_map, h1]; exact Nat.le_refl _)
      exact this p (List.mem_range.mpr hp)
theorem turn_turns {rows : List (List Int)} {tn : List Nat} (ht : Mt.Turn rows tn) : (tn.map fun (p : Nat) => (p : Int)) ∈ Mt.deals (Mt.fullR rows.length) := by
  refine (Mt.mem_deals _).mpr (Mt.ds_full.mpr ⟨by rw [List.length_map, ht.len], fun x hx => ?_, Mt.nodup_map ht.nd fun a _ b _ e => by omega⟩)
  obtain ⟨p, hp, rfl⟩ := List.mem_map.mp hx
  have := ht.lt hp
  omega
end
end Fo
set_option maxRecDepth 100000
set_option maxHeartbeats 4000000
namespace Fo
open PySem PySem.Spec PyProof.Rows L2
def dS (us : List Str) : PyData := .list (us.map PyData.str)
def IsKind (u : Str) : Prop := u = "full" ∨ u = "ring" ∨ u = "other"
theorem kind_cases (L : List (List Int)) (g : List Nat) : IsKind (kindS L g) := by
  unfold kindS
  split
  · exact .inl rfl
  · split
    · exact .inr (.inl rfl)
    · exact .inr (.inr rfl)
theorem lay_K : ∀ us : List Str, (∀ u ∈ us, IsKind u) → PyData.canLayAll0 (us.map PyData.str) = true
  | [], _ => by rw [List.map_nil, PyData.canLayAll0]
  | u :: us, h => by
    rw [List.map_cons, PyData.canLayAll0, lay_K us fun x hx => h x (List.mem_cons_of_mem _ hx), Bool.and_true]
    rcases h u List.mem_cons_self with e | e | e <;> rw [e] <;> decide +kernel
theorem dep_K : ∀ us : List Str, PyData.depthAll (us.map PyData.str) = 0
  | [] => by rw [List.map_nil, PyData.depthAll]
  | u :: us => by rw [List.map_cons, PyData.depthAll, dep_K us, PyData.depth]; rfl
theorem sh_K {us : List Str} (h : ∀ u ∈ us, IsKind u) : SeqAt.shaped (dS us) = true := by
  unfold dS SeqAt.shaped
  rw [PyData.canLay0, PyData.depth, lay_K us h, dep_K]
  rfl
theorem dpa_K {K : PySem.W.Frag} {H : Hp} : ∀ us : List Str, DpAll K H (us.map V.str) (us.map PyData.str)
  | [] => .nil
  | u :: us => .cons (.str _) (dpa_K us)
theorem dp_K {K : PySem.W.Frag} {H : Hp} {p : Addr} {us : List Str} (h : SqL K H p (us.map V.str)) : Dp K H (.ref p) (dS us) := .lst h (dpa_K us)
theorem eqvAll_K : ∀ xs ys : List Str, PyData.eqvAll (xs.map PyData.str) (ys.map PyData.str) = decide (xs = ys)
  | [], [] => by simp [PyData.eqvAll]
  | [], y :: ys => by simp [PyData.eqvAll]
  | x :: xs, [] => by simp [PyData.eqvAll]
  | x :: xs, y :: ys => by
    rw [List.map_cons, List.map_cons, PyData.eqvAll, PyData.eqv, eqvAll_K xs ys]
    by_cases a : x = y <;> by_cases b : xs = ys <;> simp [a, b]
theorem eqv_K (xs ys : List Str) : PyData.eqv (dS xs) (dS ys) = decide (xs = ys) := by
  unfold dS
  rw [PyData.eqv]
  exact eqvAll_K xs ys
end Fo
set_option maxRecDepth 100000
set_option maxHeartbeats 4000000
namespace Fo
open PySem PySem.Spec PyProof.Rows L2
abbrev s_check_person : Stmt := top 14
abbrev n_check_person : List Str := ["table", "person"]
theorem sc_check_person : FnScope n_check_person ["table", "person"] (defScope s_check_person) := ⟨rfl, rfl, rfl, by decide +kernel, rfl, by decide +kernel, by decide +kernel⟩
abbrev s_check_thing : Stmt := top 15
abbrev n_check_thing : List Str := ["table", "thing"]
theorem sc_check_thing : FnScope n_check_thing ["table", "thing"] (defScope s_check_thing) := ⟨rfl, rfl, rfl, by decide +kernel, rfl, by decide +kernel, by decide +kernel⟩
abbrev s_with_tie : Stmt := top 33
abbrev n_with_tie : List Str := ["table", "person", "thing", "row"]
theorem sc_with_tie : FnScope n_with_tie ["table", "person", "thing"] (defScope s_with_tie) := ⟨rfl, rfl, rfl, by decide +kernel, rfl, by decide +kernel, by decide +kernel⟩
abbrev s_with_row : Stmt := top 34
abbrev n_with_row : List Str := ["table", "person", "row"]
theorem sc_with_row : FnScope n_with_row ["table", "person", "row"] (defScope s_with_row) := ⟨rfl, rfl, rfl, by decide +kernel, rfl, by decide +kernel, by decide +kernel⟩
section
variable {P : Program} {w : World} {K : PySem.W.Frag} {mg : Str → Option Value} {base : Heap} {C : Addr}
def spCheckN (K : PySem.W.Frag) (C : Addr) : Sp := fun vs H Q _ => ∃ (x : V) (rows : List (List Int)) (i : Int), vs = [x, .int i] ∧ TableAt K C H x rows ∧ 0 ≤ i ∧ i < rows.length ∧ Q .non H
theorem num_true {b i : Int} (h0 : 0 ≤ i) (h1 : i < b) : numV b (.int i) = true := by
  show (decide (0 ≤ i) && decide (i < b)) = true
  rw [decide_eq_true h0, decide_eq_true h1]
  rfl
theorem ok_check_person (A : At K mg "check_person" s_check_person ["table", "person"]) (tc : TC K C) (G_is_number : Dfn P w K mg base "is_number" ["bound", "thing"] 2 (spNumber K C)) : Dfn P w K mg base "check_person" ["table", "person"] 3 (spCheckN K C) := by
  refine A.ok sc_check_person (fun vs H Q E h => ?_) (fun f cdv A outer s H vs Q E hr h => ?_)
  · obtain ⟨x, rows, i, rfl, _⟩ := h
    rfl
  · obtain ⟨x, rows, i, rfl, ⟨p, dx, v, rfl, hp, hR⟩, h0, h1, k⟩ := h
    refine ⟨_, (pss_one (ps_if (pt_not (pt_val (pe_d G_is_number (hr.mono (by decide)) (pa_cons (pe_fld (pv 0) rfl) (pa_cons (pv 1) pa_nil))))) (pss_one ps_never) pss_nil)), ?_⟩
    refine ⟨_, rfl, p, C, dx, _, _, rfl, hp, tc.cl, tc.nS, tf_size _ _, _, rfl, _, _, rfl, th_int, _, rfl, ?_⟩
    rw [num_true h0 h1]
    exact k
theorem ok_check_thing (A : At K mg "check_thing" s_check_thing ["table", "thing"]) (tc : TC K C) (G_is_number : Dfn P w K mg base "is_number" ["bound", "thing"] 2 (spNumber K C)) : Dfn P w K mg base "check_thing" ["table", "thing"] 3 (spCheckN K C) := by
  refine A.ok sc_check_thing (fun vs H Q E h => ?_) (fun f cdv A outer s H vs Q E hr h => ?_)
  · obtain ⟨x, rows, i, rfl, _⟩ := h
    rfl
  · obtain ⟨x, rows, i, rfl, ⟨p, dx, v, rfl, hp, hR⟩, h0, h1, k⟩ := h
    refine ⟨_, (pss_one (ps_if (pt_not (pt_val (pe_d G_is_number (hr.mono (by decide)) (pa_cons (pe_fld (pv 0) rfl) (pa_cons (pv 1) pa_nil))))) (pss_one ps_never) pss_nil)), ?_⟩
    refine ⟨_, rfl, p, C, dx, _, _, rfl, hp, tc.cl, tc.nS, tf_size _ _, _, rfl, _, _, rfl, th_int, _, rfl, ?_⟩
    rw [num_true h0 h1]
    exact k
def spWithRow (K : PySem.W.Frag) (C : Addr) : Sp := fun vs H Q _ => ∃ (x : V) (rows : List (List Int)) (i : Int) (q : Addr) (r : List Int), vs = [x, .int i, .ref q] ∧ TableAt K C H x rows ∧ rows.length ≤ 100 ∧ 0 ≤ i ∧ i < rows.length ∧ SqT K H q (r.map V.int) ∧ ∀ p H', Same H H' → H p = none → TableAt K C H' (.ref p) (rows.set i.toNat r) → Q (.ref p) H'
theorem ok_with_row (A : At K mg "_with_row" s_with_row ["table", "person", "row"]) (tc : TC K C) (G_table_of : Dfn P w K mg base "table_of" ["rows"] 8 (spTableOf K C)) : Dfn P w K mg base "_with_row" ["table", "person", "row"] 9 (spWithRow K C) := by
  refine A.ok sc_with_row (fun vs H Q E h => ?_) (fun f cdv A outer s H vs Q E hr h => ?_)
  · obtain ⟨x, rows, i, q, r, rfl, _⟩ := h
    rfl
  · obtain ⟨x, rows, i, q, r, rfl, ⟨p, dx, v, rfl, hp, ⟨a, vs, rfl, ha, hrs⟩⟩, hl, h0, h1, hq, k⟩ := h
    have vl := hrs.len
    have hn : i.toNat < vs.length := by omega
    have ei : i = ((i.toNat : Nat) : Int) := by omega
    refine ⟨_, (pss_one (ps_ret (pe_d G_table_of (hr.mono (by decide)) (pa_cons (pe_op op_catA (pe_op op_catA (pe_slice sl_tupA (pe_fld (pv 0) rfl) po_none (po_some (pv 1))) (pe_tup (pa_cons (pv 2) pa_nil))) (pe_slice sl_tupA (pe_fld (pv 0) rfl) (po_some (pe_op op_add (pv 1) pe_int)) po_none)) pa_nil)))), ?_⟩
    refine ⟨_, rfl, p, C, dx, _, .ref a, rfl, hp, tc.cl, tc.nR, tf_rows _ _, _, rfl, _, rfl, slA ha fun b H1 s1 hb => ?_⟩
    rw [ei, cut_to (by omega)] at hb
    refine ⟨_, rfl, by show 1 ≤ sizeLine; decide, fun o ho => ?_⟩
    have s2 : Same H (upd H1 o (.tup [.ref q])) := s1.trans (same_new ho)
    refine catA (sqT_same (same_new ho) hb) (SqT.of upd_same) (by rw [List.length_take]; show _ + 1 ≤ 100000; omega) fun c H3 s3 hc => ?_
    have s23 := s2.trans s3
    refine ⟨_, rfl, p, C, dx, _, .ref a, rfl, s23 _ _ hp, tc.cl, tc.nR, tf_rows _ _, _, rfl, _, _, rfl, rfl, _, rfl, ?_⟩
    delta tNoPart
    refine slA (sqT_same s23 ha) fun d H4 s4 hd => ?_
    have ei2 : i + 1 = ((i.toNat + 1 : Nat) : Int) := by omega
    rw [ei2, cut_from (by omega)] at hd
    refine catA (sqT_same s4 hc) hd (by rw [List.length_append, List.length_take, List.length_drop]; show _ + 1 + _ ≤ 100000; omega) fun e H5 s5 he => ?_
    have s45 := s23.trans (s4.trans s5)
    refine ⟨.ref e, rows.set i.toNat r, rfl, ⟨e, _, rfl, he, ?_⟩, fun z H6 s6 hz ht => ?_⟩
    · rw [set_eq rows i.toNat r (by omega)]
      exact ((hrs.same s45).takeN _).app (.cons (sqT_same s45 hq) .nil) |>.app ((hrs.same s45).dropN _)
    · exact k z H6 (s45.trans s6) (s45.free hz) ht
def spWith (K : PySem.W.Frag) (C : Addr) : Sp := fun vs H Q _ => ∃ (x : V) (rows : List (List Int)) (i y : Int), vs = [x, .int i, .int y] ∧ TableAt K C H x rows ∧ Good rows ∧ rows.length ≤ 100 ∧ 0 ≤ i ∧ i < rows.length ∧ 0 ≤ y ∧ y < rows.length ∧
  ∀ p H' r r', rows[i.toNat]? = some r → r'.Pairwise (· < ·) → (∀ z, z ∈ r' ↔ z ∈ r ∨ z = y) → Same H H' → H p = none → TableAt K C H' (.ref p) (rows.set i.toNat r') → Q (.ref p) H'
theorem ok_with_tie (A : At K mg "with_tie" s_with_tie ["table", "person", "thing"]) (T : Tx mg) (tc : TC K C) (G_check_person : Dfn P w K mg base "check_person" ["table", "person"] 3 (spCheckN K C)) (G_check_thing : Dfn P w K mg base "check_thing" ["table", "thing"] 3 (spCheckN K C)) (G_with_row : Dfn P w K mg base "_with_row" ["table", "person", "row"] 9 (spWithRow K C)) : Dfn P w K mg base "with_tie" ["table", "person", "thing"] 10 (spWith K C) := by
  refine A.ok sc_with_tie (fun vs H Q E h => ?_) (fun f cdv A outer s H vs Q E hr h => ?_)
  · obtain ⟨x, rows, i, y, rfl, _⟩ := h
    rfl
  · obtain ⟨x, rows, i, y, rfl, ht, hG, hl, h0, h1, y0, y1, k⟩ := h
    have ht0 := ht
    obtain ⟨p, dx, v, rfl, hp, ⟨a, vs, rfl, ha, hrs⟩⟩ := ht0
    have hir : i.toNat < rows.length := by omega
    have hri := List.getElem?_eq_getElem hir
    obtain ⟨q, hq1, hq2⟩ := hrs.get hri
    generalize rows[i.toNat] = r at hri hq2
    have hrm := List.mem_of_getElem? hri
    have hra := hG.asc r hrm
    have rl := row_len hra (hG.rng r hrm)
    refine ⟨_, (pss_cons (ps_expr (pe_d G_check_person (hr.mono (by decide)) (pa_cons (pv 0) (pa_cons (pv 1) pa_nil))))
      (pss_cons (ps_expr (pe_d G_check_thing (hr.mono (by decide)) (pa_cons (pv 0) (pa_cons (pv 2) pa_nil))))
      (pss_cons (ps_set (i := 3) sc_with_tie.nd rfl (Or.inl rfl) (pe_ix ix_tup (pe_fld (pv 0) rfl) (pv 1) (fun _ _ => rfl)))
      (pss_one (ps_ret (pe_d G_with_row (hr.mono (by decide)) (pa_cons (pv 0) (pa_cons (pv 1) (pa_cons (pe_ifExp (pt_cmpR op_in_seq (pv 2) (pv 3) rfl) (pv 3) (pe_callTy c_tuple (by rfl) T.tuple (by decide +kernel) (pa_cons (pe_callB cr_sortedI (by rfl) T.sorted (by decide +kernel) (pa_cons (pe_lst (StX.pa_star (pv 3) (pa_cons (pv 2) pa_nil))) pa_nil)) pa_nil))) pa_nil))))))))), ?_⟩
    refine ⟨_, rfl, _, rfl, _, rows, i, rfl, ht, h0, h1, ?_⟩
    refine ⟨_, rfl, _, rfl, _, rows, y, rfl, ht, y0, y1, ?_⟩
    refine ⟨_, rfl, p, C, dx, _, .ref a, rfl, hp, tc.cl, tc.nR, tf_rows _ _, _, rfl, a, vs, i, _, rfl, rfl, ha, at_of (j := i.toNat) (by omega) hq1, ?_⟩
    refine ⟨_, rfl, _, rfl, _, rfl, _, rfl, q, _, rfl, .inr hq2, rfl, all_flat_ints _, _, rfl, ?_⟩
    show if (inV (V.int y) (r.map V.int)) = true then _ else _
    rw [inV_ints]
    refine ite2 (fun hc => ?_) (fun hc => ?_)
    · have hm := of_decide_eq_true hc
      refine ⟨_, rfl, _, rows, i, q, r, rfl, ht, hl, h0, h1, hq2, fun z H1 s1 hz htz => ?_⟩
      exact k z H1 r r hri hra (fun u => ⟨fun h => .inl h, fun h => h.elim id fun e => e ▸ hm⟩) s1 hz htz
    · have hm : ¬ y ∈ r := fun h => hc (decide_eq_true h)
      refine ⟨_, rfl, q, r.map V.int, rfl, .inl hq2, _, rfl, small_le (by rw [List.length_append, List.length_map]; show _ + 1 ≤ 100000; omega), fun o ho => ?_⟩
      refine ⟨o, r ++ [y], rfl, SqL.of (by rw [upd_same, ← map_snoc]), fun ns' b pm so hb => ⟨b, _, rfl, .inl ⟨SqL.of upd_same, fun c hc => ?_⟩⟩⟩
      have s1 : Same H (upd (upd (upd H o (.lst (r.map V.int ++ [V.int y]))) b (.lst (ns'.map V.int))) c (.tup (ns'.map V.int))) := ((same_new ho).trans (same_new hb)).trans (same_new hc)
      have nd : (r ++ [y]).Nodup := nodup_snoc (nodup_of_lt hra) hm
      refine ⟨_, rows, i, c, ns', rfl, ht.same s1, hl, h0, h1, SqT.of upd_same, fun z H1 s2 hz htz => ?_⟩
      exact k z H1 r ns' hri (asc_of pm so nd) (fun u => by rw [pm.mem_iff, List.mem_append, List.mem_singleton]) (s1.trans s2) (s1.free hz) htz
end
end Fo
set_option maxRecDepth 100000
set_option maxHeartbeats 4000000
namespace Fo
open PySem PySem.Spec PyProof.Rows L2 LamX
theorem FnG.of {P : Program} {w : World} {K : PySem.W.Frag} {mg : Str → Option Value} {base : Heap} {k : Nat} {f : Addr} {fd : FuncData} {ps : List Str} {sp : Sp} (F : FnOk P w K mg base CX0 k f fd ps sp) : FnG P w K mg base k f fd ps sp :=
  ⟨F.len, fun A outer s H args us vs Q E hr _ e0 hb r h => F.run A outer s H args us vs Q E hr e0 hb r h⟩
end Fo
set_option maxRecDepth 100000
set_option maxHeartbeats 4000000
namespace Fo
open PySem PySem.Spec PyProof.Rows L2
abbrev s_law_great_right : Stmt := top 65
abbrev n_law_great_right : List Str := ["pool", "size", "table", "person", "thing"]
theorem sc_law_great_right : FnScope n_law_great_right ["pool"] (defScope s_law_great_right) := ⟨rfl, rfl, rfl, by decide +kernel, rfl, by decide +kernel, by decide +kernel⟩
abbrev s_law : Stmt := top 66
abbrev n_law : List Str := ["script", "pool", "again", "many", "rows", "deals", "table", "due", "told", "kinds", "whole", "turn"]
theorem sc_law : FnScope n_law ["script"] (defScope s_law) := ⟨rfl, rfl, rfl, by decide +kernel, rfl, by decide +kernel, by decide +kernel⟩
theorem op_notBl {X : Cx} : OpR X (compareOp .IsNot) (fun x y H Q => ∃ a b, x = .bl a ∧ y = .bl b ∧ Q (.bl (a != b)) H) := by
  intro pins s σ H x y v u Q I rx ry h
  obtain ⟨a, b, rfl, rfl, q⟩ := h
  cases rx
  cases ry
  exact isnot_bool (fin_bl I q rfl)
theorem nat_of : ∀ {T : List Int} {tn : List Nat}, T.map V.int = tn.map nV → T.map Int.toNat = tn
  | [], [], _ => rfl
  | x :: T, p :: tn, e => by
    injection e with e1 e2
    injection e1 with e1
    rw [List.map_cons, nat_of e2, e1]
    rfl
  | [], _ :: _, e => by cases e
  | _ :: _, [], e => by cases e
/-- a turn, as numbers, where all have the same chance -/
def AlkP (rows : List (List Int)) (T : List Int) : Prop := ∀ D E, Mt.Ds rows D → Mt.Ds rows E → botR "anew" (Mt.tR rows (T.map Int.toNat)) (Mt.tD D (T.map Int.toNat)) rows.length = botR "anew" (Mt.tR rows (T.map Int.toNat)) (Mt.tD E (T.map Int.toNat)) rows.length
theorem anew_B : chR "anew" = Mt.chB true := funext fun R => by
  unfold chR
  rw [if_neg (by decide), if_neg (by decide), if_neg (by decide)]
  rfl
theorem rows_F4 {rows : List (List Int)} (G : Good rows) (h4 : rows.length ≤ 4) : Mt.F4 rows where
  hn := by
    have := G.pos
    have : rows.length = 1 ∨ rows.length = 2 ∨ rows.length = 3 ∨ rows.length = 4 := by omega
    rcases this with e | e | e | e <;> rw [e] <;> decide
  asc := G.asc
  rng := G.rng
theorem alk_all {rows : List (List Int)} (G : Good rows) (h4 : rows.length ≤ 4) {D0 : List Int} (d0 : Mt.Ds rows D0) : (∀ T ∈ Mt.deals (Mt.fullR rows.length), AlkP rows T) ↔ Mt.WhR rows := by
  rw [← (rows_F4 G h4).anew d0]
  constructor
  · intro h tn ht F F' f f'
    have := h _ (turn_turns ht)
    unfold AlkP at this
    rw [List.map_map, show tn.map (Int.toNat ∘ fun (p : Nat) => (p : Int)) = tn from List.map_id'' (fun i => rfl) _] at this
    obtain ⟨D, d, rfl⟩ := ht.back f
    obtain ⟨E, e, rfl⟩ := ht.back f'
    have := this D E d e
    rw [botR_F ht, botR_F ht, anew_B] at this
    exact this
  · intro h T hT
    obtain ⟨tn, e, ht⟩ := turns_turn hT
    unfold AlkP
    rw [nat_of e]
    intro D E d e
    rw [botR_F ht, botR_F ht, anew_B]
    exact h tn ht _ _ (ht.ds d) (ht.ds e)
section
variable {P : Program} {w : World} {K : PySem.W.Frag} {mg : Str → Option Value} {base : Heap} {C : Addr}
def spGR : Sp := fun vs H Q _ => ∃ t l, vs = [.ref t] ∧ Po H t l ∧ ∀ H', Q (.bl true) H'
theorem ok_great (A : At K mg "_law_great_right" s_law_great_right ["pool"]) (T : Tx mg) (G_law_draw : Dfn P w K mg base "_law_draw" ["pool", "many"] 1 spDraw) (G_law_flag : Dfn P w K mg base "_law_flag" ["told", "due"] 1 spFlag) (G_always_even : Dfn P w K mg base "always_even" ["table", "custom"] 7 (spAevW K C)) (G_full : Dfn P w K mg base "full" ["size"] 9 (spTabOf K C Mt.fullR)) (G_beside : Dfn P w K mg base "beside" ["one", "other"] 9 (spBeside K C)) (G_with_tie : Dfn P w K mg base "with_tie" ["table", "person", "thing"] 10 (spWith K C)) : Dfn P w K mg base "_law_great_right" ["pool"] 11 spGR := by
  refine A.ok sc_law_great_right (fun vs H Q E h => ?_) (fun f cdv A outer s H vs Q E hr h => ?_)
  · obtain ⟨_, _, rfl, _⟩ := h
    rfl
  · obtain ⟨t, l, rfl, T0, k⟩ := h
    refine ⟨_, (pss_cons (ps_set (i := 1) sc_law_great_right.nd rfl (Or.inl rfl) (pe_op op_add pe_int (pe_d G_law_draw (hr.mono (by decide)) (pa_cons (pv 0) (pa_cons pe_int pa_nil)))))
      (pss_cons (ps_set (i := 2) sc_law_great_right.nd rfl (Or.inl rfl) (pe_d G_beside (hr.mono (by decide)) (pa_cons (pe_d G_full (hr.mono (by decide)) (pa_cons (pv 1) pa_nil)) (pa_cons (pe_d G_full (hr.mono (by decide)) (pa_cons pe_int pa_nil)) pa_nil))))
      (pss_cons (ps_if (pt_cmpR op_notBl (pe_d G_always_even (hr.mono (by decide)) (pa_cons (pv 2) (pa_cons pe_str pa_nil))) pe_bl (nomark _)) (pss_one (ps_ret pe_bl)) pss_nil)
      (pss_cons (ps_set (i := 3) sc_law_great_right.nd rfl (Or.inl rfl) (pe_d G_law_draw (hr.mono (by decide)) (pa_cons (pv 0) (pa_cons (pv 1) pa_nil))))
      (pss_cons (ps_for PassesOwn.never rfl (pi_range2 rfl T.range (pa_cons (pv 1) (pa_cons (pe_op op_add (pv 1) pe_int) pa_nil))) (pg_name (i := 4) sc_law_great_right.nd rfl (Or.inl rfl))
      (pss_cons (ps_set (i := 2) sc_law_great_right.nd rfl (Or.inl rfl) (pe_d G_with_tie (hr.mono (by decide)) (pa_cons (pv 2) (pa_cons (pv 3) (pa_cons (pv 4) pa_nil)))))
      (pss_one (ps_if (PW.pt (pw_or (pt_not (pt_val (pe_d G_law_flag (hr.mono (by decide)) (pa_cons (pe_d G_always_even (hr.mono (by decide)) (pa_cons (pv 2) (pa_cons pe_str pa_nil))) (pa_cons (pe_cmpR op_eq (pv 4) (pe_op op_add (pv 1) pe_int) (nomark _)) pa_nil))))) (pw_or1 (pt_cmpR op_notBl (pe_d G_always_even (hr.mono (by decide)) (pa_cons (pv 2) (pa_cons pe_str pa_nil))) pe_bl (nomark _))))) (pss_one (ps_ret pe_bl)) pss_nil))))
      (pss_one (ps_ret pe_bl))))))), ?_⟩
    refine ⟨_, rfl, t, l, 4, rfl, T0, by decide, by decide, fun m1 H1 a0 a1 g1 T1 => ⟨_, _, rfl, rfl, ?_⟩⟩
    obtain ⟨n, en⟩ : ∃ n : Nat, 2 + m1 = (n : Int) := ⟨(2 + m1).toNat, by omega⟩
    show gName 1 (V.int (2 + m1)) _ H1 _
    rw [en]
    have n2 : 2 ≤ n := by omega
    have n5 : n ≤ 5 := by omega
    have fn : (Mt.fullR n).length = n := lenG_full
    have f6 : (Mt.fullR 6).length = 6 := lenG_full
    refine ⟨_, rfl, n, rfl, by omega, by omega, fun p2 H2 s2 _ t2 => ?_⟩
    refine ⟨6, rfl, by omega, by omega, fun p3 H3 s3 _ t3 => ?_⟩
    refine ⟨.ref p2, .ref p3, _, _, rfl, t2.same s3, t3, good_fullG (by omega), good_fullG (by omega), by omega, fun p4 H4 s4 _ t4 => ?_⟩
    have g0 := gt_start (p := 0) n2 (by omega)
    have T4 := ((T1.keep s2).keep s3).keep s4
    refine ⟨_, rfl, .ref p4, "anew", _, rfl, .inr rfl, t4, g0.good, by have := g0.len; omega, ⟨_, g0.ds⟩, fun b H5 s5 _ hb => ?_⟩
    have hb := (hb rfl).mpr (g0.wh.mpr (.inl rfl))
    subst hb
    refine ⟨_, _, rfl, rfl, _, rfl, ?_⟩
    refine ite2 (fun n => by cases n) (fun _ => ?_)
    have T5 := T4.keep s5
    refine ⟨_, rfl, _, rfl, t, l, (n : Int), rfl, T5, by omega, by omega, fun m H6 b0 b1 g6 T6 => ?_⟩
    obtain ⟨p, rfl⟩ : ∃ p : Nat, m = (p : Int) := ⟨m.toNat, by omega⟩
    have gs := gt_start (p := p) n2 (by omega)
    have t6 := (t4.same s5).gs g6 T5
    have e6 : ((n : Int) + 6 - (n : Int)).toNat = 6 := by omega
    refine ⟨_, rfl, _, rfl, _, _, rfl, rfl, (n : Int), (n : Int) + 6, rfl, ⟨by omega, by omega, by omega, by omega⟩, for_range (lo := (n : Int)) (n := ((n : Int) + 6 - (n : Int)).toNat) (fun j σ' H' => ∃ pt R x4, σ' = [some (.ref t), some (nV n), some (.ref pt), some (nV p), x4] ∧ TableAt K C H' (.ref pt) R ∧ Gt n p j R) ⟨_, _, _, rfl, t6, gs⟩ ?_ ?_⟩
    · rintro j σ' H7 hj ⟨pt, R, x4, rfl, t7, gj⟩
      rw [e6] at hj
      have pn := gj.pn
      have rl := gj.len
      refine ⟨_, rfl, _, rfl, _, rfl, .ref pt, R, (p : Int), (n : Int) + (j : Int), rfl, t7, gj.good, by omega, by omega, by omega, by omega, by omega, fun q H8 r r' hr0 asc hm s8 _ t8 => ?_⟩
      rw [Int.toNat_natCast] at hr0 t8
      have g8 := gj.put hj hr0 asc hm
      have dx8 : ∃ D, Mt.Ds (R.set p r') D := ⟨_, g8.ds⟩
      have l8 : (R.set p r').length ≤ 40 := by have := g8.len; omega
      refine ⟨_, rfl, .ref q, "anew", _, rfl, .inr rfl, t8, g8.good, l8, dx8, fun b H9 s9 _ hb => ?_⟩
      refine ⟨_, rfl, _, rfl, _, _, rfl, rfl, rfl, ?_⟩
      have eb : b = decide (V.int ((n : Int) + (j : Int)) = V.int ((n : Int) + 5)) := Bool.eq_iff_iff.mpr (by
        rw [hb rfl, g8.wh, decide_eq_true_iff]
        constructor
        · intro z
          have : j = 5 := by omega
          rw [this]
          rfl
        · intro z
          injection z with z
          omega)
      refine ⟨_, _, rfl, _, rfl, ?_⟩
      rw [← eb, show decide (b = b) = true from decide_eq_true rfl]
      refine ite2 (fun n => by cases n) (fun _ => ?_)
      refine ⟨_, rfl, .ref q, "ahead", _, rfl, .inl rfl, t8.same s9, g8.good, l8, dx8, fun c HA sA hc _ => ?_⟩
      have hc := (hc rfl).mpr g8.nice
      subst hc
      refine ⟨_, _, rfl, rfl, _, rfl, ?_⟩
      refine ite2 (fun n => by cases n) (fun _ => ?_)
      exact ⟨_, _, _, rfl, (t8.same s9).same sA, g8⟩
    · rintro σ' H7 ⟨pt, R, x4, rfl, t7, gj⟩
      exact k _
theorem flat_rep {α : Type} {x : α} : ∀ n : Nat, (List.replicate n [x]).flatten = List.replicate n x
  | 0 => rfl
  | n + 1 => by rw [List.replicate_succ, List.flatten_cons, flat_rep n]; rfl
def spLaw (K : PySem.W.Frag) : Sp := fun vs H Q _ => ∃ (a : Addr) (ns : List Int), vs = [.ref a] ∧ SqL K H a (ns.map V.int) ∧ ns.length ≤ 63 ∧ ∀ H', Q (.bl true) H'
theorem ok_law {f : Addr} {fd : FuncData} (F : Fun K "law" "law" s_law f fd) (T : Tx mg) (tc : TC K C) (G_Table : MkT P w K mg base C 6 1 (spInit K C) (spEqT K C))
    (G_law_pool : Dfn P w K mg base "_law_pool" ["script"] 1 (spPool K)) (G_law_draw : Dfn P w K mg base "_law_draw" ["pool", "many"] 1 spDraw) (G_law_rows : Dfn P w K mg base "_law_rows" ["pool", "many"] 3 (spRowsP K)) (G_law_all : Dfn P w K mg base "_law_all" ["rows"] 1 (spAll K)) (G_law_turns : Dfn P w K mg base "_law_turns" ["many"] 1 (spTurns K)) (G_law_alike : Dfn P w K mg base "_law_alike" ["rows", "deals", "turn", "custom"] 5 (spAlk K)) (G_law_flag : Dfn P w K mg base "_law_flag" ["told", "due"] 1 spFlag) (G_always_even : Dfn P w K mg base "always_even" ["table", "custom"] 7 (spAevW K C)) (G_piece_kinds : Dfn P w K mg base "piece_kinds" ["table"] 6 (spPkE K C)) (G_pieces : Dfn P w K mg base "pieces" ["table"] 6 (spPieces K C)) (G_law_all_or_none : Dfn P w K mg base "_law_all_or_none" ["rows", "told"] 1 (spLAon K)) (G_law_great_right : Dfn P w K mg base "_law_great_right" ["pool"] 11 spGR) : FnOk P w K mg base CX0 12 f fd ["script"] (spLaw K) := by
  refine F.ok sc_law (fun vs H Q E h => ?_) (fun cdv A outer s H vs Q E hr h => ?_)
  · obtain ⟨a, ns, rfl, _⟩ := h
    rfl
  · obtain ⟨sa, ns, rfl, hS, hlen, k⟩ := h
    refine ⟨_, (pss_cons (ps_set (i := 1) sc_law.nd rfl (Or.inl rfl) (pe_d G_law_pool (hr.mono (by decide)) (pa_cons (pv 0) pa_nil)))
      (pss_cons (ps_for PassesOwn.never rfl (pi_range1 rfl T.range (pa_cons pe_int pa_nil)) (pg_name (i := 2) sc_law.nd rfl (Or.inl rfl))
      (pss_cons (ps_set (i := 3) sc_law.nd rfl (Or.inl rfl) (pe_op op_add pe_int (pe_d G_law_draw (hr.mono (by decide)) (pa_cons (pv 1) (pa_cons pe_int pa_nil)))))
      (pss_cons (ps_set (i := 4) sc_law.nd rfl (Or.inr rfl) (pe_d G_law_rows (hr.mono (by decide)) (pa_cons (pv 1) (pa_cons (pv 3) pa_nil))))
      (pss_cons (ps_set (i := 5) sc_law.nd rfl (Or.inr rfl) (pe_d G_law_all (hr.mono (by decide)) (pa_cons (pv 4) pa_nil)))
      (pss_cons (ps_set (i := 6) sc_law.nd rfl (Or.inl rfl) (pe_makeTable G_Table (hr.mono (by decide)) (pv 4)))
      (pss_cons (ps_set (i := 7) sc_law.nd rfl (Or.inl rfl) (pe_cmpR op_eq (pe_callB c_len (by rfl) T.len (by decide +kernel) (pa_cons (pe_lc (own := [("turn", 11)]) (g := (gName 11)) (tt := (tNot (tB (tCall _ [] E0 (tCons (tVar 4) (tCons (tVar 5) (tCons (tVar 11) (tCons (tC (V.str "anew")) tNil)))))))) (te := (tVar 11)) (by rfl) sc_law.nd (pi_list (pe_d G_law_turns (hr.mono (by decide)) (pa_cons (pv 3) pa_nil))) (blkOk_by (own := [("turn", 11)]) (N := n_law) (sc := (defScope s_law)) (by decide +kernel)) (fun _ _ _ _ _ => (pg_name (i := 11) sc_law.nd rfl (Or.inl rfl))) (fun _ _ _ _ _ => (pts_one (pt_not (pt_val (pe_d G_law_alike (hr.mono (by decide)) (pa_cons (pv 4) (pa_cons (pv 5) (pa_cons (pv 11) (pa_cons pe_str pa_nil))))))))) (fun _ _ _ _ _ => (pv 11))) pa_nil)) pe_int (nomark _)))
      (pss_cons (ps_set (i := 8) sc_law.nd rfl (Or.inl rfl) (pe_d G_always_even (hr.mono (by decide)) (pa_cons (pv 6) (pa_cons pe_str pa_nil))))
      (pss_cons (ps_set (i := 9) sc_law.nd rfl (Or.inl rfl) (pe_d G_piece_kinds (hr.mono (by decide)) (pa_cons (pv 6) pa_nil)))
      (pss_cons (ps_set (i := 10) sc_law.nd rfl (Or.inl rfl) (pe_and (pe_cmpR (op_eqD hr.units) (pv 9) (pe_op op_rep (pe_lst (pa_cons pe_str pa_nil)) (pe_callB c_len (by rfl) T.len (by decide +kernel) (pa_cons (pv 9) pa_nil))) (nomark _)) (pe_one (pe_d G_law_all_or_none (hr.mono (by decide)) (pa_cons (pv 4) (pa_cons (pe_d G_pieces (hr.mono (by decide)) (pa_cons (pv 6) pa_nil)) pa_nil))))))
      (pss_one (ps_if (PW.pt (pw_or (pt_not (pt_val (pe_d G_law_flag (hr.mono (by decide)) (pa_cons (pv 8) (pa_cons (pv 7) pa_nil))))) (pw_or (pt_cmpR op_ne (pv 8) (pv 10) (nomark _)) (pw_or1 (PW.pt (pw_and (pt_val (pv 8)) (pw_and1 (pt_not (pt_val (pe_d G_always_even (hr.mono (by decide)) (pa_cons (pv 6) (pa_cons pe_str pa_nil)))))))))))) (pss_one (ps_ret pe_bl)) pss_nil)))))))))))
      (pss_one (ps_ret (pe_or (pe_cmpR op_gt (pe_d G_law_draw (hr.mono (by decide)) (pa_cons (pv 1) (pa_cons pe_int pa_nil))) pe_int (nomark _)) (pe_one (pe_d G_law_great_right (hr.mono (by decide)) (pa_cons (pv 1) pa_nil)))))))), ?_⟩
    refine ⟨_, rfl, sa, ns, rfl, hS, hlen, fun t l H1 s1 _ _ T1 => ?_⟩
    refine ⟨_, rfl, by decide, by decide, for_range (lo := 0) (n := 2) (fun i σ' H' => (∃ x2 x3 x4 x5 x6 x7 x8 x9 x10 x11, σ' = [some (.ref sa), some (.ref t), x2, x3, x4, x5, x6, x7, x8, x9, x10, x11]) ∧ Po H' t l) ⟨⟨_, _, _, _, _, _, _, _, _, _, rfl⟩, T1⟩ ?_ ?_⟩
    · rintro i σ' H2 hi ⟨⟨x2, x3, x4, x5, x6, x7, x8, x9, x10, x11, rfl⟩, T2⟩
      refine ⟨_, rfl, t, l, 4, rfl, T2, by decide, by decide, fun m1 H3 a0 a1 g3 T3 => ⟨_, _, rfl, rfl, ?_⟩⟩
      show gName 3 (V.int (1 + m1)) _ H3 _
      refine ⟨_, rfl, _, rfl, t, l, 1 + m1, rfl, T3, by omega, by omega, fun rv rows H4 G hz dx g4 T4 R4 => ?_⟩
      have r4 : rows.length ≤ 4 := by omega
      have fit := fit6 G (by omega)
      refine ⟨_, rfl, rv, rows, rfl, R4, G, fit, fun ld ws H5 s5 fld hld hws => ?_⟩
      have T5 := T4.keep s5
      have R5 := R4.same s5
      refine ⟨_, rfl, rows, G, by omega, R5, fun tp d1 H6 s6 _ h1 => ?_⟩
      have T6 := T5.keep s6
      have R6 := R5.same s6
      have tb : TableAt K C H6 (.ref tp) rows := ⟨tp, d1, rv, rfl, h1, R6⟩
      have gp := G.pos
      rw [← hz]
      refine ⟨_, rfl, rows.length, rfl, by omega, fun lt wt H7 s7 flt hlt hwt => ?_⟩
      have T7 := T6.keep s7
      have R7 := R6.same s7
      have tb7 := tb.same s7
      have hld7 := s7 _ _ (s6 _ _ hld)
      have hws7 := (hws.same s6).same s7
      have few := fit.all
      obtain ⟨D0, d0⟩ := id dx
      have wl := hwt.len
      have dl : (Mt.deals (Mt.fullR rows.length)).length ≤ 256 := by
        have h := deals_len (n := 4) (Mt.fullR rows.length) fun q hq => by
          rw [List.eq_of_mem_replicate hq]
          unfold Mt.rangeZ
          rw [List.length_map, List.length_range]
          exact r4
        exact Nat.le_trans h (Nat.le_trans (Nat.pow_le_pow_right (by decide) (show (Mt.fullR rows.length).length ≤ 4 by rw [lenG_full]; omega)) (by decide))
      refine ⟨lt, rfl, ⟨_, SqL.of hlt⟩, fun D hD => ?_⟩
      refine lc_list (xs := wt) (fun j H' => ∃ us, H' D = some (.lst us) ∧ (us.length = 0 ↔ ∀ T ∈ (Mt.deals (Mt.fullR rows.length)).take j, AlkP rows T) ∧ us.length ≤ j ∧ Same H7 H') ⟨[], upd_same, ⟨fun _ T hT => absurd hT (by rw [List.take_zero]; exact List.not_mem_nil), fun _ => rfl⟩, Nat.le_refl _, same_new hD⟩ (fun j H' _ hp => by obtain ⟨_, _, _, _, s⟩ := hp; exact SqL.of (s _ _ hlt)) ?_ ?_
      · rintro j y H8 hy ⟨us, h8, hu, ul, s8⟩
        have jl : j < (Mt.deals (Mt.fullR rows.length)).length := by have := (List.getElem?_eq_some_iff.mp hy).1; omega
        obtain ⟨Tt, hT⟩ : ∃ Tt, (Mt.deals (Mt.fullR rows.length))[j]? = some Tt := ⟨_, List.getElem?_eq_getElem jl⟩
        obtain ⟨e, he1, he2⟩ := hwt.get hT
        rw [hy] at he1
        have ey : y = .ref e := Option.some.inj he1
        subst ey
        obtain ⟨tn, etn, ht⟩ := turns_turn (List.mem_of_getElem? hT)
        have e3 := nat_of etn
        rw [etn] at he2
        refine ⟨rfl, _, rfl, _, rfl, _, rfl, rv, ld, e, "anew", ws, rows, tn, rfl, R7.same s8, G, by omega, s8 _ _ hld7, hws7.same s8, few, sqT_same s8 he2, ht, dx, fun b H9 s9 hb => ?_⟩
        rw [← e3] at hb
        have hb : b = true ↔ AlkP rows Tt := hb
        refine ⟨_, rfl, ?_⟩
        refine ite2 (fun c => ?_) (fun c => ?_)
        · have b0 : b = false := by
            cases b with
            | true => cases c
            | false => rfl
          refine ⟨_, rfl, us, s9 _ _ h8, Nat.lt_of_lt_of_le (show us.length < 4001 by omega) (by rw [sizeLine_eq]; decide), us ++ [.ref e], upd_same, ⟨fun z => ?_, fun z => ?_⟩, by rw [List.length_append, List.length_singleton]; omega, same_mut (s8.trans s9) hD⟩
          · rw [List.length_append, List.length_singleton] at z
            omega
          · have := hb.mpr ((all_take hT).mp z).2
            rw [b0] at this
            cases this
        · have b1 : b = true := by
            cases b with
            | true => rfl
            | false => exact absurd rfl c
          refine ⟨us, s9 _ _ h8, hu.trans ?_, by omega, s8.trans s9⟩
          rw [all_take hT]
          exact ⟨fun z => ⟨z, hb.mp b1⟩, fun z => z.1⟩
      · rintro H8 ⟨us, h8, hu, ul, s8⟩
        rw [List.take_of_length_le (by omega)] at hu
        refine ⟨D, us, rfl, .inl (SqL.of h8), ?_⟩
        obtain ⟨due, edue⟩ : ∃ b, b = decide (V.int ((us.length : Nat) : Int) = V.int 0) := ⟨_, rfl⟩
        have hdue : due = true ↔ Mt.WhR rows := by
          rw [← alk_all G r4 d0, ← hu, edue, decide_eq_true_iff]
          exact ⟨fun z => by injection z with z; omega, fun z => by rw [z]; rfl⟩
        refine ⟨rfl, ?_⟩
        show gName 7 (V.bl (decide (V.int ((us.length : Nat) : Int) = V.int 0))) _ H8 _
        rw [← edue]
        have T8 := T7.keep s8
        have tb8 := tb7.same s8
        refine ⟨_, rfl, .ref tp, "anew", rows, rfl, .inr rfl, tb8, G, by omega, dx, fun told H9 s9 _ hb => ?_⟩
        have e1 : told = due := Bool.eq_iff_iff.mpr ((hb rfl).trans hdue.symm)
        subst e1
        have T9 := T8.keep s9
        have tb9 := tb8.same s9
        refine ⟨_, rfl, .ref tp, rows, rfl, tb9, G, by omega, dx, fun F lk HA hF up sA flk hlk => ?_⟩
        have TA := T9.keep sA
        have tbA := tb9.same sA
        have FL : F.length ≤ 40 := by have := hF.num; rw [Mt.liveR_len] at this; omega
        have full : Mt.WhR rows → ∀ g ∈ F, kindS (Mt.liveR rows) g = "full" := fun wh g hg => wh_full G d0 hF wh hg
        have nice : Mt.WhR rows → Mt.NiceR (Mt.liveR rows) := fun wh => (kinds_nice G d0 hF).mp fun g hg z => by
          rw [full wh g hg] at z
          exact absurd z (by decide)
        obtain ⟨us, eus⟩ : ∃ us, us = F.map (kindS (Mt.liveR rows)) := ⟨_, rfl⟩
        have ul : us.length = F.length := by rw [eus, List.length_map]
        have uk : ∀ u ∈ us, IsKind u := fun u hu => by
          rw [eus] at hu
          obtain ⟨g, _, rfl⟩ := List.mem_map.mp hu
          exact kind_cases _ _
        rw [← eus] at hlk
        have nb : ∀ {n : Nat}, n ≤ 100 → n ≤ sizeLine := fun {n} h => Nat.le_of_lt (Nat.lt_of_lt_of_le (show n < 4001 by omega) (by rw [sizeLine_eq]; decide))
        refine ⟨_, rfl, by show 1 ≤ sizeLine; decide, fun l1 hl1 => ?_⟩
        have s1' := same_new (o := .lst [V.str "full"]) hl1
        refine ⟨_, rfl, lk, _, rfl, .inl (SqL.of (s1' _ _ hlk)), ?_⟩
        have el : (us.map V.str).length = us.length := List.length_map _
        refine ⟨l1, _, _, rfl, rfl, upd_same, by omega, by rw [el]; omega, by rw [el, Int.toNat_natCast, List.length_singleton, Nat.one_mul]; exact nb (by omega), fun l2 hl2 => ?_⟩
        rw [el, Int.toNat_natCast, flat_rep]
        have s2' := s1'.trans (same_new (o := .lst (List.replicate us.length (V.str "full"))) hl2)
        refine ⟨dS us, dS (List.replicate us.length ("full" : Str)), dp_K (SqL.of (s2' _ _ hlk)), dp_K (SqL.of (by rw [upd_same, List.map_replicate])), sh_K uk, sh_K fun u hu => .inl (List.eq_of_mem_replicate hu), ?_⟩
        rw [eqv_K]
        obtain ⟨HB, eHB⟩ : ∃ HB, HB = upd (upd HA l1 (.lst [V.str "full"])) l2 (.lst (List.replicate us.length (V.str "full"))) := ⟨_, rfl⟩
        rw [← eHB] at s2' ⊢
        clear eHB
        have TB2 := TA.keep s2'
        have tbB := tbA.same s2'
        have RB := R7.same (((s8.trans s9).trans sA).trans s2')
        refine ⟨_, rfl, ?_⟩
        refine ite2 (fun c => ?_) (fun c => ?_)
        · refine ⟨_, rfl, _, rfl, .ref tp, rows, rfl, tbB, G, by omega, dx, fun F2 lp ws2 HC hF2 up2 sC flp hlp hwp => ?_⟩
          refine ⟨rv, lp, ws2, rows, F2, rfl, RB.same sC, G, by omega, hlp, hwp, fun g gm => ?_, fun b HD sD hb2 => ?_⟩
          · rw [thg_lenA G d0 hF2 gm]
            have := Mt.len_le (hF2.nd gm) (l2 := List.range rows.length) fun p hp => List.mem_range.mpr (by have := hF2.lt gm hp; rw [Mt.liveR_len] at this; exact this)
            rw [List.length_range] at this
            omega
          have e : b = told := Bool.eq_iff_iff.mpr ((hb2.trans (tog_wh G hF2)).trans hdue.symm)
          subst e
          have TD := (TB2.keep sC).keep sD
          have tbD := (tbB.same sC).same sD
          refine ⟨_, rfl, _, rfl, b, b, rfl, _, rfl, ?_⟩
          rw [show decide (b = b) = true from decide_eq_true rfl]
          refine ite2 (fun n => by cases n) (fun _ => ?_)
          refine ⟨_, rfl, _, rfl, rfl, ?_⟩
          refine ⟨false, congrArg V.bl (congrArg not (decide_eq_true rfl)), ?_⟩
          refine ite2 (fun n => by cases n) (fun _ => ?_)
          refine ⟨_, rfl, b, rfl, ?_⟩
          refine ite2 (fun ht => ?_) (fun _ => ?_)
          · refine ⟨_, rfl, .ref tp, "ahead", rows, rfl, .inl rfl, tbD, G, by omega, dx, fun bz HZ sZ hz _ => ?_⟩
            have hz := (hz rfl).mpr (nice (hdue.mp ht))
            subst hz
            refine ⟨_, rfl, ?_⟩
            refine ite2 (fun n => by cases n) (fun _ => ?_)
            exact ⟨⟨_, _, _, _, _, _, _, _, _, _, rfl⟩, TD.keep sZ⟩
          · refine ite2 (fun n => by cases n) (fun _ => ?_)
            exact ⟨⟨_, _, _, _, _, _, _, _, _, _, rfl⟩, TD⟩
        · have c : us ≠ List.replicate us.length ("full" : Str) := fun z => c (decide_eq_true z)
          have e : told = false := by
            cases ht : told with
            | false => rfl
            | true =>
              refine absurd (List.eq_replicate_iff.mpr ⟨rfl, fun u hu => ?_⟩) c
              rw [eus] at hu
              obtain ⟨g, hg, rfl⟩ := List.mem_map.mp hu
              exact full (hdue.mp ht) g hg
          clear hb
          subst e
          refine ⟨_, rfl, _, rfl, false, false, rfl, _, rfl, ?_⟩
          rw [show decide (false = false) = true from decide_eq_true rfl]
          refine ite2 (fun n => by cases n) (fun _ => ?_)
          refine ⟨_, rfl, _, rfl, rfl, ?_⟩
          refine ⟨false, congrArg V.bl (congrArg not (decide_eq_true rfl)), ?_⟩
          refine ite2 (fun n => by cases n) (fun _ => ?_)
          refine ⟨_, rfl, false, rfl, ?_⟩
          refine ite2 (fun ht => ?_) (fun _ => ?_)
          · refine ⟨_, rfl, .ref tp, "ahead", rows, rfl, .inl rfl, tbB, G, by omega, dx, fun bz HZ sZ hz _ => ?_⟩
            have hz := (hz rfl).mpr (nice (hdue.mp ht))
            subst hz
            refine ⟨_, rfl, ?_⟩
            refine ite2 (fun n => by cases n) (fun _ => ?_)
            exact ⟨⟨_, _, _, _, _, _, _, _, _, _, rfl⟩, TB2.keep sZ⟩
          · refine ite2 (fun n => by cases n) (fun _ => ?_)
            exact ⟨⟨_, _, _, _, _, _, _, _, _, _, rfl⟩, TB2⟩
    · rintro σ' H2 ⟨⟨x2, x3, x4, x5, x6, x7, x8, x9, x10, x11, rfl⟩, T2⟩
      refine ⟨_, rfl, t, l, 12, rfl, T2, by decide, by decide, fun m H3 c0 c1 g3 T3 => ⟨_, _, rfl, rfl, _, rfl, ?_⟩⟩
      refine ite2 (fun c => ?_) (fun c => ?_)
      · exact k _
      · exact ⟨_, rfl, t, l, rfl, T3, fun H4 => k _⟩
theorem compose {fa fI fE : Addr} {fd fdI fdE : FuncData} {tk tkhMB : Tok} (T : Tx mg) (tc : TC K C) (Tsum : mg "sum" = none) (Tabs : mg "abs" = none) (Tmax : mg "max" = none) (Tan : mg "any" = none) (hC : mg "Table" = some (.ref C)) (hMR : mg "MOST_ROWS" = some (.int 12 tk)) (hMB : mg "MOST_BESIDE" = some (.int 40 tkhMB)) {cu : Addr} (hcu : CusA K mg cu) (mI : Mk K C fI) (FI : Fun K "__init__" "Table.__init__" s_Table___init fI fdI)
    (qe : PySem.W.findIn K (.ref C) "__eq__" = some (some (.ref fE))) (ie : PySem.W.isFn K (.ref fE) = true) (FE : Fun K "__eq__" "Table.__eq__" s_Table___eq fE fdE)
    
    (A_is_integer : At K mg "is_integer" s_is_integer ["thing"]) (A_is_number : At K mg "is_number" s_is_number ["bound", "thing"]) (A_is_numbers : At K mg "is_numbers" s_is_numbers ["bound", "thing"]) (A_is_ascending : At K mg "is_ascending" s_is_ascending ["bound", "thing"]) (A_check_rows : At K mg "_check_rows" s_check_rows ["rows"]) (A_law_pool : At K mg "_law_pool" s_law_pool ["script"]) (A_law_draw : At K mg "_law_draw" s_law_draw ["pool", "many"]) (A_law_mixed : At K mg "_law_mixed" s_law_mixed ["pool", "things"]) (A_law_blocks : At K mg "_law_blocks" s_law_blocks ["pool", "many"]) (A_law_rows : At K mg "_law_rows" s_law_rows ["pool", "many"]) (A_law_all : At K mg "_law_all" s_law_all ["rows"]) (A_law_turns : At K mg "_law_turns" s_law_turns ["many"]) (A_law_fits : At K mg "_law_fits" s_law_fits ["standing", "dealing"]) (A_law_open : At K mg "_law_open" s_law_open ["deals", "standing", "person"]) (A_law_is_near : At K mg "_law_is_near" s_law_is_near ["rows", "standing"]) (A_law_drawn : At K mg "_law_drawn" s_law_drawn ["standing", "person", "thing"]) (A_law_sides : At K mg "_law_sides" s_law_sides ["rows", "deals", "standing", "person", "custom"]) (A_law_bottom : At K mg "_law_bottom" s_law_bottom ["rows", "deals", "turn", "custom", "dealing"]) (A_law_alike : At K mg "_law_alike" s_law_alike ["rows", "deals", "turn", "custom"]) (A_law_flag : At K mg "_law_flag" s_law_flag ["told", "due"]) (A_check_custom : At K mg "check_custom" s_check_custom ["customs", "custom"]) (A_hand_on : At K mg "_hand_on" s_hand_on ["held", "owner", "came", "thing"]) (A_give : At K mg "_give" s_give ["rows", "held", "owner", "person"]) (A_matched : At K mg "matched" s_matched ["rows"]) (A_owners : At K mg "owners" s_owners ["held"]) (A_reaches : At K mg "reaches" s_reaches ["rows", "held"]) (A_live_rows : At K mg "live_rows" s_live_rows ["rows"]) (A_live_of : At K mg "live_of" s_live_of ["table"]) (A_groups : At K mg "groups" s_groups ["rows"]) (A_is_ring : At K mg "_is_ring" s_is_ring ["live", "people"]) (A_kind_of : At K mg "_kind_of" s_kind_of ["live", "people"]) (A_piece_kinds : At K mg "piece_kinds" s_piece_kinds ["table"]) (A_things_of : At K mg "things_of" s_things_of ["rows"]) (A_rows_of : At K mg "rows_of" s_rows_of ["rows", "people"]) (A_pieces : At K mg "pieces" s_pieces ["table"]) (A_is_all_or_nothing : At K mg "_is_all_or_nothing" s_is_all_or_nothing ["table", "things"]) (A_always_even : At K mg "always_even" s_always_even ["table", "custom"]) (A_law_all_or_none : At K mg "_law_all_or_none" s_law_all_or_none ["rows", "told"]) (A_check_size : At K mg "_check_size" s_check_size ["size"]) (A_table_of : At K mg "table_of" s_table_of ["rows"]) (A_full : At K mg "full" s_full ["size"]) (A_beside : At K mg "beside" s_beside ["one", "other"]) (A_check_person : At K mg "check_person" s_check_person ["table", "person"]) (A_check_thing : At K mg "check_thing" s_check_thing ["table", "thing"]) (A_with_row : At K mg "_with_row" s_with_row ["table", "person", "row"]) (A_with_tie : At K mg "with_tie" s_with_tie ["table", "person", "thing"]) (A_law_great_right : At K mg "_law_great_right" s_law_great_right ["pool"])
    (F : Fun K "law" "law" s_law fa fd) : FnOk P w K mg base CX0 12 fa fd ["script"] (spLaw K) := by
  have R_is_integer : Dfn P w K mg base _ _ 1 (spInteger K C) := ok_is_integer A_is_integer T tc
  have R_is_number : Dfn P w K mg base _ _ 2 (spNumber K C) := ok_is_number A_is_number T R_is_integer
  have R_is_numbers : Dfn P w K mg base _ _ 3 (spNumbers K C) := ok_is_numbers A_is_numbers T R_is_number
  have R_is_ascending : Dfn P w K mg base _ _ 4 (spAsc K C) := ok_is_ascending A_is_ascending T R_is_numbers
  have R_check_rows : Dfn P w K mg base _ _ 5 (spCheck K) := ok_check A_check_rows T hMR R_is_ascending
  have GT : MkT P w K mg base C 6 1 (spInit K C) (spEqT K C) := ⟨hC, tc, ⟨fI, fdI, mI, ok_init FI T tc R_check_rows, FI.binds fun _ _ _ _ _ _ us hl => match us, hl with | [_, _], _ => rfl⟩, ⟨fE, fdE, ok_eq FE T tc hC, FE.binds fun _ _ _ _ _ _ us hl => match us, hl with | [_, _], _ => rfl, qe, ie⟩⟩
  have R_law_pool : Dfn P w K mg base _ _ 1 (spPool K) := ok_pool A_law_pool T Tsum Tabs
  have R_law_draw : Dfn P w K mg base _ _ 1 (spDraw) := ok_draw A_law_draw T
  have R_law_mixed : Dfn P w K mg base _ _ 2 (spMixed K) := ok_mixed A_law_mixed T R_law_draw
  have R_law_blocks : Dfn P w K mg base _ _ 2 (spBlocks) := ok_blocksP A_law_blocks T Tmax R_law_draw
  have R_law_rows : Dfn P w K mg base _ _ 3 (spRowsP K) := ok_rowsP A_law_rows T R_law_draw R_law_mixed R_law_blocks
  have R_law_all : Dfn P w K mg base _ _ 1 (spAll K) := ok_all A_law_all T
  have R_law_turns : Dfn P w K mg base _ _ 1 (spTurns K) := ok_turns A_law_turns T
  have R_law_fits : Dfn P w K mg base _ _ 1 (spFits K) := ok_fits A_law_fits T
  have R_law_open : Dfn P w K mg base _ _ 2 (spOpenL K) := ok_lopen A_law_open T R_law_fits
  have R_law_is_near : Dfn P w K mg base _ _ 1 (spNear K) := ok_lnear A_law_is_near T
  have R_law_drawn : Dfn P w K mg base _ _ 1 (spDrawn K) := ok_ldrawn A_law_drawn T
  have R_law_sides : Dfn P w K mg base _ _ 3 (spSides K) := ok_lsides A_law_sides T R_law_open R_law_is_near R_law_drawn
  have R_law_bottom : Dfn P w K mg base _ _ 4 (spLBot K) := ok_lbottom A_law_bottom T R_law_sides R_law_drawn
  have R_law_alike : Dfn P w K mg base _ _ 5 (spAlk K) := ok_lalike A_law_alike T Tmax R_law_bottom
  have R_law_flag : Dfn P w K mg base _ _ 1 (spFlag) := ok_flag A_law_flag T
  have R_check_custom : Dfn P w K mg base _ _ 1 (spCkCuA K) := ok_check_customA A_check_custom T
  have R_hand_on : Dfn P w K mg base _ _ 1 (spHand) := ok_hand A_hand_on T
  have R_give : Dfn P w K mg base _ _ 2 (spGive K) := ok_give A_give T R_hand_on
  have R_matched : Dfn P w K mg base _ _ 3 (spMatched K) := ok_matched A_matched T R_give
  have R_owners : Dfn P w K mg base _ _ 1 (spOwners K) := ok_owners A_owners T
  have R_reaches : Dfn P w K mg base _ _ 2 (spReaches K) := ok_reaches A_reaches T R_owners
  have R_live_rows : Dfn P w K mg base _ _ 4 (spLive K) := ok_live A_live_rows T R_matched R_reaches R_owners
  have R_live_of : Dfn P w K mg base _ _ 5 (spLiveOf K C) := ok_live_of A_live_of T tc R_live_rows
  have R_groups : Dfn P w K mg base _ _ 1 (spGroups K) := ok_groups A_groups T Tan
  have R_is_ring : Dfn P w K mg base _ _ 1 (spRingE K) := ok_ringE A_is_ring T
  have R_kind_of : Dfn P w K mg base _ _ 2 (spKindE K) := ok_kindE A_kind_of T R_is_ring
  have R_piece_kinds : Dfn P w K mg base _ _ 6 (spPkE K C) := ok_pkE A_piece_kinds T R_live_of R_groups R_kind_of
  have R_things_of : Dfn P w K mg base _ _ 1 (spThings K) := ok_things A_things_of T
  have R_rows_of : Dfn P w K mg base _ _ 1 (spRowsOf K) := ok_rows_of A_rows_of T
  have R_pieces : Dfn P w K mg base _ _ 6 (spPieces K C) := ok_pieces A_pieces T tc R_live_of R_groups R_things_of R_rows_of
  have R_is_all_or_nothing : Dfn P w K mg base _ _ 1 (spAon K C) := ok_aon A_is_all_or_nothing T tc
  have R_always_even : Dfn P w K mg base _ _ 7 (spAevW K C) := ok_aevW A_always_even T hcu R_check_custom R_piece_kinds R_pieces R_is_all_or_nothing
  have R_law_all_or_none : Dfn P w K mg base _ _ 1 (spLAon K) := ok_laon A_law_all_or_none T
  have R_check_size : Dfn P w K mg base _ _ 3 (spCkSize K C) := ok_check_size A_check_size T hMR R_is_integer
  have R_table_of : Dfn P w K mg base _ _ 8 (spTableOf K C) := ok_table_of A_table_of T GT
  have R_full : Dfn P w K mg base _ _ 9 (spTabOf K C Mt.fullR) := ok_full A_full T R_check_size R_table_of
  have R_beside : Dfn P w K mg base _ _ 9 (spBeside K C) := ok_beside A_beside T tc hMB R_table_of
  have R_check_person : Dfn P w K mg base _ _ 3 (spCheckN K C) := ok_check_person A_check_person tc R_is_number
  have R_check_thing : Dfn P w K mg base _ _ 3 (spCheckN K C) := ok_check_thing A_check_thing tc R_is_number
  have R_with_row : Dfn P w K mg base _ _ 9 (spWithRow K C) := ok_with_row A_with_row tc R_table_of
  have R_with_tie : Dfn P w K mg base _ _ 10 (spWith K C) := ok_with_tie A_with_tie T tc R_check_person R_check_thing R_with_row
  have R_law_great_right : Dfn P w K mg base _ _ 11 (spGR) := ok_great A_law_great_right T R_law_draw R_law_flag R_always_even R_full R_beside R_with_tie
  exact ok_law F T tc GT R_law_pool R_law_draw R_law_rows R_law_all R_law_turns R_law_alike R_law_flag R_always_even R_piece_kinds R_pieces R_law_all_or_none R_law_great_right
end
end Fo
set_option maxRecDepth 100000
set_option maxHeartbeats 4000000
namespace Fo
open PySem PySem.Spec PyProof.Rows L2
theorem kit_own {K : PySem.W.Frag} {C : Addr} {T : String} {b : Bool} (hm : PySem.W.kitMeta T = true) (h : PySem.W.mroIn K C (.type T) = some b) : PySem.W.kitOne K (.ref C) (.type T) = some b := by
  have e : (Value.ref C == Value.type T) = false := by
    rw [beq_eq_false_iff_ne]
    intro q
    cases q
  show (if (Value.ref C == Value.type T) = true then some true else if PySem.W.kitMeta T = true then PySem.W.mroIn K C (.type T) else none) = some b
  rw [e, if_neg (by decide), if_pos hm, h]
theorem at_mk {K : PySem.W.Frag} {h : Heap} {mg : Str → Option Value} (X : K.In h) (G : h.Ns mainGlobals mg) {x : Str} {st : Stmt} {ps : List Str} {f : Addr} {oc : Value} {od an : Option Addr} {sl : Array (Option Value)} {kV dc pm cd ct : Value}
    (a : PySem.W.nsIn K mainGlobals x = some (some (.ref f))) (l : K.lookup f = some ⟨oc, od, .func (PySem.W.fnOf x x (defArgs st) (defBody st) (defScope st) .none kV dc pm an cd ct), sl⟩) (c : PySem.W.codeIn K cd x = true) (k : PySem.W.keepIn K (.ref f) = true)
    (b : ∀ (kV doc pm : Value) (an : Option Addr) (cdv ct : Value) (us : List Value), us.length = ps.length → bindArgs (PySem.W.fnOf x x (defArgs st) (defBody st) (defScope st) Value.none kV doc pm an cdv ct) { pos := us } = pure (ps.zip us)) : At K mg x st ps :=
  ⟨f, _, PySem.W.mg_of X G a, fun_mk (st := st) l c k, (fun_mk (st := st) l c k).binds b⟩
theorem all_mk {l : PySem.W.OpenLaw} {w : World} {K : PySem.W.Frag} {h : Heap} {mg : Str → Option Value} {fa C : Addr} {tk tkhMB : Tok} (X : K.In h) (G : h.Ns mainGlobals mg) (hfa : mg "law" = some (.ref fa))
    {f1 : Addr} {od1 an1 : Option Addr} {sl1 : Array (Option Value)} {oc1 kV1 dc1 pm1 cd1 ct1 : Value}
    {f2 : Addr} {od2 an2 : Option Addr} {sl2 : Array (Option Value)} {oc2 kV2 dc2 pm2 cd2 ct2 : Value}
    {f3 : Addr} {od3 an3 : Option Addr} {sl3 : Array (Option Value)} {oc3 kV3 dc3 pm3 cd3 ct3 : Value}
    {f4 : Addr} {od4 an4 : Option Addr} {sl4 : Array (Option Value)} {oc4 kV4 dc4 pm4 cd4 ct4 : Value}
    {f5 : Addr} {od5 an5 : Option Addr} {sl5 : Array (Option Value)} {oc5 kV5 dc5 pm5 cd5 ct5 : Value}
    {f6 : Addr} {od6 an6 : Option Addr} {sl6 : Array (Option Value)} {oc6 kV6 dc6 pm6 cd6 ct6 : Value}
    {f7 : Addr} {od7 an7 : Option Addr} {sl7 : Array (Option Value)} {oc7 kV7 dc7 pm7 cd7 ct7 : Value}
    {f8 : Addr} {od8 an8 : Option Addr} {sl8 : Array (Option Value)} {oc8 kV8 dc8 pm8 cd8 ct8 : Value}
    {f9 : Addr} {od9 an9 : Option Addr} {sl9 : Array (Option Value)} {oc9 kV9 dc9 pm9 cd9 ct9 : Value}
    {f10 : Addr} {od10 an10 : Option Addr} {sl10 : Array (Option Value)} {oc10 kV10 dc10 pm10 cd10 ct10 : Value}
    {f11 : Addr} {od11 an11 : Option Addr} {sl11 : Array (Option Value)} {oc11 kV11 dc11 pm11 cd11 ct11 : Value}
    {f12 : Addr} {od12 an12 : Option Addr} {sl12 : Array (Option Value)} {oc12 kV12 dc12 pm12 cd12 ct12 : Value}
    {f13 : Addr} {od13 an13 : Option Addr} {sl13 : Array (Option Value)} {oc13 kV13 dc13 pm13 cd13 ct13 : Value}
    {f14 : Addr} {od14 an14 : Option Addr} {sl14 : Array (Option Value)} {oc14 kV14 dc14 pm14 cd14 ct14 : Value}
    {f15 : Addr} {od15 an15 : Option Addr} {sl15 : Array (Option Value)} {oc15 kV15 dc15 pm15 cd15 ct15 : Value}
    {f16 : Addr} {od16 an16 : Option Addr} {sl16 : Array (Option Value)} {oc16 kV16 dc16 pm16 cd16 ct16 : Value}
    {f17 : Addr} {od17 an17 : Option Addr} {sl17 : Array (Option Value)} {oc17 kV17 dc17 pm17 cd17 ct17 : Value}
    {f18 : Addr} {od18 an18 : Option Addr} {sl18 : Array (Option Value)} {oc18 kV18 dc18 pm18 cd18 ct18 : Value}
    {f19 : Addr} {od19 an19 : Option Addr} {sl19 : Array (Option Value)} {oc19 kV19 dc19 pm19 cd19 ct19 : Value}
    {f20 : Addr} {od20 an20 : Option Addr} {sl20 : Array (Option Value)} {oc20 kV20 dc20 pm20 cd20 ct20 : Value}
    {f21 : Addr} {od21 an21 : Option Addr} {sl21 : Array (Option Value)} {oc21 kV21 dc21 pm21 cd21 ct21 : Value}
    {f22 : Addr} {od22 an22 : Option Addr} {sl22 : Array (Option Value)} {oc22 kV22 dc22 pm22 cd22 ct22 : Value}
    {f23 : Addr} {od23 an23 : Option Addr} {sl23 : Array (Option Value)} {oc23 kV23 dc23 pm23 cd23 ct23 : Value}
    {f24 : Addr} {od24 an24 : Option Addr} {sl24 : Array (Option Value)} {oc24 kV24 dc24 pm24 cd24 ct24 : Value}
    {f25 : Addr} {od25 an25 : Option Addr} {sl25 : Array (Option Value)} {oc25 kV25 dc25 pm25 cd25 ct25 : Value}
    {f26 : Addr} {od26 an26 : Option Addr} {sl26 : Array (Option Value)} {oc26 kV26 dc26 pm26 cd26 ct26 : Value}
    {f27 : Addr} {od27 an27 : Option Addr} {sl27 : Array (Option Value)} {oc27 kV27 dc27 pm27 cd27 ct27 : Value}
    {f28 : Addr} {od28 an28 : Option Addr} {sl28 : Array (Option Value)} {oc28 kV28 dc28 pm28 cd28 ct28 : Value}
    {f29 : Addr} {od29 an29 : Option Addr} {sl29 : Array (Option Value)} {oc29 kV29 dc29 pm29 cd29 ct29 : Value}
    {f30 : Addr} {od30 an30 : Option Addr} {sl30 : Array (Option Value)} {oc30 kV30 dc30 pm30 cd30 ct30 : Value}
    {f31 : Addr} {od31 an31 : Option Addr} {sl31 : Array (Option Value)} {oc31 kV31 dc31 pm31 cd31 ct31 : Value}
    {f32 : Addr} {od32 an32 : Option Addr} {sl32 : Array (Option Value)} {oc32 kV32 dc32 pm32 cd32 ct32 : Value}
    {f33 : Addr} {od33 an33 : Option Addr} {sl33 : Array (Option Value)} {oc33 kV33 dc33 pm33 cd33 ct33 : Value}
    {f34 : Addr} {od34 an34 : Option Addr} {sl34 : Array (Option Value)} {oc34 kV34 dc34 pm34 cd34 ct34 : Value}
    {f35 : Addr} {od35 an35 : Option Addr} {sl35 : Array (Option Value)} {oc35 kV35 dc35 pm35 cd35 ct35 : Value}
    {f36 : Addr} {od36 an36 : Option Addr} {sl36 : Array (Option Value)} {oc36 kV36 dc36 pm36 cd36 ct36 : Value}
    {f37 : Addr} {od37 an37 : Option Addr} {sl37 : Array (Option Value)} {oc37 kV37 dc37 pm37 cd37 ct37 : Value}
    {f38 : Addr} {od38 an38 : Option Addr} {sl38 : Array (Option Value)} {oc38 kV38 dc38 pm38 cd38 ct38 : Value}
    {f39 : Addr} {od39 an39 : Option Addr} {sl39 : Array (Option Value)} {oc39 kV39 dc39 pm39 cd39 ct39 : Value}
    {f40 : Addr} {od40 an40 : Option Addr} {sl40 : Array (Option Value)} {oc40 kV40 dc40 pm40 cd40 ct40 : Value}
    {f41 : Addr} {od41 an41 : Option Addr} {sl41 : Array (Option Value)} {oc41 kV41 dc41 pm41 cd41 ct41 : Value}
    {f42 : Addr} {od42 an42 : Option Addr} {sl42 : Array (Option Value)} {oc42 kV42 dc42 pm42 cd42 ct42 : Value}
    {f43 : Addr} {od43 an43 : Option Addr} {sl43 : Array (Option Value)} {oc43 kV43 dc43 pm43 cd43 ct43 : Value}
    {f44 : Addr} {od44 an44 : Option Addr} {sl44 : Array (Option Value)} {oc44 kV44 dc44 pm44 cd44 ct44 : Value}
    {f45 : Addr} {od45 an45 : Option Addr} {sl45 : Array (Option Value)} {oc45 kV45 dc45 pm45 cd45 ct45 : Value}
    {f46 : Addr} {od46 an46 : Option Addr} {sl46 : Array (Option Value)} {oc46 kV46 dc46 pm46 cd46 ct46 : Value}
    {f47 : Addr} {od47 an47 : Option Addr} {sl47 : Array (Option Value)} {oc47 kV47 dc47 pm47 cd47 ct47 : Value}
    {f48 : Addr} {od48 an48 : Option Addr} {sl48 : Array (Option Value)} {oc48 kV48 dc48 pm48 cd48 ct48 : Value}
    {f49 : Addr} {od49 an49 : Option Addr} {sl49 : Array (Option Value)} {oc49 kV49 dc49 pm49 cd49 ct49 : Value}
    {f50 : Addr} {od50 an50 : Option Addr} {sl50 : Array (Option Value)} {oc50 kV50 dc50 pm50 cd50 ct50 : Value}
    {cu : Addr} {odCU : Option Addr} {nCU : Nat} {slCU : Array (Option Value)} {tU0 tU1 : Tok}
    (aC : PySem.W.nsIn K mainGlobals "Table" = some (some (.ref C)))
    (aI : PySem.W.findIn K (.ref C) "__init__" = some (some (.ref f1)))
    (iI : PySem.W.isFn K (.ref f1) = true)
    (l1 : K.lookup f1 = some ⟨oc1, od1, .func (PySem.W.fnOf "__init__" "Table.__init__" (defArgs s_Table___init) (defBody s_Table___init) (defScope s_Table___init) .none kV1 dc1 pm1 an1 cd1 ct1), sl1⟩)
    (c1 : PySem.W.codeIn K cd1 "Table.__init__" = true)
    (k1 : PySem.W.keepIn K (.ref f1) = true)
    (aE : PySem.W.findIn K (.ref C) "__eq__" = some (some (.ref f2)))
    (iE : PySem.W.isFn K (.ref f2) = true)
    (l2 : K.lookup f2 = some ⟨oc2, od2, .func (PySem.W.fnOf "__eq__" "Table.__eq__" (defArgs s_Table___eq) (defBody s_Table___eq) (defScope s_Table___eq) .none kV2 dc2 pm2 an2 cd2 ct2), sl2⟩)
    (c2 : PySem.W.codeIn K cd2 "Table.__eq__" = true)
    (k2 : PySem.W.keepIn K (.ref f2) = true)
    (aL : PySem.W.nsIn K mainGlobals "law" = some (some (.ref f3)))
    (l3 : K.lookup f3 = some ⟨oc3, od3, .func (PySem.W.fnOf "law" "law" (defArgs s_law) (defBody s_law) (defScope s_law) .none kV3 dc3 pm3 an3 cd3 ct3), sl3⟩)
    (c3 : PySem.W.codeIn K cd3 "law" = true)
    (k3 : PySem.W.keepIn K (.ref f3) = true)
    (a4 : PySem.W.nsIn K mainGlobals "is_integer" = some (some (.ref f4)))
    (l4 : K.lookup f4 = some ⟨oc4, od4, .func (PySem.W.fnOf "is_integer" "is_integer" (defArgs s_is_integer) (defBody s_is_integer) (defScope s_is_integer) .none kV4 dc4 pm4 an4 cd4 ct4), sl4⟩)
    (c4 : PySem.W.codeIn K cd4 "is_integer" = true)
    (k4 : PySem.W.keepIn K (.ref f4) = true)
    (a5 : PySem.W.nsIn K mainGlobals "is_number" = some (some (.ref f5)))
    (l5 : K.lookup f5 = some ⟨oc5, od5, .func (PySem.W.fnOf "is_number" "is_number" (defArgs s_is_number) (defBody s_is_number) (defScope s_is_number) .none kV5 dc5 pm5 an5 cd5 ct5), sl5⟩)
    (c5 : PySem.W.codeIn K cd5 "is_number" = true)
    (k5 : PySem.W.keepIn K (.ref f5) = true)
    (a6 : PySem.W.nsIn K mainGlobals "is_numbers" = some (some (.ref f6)))
    (l6 : K.lookup f6 = some ⟨oc6, od6, .func (PySem.W.fnOf "is_numbers" "is_numbers" (defArgs s_is_numbers) (defBody s_is_numbers) (defScope s_is_numbers) .none kV6 dc6 pm6 an6 cd6 ct6), sl6⟩)
    (c6 : PySem.W.codeIn K cd6 "is_numbers" = true)
    (k6 : PySem.W.keepIn K (.ref f6) = true)
    (a7 : PySem.W.nsIn K mainGlobals "is_ascending" = some (some (.ref f7)))
    (l7 : K.lookup f7 = some ⟨oc7, od7, .func (PySem.W.fnOf "is_ascending" "is_ascending" (defArgs s_is_ascending) (defBody s_is_ascending) (defScope s_is_ascending) .none kV7 dc7 pm7 an7 cd7 ct7), sl7⟩)
    (c7 : PySem.W.codeIn K cd7 "is_ascending" = true)
    (k7 : PySem.W.keepIn K (.ref f7) = true)
    (a8 : PySem.W.nsIn K mainGlobals "_check_rows" = some (some (.ref f8)))
    (l8 : K.lookup f8 = some ⟨oc8, od8, .func (PySem.W.fnOf "_check_rows" "_check_rows" (defArgs s_check_rows) (defBody s_check_rows) (defScope s_check_rows) .none kV8 dc8 pm8 an8 cd8 ct8), sl8⟩)
    (c8 : PySem.W.codeIn K cd8 "_check_rows" = true)
    (k8 : PySem.W.keepIn K (.ref f8) = true)
    (a9 : PySem.W.nsIn K mainGlobals "_law_pool" = some (some (.ref f9)))
    (l9 : K.lookup f9 = some ⟨oc9, od9, .func (PySem.W.fnOf "_law_pool" "_law_pool" (defArgs s_law_pool) (defBody s_law_pool) (defScope s_law_pool) .none kV9 dc9 pm9 an9 cd9 ct9), sl9⟩)
    (c9 : PySem.W.codeIn K cd9 "_law_pool" = true)
    (k9 : PySem.W.keepIn K (.ref f9) = true)
    (a10 : PySem.W.nsIn K mainGlobals "_law_draw" = some (some (.ref f10)))
    (l10 : K.lookup f10 = some ⟨oc10, od10, .func (PySem.W.fnOf "_law_draw" "_law_draw" (defArgs s_law_draw) (defBody s_law_draw) (defScope s_law_draw) .none kV10 dc10 pm10 an10 cd10 ct10), sl10⟩)
    (c10 : PySem.W.codeIn K cd10 "_law_draw" = true)
    (k10 : PySem.W.keepIn K (.ref f10) = true)
    (a11 : PySem.W.nsIn K mainGlobals "_law_mixed" = some (some (.ref f11)))
    (l11 : K.lookup f11 = some ⟨oc11, od11, .func (PySem.W.fnOf "_law_mixed" "_law_mixed" (defArgs s_law_mixed) (defBody s_law_mixed) (defScope s_law_mixed) .none kV11 dc11 pm11 an11 cd11 ct11), sl11⟩)
    (c11 : PySem.W.codeIn K cd11 "_law_mixed" = true)
    (k11 : PySem.W.keepIn K (.ref f11) = true)
    (a12 : PySem.W.nsIn K mainGlobals "_law_blocks" = some (some (.ref f12)))
    (l12 : K.lookup f12 = some ⟨oc12, od12, .func (PySem.W.fnOf "_law_blocks" "_law_blocks" (defArgs s_law_blocks) (defBody s_law_blocks) (defScope s_law_blocks) .none kV12 dc12 pm12 an12 cd12 ct12), sl12⟩)
    (c12 : PySem.W.codeIn K cd12 "_law_blocks" = true)
    (k12 : PySem.W.keepIn K (.ref f12) = true)
    (a13 : PySem.W.nsIn K mainGlobals "_law_rows" = some (some (.ref f13)))
    (l13 : K.lookup f13 = some ⟨oc13, od13, .func (PySem.W.fnOf "_law_rows" "_law_rows" (defArgs s_law_rows) (defBody s_law_rows) (defScope s_law_rows) .none kV13 dc13 pm13 an13 cd13 ct13), sl13⟩)
    (c13 : PySem.W.codeIn K cd13 "_law_rows" = true)
    (k13 : PySem.W.keepIn K (.ref f13) = true)
    (a14 : PySem.W.nsIn K mainGlobals "_law_all" = some (some (.ref f14)))
    (l14 : K.lookup f14 = some ⟨oc14, od14, .func (PySem.W.fnOf "_law_all" "_law_all" (defArgs s_law_all) (defBody s_law_all) (defScope s_law_all) .none kV14 dc14 pm14 an14 cd14 ct14), sl14⟩)
    (c14 : PySem.W.codeIn K cd14 "_law_all" = true)
    (k14 : PySem.W.keepIn K (.ref f14) = true)
    (a15 : PySem.W.nsIn K mainGlobals "_law_turns" = some (some (.ref f15)))
    (l15 : K.lookup f15 = some ⟨oc15, od15, .func (PySem.W.fnOf "_law_turns" "_law_turns" (defArgs s_law_turns) (defBody s_law_turns) (defScope s_law_turns) .none kV15 dc15 pm15 an15 cd15 ct15), sl15⟩)
    (c15 : PySem.W.codeIn K cd15 "_law_turns" = true)
    (k15 : PySem.W.keepIn K (.ref f15) = true)
    (a16 : PySem.W.nsIn K mainGlobals "_law_fits" = some (some (.ref f16)))
    (l16 : K.lookup f16 = some ⟨oc16, od16, .func (PySem.W.fnOf "_law_fits" "_law_fits" (defArgs s_law_fits) (defBody s_law_fits) (defScope s_law_fits) .none kV16 dc16 pm16 an16 cd16 ct16), sl16⟩)
    (c16 : PySem.W.codeIn K cd16 "_law_fits" = true)
    (k16 : PySem.W.keepIn K (.ref f16) = true)
    (a17 : PySem.W.nsIn K mainGlobals "_law_open" = some (some (.ref f17)))
    (l17 : K.lookup f17 = some ⟨oc17, od17, .func (PySem.W.fnOf "_law_open" "_law_open" (defArgs s_law_open) (defBody s_law_open) (defScope s_law_open) .none kV17 dc17 pm17 an17 cd17 ct17), sl17⟩)
    (c17 : PySem.W.codeIn K cd17 "_law_open" = true)
    (k17 : PySem.W.keepIn K (.ref f17) = true)
    (a18 : PySem.W.nsIn K mainGlobals "_law_is_near" = some (some (.ref f18)))
    (l18 : K.lookup f18 = some ⟨oc18, od18, .func (PySem.W.fnOf "_law_is_near" "_law_is_near" (defArgs s_law_is_near) (defBody s_law_is_near) (defScope s_law_is_near) .none kV18 dc18 pm18 an18 cd18 ct18), sl18⟩)
    (c18 : PySem.W.codeIn K cd18 "_law_is_near" = true)
    (k18 : PySem.W.keepIn K (.ref f18) = true)
    (a19 : PySem.W.nsIn K mainGlobals "_law_drawn" = some (some (.ref f19)))
    (l19 : K.lookup f19 = some ⟨oc19, od19, .func (PySem.W.fnOf "_law_drawn" "_law_drawn" (defArgs s_law_drawn) (defBody s_law_drawn) (defScope s_law_drawn) .none kV19 dc19 pm19 an19 cd19 ct19), sl19⟩)
    (c19 : PySem.W.codeIn K cd19 "_law_drawn" = true)
    (k19 : PySem.W.keepIn K (.ref f19) = true)
    (a20 : PySem.W.nsIn K mainGlobals "_law_sides" = some (some (.ref f20)))
    (l20 : K.lookup f20 = some ⟨oc20, od20, .func (PySem.W.fnOf "_law_sides" "_law_sides" (defArgs s_law_sides) (defBody s_law_sides) (defScope s_law_sides) .none kV20 dc20 pm20 an20 cd20 ct20), sl20⟩)
    (c20 : PySem.W.codeIn K cd20 "_law_sides" = true)
    (k20 : PySem.W.keepIn K (.ref f20) = true)
    (a21 : PySem.W.nsIn K mainGlobals "_law_bottom" = some (some (.ref f21)))
    (l21 : K.lookup f21 = some ⟨oc21, od21, .func (PySem.W.fnOf "_law_bottom" "_law_bottom" (defArgs s_law_bottom) (defBody s_law_bottom) (defScope s_law_bottom) .none kV21 dc21 pm21 an21 cd21 ct21), sl21⟩)
    (c21 : PySem.W.codeIn K cd21 "_law_bottom" = true)
    (k21 : PySem.W.keepIn K (.ref f21) = true)
    (a22 : PySem.W.nsIn K mainGlobals "_law_alike" = some (some (.ref f22)))
    (l22 : K.lookup f22 = some ⟨oc22, od22, .func (PySem.W.fnOf "_law_alike" "_law_alike" (defArgs s_law_alike) (defBody s_law_alike) (defScope s_law_alike) .none kV22 dc22 pm22 an22 cd22 ct22), sl22⟩)
    (c22 : PySem.W.codeIn K cd22 "_law_alike" = true)
    (k22 : PySem.W.keepIn K (.ref f22) = true)
    (a23 : PySem.W.nsIn K mainGlobals "_law_flag" = some (some (.ref f23)))
    (l23 : K.lookup f23 = some ⟨oc23, od23, .func (PySem.W.fnOf "_law_flag" "_law_flag" (defArgs s_law_flag) (defBody s_law_flag) (defScope s_law_flag) .none kV23 dc23 pm23 an23 cd23 ct23), sl23⟩)
    (c23 : PySem.W.codeIn K cd23 "_law_flag" = true)
    (k23 : PySem.W.keepIn K (.ref f23) = true)
    (a24 : PySem.W.nsIn K mainGlobals "check_custom" = some (some (.ref f24)))
    (l24 : K.lookup f24 = some ⟨oc24, od24, .func (PySem.W.fnOf "check_custom" "check_custom" (defArgs s_check_custom) (defBody s_check_custom) (defScope s_check_custom) .none kV24 dc24 pm24 an24 cd24 ct24), sl24⟩)
    (c24 : PySem.W.codeIn K cd24 "check_custom" = true)
    (k24 : PySem.W.keepIn K (.ref f24) = true)
    (a25 : PySem.W.nsIn K mainGlobals "_hand_on" = some (some (.ref f25)))
    (l25 : K.lookup f25 = some ⟨oc25, od25, .func (PySem.W.fnOf "_hand_on" "_hand_on" (defArgs s_hand_on) (defBody s_hand_on) (defScope s_hand_on) .none kV25 dc25 pm25 an25 cd25 ct25), sl25⟩)
    (c25 : PySem.W.codeIn K cd25 "_hand_on" = true)
    (k25 : PySem.W.keepIn K (.ref f25) = true)
    (a26 : PySem.W.nsIn K mainGlobals "_give" = some (some (.ref f26)))
    (l26 : K.lookup f26 = some ⟨oc26, od26, .func (PySem.W.fnOf "_give" "_give" (defArgs s_give) (defBody s_give) (defScope s_give) .none kV26 dc26 pm26 an26 cd26 ct26), sl26⟩)
    (c26 : PySem.W.codeIn K cd26 "_give" = true)
    (k26 : PySem.W.keepIn K (.ref f26) = true)
    (a27 : PySem.W.nsIn K mainGlobals "matched" = some (some (.ref f27)))
    (l27 : K.lookup f27 = some ⟨oc27, od27, .func (PySem.W.fnOf "matched" "matched" (defArgs s_matched) (defBody s_matched) (defScope s_matched) .none kV27 dc27 pm27 an27 cd27 ct27), sl27⟩)
    (c27 : PySem.W.codeIn K cd27 "matched" = true)
    (k27 : PySem.W.keepIn K (.ref f27) = true)
    (a28 : PySem.W.nsIn K mainGlobals "owners" = some (some (.ref f28)))
    (l28 : K.lookup f28 = some ⟨oc28, od28, .func (PySem.W.fnOf "owners" "owners" (defArgs s_owners) (defBody s_owners) (defScope s_owners) .none kV28 dc28 pm28 an28 cd28 ct28), sl28⟩)
    (c28 : PySem.W.codeIn K cd28 "owners" = true)
    (k28 : PySem.W.keepIn K (.ref f28) = true)
    (a29 : PySem.W.nsIn K mainGlobals "reaches" = some (some (.ref f29)))
    (l29 : K.lookup f29 = some ⟨oc29, od29, .func (PySem.W.fnOf "reaches" "reaches" (defArgs s_reaches) (defBody s_reaches) (defScope s_reaches) .none kV29 dc29 pm29 an29 cd29 ct29), sl29⟩)
    (c29 : PySem.W.codeIn K cd29 "reaches" = true)
    (k29 : PySem.W.keepIn K (.ref f29) = true)
    (a30 : PySem.W.nsIn K mainGlobals "live_rows" = some (some (.ref f30)))
    (l30 : K.lookup f30 = some ⟨oc30, od30, .func (PySem.W.fnOf "live_rows" "live_rows" (defArgs s_live_rows) (defBody s_live_rows) (defScope s_live_rows) .none kV30 dc30 pm30 an30 cd30 ct30), sl30⟩)
    (c30 : PySem.W.codeIn K cd30 "live_rows" = true)
    (k30 : PySem.W.keepIn K (.ref f30) = true)
    (a31 : PySem.W.nsIn K mainGlobals "live_of" = some (some (.ref f31)))
    (l31 : K.lookup f31 = some ⟨oc31, od31, .func (PySem.W.fnOf "live_of" "live_of" (defArgs s_live_of) (defBody s_live_of) (defScope s_live_of) .none kV31 dc31 pm31 an31 cd31 ct31), sl31⟩)
    (c31 : PySem.W.codeIn K cd31 "live_of" = true)
    (k31 : PySem.W.keepIn K (.ref f31) = true)
    (a32 : PySem.W.nsIn K mainGlobals "groups" = some (some (.ref f32)))
    (l32 : K.lookup f32 = some ⟨oc32, od32, .func (PySem.W.fnOf "groups" "groups" (defArgs s_groups) (defBody s_groups) (defScope s_groups) .none kV32 dc32 pm32 an32 cd32 ct32), sl32⟩)
    (c32 : PySem.W.codeIn K cd32 "groups" = true)
    (k32 : PySem.W.keepIn K (.ref f32) = true)
    (a33 : PySem.W.nsIn K mainGlobals "_is_ring" = some (some (.ref f33)))
    (l33 : K.lookup f33 = some ⟨oc33, od33, .func (PySem.W.fnOf "_is_ring" "_is_ring" (defArgs s_is_ring) (defBody s_is_ring) (defScope s_is_ring) .none kV33 dc33 pm33 an33 cd33 ct33), sl33⟩)
    (c33 : PySem.W.codeIn K cd33 "_is_ring" = true)
    (k33 : PySem.W.keepIn K (.ref f33) = true)
    (a34 : PySem.W.nsIn K mainGlobals "_kind_of" = some (some (.ref f34)))
    (l34 : K.lookup f34 = some ⟨oc34, od34, .func (PySem.W.fnOf "_kind_of" "_kind_of" (defArgs s_kind_of) (defBody s_kind_of) (defScope s_kind_of) .none kV34 dc34 pm34 an34 cd34 ct34), sl34⟩)
    (c34 : PySem.W.codeIn K cd34 "_kind_of" = true)
    (k34 : PySem.W.keepIn K (.ref f34) = true)
    (a35 : PySem.W.nsIn K mainGlobals "piece_kinds" = some (some (.ref f35)))
    (l35 : K.lookup f35 = some ⟨oc35, od35, .func (PySem.W.fnOf "piece_kinds" "piece_kinds" (defArgs s_piece_kinds) (defBody s_piece_kinds) (defScope s_piece_kinds) .none kV35 dc35 pm35 an35 cd35 ct35), sl35⟩)
    (c35 : PySem.W.codeIn K cd35 "piece_kinds" = true)
    (k35 : PySem.W.keepIn K (.ref f35) = true)
    (a36 : PySem.W.nsIn K mainGlobals "things_of" = some (some (.ref f36)))
    (l36 : K.lookup f36 = some ⟨oc36, od36, .func (PySem.W.fnOf "things_of" "things_of" (defArgs s_things_of) (defBody s_things_of) (defScope s_things_of) .none kV36 dc36 pm36 an36 cd36 ct36), sl36⟩)
    (c36 : PySem.W.codeIn K cd36 "things_of" = true)
    (k36 : PySem.W.keepIn K (.ref f36) = true)
    (a37 : PySem.W.nsIn K mainGlobals "rows_of" = some (some (.ref f37)))
    (l37 : K.lookup f37 = some ⟨oc37, od37, .func (PySem.W.fnOf "rows_of" "rows_of" (defArgs s_rows_of) (defBody s_rows_of) (defScope s_rows_of) .none kV37 dc37 pm37 an37 cd37 ct37), sl37⟩)
    (c37 : PySem.W.codeIn K cd37 "rows_of" = true)
    (k37 : PySem.W.keepIn K (.ref f37) = true)
    (a38 : PySem.W.nsIn K mainGlobals "pieces" = some (some (.ref f38)))
    (l38 : K.lookup f38 = some ⟨oc38, od38, .func (PySem.W.fnOf "pieces" "pieces" (defArgs s_pieces) (defBody s_pieces) (defScope s_pieces) .none kV38 dc38 pm38 an38 cd38 ct38), sl38⟩)
    (c38 : PySem.W.codeIn K cd38 "pieces" = true)
    (k38 : PySem.W.keepIn K (.ref f38) = true)
    (a39 : PySem.W.nsIn K mainGlobals "_is_all_or_nothing" = some (some (.ref f39)))
    (l39 : K.lookup f39 = some ⟨oc39, od39, .func (PySem.W.fnOf "_is_all_or_nothing" "_is_all_or_nothing" (defArgs s_is_all_or_nothing) (defBody s_is_all_or_nothing) (defScope s_is_all_or_nothing) .none kV39 dc39 pm39 an39 cd39 ct39), sl39⟩)
    (c39 : PySem.W.codeIn K cd39 "_is_all_or_nothing" = true)
    (k39 : PySem.W.keepIn K (.ref f39) = true)
    (a40 : PySem.W.nsIn K mainGlobals "always_even" = some (some (.ref f40)))
    (l40 : K.lookup f40 = some ⟨oc40, od40, .func (PySem.W.fnOf "always_even" "always_even" (defArgs s_always_even) (defBody s_always_even) (defScope s_always_even) .none kV40 dc40 pm40 an40 cd40 ct40), sl40⟩)
    (c40 : PySem.W.codeIn K cd40 "always_even" = true)
    (k40 : PySem.W.keepIn K (.ref f40) = true)
    (a41 : PySem.W.nsIn K mainGlobals "_law_all_or_none" = some (some (.ref f41)))
    (l41 : K.lookup f41 = some ⟨oc41, od41, .func (PySem.W.fnOf "_law_all_or_none" "_law_all_or_none" (defArgs s_law_all_or_none) (defBody s_law_all_or_none) (defScope s_law_all_or_none) .none kV41 dc41 pm41 an41 cd41 ct41), sl41⟩)
    (c41 : PySem.W.codeIn K cd41 "_law_all_or_none" = true)
    (k41 : PySem.W.keepIn K (.ref f41) = true)
    (a42 : PySem.W.nsIn K mainGlobals "_check_size" = some (some (.ref f42)))
    (l42 : K.lookup f42 = some ⟨oc42, od42, .func (PySem.W.fnOf "_check_size" "_check_size" (defArgs s_check_size) (defBody s_check_size) (defScope s_check_size) .none kV42 dc42 pm42 an42 cd42 ct42), sl42⟩)
    (c42 : PySem.W.codeIn K cd42 "_check_size" = true)
    (k42 : PySem.W.keepIn K (.ref f42) = true)
    (a43 : PySem.W.nsIn K mainGlobals "table_of" = some (some (.ref f43)))
    (l43 : K.lookup f43 = some ⟨oc43, od43, .func (PySem.W.fnOf "table_of" "table_of" (defArgs s_table_of) (defBody s_table_of) (defScope s_table_of) .none kV43 dc43 pm43 an43 cd43 ct43), sl43⟩)
    (c43 : PySem.W.codeIn K cd43 "table_of" = true)
    (k43 : PySem.W.keepIn K (.ref f43) = true)
    (a44 : PySem.W.nsIn K mainGlobals "full" = some (some (.ref f44)))
    (l44 : K.lookup f44 = some ⟨oc44, od44, .func (PySem.W.fnOf "full" "full" (defArgs s_full) (defBody s_full) (defScope s_full) .none kV44 dc44 pm44 an44 cd44 ct44), sl44⟩)
    (c44 : PySem.W.codeIn K cd44 "full" = true)
    (k44 : PySem.W.keepIn K (.ref f44) = true)
    (a45 : PySem.W.nsIn K mainGlobals "beside" = some (some (.ref f45)))
    (l45 : K.lookup f45 = some ⟨oc45, od45, .func (PySem.W.fnOf "beside" "beside" (defArgs s_beside) (defBody s_beside) (defScope s_beside) .none kV45 dc45 pm45 an45 cd45 ct45), sl45⟩)
    (c45 : PySem.W.codeIn K cd45 "beside" = true)
    (k45 : PySem.W.keepIn K (.ref f45) = true)
    (a46 : PySem.W.nsIn K mainGlobals "check_person" = some (some (.ref f46)))
    (l46 : K.lookup f46 = some ⟨oc46, od46, .func (PySem.W.fnOf "check_person" "check_person" (defArgs s_check_person) (defBody s_check_person) (defScope s_check_person) .none kV46 dc46 pm46 an46 cd46 ct46), sl46⟩)
    (c46 : PySem.W.codeIn K cd46 "check_person" = true)
    (k46 : PySem.W.keepIn K (.ref f46) = true)
    (a47 : PySem.W.nsIn K mainGlobals "check_thing" = some (some (.ref f47)))
    (l47 : K.lookup f47 = some ⟨oc47, od47, .func (PySem.W.fnOf "check_thing" "check_thing" (defArgs s_check_thing) (defBody s_check_thing) (defScope s_check_thing) .none kV47 dc47 pm47 an47 cd47 ct47), sl47⟩)
    (c47 : PySem.W.codeIn K cd47 "check_thing" = true)
    (k47 : PySem.W.keepIn K (.ref f47) = true)
    (a48 : PySem.W.nsIn K mainGlobals "_with_row" = some (some (.ref f48)))
    (l48 : K.lookup f48 = some ⟨oc48, od48, .func (PySem.W.fnOf "_with_row" "_with_row" (defArgs s_with_row) (defBody s_with_row) (defScope s_with_row) .none kV48 dc48 pm48 an48 cd48 ct48), sl48⟩)
    (c48 : PySem.W.codeIn K cd48 "_with_row" = true)
    (k48 : PySem.W.keepIn K (.ref f48) = true)
    (a49 : PySem.W.nsIn K mainGlobals "with_tie" = some (some (.ref f49)))
    (l49 : K.lookup f49 = some ⟨oc49, od49, .func (PySem.W.fnOf "with_tie" "with_tie" (defArgs s_with_tie) (defBody s_with_tie) (defScope s_with_tie) .none kV49 dc49 pm49 an49 cd49 ct49), sl49⟩)
    (c49 : PySem.W.codeIn K cd49 "with_tie" = true)
    (k49 : PySem.W.keepIn K (.ref f49) = true)
    (a50 : PySem.W.nsIn K mainGlobals "_law_great_right" = some (some (.ref f50)))
    (l50 : K.lookup f50 = some ⟨oc50, od50, .func (PySem.W.fnOf "_law_great_right" "_law_great_right" (defArgs s_law_great_right) (defBody s_law_great_right) (defScope s_law_great_right) .none kV50 dc50 pm50 an50 cd50 ct50), sl50⟩)
    (c50 : PySem.W.codeIn K cd50 "_law_great_right" = true)
    (k50 : PySem.W.keepIn K (.ref f50) = true)
    (pg : PySem.W.plainGet K C Str.empty = true)
    (hd : PySem.W.hasDictIn K C = true)
    (po : PySem.W.plainOver K C = true)
    (sa : PySem.W.findIn K (.ref C) "__setattr__" = some (some (.builtin "object.__setattr__")))
    (mk : PySem.W.makesIn K C = true)
    (kc : PySem.W.keepIn K (.ref C) = true)
    (tha : PySem.W.findIn K (.ref C) "__class__" = some (some (.builtin "object.__class__")))
    (thn : PySem.W.specialIn K (.builtin "object.__class__") "__get__" = some (some (.builtin "getset_descriptor.__get__")))
    (thk : PySem.W.takesIn K (.builtin "object.__class__") = some true)
    (thm : PySem.W.mroIn K C (.type "object") = some true)
    (tne : PySem.W.findIn K (.ref C) "__ne__" = some (some (.builtin "object.__ne__")))
    (n_rows : PySem.W.findIn K (.ref C) "rows" = some none)
    (n_size : PySem.W.findIn K (.ref C) "size" = some none)
    (kI : PySem.W.mroIn K C (.type "int") = some false)
    (kB : PySem.W.mroIn K C (.type "bool") = some false)
    (kT : PySem.W.mroIn K C (.type "tuple") = some false)
    (kS : PySem.W.mroIn K C (.type "str") = some false)
    (kL : PySem.W.mroIn K C (.type "list") = some false)
    (mr : PySem.W.nsIn K mainGlobals "MOST_ROWS" = some (some (.int 12 tk)))
    (c_hMB : PySem.W.nsIn K mainGlobals "MOST_BESIDE" = some (some (.int 40 tkhMB)))
    (aCU : PySem.W.nsIn K mainGlobals "ALWAYS_CUSTOMS" = some (some (.ref cu)))
    (lCU : K.lookup cu = some ⟨.type "tuple", odCU, .seq #[.str "ahead" tU0, .str "anew" tU1] nCU, slCU⟩)
    (z_len : PySem.W.nsIn K mainGlobals "len" = some none)
    (z_list : PySem.W.nsIn K mainGlobals "list" = some none)
    (z_range : PySem.W.nsIn K mainGlobals "range" = some none)
    (z_tuple : PySem.W.nsIn K mainGlobals "tuple" = some none)
    (z_sorted : PySem.W.nsIn K mainGlobals "sorted" = some none)
    (z_int : PySem.W.nsIn K mainGlobals "int" = some none)
    (z_min : PySem.W.nsIn K mainGlobals "min" = some none)
    (z_isinstance : PySem.W.nsIn K mainGlobals "isinstance" = some none)
    (z_all : PySem.W.nsIn K mainGlobals "all" = some none)
    (z_enumerate : PySem.W.nsIn K mainGlobals "enumerate" = some none)
    (z_zip : PySem.W.nsIn K mainGlobals "zip" = some none)
    (z_set : PySem.W.nsIn K mainGlobals "set" = some none)
    (z_repr : PySem.W.nsIn K mainGlobals "repr" = some none)
    (z_str : PySem.W.nsIn K mainGlobals "str" = some none)
    (z_bool : PySem.W.nsIn K mainGlobals "bool" = some none)
    (z_sum : PySem.W.nsIn K mainGlobals "sum" = some none)
    (z_abs : PySem.W.nsIn K mainGlobals "abs" = some none)
    (z_max : PySem.W.nsIn K mainGlobals "max" = some none)
    (z_any : PySem.W.nsIn K mainGlobals "any" = some none) :
    ∃ fd : FuncData, (∀ (s : Shared) (v : Value), BindsTo s fd ⟨[v], []⟩ [("script", v)]) ∧ ∀ base : Heap, K.In base → base.Ns mainGlobals mg → FnOk l.prog w K mg base CX0 12 fa fd ["script"] (spLaw K) := by
  have e := hfa.symm.trans (PySem.W.mg_of X G aL)
  cases e
  have T : Tx mg := ⟨PySem.W.mg_none_of X G z_len, PySem.W.mg_none_of X G z_list, PySem.W.mg_none_of X G z_range, PySem.W.mg_none_of X G z_tuple, PySem.W.mg_none_of X G z_sorted, PySem.W.mg_none_of X G z_int, PySem.W.mg_none_of X G z_min, PySem.W.mg_none_of X G z_isinstance, PySem.W.mg_none_of X G z_all, PySem.W.mg_none_of X G z_enumerate, PySem.W.mg_none_of X G z_zip, PySem.W.mg_none_of X G z_set, PySem.W.mg_none_of X G z_repr, PySem.W.mg_none_of X G z_str, PySem.W.mg_none_of X G z_bool⟩
  have tc : TC K C := ⟨⟨pg, hd, po, sa⟩, tha, thn, thk, thm, tne, n_rows, n_size, kit_own (by decide +kernel) kI, kit_own (by decide +kernel) kB, kit_own (by decide +kernel) kT, kit_own (by decide +kernel) kS, kit_own (by decide +kernel) kL⟩
  exact ⟨PySem.W.fnOf "law" "law" (defArgs s_law) (defBody s_law) (defScope s_law) .none kV3 dc3 pm3 an3 cd3 ct3, fun s v => .of_eq rfl, fun base _ _ =>
    compose T tc (PySem.W.mg_none_of X G z_sum) (PySem.W.mg_none_of X G z_abs) (PySem.W.mg_none_of X G z_max) (PySem.W.mg_none_of X G z_any) (PySem.W.mg_of X G aC) (PySem.W.mg_of X G mr) (PySem.W.mg_of X G c_hMB) (cusA_mk (PySem.W.mg_of X G aCU) lCU) ⟨mk, aI, iI, kc⟩ (fun_mk (st := s_Table___init) l1 c1 k1) aE iE (fun_mk (st := s_Table___eq) l2 c2 k2)
      (at_mk (ps := ["thing"]) X G a4 l4 c4 k4 fun _ _ _ _ _ _ us hl => match us, hl with | [_], _ => rfl)
      (at_mk (ps := ["bound", "thing"]) X G a5 l5 c5 k5 fun _ _ _ _ _ _ us hl => match us, hl with | [_, _], _ => rfl)
      (at_mk (ps := ["bound", "thing"]) X G a6 l6 c6 k6 fun _ _ _ _ _ _ us hl => match us, hl with | [_, _], _ => rfl)
      (at_mk (ps := ["bound", "thing"]) X G a7 l7 c7 k7 fun _ _ _ _ _ _ us hl => match us, hl with | [_, _], _ => rfl)
      (at_mk (ps := ["rows"]) X G a8 l8 c8 k8 fun _ _ _ _ _ _ us hl => match us, hl with | [_], _ => rfl)
      (at_mk (ps := ["script"]) X G a9 l9 c9 k9 fun _ _ _ _ _ _ us hl => match us, hl with | [_], _ => rfl)
      (at_mk (ps := ["pool", "many"]) X G a10 l10 c10 k10 fun _ _ _ _ _ _ us hl => match us, hl with | [_, _], _ => rfl)
      (at_mk (ps := ["pool", "things"]) X G a11 l11 c11 k11 fun _ _ _ _ _ _ us hl => match us, hl with | [_, _], _ => rfl)
      (at_mk (ps := ["pool", "many"]) X G a12 l12 c12 k12 fun _ _ _ _ _ _ us hl => match us, hl with | [_, _], _ => rfl)
      (at_mk (ps := ["pool", "many"]) X G a13 l13 c13 k13 fun _ _ _ _ _ _ us hl => match us, hl with | [_, _], _ => rfl)
      (at_mk (ps := ["rows"]) X G a14 l14 c14 k14 fun _ _ _ _ _ _ us hl => match us, hl with | [_], _ => rfl)
      (at_mk (ps := ["many"]) X G a15 l15 c15 k15 fun _ _ _ _ _ _ us hl => match us, hl with | [_], _ => rfl)
      (at_mk (ps := ["standing", "dealing"]) X G a16 l16 c16 k16 fun _ _ _ _ _ _ us hl => match us, hl with | [_, _], _ => rfl)
      (at_mk (ps := ["deals", "standing", "person"]) X G a17 l17 c17 k17 fun _ _ _ _ _ _ us hl => match us, hl with | [_, _, _], _ => rfl)
      (at_mk (ps := ["rows", "standing"]) X G a18 l18 c18 k18 fun _ _ _ _ _ _ us hl => match us, hl with | [_, _], _ => rfl)
      (at_mk (ps := ["standing", "person", "thing"]) X G a19 l19 c19 k19 fun _ _ _ _ _ _ us hl => match us, hl with | [_, _, _], _ => rfl)
      (at_mk (ps := ["rows", "deals", "standing", "person", "custom"]) X G a20 l20 c20 k20 fun _ _ _ _ _ _ us hl => match us, hl with | [_, _, _, _, _], _ => rfl)
      (at_mk (ps := ["rows", "deals", "turn", "custom", "dealing"]) X G a21 l21 c21 k21 fun _ _ _ _ _ _ us hl => match us, hl with | [_, _, _, _, _], _ => rfl)
      (at_mk (ps := ["rows", "deals", "turn", "custom"]) X G a22 l22 c22 k22 fun _ _ _ _ _ _ us hl => match us, hl with | [_, _, _, _], _ => rfl)
      (at_mk (ps := ["told", "due"]) X G a23 l23 c23 k23 fun _ _ _ _ _ _ us hl => match us, hl with | [_, _], _ => rfl)
      (at_mk (ps := ["customs", "custom"]) X G a24 l24 c24 k24 fun _ _ _ _ _ _ us hl => match us, hl with | [_, _], _ => rfl)
      (at_mk (ps := ["held", "owner", "came", "thing"]) X G a25 l25 c25 k25 fun _ _ _ _ _ _ us hl => match us, hl with | [_, _, _, _], _ => rfl)
      (at_mk (ps := ["rows", "held", "owner", "person"]) X G a26 l26 c26 k26 fun _ _ _ _ _ _ us hl => match us, hl with | [_, _, _, _], _ => rfl)
      (at_mk (ps := ["rows"]) X G a27 l27 c27 k27 fun _ _ _ _ _ _ us hl => match us, hl with | [_], _ => rfl)
      (at_mk (ps := ["held"]) X G a28 l28 c28 k28 fun _ _ _ _ _ _ us hl => match us, hl with | [_], _ => rfl)
      (at_mk (ps := ["rows", "held"]) X G a29 l29 c29 k29 fun _ _ _ _ _ _ us hl => match us, hl with | [_, _], _ => rfl)
      (at_mk (ps := ["rows"]) X G a30 l30 c30 k30 fun _ _ _ _ _ _ us hl => match us, hl with | [_], _ => rfl)
      (at_mk (ps := ["table"]) X G a31 l31 c31 k31 fun _ _ _ _ _ _ us hl => match us, hl with | [_], _ => rfl)
      (at_mk (ps := ["rows"]) X G a32 l32 c32 k32 fun _ _ _ _ _ _ us hl => match us, hl with | [_], _ => rfl)
      (at_mk (ps := ["live", "people"]) X G a33 l33 c33 k33 fun _ _ _ _ _ _ us hl => match us, hl with | [_, _], _ => rfl)
      (at_mk (ps := ["live", "people"]) X G a34 l34 c34 k34 fun _ _ _ _ _ _ us hl => match us, hl with | [_, _], _ => rfl)
      (at_mk (ps := ["table"]) X G a35 l35 c35 k35 fun _ _ _ _ _ _ us hl => match us, hl with | [_], _ => rfl)
      (at_mk (ps := ["rows"]) X G a36 l36 c36 k36 fun _ _ _ _ _ _ us hl => match us, hl with | [_], _ => rfl)
      (at_mk (ps := ["rows", "people"]) X G a37 l37 c37 k37 fun _ _ _ _ _ _ us hl => match us, hl with | [_, _], _ => rfl)
      (at_mk (ps := ["table"]) X G a38 l38 c38 k38 fun _ _ _ _ _ _ us hl => match us, hl with | [_], _ => rfl)
      (at_mk (ps := ["table", "things"]) X G a39 l39 c39 k39 fun _ _ _ _ _ _ us hl => match us, hl with | [_, _], _ => rfl)
      (at_mk (ps := ["table", "custom"]) X G a40 l40 c40 k40 fun _ _ _ _ _ _ us hl => match us, hl with | [_, _], _ => rfl)
      (at_mk (ps := ["rows", "told"]) X G a41 l41 c41 k41 fun _ _ _ _ _ _ us hl => match us, hl with | [_, _], _ => rfl)
      (at_mk (ps := ["size"]) X G a42 l42 c42 k42 fun _ _ _ _ _ _ us hl => match us, hl with | [_], _ => rfl)
      (at_mk (ps := ["rows"]) X G a43 l43 c43 k43 fun _ _ _ _ _ _ us hl => match us, hl with | [_], _ => rfl)
      (at_mk (ps := ["size"]) X G a44 l44 c44 k44 fun _ _ _ _ _ _ us hl => match us, hl with | [_], _ => rfl)
      (at_mk (ps := ["one", "other"]) X G a45 l45 c45 k45 fun _ _ _ _ _ _ us hl => match us, hl with | [_, _], _ => rfl)
      (at_mk (ps := ["table", "person"]) X G a46 l46 c46 k46 fun _ _ _ _ _ _ us hl => match us, hl with | [_, _], _ => rfl)
      (at_mk (ps := ["table", "thing"]) X G a47 l47 c47 k47 fun _ _ _ _ _ _ us hl => match us, hl with | [_, _], _ => rfl)
      (at_mk (ps := ["table", "person", "row"]) X G a48 l48 c48 k48 fun _ _ _ _ _ _ us hl => match us, hl with | [_, _, _], _ => rfl)
      (at_mk (ps := ["table", "person", "thing"]) X G a49 l49 c49 k49 fun _ _ _ _ _ _ us hl => match us, hl with | [_, _, _], _ => rfl)
      (at_mk (ps := ["pool"]) X G a50 l50 c50 k50 fun _ _ _ _ _ _ us hl => match us, hl with | [_], _ => rfl)
      (fun_mk (st := s_law) l3 c3 k3)⟩
theorem walk {l : PySem.W.OpenLaw} {q : Program} {loose : List Str} {XP : (Str → Option Value) → Heap → Prop} {YP : World → Heap → Prop} {d : DefRec} {K : Params → PySem.W.Frag} (hn : l.most = some 63) (hdf : d.params.defaults = [])
    (hY : ∀ (w : World) (h : Heap), YP w h → (K w.params).In h)
    (F : ∀ (w : World) (mg : Str → Option Value) (fa : Addr) (h : Heap), (K w.params).In h → h.Ns mainGlobals mg → mg d.name = some (.ref fa) →
      ∃ fd : FuncData, (∀ (s : Shared) (u : Value), BindsTo s fd ⟨[u], []⟩ [("script", u)]) ∧ ∀ base : Heap, (K w.params).In base → base.Ns mainGlobals mg → FnOk l.prog w (K w.params) mg base CX0 12 fa fd ["script"] (spLaw (K w.params))) :
    PySem.W.WalkO q loose XP YP l.row.toRowW d [] (fun f vs => PySem.call f vs) :=
  L2.walk_of (n := 63) (k := 12) (x := "script") (CX := fun _ => CX0) (sp := fun w => spLaw (K w.params)) hn (by decide) hdf ⟨rfl, by decide, by decide⟩ hY F (fun _ _ a ns hl _ hS => ⟨a, ns, rfl, hS, hl, fun _ => rfl⟩) fun _ _ _ _ _ z => z
end Fo
open PySem PySem.W PyProof.Rows in
set_option maxRecDepth 100000 in
set_option maxHeartbeats 0 in
theorem PySem.Challenge.cw_fullorring_k42_whole_anew_in_every_turn_holds : PySem.Challenge.rw_fullorring_k42_whole_anew_in_every_turn.Holds := by
  w_on; o_law; k_head; (case hw => w_witness2)
  k_fill
  refine Fo.walk (l := PySem.Challenge.rw_fullorring_k42_whole_anew_in_every_turn) rfl rfl (fun w h Y => PySem.W.kIn_of Y) ?F
  case F =>
    intro w mg fa h KX G hmg
    refine' Fo.all_mk KX G hmg ?aC ?aI ?iI ?l1 ?c1 ?k1 ?aE ?iE ?l2 ?c2 ?k2 ?aL ?l3 ?c3 ?k3 ?a4 ?l4 ?c4 ?k4 ?a5 ?l5 ?c5 ?k5 ?a6 ?l6 ?c6 ?k6 ?a7 ?l7 ?c7 ?k7 ?a8 ?l8 ?c8 ?k8 ?a9 ?l9 ?c9 ?k9 ?a10 ?l10 ?c10 ?k10 ?a11 ?l11 ?c11 ?k11 ?a12 ?l12 ?c12 ?k12 ?a13 ?l13 ?c13 ?k13 ?a14 ?l14 ?c14 ?k14 ?a15 ?l15 ?c15 ?k15 ?a16 ?l16 ?c16 ?k16 ?a17 ?l17 ?c17 ?k17 ?a18 ?l18 ?c18 ?k18 ?a19 ?l19 ?c19 ?k19 ?a20 ?l20 ?c20 ?k20 ?a21 ?l21 ?c21 ?k21 ?a22 ?l22 ?c22 ?k22 ?a23 ?l23 ?c23 ?k23 ?a24 ?l24 ?c24 ?k24 ?a25 ?l25 ?c25 ?k25 ?a26 ?l26 ?c26 ?k26 ?a27 ?l27 ?c27 ?k27 ?a28 ?l28 ?c28 ?k28 ?a29 ?l29 ?c29 ?k29 ?a30 ?l30 ?c30 ?k30 ?a31 ?l31 ?c31 ?k31 ?a32 ?l32 ?c32 ?k32 ?a33 ?l33 ?c33 ?k33 ?a34 ?l34 ?c34 ?k34 ?a35 ?l35 ?c35 ?k35 ?a36 ?l36 ?c36 ?k36 ?a37 ?l37 ?c37 ?k37 ?a38 ?l38 ?c38 ?k38 ?a39 ?l39 ?c39 ?k39 ?a40 ?l40 ?c40 ?k40 ?a41 ?l41 ?c41 ?k41 ?a42 ?l42 ?c42 ?k42 ?a43 ?l43 ?c43 ?k43 ?a44 ?l44 ?c44 ?k44 ?a45 ?l45 ?c45 ?k45 ?a46 ?l46 ?c46 ?k46 ?a47 ?l47 ?c47 ?k47 ?a48 ?l48 ?c48 ?k48 ?a49 ?l49 ?c49 ?k49 ?a50 ?l50 ?c50 ?k50 ?pg ?hd ?po ?sa ?mk ?kc ?tha ?thn ?thk ?thm ?tne ?n_rows ?n_size ?kI ?kB ?kT ?kS ?kL ?mr ?c_hMB ?aCU ?lCU ?z_len ?z_list ?z_range ?z_tuple ?z_sorted ?z_int ?z_min ?z_isinstance ?z_all ?z_enumerate ?z_zip ?z_set ?z_repr ?z_str ?z_bool ?z_sum ?z_abs ?z_max ?z_any
    (case aC => k_is)
    (case aI => k_is)
    (case iI => k_is)
    (case l1 => k_is)
    (case c1 => k_is)
    (case k1 => k_is)
    (case aE => k_is)
    (case iE => k_is)
    (case l2 => k_is)
    (case c2 => k_is)
    (case k2 => k_is)
    (case aL => k_is)
    (case l3 => k_is)
    (case c3 => k_is)
    (case k3 => k_is)
    (case a4 => k_is)
    (case l4 => k_is)
    (case c4 => k_is)
    (case k4 => k_is)
    (case a5 => k_is)
    (case l5 => k_is)
    (case c5 => k_is)
    (case k5 => k_is)
    (case a6 => k_is)
    (case l6 => k_is)
    (case c6 => k_is)
    (case k6 => k_is)
    (case a7 => k_is)
    (case l7 => k_is)
    (case c7 => k_is)
    (case k7 => k_is)
    (case a8 => k_is)
    (case l8 => k_is)
    (case c8 => k_is)
    (case k8 => k_is)
    (case a9 => k_is)
    (case l9 => k_is)
    (case c9 => k_is)
    (case k9 => k_is)
    (case a10 => k_is)
    (case l10 => k_is)
    (case c10 => k_is)
    (case k10 => k_is)
    (case a11 => k_is)
    (case l11 => k_is)
    (case c11 => k_is)
    (case k11 => k_is)
    (case a12 => k_is)
    (case l12 => k_is)
    (case c12 => k_is)
    (case k12 => k_is)
    (case a13 => k_is)
    (case l13 => k_is)
    (case c13 => k_is)
    (case k13 => k_is)
    (case a14 => k_is)
    (case l14 => k_is)
    (case c14 => k_is)
    (case k14 => k_is)
    (case a15 => k_is)
    (case l15 => k_is)
    (case c15 => k_is)
    (case k15 => k_is)
    (case a16 => k_is)
    (case l16 => k_is)
    (case c16 => k_is)
    (case k16 => k_is)
    (case a17 => k_is)
    (case l17 => k_is)
    (case c17 => k_is)
    (case k17 => k_is)
    (case a18 => k_is)
    (case l18 => k_is)
    (case c18 => k_is)
    (case k18 => k_is)
    (case a19 => k_is)
    (case l19 => k_is)
    (case c19 => k_is)
    (case k19 => k_is)
    (case a20 => k_is)
    (case l20 => k_is)
    (case c20 => k_is)
    (case k20 => k_is)
    (case a21 => k_is)
    (case l21 => k_is)
    (case c21 => k_is)
    (case k21 => k_is)
    (case a22 => k_is)
    (case l22 => k_is)
    (case c22 => k_is)
    (case k22 => k_is)
    (case a23 => k_is)
    (case l23 => k_is)
    (case c23 => k_is)
    (case k23 => k_is)
    (case a24 => k_is)
    (case l24 => k_is)
    (case c24 => k_is)
    (case k24 => k_is)
    (case a25 => k_is)
    (case l25 => k_is)
    (case c25 => k_is)
    (case k25 => k_is)
    (case a26 => k_is)
    (case l26 => k_is)
    (case c26 => k_is)
    (case k26 => k_is)
    (case a27 => k_is)
    (case l27 => k_is)
    (case c27 => k_is)
    (case k27 => k_is)
    (case a28 => k_is)
    (case l28 => k_is)
    (case c28 => k_is)
    (case k28 => k_is)
    (case a29 => k_is)
    (case l29 => k_is)
    (case c29 => k_is)
    (case k29 => k_is)
    (case a30 => k_is)
    (case l30 => k_is)
    (case c30 => k_is)
    (case k30 => k_is)
    (case a31 => k_is)
    (case l31 => k_is)
    (case c31 => k_is)
    (case k31 => k_is)
    (case a32 => k_is)
    (case l32 => k_is)
    (case c32 => k_is)
    (case k32 => k_is)
    (case a33 => k_is)
    (case l33 => k_is)
    (case c33 => k_is)
    (case k33 => k_is)
    (case a34 => k_is)
    (case l34 => k_is)
    (case c34 => k_is)
    (case k34 => k_is)
    (case a35 => k_is)
    (case l35 => k_is)
    (case c35 => k_is)
    (case k35 => k_is)
    (case a36 => k_is)
    (case l36 => k_is)
    (case c36 => k_is)
    (case k36 => k_is)
    (case a37 => k_is)
    (case l37 => k_is)
    (case c37 => k_is)
    (case k37 => k_is)
    (case a38 => k_is)
    (case l38 => k_is)
    (case c38 => k_is)
    (case k38 => k_is)
    (case a39 => k_is)
    (case l39 => k_is)
    (case c39 => k_is)
    (case k39 => k_is)
    (case a40 => k_is)
    (case l40 => k_is)
    (case c40 => k_is)
    (case k40 => k_is)
    (case a41 => k_is)
    (case l41 => k_is)
    (case c41 => k_is)
    (case k41 => k_is)
    (case a42 => k_is)
    (case l42 => k_is)
    (case c42 => k_is)
    (case k42 => k_is)
    (case a43 => k_is)
    (case l43 => k_is)
    (case c43 => k_is)
    (case k43 => k_is)
    (case a44 => k_is)
    (case l44 => k_is)
    (case c44 => k_is)
    (case k44 => k_is)
    (case a45 => k_is)
    (case l45 => k_is)
    (case c45 => k_is)
    (case k45 => k_is)
    (case a46 => k_is)
    (case l46 => k_is)
    (case c46 => k_is)
    (case k46 => k_is)
    (case a47 => k_is)
    (case l47 => k_is)
    (case c47 => k_is)
    (case k47 => k_is)
    (case a48 => k_is)
    (case l48 => k_is)
    (case c48 => k_is)
    (case k48 => k_is)
    (case a49 => k_is)
    (case l49 => k_is)
    (case c49 => k_is)
    (case k49 => k_is)
    (case a50 => k_is)
    (case l50 => k_is)
    (case c50 => k_is)
    (case k50 => k_is)
    (case pg => k_is)
    (case hd => k_is)
    (case po => k_is)
    (case sa => k_is)
    (case mk => k_is)
    (case kc => k_is)
    (case tha => k_is)
    (case thn => k_is)
    (case thk => k_is)
    (case thm => k_is)
    (case tne => k_is)
    (case n_rows => k_is)
    (case n_size => k_is)
    (case kI => k_is)
    (case kB => k_is)
    (case kT => k_is)
    (case kS => k_is)
    (case kL => k_is)
    (case mr => k_is)
    (case c_hMB => k_is)
    (case aCU => k_is)
    (case lCU => k_is)
    (case z_len => k_is)
    (case z_list => k_is)
    (case z_range => k_is)
    (case z_tuple => k_is)
    (case z_sorted => k_is)
    (case z_int => k_is)
    (case z_min => k_is)
    (case z_isinstance => k_is)
    (case z_all => k_is)
    (case z_enumerate => k_is)
    (case z_zip => k_is)
    (case z_set => k_is)
    (case z_repr => k_is)
    (case z_str => k_is)
    (case z_bool => k_is)
    (case z_sum => k_is)
    (case z_abs => k_is)
    (case z_max => k_is)
    (case z_any => k_is)
