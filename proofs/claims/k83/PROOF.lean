import PyProof.Rows.All
import Wide.All
import OpenK.AllK
import Wide.FinOn
import HandS.ForMost
import HandS.OwnEq
import HandS.SortInts
import HandS.TupAny
import HandS.IsInst
import HandS.Flow
import HandS.Zip
import HandS.TupSets
import KE.GoesEnum
import PyProof.InstNe
import HandS.Conv
import HandS.Star
import HandS.WideBits
import HandS.NoneIn
import HandS.DictComp
import HandS.Steps
import HandS.Sort
import PyProof.DictUpdate
import KE.SortData
import KE.KDictCopyH
import HandS.Walk
import HandS.DictTup
import HandS.Deep
import KE.DataFind
import KE.KDictKeyed
import KE.KeyNested
import HandS.Text
import HandS.Call
import KE.GoesEnumKw
import HandS.Nested
import KE.DataMinKey
import PyProof.DictDisplay
import KE.KNest
import KE.KNestM
import HandS.EndTab
import HandS.RaiseMore
import HandS.Evl
import HandS.ExcInit
import HandS.ExcIs
import HandS.ExcField
import HandS.ForExc
import KE.KExcIs
import HandS.Words
import HandS.SetFor
import HandS.Strs
import PyProof.Rows.SortShellAny
import KE.KTupSum
import KE.KDictDisplayH
import KE.KRevSl
import KE.KDictWalk
import HandS.Gcd
import HandS.Wide
import KE.KMathGC
import PyProof.AutoSeq1
import HandS.TryMany
import PyProof.ReprRoads
import HandS.EndBits
import HandS.TupMul
import PySem.Challenge.RW_fullorring_k83_whole_families_counted
set_option Elab.async false
set_option maxRecDepth 100000
set_option maxHeartbeats 2000000
namespace PySem
open Sem (wp)
theorem meets_enum_newT (v : Value) (o : Obj) (HH : Heap → Prop) (B : Begins v o HH) :
    Meets (Builtin.«enumerate.__new__» ⟨[.type "enumerate", v], []⟩) (fun _ R s => HH s.heap ∧
      R (.ok (.ret (.ref (s.heap.push o).objs.size))) { s with heap := (s.heap.push o).push { cls := .type "enumerate", data := .fields #[.none, .bool false, .ref s.heap.objs.size, rawInt 0, .none, .none] } }) :=
  .of_wp fun prog w A R s h => by
    obtain ⟨hp, g, d, tk, os⟩ := s; obtain ⟨h1, h⟩ := h
    have hsub := sub_enumerate
    have q1 : ∀ {A' : Around} {E : Value → Shared → Prop} {Q : Value → Shared → Prop}, Q (.ref hp.objs.size) ⟨hp.push o, g, d, tk, os⟩ → wpAny (model prog w) A' (pyIter v) Q E ⟨hp, g, d, tk, os⟩ :=
      fun q => B.iter prog w _ _ ⟨hp, g, d, tk, os⟩ _ h1 q
    wp_walk using q1
    refine wpAny_stack_any fun st => wpAny_pure ?_
    split
    · rename_i c _ _ _ _ _
      cases (c == Value.type "enumerate")
      · wp_walk using q1
        exact ⟨_, rfl, h⟩
      · wp_walk using q1
        exact ⟨_, rfl, h⟩
    · wp_walk using q1
      exact ⟨_, rfl, h⟩
section
variable {prog : Program} {w : World} {A : Around} {E : Value → Shared → Prop} {s : Shared}
theorem call_enum_begins {v : Value} {o : Obj} {HH : Heap → Prop} {Q : Value → Shared → Prop} (B : Begins v o HH) (h1 : HH s.heap)
    (h : ∀ h', IsEnum h' (s.heap.objs.size + 1) s.heap.objs.size 0 .none → h'.get? s.heap.objs.size = some o → h'.objs.size = s.heap.objs.size + 2 →
      (∀ b o, s.heap.get? b = some o → h'.get? b = some o) → Q (.ref (s.heap.objs.size + 1)) { s with heap := h' }) :
    wpAny (model prog w) A (call (.type "enumerate") [v]) Q E s := by
  refine callType_new F.called_enumerate (by decide) (F.typeCall_enumerate_1 _) (F.newCall_enumerate_1 _) (fun obj => F.args_object_init_2 obj _) F.entry_enumerate_new
    (meets_enum_newT v o HH B) ⟨h1, ?_⟩
  have hz : (s.heap.push o).objs.size = s.heap.objs.size + 1 := Heap.size_push ..
  show _ ∧ _
  rw [hz]
  have he : IsEnum ((s.heap.push o).push { cls := .type "enumerate", data := .fields #[.none, .bool false, .ref s.heap.objs.size, rawInt 0, .none, .none] }) (s.heap.objs.size + 1) s.heap.objs.size 0 .none := by
    have := Heap.get?_push_size (s.heap.push o) (o := { cls := .type "enumerate", data := .fields #[.none, .bool false, .ref s.heap.objs.size, rawInt 0, .none, .none] }) rfl
    rw [hz] at this; exact this
  refine ⟨⟨_, he, rfl⟩, h _ he (Heap.get?_push_of_some _ (Heap.get?_push_size _ B.free)) (by rw [Heap.size_push, hz]) fun b o x => Heap.get?_push_of_some _ (Heap.get?_push_of_some _ x)⟩
end
end PySem
namespace L2
open PySem PySem.Spec PyProof.Rows
def IteT (K : PySem.W.Frag) (a : Addr) : It :=
  ⟨fun i H => ∃ (xs : List V) (x : V), SqT K H a xs ∧ xs[i]? = some x, fun i H v H' => ∃ T x, v = .ref T ∧ H T = none ∧ H' = upd H T (.tup [.int (i : Nat), x]) ∧ ∀ xs, SqT K H a xs → xs[i]? = some x, fun i H => ∃ xs : List V, SqT K H a xs ∧ xs.length ≤ i⟩
theorem turn_enumT {P : Program} {w : World} {K : PySem.W.Frag} {elts : List Expr} {kk : Nat} {tpos : Pos} (a e it : Addr) :
    Turn P w K (.Tuple elts kk tpos) (IteT K a) [e, it] e (fun i h => (∃ old, IsEnum h e it ((i : Nat) : Int) old) ∧ h.IsTupleIter it a i ∧ e ≠ it ∧ a ≠ it ∧ a ≠ e) where
  mem := by simp
  obj := fun i h st b hb => by
    obtain ⟨⟨old, he⟩, ⟨o, ho, hc, hd⟩, _⟩ := st
    have e' : b = e ∨ b = it := by simpa using hb
    rcases e' with z | z
    · rw [z]; exact ⟨_, he, fun v q => nomatch q⟩
    · rw [z]; exact ⟨o, ho, fun v q => by rw [hd] at q; cases q⟩
  keep := fun i h h' st k => let ⟨⟨old, he⟩, hi, hne⟩ := st; ⟨⟨old, k e (by simp) _ he⟩, hi.at fun o q => k it (by simp) o q, hne⟩
  item := by
    intro X hP hw hK hc i pins s σ H E I hf st hg
    subst hP hw hK
    obtain ⟨⟨old, he⟩, hit, hne, hai, hae⟩ := st
    obtain ⟨xs, x, hq, hx⟩ := hg
    obtain ⟨its, rv, p, hz⟩ := I.tuple hq
    obtain ⟨u, hu, ru⟩ := rv.get hx
    have hel : e < s.heap.objs.size := Heap.lt_size he
    have hil : it < s.heap.objs.size := by obtain ⟨_, q, _⟩ := hit; exact Heap.lt_size q
    have hilt : i < its.toArray.size := by
      have := (List.getElem?_eq_some_iff.mp hu).1
      simpa using this
    refine wpAny_pyNext_enum_itemD (Draws.tuple (A := X.A.in1) (I.ok.hd hc) it a hai its.toArray) he ⟨hit, p⟩ hilt hne (by simp; exact ⟨hne, fun q => hae q.symm⟩) fun x2 h' tk hP ho hst hT hsz hk => ?_
    have ex : x2 = u := by
      have hP' : its[i]? = some x2 := by simpa using hP
      rw [hu] at hP'
      exact (Option.some.inj hP').symm
    subst ex
    refine ⟨_, rfl, wpAny_letOwnedTupleGo_enum (s := { s with heap := h', toks := tk + 1 }) ho fun h'' he' sb => ?_⟩
    have hT2 : h''.get? s.heap.objs.size = some { cls := .type "tuple", data := .seq #[.int i tk, x2] } := (sb.2 _ (Nat.ne_of_gt hel)).trans hT
    have new : ObjOk X.prog X.w (upd H s.heap.objs.size (.tup [.int (i : Nat), x])) h'' s.heap.objs.size (.tup [.int (i : Nat), x]) :=
      ⟨by show 2 ≤ sizeLine; decide, [.int i tk, x2], .cons ⟨_, rfl⟩ (.cons ru .nil), ⟨_, hT2, rfl, _, rfl⟩⟩
    have I1 : Inv X pins σ (upd H s.heap.objs.size (.tup [.int (i : Nat), x])) { s with heap := h'', toks := tk + 1 } :=
      I.turnedNew (ch := [e, it]) (fun b ob hb q => (sb.2 b (fun z => hb (by simp [z]))).trans (hk b ob (fun z => hb (by simp [z])) (fun z => hb (by simp [z])) q)) hf (Nat.le_refl _) new
    refine ⟨.ref s.heap.objs.size, _, I1, rfl, ⟨_, x, rfl, I.hok.fresh (Nat.le_refl _), rfl, fun ys hy => by rw [I.tuple_inj hy hq]; exact hx⟩, ⟨⟨x2, ?_⟩, hst.1.at fun o q => (sb.2 it (Ne.symm hne)).trans q, hne, hai, hae⟩, fun b hb => ?_⟩
    · have e1 : ((i + 1 : Nat) : Int) = (i : Int) + 1 := by omega
      rw [e1]; exact he'
    · have hb' : b < s.heap.objs.size := by
        have e' : b = e ∨ b = it := by simpa using hb
        rcases e' with z | z
        · rw [z]; exact hel
        · rw [z]; exact hil
      rw [upd_ne (Nat.ne_of_lt hb')]
      exact (hf b hb).1
  done := by
    intro X hP hw hK hc i pins s σ H E I hf st hg
    subst hP hw hK
    obtain ⟨⟨old, he⟩, hit, hne, hai, hae⟩ := st
    obtain ⟨xs, hq, hx⟩ := hg
    obtain ⟨its, rv, p, hz⟩ := I.tuple hq
    obtain ⟨f0, f1, f2, f3, f4, f5⟩ := hf it (by simp)
    have hl := rv.length
    have D : Draws X.prog X.w X.A.in1 it [it, a] i (fun _ _ => True) (fun j h => j = i ∧ h.IsTupleIter it a i ∧ h.IsTuple a its.toArray) :=
      ⟨fun _ _ st => (let ⟨o, ho, _⟩ := st.2.1; ⟨o, ho⟩), fun _ _ _ st hk => ⟨st.1, st.2.1.at fun o e => hk it (by simp) o e, st.2.2.at fun o e => hk a (by simp) o e⟩,
        fun j s Q E hj st hQ => absurd st.1 (Nat.ne_of_lt hj), fun s Q E st hE => wpAny_nextOf_tuple_end (I.ok.hd hc) st.2.1 st.2.2 (by simp; omega) hE⟩
    exact wpAny_pyNext_enum_endD D he ⟨rfl, hit, p⟩ fun h' eb => ⟨rfl, I.turned (t' := s.toks) (fun b o hb q => eb b o hb q) f0 f1 f3 f4 f5⟩
  self := fun A i s Q E st h => let ⟨⟨_, he⟩, _⟩ := st; wpAny_pyIter_enum he h
def iEnumT (K : PySem.W.Frag) (ta : TA) : TI := fun σ H R => ta σ H fun vs H1 => ∃ a xs, vs = [.ref a] ∧ SqT K H1 a xs ∧ R (IteT K a) H1
theorem pi_enumT {X : Cx} {e : Expr} {ta : TA} {p pos tpos : Pos} {elts : List Expr} {kk : Nat} (hg : Gl X "enumerate") (hm : X.mg "enumerate" = none) (ha : PA X [e] ta) (hs : starEach [e] X.env = [(false, eval e X.env)] := by rfl) :
    PI X (.Tuple elts kk tpos) (.Call (.Name "enumerate" p) [e] [] pos) (iEnumT X.K ta) := by
  refine ⟨fun pins s σ H R I h => ?_⟩
  refine Call_ (ld_blt I hg hm boot_enumerate (PyProof.Rows.callWith_type1 (thn (ha.run pos pins s σ H _ I h) fun us s1 ⟨vs, H1, I1, r1, q1⟩ => ?_) hs rfl))
  obtain ⟨a, xs, ex, hq, q⟩ := q1
  subst ex
  cases r1 with
  | cons r rr =>
    cases rr
    cases r
    obtain ⟨its, rv, p', hz⟩ := I1.tuple hq
    have halt : a < s1.heap.objs.size := by obtain ⟨_, q, _⟩ := id p'; exact Heap.lt_size q
    refine call_enum_begins (begins_tuple a its.toArray) p' fun h' he hit hsz hk => wpAny_pyIter_enum he ?_
    have I2 : Inv X pins σ H1 { s1 with heap := h' } := I1.kept (t' := s1.toks) hk
    refine ⟨s1.heap.objs.size + 1, [s1.heap.objs.size + 1, s1.heap.objs.size], _, _, H1, rfl, I2, turn_enumT a (s1.heap.objs.size + 1) s1.heap.objs.size, ⟨⟨.none, he⟩, ⟨_, hit, rfl, rfl⟩, Nat.succ_ne_self _, Nat.ne_of_lt halt, Nat.ne_of_lt (Nat.lt_succ_of_lt halt)⟩, fun b hb => ?_, q⟩
    have e' : b = s1.heap.objs.size + 1 ∨ b = s1.heap.objs.size := by simpa using hb
    have hle : s1.heap.objs.size ≤ b := by
      rcases e' with z | z
      · rw [z]; exact Nat.le_add_right _ _
      · rw [z]; exact Nat.le_refl _
    exact I1.fpOk hle (I1.hok.fresh hle)
end L2
set_option maxRecDepth 100000
set_option maxHeartbeats 2000000
namespace Fo
open PySem PySem.Spec PyProof.Rows L2
structure At (K : PySem.W.Frag) (mg : Str → Option Value) (x : Str) (st : Stmt) (ps : List Str) : Prop where
  ex : ∃ f fd, mg x = some (.ref f) ∧ Fun K x x st f fd ∧ Binds K fd ps []
structure Dfn (P : Program) (w : World) (K : PySem.W.Frag) (mg : Str → Option Value) (base : Heap) (x : Str) (ps : List Str) (k : Nat) (sp : Sp) : Prop where
  ex : ∃ f fd, mg x = some (.ref f) ∧ PySem.W.keepIn K (.ref f) = true ∧ FnOk P w K mg base CX0 k f fd ps sp ∧ Binds K fd ps []
structure Tx (mg : Str → Option Value) : Prop where
  len : mg "len" = none
  list : mg "list" = none
  range : mg "range" = none
  tuple : mg "tuple" = none
  sorted : mg "sorted" = none
  int : mg "int" = none
  min : mg "min" = none
  isinstance : mg "isinstance" = none
  all : mg "all" = none
  enumerate : mg "enumerate" = none
  zip : mg "zip" = none
  set : mg "set" = none
  repr : mg "repr" = none
  str : mg "str" = none
  bool : mg "bool" = none
section
variable {P : Program} {w : World} {K : PySem.W.Frag} {mg : Str → Option Value} {base : Heap}
theorem At.ok {x : Str} {st : Stmt} {N ps : List Str} {k : Nat} {sp : Sp} (a : At K mg x st ps) (S : FnScope N ps (defScope st)) (len : ∀ vs H Q E, sp vs H Q E → vs.length = ps.length)
    (hbody : ∀ (f : Addr) (cdv : Value) (A : Around) (outer : List Env) (s : Shared) (H : Hp) (vs : List V) (Q : VK) (E : XK), Room k (A.deeper (envOfC x (defScope st) s.heap.objs.size f cdv)) → sp vs H Q E →
      ∃ t, PSs (cxOf CX0 P w K mg base N x (defScope st) f cdv A outer s H E).nox (defBody st) t ∧ t { nx := fun _ H' => Q .non H', rt := Q } (start N vs) H) : Dfn P w K mg base x ps (k + 1) sp := by
  obtain ⟨f, fd, hm, F, b⟩ := a.ex
  exact ⟨f, fd, hm, F.kp, F.ok S len (hbody f), b⟩
theorem pe_d {X : Cx} {x : Str} {ps : List Str} {k : Nat} {sp : Sp} {e : Expr} {es : List Expr} {t : TA} {p pos : Pos} (G : Dfn X.prog X.w X.K X.mg X.base x ps k sp) (hr : Room k X.A) (ha : PA X (e :: es) t) (hg : Gl X x := by rfl)
    (hdb : (x == ("__debug__" : Str)) = false := by decide) (he : starEach (e :: es) X.env = (false, eval e X.env) :: starEach es X.env := by rfl) (hpl : (backTo pos (starEach es X.env)).any (·.1) = false := by rfl) :
    PE X (.Call (.Name x p) (e :: es) [] pos) (tCall sp [] E0 t) := by
  obtain ⟨f, fd, hm, kp, F, b⟩ := G.ex
  exact pe_call F hr hg hm kp b .nil pass0 ha hdb he hpl
theorem pe_d0 {X : Cx} {x : Str} {ps : List Str} {k : Nat} {sp : Sp} {p pos : Pos} (G : Dfn X.prog X.w X.K X.mg X.base x ps k sp) (hr : Room k X.A) (hg : Gl X x := by rfl)
    (hdb : (x == ("__debug__" : Str)) = false := by decide) :
    PE X (.Call (.Name x p) [] [] pos) (fun _ H Q => sp [] H Q E0) := by
  obtain ⟨f, fd, hm, kp, F, b⟩ := G.ex
  exact pe_call0 F hr hg hm kp b .nil pass0 hdb
end
/-- all but what stands at t is kept -/
def Gr (t : Addr) (H H' : Hp) : Prop := ∀ a o, a ≠ t → H a = some o → H' a = some o
theorem Gr.refl {t : Addr} (H : Hp) : Gr t H H := fun _ _ _ h => h
theorem Gr.trans {t : Addr} {H H1 H2 : Hp} (a : Gr t H H1) (b : Gr t H1 H2) : Gr t H H2 := fun c o n h => b c o n (a c o n h)
theorem Gr.new {t : Addr} {H : Hp} {p : Addr} {o : HO} (h : H p = none) : Gr t H (upd H p o) := fun a u _ e => by
  rw [upd_ne (ne_of_none e h)]
  exact e
theorem Gr.put {t : Addr} {H : Hp} {o : HO} : Gr t H (upd H t o) := fun a u n e => by
  rw [upd_ne n]
  exact e
theorem Gr.of {t : Addr} {H H' : Hp} (e : Same H H') : Gr t H H' := fun a o _ h => e a o h
theorem Gr.free {t : Addr} {H H' : Hp} (g : Gr t H H') (ht : H' t ≠ none) {p : Addr} (h : H' p = none) : H p = none := by
  cases q : H p with
  | none => rfl
  | some o =>
    have hne : p ≠ t := fun z => ht (z ▸ h)
    rw [g p o hne q] at h
    cases h
theorem same_new {H : Hp} {p : Addr} {o : HO} (h : H p = none) : Same H (upd H p o) := fun a u e => by
  rw [upd_ne (ne_of_none e h)]
  exact e
/-- an object that H does not know may change -/
theorem same_mut {H H' : Hp} {p : Addr} {o : HO} (e : Same H H') (h : H p = none) : Same H (upd H' p o) := fun a u ha => by
  rw [upd_ne (ne_of_none ha h)]
  exact e a u ha
theorem sqT_same {K : PySem.W.Frag} {H H' : Hp} {a : Addr} {xs : List V} (e : Same H H') (h : SqT K H a xs) : SqT K H' a xs := by
  rcases h with (h | ⟨o, h⟩) | h
  · exact .inl (.inl (e _ _ h))
  · exact .inl (.inr ⟨o, e _ _ h⟩)
  · exact .inr h
def Tape (H : Hp) (t l : Addr) : Prop := ∃ (ns : List Int) (b c d e : Int), H t = some (.lst [.ref l, .int b, .int c, .int d, .int e]) ∧ H l = some (.lst (ns.map V.int)) ∧ 0 ≤ b
theorem ints_ne (ns : List Int) (l : Addr) (r : List V) : (HO.lst (ns.map V.int)) ≠ .lst (.ref l :: r) := by
  intro q
  cases ns with
  | nil => injection q with q; cases q
  | cons x r => injection q with q; injection q with q; cases q
theorem Tape.ne {H : Hp} {t l : Addr} (T : Tape H t l) : l ≠ t := by
  obtain ⟨ns, b, c, d, e, ht, hl, hb⟩ := T
  exact ne_of hl ht (ints_ne _ _ _)
theorem Tape.there {H : Hp} {t l : Addr} (T : Tape H t l) : H t ≠ none := by
  obtain ⟨ns, b, c, d, e, h, _⟩ := T
  rw [h]
  exact fun z => nomatch z
theorem Tape.keep {H H' : Hp} {t l : Addr} (T : Tape H t l) (g : Same H H') : Tape H' t l := by
  obtain ⟨ns, b, c, d, e, h, hl, hb⟩ := T
  exact ⟨ns, b, c, d, e, g _ _ h, g _ _ hl, hb⟩
/-- what is new is neither of the tape's two -/
theorem Tape.free {H : Hp} {t l a : Addr} (T : Tape H t l) (h : H a = none) : a ≠ t ∧ a ≠ l := by
  obtain ⟨ns, b, c, d, e, ht, hl, hb⟩ := T
  exact ⟨(ne_of_none ht h).symm, (ne_of_none hl h).symm⟩
theorem Tape.new {H : Hp} {t l a : Addr} {o : HO} (T : Tape H t l) (h : H a = none) : Tape (upd H a o) t l := T.keep (same_new h)
/-- other objects than the tape's own may change -/
theorem Tape.mut {H : Hp} {t l a : Addr} {u : HO} (T : Tape H t l) (n : a ≠ t ∧ a ≠ l) : Tape (upd H a u) t l := by
  obtain ⟨ns, b, c, d, e, ht, hl, hb⟩ := T
  exact ⟨ns, b, c, d, e, by rw [upd_ne n.1.symm]; exact ht, by rw [upd_ne n.2.symm]; exact hl, hb⟩
theorem Gr.fresh {t l : Addr} {H H' : Hp} (g : Gr t H H') (T : Tape H' t l) {p : Addr} (h : H' p = none) : H p = none := g.free T.there h
abbrev dI (ns : List Int) : PyData := .tuple (ns.map .int)
abbrev dR (rows : List (List Int)) : PyData := .tuple (rows.map dI)
mutual
theorem dp_same {K : PySem.W.Frag} {H H' : Hp} (e : Same H H') : ∀ {v : V} {d : PyData}, Dp K H v d → Dp K H' v d
  | _, _, .non => .non
  | _, _, .bl b => .bl b
  | _, _, .int i => .int i
  | _, _, .str x => .str x
  | _, _, .lst h r => .lst (e.seq h) (dpAll_same e r)
  | _, _, .tup h r => .tup (sqT_same e h) (dpAll_same e r)
theorem dpAll_same {K : PySem.W.Frag} {H H' : Hp} (e : Same H H') : ∀ {vs : List V} {ds : List PyData}, DpAll K H vs ds → DpAll K H' vs ds
  | _, _, .nil => .nil
  | _, _, .cons h r => .cons (dp_same e h) (dpAll_same e r)
end
theorem dpAll_ints {K : PySem.W.Frag} {H : Hp} : ∀ (ns : List Int), DpAll K H (ns.map V.int) (ns.map .int)
  | [] => .nil
  | n :: r => .cons (.int n) (dpAll_ints r)
theorem ints_dpAll {K : PySem.W.Frag} {H : Hp} : ∀ {ns : List Int} {vs : List V}, DpAll K H vs (ns.map .int) → vs = ns.map V.int
  | [], _, .nil => rfl
  | n :: r, _, .cons (.int _) h => by rw [ints_dpAll h]; rfl
theorem dp_tup {K : PySem.W.Frag} {H : Hp} {v : V} {ds : List PyData} (h : Dp K H v (.tuple ds)) : ∃ a xs, v = .ref a ∧ SqT K H a xs ∧ DpAll K H xs ds := by
  cases h with
  | tup h r => exact ⟨_, _, rfl, h, r⟩
theorem dp_row {K : PySem.W.Frag} {H : Hp} {v : V} {ns : List Int} (h : Dp K H v (dI ns)) : ∃ a, v = .ref a ∧ SqT K H a (ns.map V.int) := by
  obtain ⟨a, xs, e, h, r⟩ := dp_tup h
  rw [ints_dpAll r] at h
  exact ⟨a, e, h⟩
/-- tuples are not changed by what changes at t -/
theorem gr_T {t l : Addr} {K : PySem.W.Frag} {H H' : Hp} (g : Gr t H H') (T : Tape H t l) {a : Addr} {xs : List V} (h : SqT K H a xs) : SqT K H' a xs := by
  obtain ⟨ns, b, c, d, e, ht, hl, hb⟩ := T
  rcases h with (h | ⟨o, h⟩) | h
  · exact .inl (.inl (g _ _ (ne_of h ht (by intro z; cases z)) h))
  · exact .inl (.inr ⟨o, g _ _ (ne_of h ht (by intro z; cases z)) h⟩)
  · exact .inr h
structure Good (rows : List (List Int)) : Prop where
  pos : 1 ≤ rows.length
  asc : ∀ r ∈ rows, r.Pairwise (· < ·)
  rng : ∀ r ∈ rows, ∀ x ∈ r, 0 ≤ x ∧ x < (rows.length : Int)
inductive RowsT (K : PySem.W.Frag) (H : Hp) : List V → List (List Int) → Prop where
  | nil : RowsT K H [] []
  | cons {a : Addr} {vs : List V} {r : List Int} {rs : List (List Int)} : SqT K H a (r.map V.int) → RowsT K H vs rs → RowsT K H (.ref a :: vs) (r :: rs)
theorem dp_rowsT {K : PySem.W.Frag} {H : Hp} : ∀ {rs : List (List Int)} {vs : List V}, DpAll K H vs (rs.map dI) → RowsT K H vs rs
  | [], _, .nil => .nil
  | r :: rs, _, .cons h t => by
    obtain ⟨a, rfl, q⟩ := dp_row h
    exact .cons q (dp_rowsT t)
theorem RowsT.same {K : PySem.W.Frag} {H H' : Hp} (g : Same H H') : ∀ {vs : List V} {rs : List (List Int)}, RowsT K H vs rs → RowsT K H' vs rs
  | _, _, .nil => .nil
  | _, _, .cons h r => .cons (sqT_same g h) (r.same g)
theorem RowsT.len {K : PySem.W.Frag} {H : Hp} : ∀ {vs : List V} {rs : List (List Int)}, RowsT K H vs rs → vs.length = rs.length
  | _, _, .nil => rfl
  | _, _, .cons _ r => by rw [List.length_cons, List.length_cons, r.len]
theorem RowsT.snoc {K : PySem.W.Frag} {H : Hp} {a : Addr} {r : List Int} (h : SqT K H a (r.map V.int)) : ∀ {vs : List V} {rs : List (List Int)}, RowsT K H vs rs → RowsT K H (vs ++ [.ref a]) (rs ++ [r])
  | _, _, .nil => .cons h .nil
  | _, _, .cons q t => .cons q (t.snoc h)
theorem RowsT.get {K : PySem.W.Frag} {H : Hp} : ∀ {vs : List V} {rs : List (List Int)} {i : Nat} {r : List Int}, RowsT K H vs rs → rs[i]? = some r → ∃ a, vs[i]? = some (.ref a) ∧ SqT K H a (r.map V.int)
  | _, _, _, _, .nil, e => by simp at e
  | _, _, 0, _, .cons h _, e => by simp at e; subst e; exact ⟨_, rfl, h⟩
  | _, _, i + 1, r, .cons _ t, e => by
    obtain ⟨a, h1, h2⟩ := t.get (i := i) (r := r) (by simpa using e)
    exact ⟨a, by simpa using h1, h2⟩
/-- rows that stand as a tuple at a -/
def RowsAt (K : PySem.W.Frag) (H : Hp) (v : V) (rows : List (List Int)) : Prop := ∃ a vs, v = .ref a ∧ SqT K H a vs ∧ RowsT K H vs rows
theorem RowsAt.same {K : PySem.W.Frag} {H H' : Hp} {v : V} {rows : List (List Int)} (h : RowsAt K H v rows) (g : Same H H') : RowsAt K H' v rows := by
  obtain ⟨a, vs, e, h1, h2⟩ := h
  exact ⟨a, vs, e, sqT_same g h1, h2.same g⟩
theorem RowsAt.of {K : PySem.W.Frag} {H : Hp} {v : V} {rows : List (List Int)} (h : Dp K H v (dR rows)) : RowsAt K H v rows := by
  obtain ⟨a, vs, rfl, h1, h2⟩ := dp_tup h
  exact ⟨a, vs, rfl, h1, dp_rowsT h2⟩
def rangeI (n : Int) : List Int := (List.range n.toNat).map fun (i : Nat) => (i : Int)
theorem rangeI_len (n : Int) : (rangeI n).length = n.toNat := by unfold rangeI; rw [List.length_map, List.length_range]
theorem rangeI_nodup (n : Int) : (rangeI n).Nodup := by
  unfold rangeI
  exact List.Pairwise.map _ (fun (a b : Nat) (h : a ≠ b) (q : (a : Int) = (b : Int)) => h (by omega)) List.nodup_range
theorem mem_rangeI {n x : Int} : x ∈ rangeI n ↔ 0 ≤ x ∧ x < n := by
  unfold rangeI
  rw [List.mem_map]
  constructor
  · rintro ⟨i, hi, rfl⟩
    have := List.mem_range.mp hi
    omega
  · intro h
    exact ⟨x.toNat, List.mem_range.mpr (by omega), by omega⟩
theorem map_eraseIdx' {α β : Type} (f : α → β) : ∀ (l : List α) (i : Nat), (l.map f).eraseIdx i = (l.eraseIdx i).map f
  | [], _ => rfl
  | _ :: _, 0 => rfl
  | x :: r, i + 1 => by
    show f x :: (r.map f).eraseIdx i = f x :: (r.eraseIdx i).map f
    rw [map_eraseIdx' f r i]
theorem inV_ints (x : Int) (ns : List Int) : inV (.int x) (ns.map V.int) = decide (x ∈ ns) := by
  induction ns with
  | nil => rfl
  | cons y r ih =>
    show (y == x || (r.map V.int).any fun z => eqV z (.int x)) = decide (x ∈ y :: r)
    have ih' : ((r.map V.int).any fun z => eqV z (.int x)) = decide (x ∈ r) := ih
    rw [ih']
    by_cases h : y = x
    · subst h
      simp
    · have h' : ¬ x = y := fun q => h q.symm
      simp [h, h']
theorem all_flat_ints (ns : List Int) : (ns.map V.int).all flatV = true := by
  rw [List.all_eq_true]
  intro x hx
  obtain ⟨n, _, rfl⟩ := List.mem_map.mp hx
  rfl
theorem seq_at {n : Nat} {k : Int} (h0 : 0 ≤ k) (h1 : k < n) : seqIndex? k n = some k.toNat := by
  have h : ixN n k = some k.toNat := by
    unfold ixN
    rw [if_pos h0, if_pos h1]
  exact (ixN_seq h).1
def rLenS (K : PySem.W.Frag) : List V → Hp → VK → Prop := fun xs H Q => ∃ p ys, xs = [.ref p] ∧ (SqL K H p ys ∨ SqT K H p ys) ∧ Q (.int ys.length) H
theorem c_len {X : Cx} : CallR X (.builtin "len") (rLenS X.K) := call_len_seq
def rListOf (K : PySem.W.Frag) : List V → Hp → VK → Prop := fun xs H Q => ∃ p ys, xs = [.ref p] ∧ (SqL K H p ys ∨ SqT K H p ys) ∧ ∀ l, H l = none → Q (.ref l) (upd H l (.lst ys))
theorem c_list {X : Cx} : CallR X (.type "list") (rListOf X.K) := call_list_of
def rTupOf (K : PySem.W.Frag) : List V → Hp → VK → Prop := fun xs H Q => ∃ p ys, xs = [.ref p] ∧ ((SqL K H p ys ∧ ∀ l, H l = none → Q (.ref l) (upd H l (.tup ys))) ∨ (SqT K H p ys ∧ Q (.ref p) H))
theorem c_tuple {X : Cx} : CallR X (.type "tuple") (rTupOf X.K) := call_tuple_of
def rIntOf : List V → Hp → VK → Prop := fun xs H Q => (∃ i, xs = [.int i] ∧ Q (.int i) H) ∨ ∃ k, xs = [.bl k] ∧ Q (.int (if k then 1 else 0)) H
theorem c_int {X : Cx} : CallR X (.type "int") rIntOf := call_int1
theorem perm_erase {α : Type} : ∀ (l : List α) (i : Nat) (h : i < l.length), (l[i] :: l.eraseIdx i).Perm l
  | _ :: _, 0, _ => List.Perm.refl _
  | x :: r, i + 1, h => by
    have h' : i < r.length := by simpa using h
    show (r[i] :: x :: r.eraseIdx i).Perm (x :: r)
    exact (List.Perm.swap x r[i] _).trans ((perm_erase r i h').cons x)
theorem small_lt {n : Nat} (h : n ≤ 100000) : n < sizeLine := Nat.lt_of_le_of_lt h (by decide)
theorem small_le {n : Nat} (h : n ≤ 100000) : n ≤ sizeLine := Nat.le_trans h (by decide)
/-- a list that changes is no row -/
theorem sqT_put {K : PySem.W.Frag} {H : Hp} {a f : Addr} {xs vs ws : List V} (h : SqT K H a xs) (e : H f = some (.lst vs)) : SqT K (upd H f (.lst ws)) a xs := by
  rcases h with (h | ⟨o, h⟩) | h
  · exact .inl (.inl (by rw [upd_ne (ne_of h e (by intro z; cases z))]; exact h))
  · exact .inl (.inr ⟨o, by rw [upd_ne (ne_of h e (by intro z; cases z))]; exact h⟩)
  · exact .inr h
theorem RowsT.put {K : PySem.W.Frag} {H : Hp} {f : Addr} {us ws : List V} (e : H f = some (.lst us)) : ∀ {vs : List V} {rs : List (List Int)}, RowsT K H vs rs → RowsT K (upd H f (.lst ws)) vs rs
  | _, _, .nil => .nil
  | _, _, .cons h r => .cons (sqT_put h e) (r.put e)
theorem row_len : ∀ {r : List Int} {lo hi : Int}, r.Pairwise (· < ·) → (∀ x ∈ r, lo ≤ x ∧ x < hi) → (r.length : Int) ≤ (hi - lo).toNat
  | [], lo, hi, _, _ => Int.natCast_nonneg _
  | x :: r, lo, hi, h, hb => by
    have h1 := hb x List.mem_cons_self
    have h2 := row_len (r := r) (lo := x + 1) (hi := hi) (List.pairwise_cons.mp h).2 fun y hy => by
      have := (List.pairwise_cons.mp h).1 y hy
      have := (hb y (List.mem_cons_of_mem _ hy)).2
      omega
    rw [List.length_cons]
    omega
end Fo
set_option maxRecDepth 100000
set_option maxHeartbeats 2000000
namespace PySem.W
open PySem PySem.Spec PyProof.Rows Builtin
end PySem.W
namespace Fo
open PySem PySem.Spec PyProof.Rows L2
/-- the class of the tables, by what the text's top leaves of it -/
structure TC (K : PySem.W.Frag) (C : Addr) : Prop where
  cl : Cls K C
  ha : PySem.W.findIn K (.ref C) "__class__" = some (some (.builtin "object.__class__"))
  hn : PySem.W.specialIn K (.builtin "object.__class__") "__get__" = some (some (.builtin "getset_descriptor.__get__"))
  htk : PySem.W.takesIn K (.builtin "object.__class__") = some true
  hm : PySem.W.mroIn K C (.type "object") = some true
  ne : PySem.W.findIn K (.ref C) "__ne__" = some (some (.builtin "object.__ne__"))
  nR : NoAttr K C "rows"
  nS : NoAttr K C "size"
  kI : PySem.W.kitOne K (.ref C) (.type "int") = some false
  kB : PySem.W.kitOne K (.ref C) (.type "bool") = some false
  kT : PySem.W.kitOne K (.ref C) (.type "tuple") = some false
  kS : PySem.W.kitOne K (.ref C) (.type "str") = some false
  kL : PySem.W.kitOne K (.ref C) (.type "list") = some false
theorem TC.ty {K : PySem.W.Frag} {C : Addr} (c : TC K C) {H : Hp} {a dx : Addr} {fs : List (Str × V)} (h : H a = some (.ins C dx fs)) : TyX K H (.ref a) (.ref C) := .base (.ins h c.cl c.ha c.hn c.htk c.hm)
theorem for_enumT {K : PySem.W.Frag} {a : Addr} {xs : List V} {g : TG} {tb : TS} {D : Ends} {σ : L2.St} {H : Hp} (Pv : Nat → L2.St → Hp → Prop) (h0 : Pv 0 σ H) (hl : ∀ i σ H, i ≤ xs.length → Pv i σ H → SqT K H a xs)
    (hs : ∀ i x σ H T, xs[i]? = some x → Pv i σ H → H T = none → g (.ref T) σ (upd H T (.tup [.int (i : Nat), x])) fun σ2 H2 => tb { D with nx := Pv (i + 1), ct := Pv (i + 1), bk := D.nx } σ2 H2) (hd : ∀ σ H, Pv xs.length σ H → D.nx σ H) :
    ∃ W : Nat → Nat → L2.St → Hp → Prop, (∃ m, W 0 m σ H) ∧ ∀ i m σ H, W i m σ H →
      ((IteT K a).stop i H ∧ D.nx σ H) ∨ ((IteT K a).go i H ∧ ∃ N : L2.St → Hp → Prop, (∀ σ' H', N σ' H' → ∃ m', m' < m ∧ W (i + 1) m' σ' H') ∧ ∀ x H', (IteT K a).yld i H x H' → g x σ H' fun σ2 H2 => tb { D with nx := N, ct := N, bk := D.nx } σ2 H2) := by
  refine ⟨fun i m σ H => m = xs.length - i ∧ i ≤ xs.length ∧ Pv i σ H, ⟨xs.length, by simp, Nat.zero_le _, h0⟩, ?_⟩
  rintro i m σ H ⟨rfl, hi, p⟩
  have q := hl i σ H hi p
  by_cases hlt : i < xs.length
  · refine .inr ⟨⟨xs, xs[i], q, by simp [hlt]⟩, Pv (i + 1), fun σ' H' p' => ⟨xs.length - (i + 1), by omega, rfl, hlt, p'⟩, fun x H' y => ?_⟩
    obtain ⟨T, x', rfl, nT, rfl, y⟩ := y
    exact hs i x' σ H T (y xs q) p nT
  · have e : i = xs.length := by omega
    subst e
    exact .inl ⟨⟨xs, q, Nat.le_refl _⟩, hd σ H p⟩
theorem lc_zipT {K : PySem.W.Frag} {a b : Addr} {xs ys : List V} {g : TG} {tt : TT} {te : TE} {vs : List Nat} {σ : L2.St} {H1 : Hp} {D : Addr} {Qd : Hp → Prop} (hle : ys.length ≤ xs.length) (Pv : Nat → Hp → Prop) (h0 : Pv 0 (upd H1 D (.lst []))) (hl : ∀ i H, i ≤ ys.length → Pv i H → SqT K H a xs ∧ SqT K H b ys)
    (hs : ∀ i x y H T, xs[i]? = some x → ys[i]? = some y → Pv i H → H T = none → g (.ref T) (wipe σ vs) (upd H T (.tup [x, y])) fun σ2 H2 => wipe σ2 vs = wipe σ vs ∧ tt σ2 H2 fun c H3 =>
      if c = true then te σ2 H3 fun y H4 => ∃ acc, H4 D = some (.lst acc) ∧ acc.length < sizeLine ∧ Pv (i + 1) (upd H4 D (.lst (acc ++ [y]))) else Pv (i + 1) H3) (hd : ∀ H, Pv ys.length H → Qd H) :
    ∃ W : Nat → Nat → Hp → Prop, (∃ m, W 0 m (upd H1 D (.lst []))) ∧ ∀ i m H, W i m H →
      ((RZ.ItzT K a b).stop i H ∧ Qd H) ∨ ((RZ.ItzT K a b).go i H ∧ ∃ Nx : Hp → Prop, (∀ H', Nx H' → ∃ m', m' < m ∧ W (i + 1) m' H') ∧ ∀ x H', (RZ.ItzT K a b).yld i H x H' → g x (wipe σ vs) H' fun σ2 H2 => wipe σ2 vs = wipe σ vs ∧ tt σ2 H2 fun c H3 =>
        if c = true then te σ2 H3 fun y H4 => ∃ acc, H4 D = some (.lst acc) ∧ acc.length < sizeLine ∧ Nx (upd H4 D (.lst (acc ++ [y]))) else Nx H3) := by
  refine ⟨fun i m H => m = ys.length - i ∧ i ≤ ys.length ∧ Pv i H, ⟨ys.length, by simp, Nat.zero_le _, h0⟩, ?_⟩
  rintro i m H ⟨rfl, hi, p⟩
  obtain ⟨q1, q2⟩ := hl i H hi p
  by_cases hlt : i < ys.length
  · have hlt2 : i < xs.length := Nat.lt_of_lt_of_le hlt hle
    refine .inr ⟨⟨xs, ys, xs[i], ys[i], q1, q2, by simp [hlt2], by simp [hlt]⟩, Pv (i + 1), fun H' p' => ⟨ys.length - (i + 1), by omega, rfl, hlt, p'⟩, fun x H' y => ?_⟩
    obtain ⟨T, x', y', rfl, nT, rfl, z1, z2⟩ := y
    exact hs i x' y' H T (z1 xs q1) (z2 ys q2) p nT
  · have e : i = ys.length := by omega
    subst e
    exact .inl ⟨⟨xs, ys, q1, q2, .inr (Nat.le_refl _)⟩, hd H p⟩
def isIntV : V → Bool
  | .int _ => true
  | _ => false
def numV (b : Int) : V → Bool
  | .int i => decide (0 ≤ i) && decide (i < b)
  | _ => false
/-- a thing whose kind is known: of a built-in type, or of the tables' class -/
def Th (K : PySem.W.Frag) (C : Addr) (H : Hp) (x : V) : Prop := ∃ t, TyX K H x t ∧ (∀ c, t = .ref c → c = C)
theorem tyX_same {K : PySem.W.Frag} {H H' : Hp} (e : Same H H') {x : V} {t : Value} (h : TyX K H x t) : TyX K H' x t := by
  cases h with
  | base b =>
    cases b with
    | non => exact .base .non
    | bl b => exact .base (.bl b)
    | int i => exact .base (.int i)
    | str x => exact .base (.str x)
    | flt x => exact .base (.flt x)
    | lst h => exact .base (.lst (e _ _ h))
    | frz h => exact .base (.frz (e _ _ h))
    | tup h => exact .base (.tup (e _ _ h))
    | dK h => exact .base (.dK (e _ _ h))
    | dT h => exact .base (.dT (e _ _ h))
    | ins h a b c d f => exact .base (.ins (e _ _ h) a b c d f)
  | byt b => exact .byt b
  | set h => exact .set (e _ _ h)
  | kList a b => exact .kList a b
  | kTuple a b => exact .kTuple a b
  | kDict a b => exact .kDict a b
  | fTuple h => exact .fTuple (e _ _ h)
  | fDict h => exact .fDict (e _ _ h)
theorem Th.same {K : PySem.W.Frag} {C : Addr} {H H' : Hp} (e : Same H H') {x : V} (h : Th K C H x) : Th K C H' x := by
  obtain ⟨t, a, b⟩ := h
  exact ⟨t, tyX_same e a, b⟩
theorem th_int {K : PySem.W.Frag} {C : Addr} {H : Hp} {i : Int} : Th K C H (.int i) := ⟨_, .base (.int i), fun _ q => nomatch q⟩
theorem th_kit {K : PySem.W.Frag} {C : Addr} (c : TC K C) {H : Hp} {x : V} (h : Th K C H x) : ∃ t b1 b2, TyX K H x t ∧ PySem.W.kitOne K t (.type "int") = some b1 ∧ PySem.W.kitOne K t (.type "bool") = some b2 ∧ (b1 && !b2) = isIntV x := by
  obtain ⟨t, ty, ht⟩ := h
  have go : ∀ (n : String) (b1 b2 : Bool), t = .type n → kitB n "int" = some b1 → kitB n "bool" = some b2 → (b1 && !b2) = isIntV x → ∃ t b1 b2, TyX K H x t ∧ PySem.W.kitOne K t (.type "int") = some b1 ∧ PySem.W.kitOne K t (.type "bool") = some b2 ∧ (b1 && !b2) = isIntV x :=
    fun n b1 b2 e h1 h2 h3 => ⟨t, b1, b2, ty, by rw [e]; exact kit_ty h1, by rw [e]; exact kit_ty h2, h3⟩
  cases ty with
  | base b =>
    cases b with
    | non => exact go "NoneType" false false rfl (by decide +kernel) (by decide +kernel) rfl
    | bl b => exact go "bool" true true rfl (by decide +kernel) (by decide +kernel) rfl
    | int i => exact go "int" true false rfl (by decide +kernel) (by decide +kernel) rfl
    | str x => exact go "str" false false rfl (by decide +kernel) (by decide +kernel) rfl
    | flt x => exact go "float" false false rfl (by decide +kernel) (by decide +kernel) rfl
    | lst h => exact go "list" false false rfl (by decide +kernel) (by decide +kernel) rfl
    | frz h => exact go "list" false false rfl (by decide +kernel) (by decide +kernel) rfl
    | tup h => exact go "tuple" false false rfl (by decide +kernel) (by decide +kernel) rfl
    | dK h => exact go "dict" false false rfl (by decide +kernel) (by decide +kernel) rfl
    | dT h => exact go "dict" false false rfl (by decide +kernel) (by decide +kernel) rfl
    | @ins a C' dx fs h a1 b1 c1 d1 f1 =>
      have e := ht C' rfl
      subst e
      exact ⟨_, false, false, .base (.ins h a1 b1 c1 d1 f1), c.kI, c.kB, rfl⟩
  | byt b => exact go "bytes" false false rfl (by decide +kernel) (by decide +kernel) rfl
  | set h => exact go "set" false false rfl (by decide +kernel) (by decide +kernel) rfl
  | kList a b => exact go "list" false false rfl (by decide +kernel) (by decide +kernel) rfl
  | kTuple a b => exact go "tuple" false false rfl (by decide +kernel) (by decide +kernel) rfl
  | kDict a b => exact go "dict" false false rfl (by decide +kernel) (by decide +kernel) rfl
  | fTuple h => exact go "tuple" false false rfl (by decide +kernel) (by decide +kernel) rfl
  | fDict h => exact go "dict" false false rfl (by decide +kernel) (by decide +kernel) rfl
theorem tyX_sqT {K : PySem.W.Frag} {H : Hp} {a : Addr} {xs : List V} (h : SqT K H a xs) : TyX K H (.ref a) (.type "tuple") := by
  rcases h with (h | ⟨o, h⟩) | ⟨o, its, n, h, hc, _⟩
  · exact .base (.tup h)
  · exact .fTuple h
  · exact .kTuple h hc
/-- a thing as the judges look at it: a tuple of things, or no tuple -/
inductive Tg (K : PySem.W.Frag) (C : Addr) (H : Hp) : V → Option (List V) → Prop
  | tup {a : Addr} {xs : List V} (h : SqT K H a xs) (hi : ∀ y ∈ xs, Th K C H y) (hz : xs.length ≤ 100000) : Tg K C H (.ref a) (some xs)
  | no {x : V} {t : Value} (ty : TyX K H x t) (hk : PySem.W.kitOne K t (.type "tuple") = some false) : Tg K C H x none
theorem Tg.same {K : PySem.W.Frag} {C : Addr} {H H' : Hp} (e : Same H H') {x : V} {o : Option (List V)} (h : Tg K C H x o) : Tg K C H' x o := by
  cases h with
  | tup h hi hz => exact .tup (sqT_same e h) (fun y hy => (hi y hy).same e) hz
  | no ty hk => exact .no (tyX_same e ty) hk
theorem Tg.ints {K : PySem.W.Frag} {C : Addr} {H : Hp} {a : Addr} {ns : List Int} (h : SqT K H a (ns.map V.int)) (hz : ns.length ≤ 100000) : Tg K C H (.ref a) (some (ns.map V.int)) := .tup h (fun y hy => by
  obtain ⟨n, _, rfl⟩ := List.mem_map.mp hy
  exact th_int) (by rw [List.length_map]; exact hz)
/-- whether it is an ascending tuple of numbers below b -/
def ascV (b : Int) : List V → Bool
  | [] => true
  | [x] => numV b x
  | x :: y :: r => numV b x && (match x, y with | .int i, .int j => decide (i < j) | _, _ => false) && ascV b (y :: r)
def ltV : V → V → Bool
  | .int i, .int j => decide (i < j)
  | _, _ => false
theorem ascV_eq (b : Int) : ∀ xs : List V, ascV b xs = (xs.all (numV b) && ((xs.zip (xs.drop 1)).all fun p => ltV p.1 p.2))
  | [] => rfl
  | [x] => by
    show numV b x = _
    simp [List.all]
  | x :: y :: r => by
    have ih := ascV_eq b (y :: r)
    have e : ascV b (x :: y :: r) = (numV b x && ltV x y && ascV b (y :: r)) := by
      cases x <;> cases y <;> rfl
    rw [e, ih]
    simp only [List.drop_succ_cons, List.drop_zero, List.zip_cons_cons, List.all_cons]
    cases numV b x <;> cases ltV x y <;> cases numV b y <;> cases (List.all r (numV b)) <;> simp
theorem ascV_ints {b : Int} : ∀ {ns : List Int}, ns.Pairwise (· < ·) → (∀ x ∈ ns, 0 ≤ x ∧ x < b) → ascV b (ns.map V.int) = true
  | [], _, _ => rfl
  | [x], _, h => by
    have := h x List.mem_cons_self
    show (decide (0 ≤ x) && decide (x < b)) = true
    simp [this.1, this.2]
  | x :: y :: r, hp, h => by
    have ih := ascV_ints (ns := y :: r) (List.pairwise_cons.mp hp).2 fun z hz => h z (List.mem_cons_of_mem _ hz)
    have h1 := h x List.mem_cons_self
    have h2 := (List.pairwise_cons.mp hp).1 y List.mem_cons_self
    show ((decide (0 ≤ x) && decide (x < b)) && decide (x < y) && ascV b ((y :: r).map V.int)) = true
    rw [ih]
    simp [h1.1, h1.2, h2]
theorem all_num_ints {b : Int} {xs : List V} (h : xs.all (numV b) = true) : ∃ ns : List Int, xs = ns.map V.int ∧ ∀ x ∈ ns, 0 ≤ x ∧ x < b := by
  induction xs with
  | nil => exact ⟨[], rfl, fun _ h => (by cases h)⟩
  | cons x r ih =>
    rw [List.all_cons, Bool.and_eq_true] at h
    obtain ⟨ns, e, hb⟩ := ih h.2
    cases x with
    | int i =>
      have h1 : (decide (0 ≤ i) && decide (i < b)) = true := h.1
      rw [Bool.and_eq_true, decide_eq_true_eq, decide_eq_true_eq] at h1
      refine ⟨i :: ns, by rw [e]; rfl, fun x hx => ?_⟩
      rcases List.mem_cons.mp hx with q | q
      · rw [q]; exact h1
      · exact hb x q
    | _ => exact absurd h.1 (by simp [numV])
def tf (v : V) (n : Nat) : List (Str × V) := putF "size" (.int (n : Int)) (putF "rows" v [])
def TableAt (K : PySem.W.Frag) (C : Addr) (H : Hp) (x : V) (rows : List (List Int)) : Prop := ∃ p dx v, x = .ref p ∧ H p = some (.ins C dx (tf v rows.length)) ∧ RowsAt K H v rows
theorem TableAt.same {K : PySem.W.Frag} {C : Addr} {H H' : Hp} {x : V} {rows : List (List Int)} (h : TableAt K C H x rows) (e : Same H H') : TableAt K C H' x rows := by
  obtain ⟨p, dx, v, ex, hp, hr⟩ := h
  exact ⟨p, dx, v, ex, e _ _ hp, hr.same e⟩
/-- what changes at an instance is no tuple -/
theorem sqT_ins {K : PySem.W.Frag} {H H' : Hp} {a p C dx : Addr} {fs : List (Str × V)} {xs : List V} (h : SqT K H a xs) (e : H p = some (.ins C dx fs)) (k : ∀ b o, b ≠ p → H b = some o → H' b = some o) : SqT K H' a xs := by
  rcases h with (h | ⟨o, h⟩) | h
  · exact .inl (.inl (k _ _ (ne_of h e (by intro z; cases z)) h))
  · exact .inl (.inr ⟨o, k _ _ (ne_of h e (by intro z; cases z)) h⟩)
  · exact .inr h
theorem RowsT.ins {K : PySem.W.Frag} {H H' : Hp} {p C dx : Addr} {fs : List (Str × V)} (e : H p = some (.ins C dx fs)) (k : ∀ b o, b ≠ p → H b = some o → H' b = some o) : ∀ {vs : List V} {rs : List (List Int)}, RowsT K H vs rs → RowsT K H' vs rs
  | _, _, .nil => .nil
  | _, _, .cons h r => .cons (sqT_ins h e k) (r.ins e k)
theorem RowsAt.ins {K : PySem.W.Frag} {H H' : Hp} {p C dx : Addr} {fs : List (Str × V)} {v : V} {rows : List (List Int)} (h : RowsAt K H v rows) (e : H p = some (.ins C dx fs)) (k : ∀ b o, b ≠ p → H b = some o → H' b = some o) : RowsAt K H' v rows := by
  obtain ⟨a, vs, ev, h1, h2⟩ := h
  exact ⟨a, vs, ev, sqT_ins h1 e k, h2.ins e k⟩
theorem PE.imp {X : Cx} {e : Expr} {t t' : TE} (h : PE X e t) (i : ∀ σ H Q, t' σ H Q → t σ H Q) : PE X e t' := ⟨fun pins s σ H Q I q => h.run pins s σ H Q I (i σ H Q q)⟩
def tUp (te : TE) : TE := fun σ H Q => ∃ Q' : VK, te σ H Q' ∧ ∀ v H1, Q' v H1 → Q v H1
theorem pe_up {X : Cx} {e : Expr} {te : TE} (h : PE X e te) : PE X e (tUp te) := ⟨fun pins s σ H Q I ⟨Q', h1, h2⟩ => thn (h.run pins s σ H Q' I h1) fun u s1 ⟨v, H1, I1, r, q⟩ => ⟨v, H1, I1, r, h2 v H1 q⟩⟩
theorem TableAt.tyx {K : PySem.W.Frag} {C : Addr} (c : TC K C) {H : Hp} {x : V} {rows : List (List Int)} (h : TableAt K C H x rows) : TyX K H x (.ref C) := by
  obtain ⟨p, dx, v, rfl, hp, _⟩ := h
  exact c.ty hp
end Fo
set_option maxRecDepth 100000
set_option maxHeartbeats 2000000
namespace Fo
open PySem PySem.Spec PyProof.Rows L2
def Sq (b : Bool) (K : PySem.W.Frag) (H : Hp) (a : Addr) (xs : List V) : Prop := match b with
  | true => SqL K H a xs
  | false => SqT K H a xs
theorem Sq.same {b : Bool} {K : PySem.W.Frag} {H H' : Hp} {a : Addr} {xs : List V} (h : Sq b K H a xs) (e : Same H H') : Sq b K H' a xs := by
  cases b with
  | true => exact e.seq h
  | false => exact sqT_same e h
section
variable {K : PySem.W.Frag}
theorem for_enumL {a : Addr} {xs : List V} {g : TG} {tb : TS} {D : Ends} {σ : L2.St} {H : Hp} (Pv : Nat → L2.St → Hp → Prop) (h0 : Pv 0 σ H) (hl : ∀ i σ H, i ≤ xs.length → Pv i σ H → SqL K H a xs)
    (hs : ∀ i x σ H T, xs[i]? = some x → Pv i σ H → H T = none → g (.ref T) σ (upd H T (.tup [.int (i : Nat), x])) fun σ2 H2 => tb { D with nx := Pv (i + 1), ct := Pv (i + 1), bk := D.nx } σ2 H2) (hd : ∀ σ H, Pv xs.length σ H → D.nx σ H) :
    ∃ W : Nat → Nat → L2.St → Hp → Prop, (∃ m, W 0 m σ H) ∧ ∀ i m σ H, W i m σ H →
      ((Ite K a).stop i H ∧ D.nx σ H) ∨ ((Ite K a).go i H ∧ ∃ N : L2.St → Hp → Prop, (∀ σ' H', N σ' H' → ∃ m', m' < m ∧ W (i + 1) m' σ' H') ∧ ∀ x H', (Ite K a).yld i H x H' → g x σ H' fun σ2 H2 => tb { D with nx := N, ct := N, bk := D.nx } σ2 H2) := by
  refine ⟨fun i m σ H => m = xs.length - i ∧ i ≤ xs.length ∧ Pv i σ H, ⟨xs.length, by simp, Nat.zero_le _, h0⟩, ?_⟩
  rintro i m σ H ⟨rfl, hi, p⟩
  have q := hl i σ H hi p
  by_cases hlt : i < xs.length
  · refine .inr ⟨⟨xs, xs[i], q, by simp [hlt]⟩, Pv (i + 1), fun σ' H' p' => ⟨xs.length - (i + 1), by omega, rfl, hlt, p'⟩, fun x H' y => ?_⟩
    obtain ⟨T, x', rfl, nT, rfl, y⟩ := y
    exact hs i x' σ H T (y xs q) p nT
  · have e : i = xs.length := by omega
    subst e
    exact .inl ⟨⟨xs, q, Nat.le_refl _⟩, hd σ H p⟩
theorem lc_enumL {a : Addr} {xs : List V} {g : TG} {tt : TT} {te : TE} {vs : List Nat} {σ : L2.St} {H1 : Hp} {D : Addr} {Qd : Hp → Prop} (Pv : Nat → Hp → Prop) (h0 : Pv 0 (upd H1 D (.lst []))) (hl : ∀ i H, i ≤ xs.length → Pv i H → SqL K H a xs)
    (hs : ∀ i x H T, xs[i]? = some x → Pv i H → H T = none → g (.ref T) (wipe σ vs) (upd H T (.tup [.int (i : Nat), x])) fun σ2 H2 => wipe σ2 vs = wipe σ vs ∧ tt σ2 H2 fun b H3 =>
      if b = true then te σ2 H3 fun y H4 => ∃ acc, H4 D = some (.lst acc) ∧ acc.length < sizeLine ∧ Pv (i + 1) (upd H4 D (.lst (acc ++ [y]))) else Pv (i + 1) H3) (hd : ∀ H, Pv xs.length H → Qd H) :
    ∃ W : Nat → Nat → Hp → Prop, (∃ m, W 0 m (upd H1 D (.lst []))) ∧ ∀ i m H, W i m H →
      ((Ite K a).stop i H ∧ Qd H) ∨ ((Ite K a).go i H ∧ ∃ Nx : Hp → Prop, (∀ H', Nx H' → ∃ m', m' < m ∧ W (i + 1) m' H') ∧ ∀ x H', (Ite K a).yld i H x H' → g x (wipe σ vs) H' fun σ2 H2 => wipe σ2 vs = wipe σ vs ∧ tt σ2 H2 fun b H3 =>
        if b = true then te σ2 H3 fun y H4 => ∃ acc, H4 D = some (.lst acc) ∧ acc.length < sizeLine ∧ Nx (upd H4 D (.lst (acc ++ [y]))) else Nx H3) := by
  refine ⟨fun i m H => m = xs.length - i ∧ i ≤ xs.length ∧ Pv i H, ⟨xs.length, by simp, Nat.zero_le _, h0⟩, ?_⟩
  rintro i m H ⟨rfl, hi, p⟩
  have q := hl i H hi p
  by_cases hlt : i < xs.length
  · refine .inr ⟨⟨xs, xs[i], q, by simp [hlt]⟩, Pv (i + 1), fun H' p' => ⟨xs.length - (i + 1), by omega, rfl, hlt, p'⟩, fun x H' y => ?_⟩
    obtain ⟨T, x', rfl, nT, rfl, y⟩ := y
    exact hs i x' H T (y xs q) p nT
  · have e : i = xs.length := by omega
    subst e
    exact .inl ⟨⟨xs, q, Nat.le_refl _⟩, hd H p⟩
end
inductive RowsB (b : Bool) (K : PySem.W.Frag) (H : Hp) : List V → List (List Int) → Prop
  | nil : RowsB b K H [] []
  | cons {a : Addr} {vs : List V} {r : List Int} {rs : List (List Int)} : Sq b K H a (r.map V.int) → RowsB b K H vs rs → RowsB b K H (.ref a :: vs) (r :: rs)
theorem RowsB.same {b : Bool} {K : PySem.W.Frag} {H H' : Hp} (g : Same H H') : ∀ {vs : List V} {rs : List (List Int)}, RowsB b K H vs rs → RowsB b K H' vs rs
  | _, _, .nil => .nil
  | _, _, .cons h r => .cons (h.same g) (r.same g)
theorem RowsB.len {b : Bool} {K : PySem.W.Frag} {H : Hp} : ∀ {vs : List V} {rs : List (List Int)}, RowsB b K H vs rs → vs.length = rs.length
  | _, _, .nil => rfl
  | _, _, .cons _ r => by rw [List.length_cons, List.length_cons, r.len]
theorem RowsB.get {b : Bool} {K : PySem.W.Frag} {H : Hp} : ∀ {vs : List V} {rs : List (List Int)} {i : Nat} {v : V}, RowsB b K H vs rs → vs[i]? = some v → ∃ a r, v = .ref a ∧ rs[i]? = some r ∧ Sq b K H a (r.map V.int)
  | _, _, _, _, .nil, e => by simp at e
  | _, _, 0, v, .cons (a := a) (r := r) h _, e => by
    have e' : some (V.ref a) = some v := e
    cases e'
    exact ⟨a, r, rfl, rfl, h⟩
  | _, _, i + 1, v, .cons _ t, e => t.get (i := i) e
theorem RowsB.snoc {b : Bool} {K : PySem.W.Frag} {H : Hp} {a : Addr} {r : List Int} (h : Sq b K H a (r.map V.int)) : ∀ {vs : List V} {rs : List (List Int)}, RowsB b K H vs rs → RowsB b K H (vs ++ [.ref a]) (rs ++ [r])
  | _, _, .nil => .cons h .nil
  | _, _, .cons q t => .cons q (t.snoc h)
def RowsQ (b : Bool) (K : PySem.W.Frag) (H : Hp) (v : V) (rows : List (List Int)) : Prop := ∃ a vs, v = .ref a ∧ Sq b K H a vs ∧ RowsB b K H vs rows
theorem RowsQ.same {b : Bool} {K : PySem.W.Frag} {H H' : Hp} {v : V} {rows : List (List Int)} (h : RowsQ b K H v rows) (g : Same H H') : RowsQ b K H' v rows := by
  obtain ⟨a, vs, e, h1, h2⟩ := h
  exact ⟨a, vs, e, h1.same g, h2.same g⟩
end Fo
set_option maxRecDepth 100000
set_option maxHeartbeats 1000000
namespace Mt
open Classical
abbrev Rows := List (List Int)
def row (rows : Rows) (p : Nat) : List Int := rows[p]?.getD []
theorem row_get {rows : Rows} {p : Nat} {r : List Int} (h : rows[p]? = some r) : row rows p = r := by
  unfold row
  rw [h]
  rfl
def fset {α β : Type} [DecidableEq α] (f : α → β) (a : α) (b : β) : α → β := fun x => if x = a then b else f x
theorem fset_same {α β : Type} [DecidableEq α] {f : α → β} {a : α} {b : β} : fset f a b a = b := if_pos rfl
theorem fset_ne {α β : Type} [DecidableEq α] {f : α → β} {a x : α} {b : β} (h : x ≠ a) : fset f a b x = f x := if_neg h
theorem len_le {α : Type} [DecidableEq α] : ∀ {l1 l2 : List α}, l1.Nodup → (∀ x ∈ l1, x ∈ l2) → l1.length ≤ l2.length
  | [], _, _, _ => Nat.zero_le _
  | x :: l1, l2, hn, hs => by
    have hx := hs x List.mem_cons_self
    have h2 := List.nodup_cons.mp hn
    have ih := len_le (l1 := l1) (l2 := l2.erase x) h2.2 fun y hy => (List.mem_erase_of_ne (fun (e : y = x) => h2.1 (e ▸ hy))).mpr (hs y (List.mem_cons_of_mem _ hy))
    rw [List.length_erase_of_mem hx] at ih
    have : 0 < l2.length := List.length_pos_of_mem hx
    rw [List.length_cons]
    omega
theorem nodup_map {α β : Type} {f : α → β} : ∀ {l : List α}, l.Nodup → (∀ x ∈ l, ∀ y ∈ l, f x = f y → x = y) → (l.map f).Nodup
  | [], _, _ => List.nodup_nil
  | x :: l, hn, hi => by
    have h2 := List.nodup_cons.mp hn
    rw [List.map_cons, List.nodup_cons]
    refine ⟨fun hm => ?_, nodup_map h2.2 fun a ha b hb => hi a (List.mem_cons_of_mem _ ha) b (List.mem_cons_of_mem _ hb)⟩
    obtain ⟨y, hy, e⟩ := List.mem_map.mp hm
    have := hi y (List.mem_cons_of_mem _ hy) x List.mem_cons_self e
    exact h2.1 (this ▸ hy)
structure Ds (rows : Rows) (D : List Int) : Prop where
  len : D.length = rows.length
  tie : ∀ (p : Nat) (t : Int), D[p]? = some t → t ∈ row rows p
  nd : D.Nodup
theorem Ds.get {rows : Rows} {D : List Int} (d : Ds rows D) {p : Nat} (h : p < rows.length) : ∃ t, D[p]? = some t ∧ t ∈ row rows p := by
  have h' : p < D.length := by rw [d.len]; exact h
  exact ⟨_, List.getElem?_eq_getElem h', d.tie p _ (List.getElem?_eq_getElem h')⟩
theorem nodup_get {α : Type} {l : List α} (h : l.Nodup) {i j : Nat} {x : α} (hi : l[i]? = some x) (hj : l[j]? = some x) : i = j := by
  have hi' := (List.getElem?_eq_some_iff.mp hi)
  have hj' := (List.getElem?_eq_some_iff.mp hj)
  obtain ⟨a, ea⟩ := hi'
  obtain ⟨b, eb⟩ := hj'
  refine Classical.byContradiction fun hc => ?_
  have pw := List.pairwise_iff_getElem.mp h
  rcases Nat.lt_or_gt_of_ne hc with z | z
  · exact pw i j a b z (ea.trans eb.symm)
  · exact pw j i b a z (eb.trans ea.symm)
structure MS where
  h : Nat → Option Int
  o : Int → Option Nat
structure Valid (rows : Rows) (m : MS) : Prop where
  inv : ∀ p t, m.h p = some t ↔ m.o t = some p
  tie : ∀ p t, m.h p = some t → t ∈ row rows p
theorem Valid.inj {rows : Rows} {m : MS} (v : Valid rows m) {p q : Nat} {t : Int} (h1 : m.h p = some t) (h2 : m.h q = some t) : p = q := by
  have a := (v.inv p t).mp h1
  have b := (v.inv q t).mp h2
  rw [a] at b
  exact Option.some.inj b
abbrev Came := Int → Option Nat
/-- how a thing was come to: k steps from p -/
inductive Chain (c : Came) (h : Nat → Option Int) (p : Nat) : Nat → Int → Prop
  | start {t : Int} : c t = some p → Chain c h p 0 t
  | step {k : Nat} {t s : Int} {q : Nat} : c t = some q → h q = some s → Chain c h p k s → Chain c h p (k + 1) t
theorem Chain.ext {c c' : Came} {h : Nat → Option Int} {p : Nat} (e : ∀ t y, c t = some y → c' t = some y) : ∀ {k : Nat} {t : Int}, Chain c h p k t → Chain c' h p k t
  | _, _, .start a => .start (e _ _ a)
  | _, _, .step a b d => .step (e _ _ a) b (d.ext e)
theorem Chain.one {c : Came} {h : Nat → Option Int} {p : Nat} (hp : h p = none) : ∀ {k j : Nat} {t : Int}, Chain c h p k t → Chain c h p j t → k = j
  | _, _, _, .start _, .start _ => rfl
  | _, _, _, .start a, .step b d _ => by
    rw [a] at b
    cases b
    rw [hp] at d
    cases d
  | _, _, _, .step b d _, .start a => by
    rw [a] at b
    cases b
    rw [hp] at d
    cases d
  | _, _, _, .step a b d, .step a' b' d' => by
    rw [a] at a'
    cases a'
    rw [b] at b'
    cases b'
    rw [d.one hp d']
def put (m : MS) (q : Nat) (t : Int) : MS := ⟨fset m.h q (some t), fset m.o t (some q)⟩
end Mt
set_option maxRecDepth 100000
set_option maxHeartbeats 1000000
namespace Mt
open Classical
inductive Reach (rows : Rows) (o : Int → Option Nat) (q : Nat) : Nat → Prop
  | refl : Reach rows o q q
  | step {x y : Nat} {s : Int} : Reach rows o q x → s ∈ row rows x → o s = some y → Reach rows o q y
def Few (rows : Rows) : Prop := ∃ U : List Int, U.length ≤ rows.length ∧ ∀ p, ∀ t ∈ row rows p, t ∈ U
def narrow (rows : Rows) (p : Nat) (t : Int) : Rows := rows.mapIdx fun x r => if x = p then [t] else r.filter (fun s => decide (s ≠ t))
theorem narrow_len {rows : Rows} {p : Nat} {t : Int} : (narrow rows p t).length = rows.length := List.length_mapIdx
theorem narrow_get {rows : Rows} {p : Nat} {t : Int} (x : Nat) : (narrow rows p t)[x]? = rows[x]?.map fun r => if x = p then [t] else r.filter (fun s => decide (s ≠ t)) := List.getElem?_mapIdx
theorem row_narrow {rows : Rows} {p : Nat} {t : Int} {x : Nat} (h : x < rows.length) : row (narrow rows p t) x = if x = p then [t] else (row rows x).filter (fun s => decide (s ≠ t)) := by
  unfold row
  rw [narrow_get, List.getElem?_eq_getElem h]
  rfl
theorem mem_narrow {rows : Rows} {p : Nat} {t : Int} {x : Nat} {s : Int} (h : x < rows.length) : s ∈ row (narrow rows p t) x ↔ (x = p ∧ s = t) ∨ (x ≠ p ∧ s ∈ row rows x ∧ s ≠ t) := by
  rw [row_narrow h]
  by_cases e : x = p
  · rw [if_pos e, List.mem_singleton]
    exact ⟨fun z => .inl ⟨e, z⟩, fun z => z.elim (fun z => z.2) fun z => absurd e z.1⟩
  · rw [if_neg e, List.mem_filter, decide_eq_true_iff]
    exact ⟨fun z => .inr ⟨e, z⟩, fun z => z.elim (fun z => absurd z.1 e) fun z => z.2⟩
theorem ds_narrow {rows : Rows} {p : Nat} {t : Int} {D : List Int} (hp : p < rows.length) (ht : t ∈ row rows p) : Ds (narrow rows p t) D ↔ Ds rows D ∧ D[p]? = some t := by
  constructor
  · intro d
    have ln : D.length = rows.length := by rw [d.len, narrow_len]
    have hpt : D[p]? = some t := by
      obtain ⟨s, e, hs⟩ := d.get (p := p) (by rw [narrow_len]; exact hp)
      rcases (mem_narrow hp).mp hs with a | a
      · rw [e, a.2]
      · exact absurd rfl a.1
    refine ⟨⟨ln, fun x s e => ?_, d.nd⟩, hpt⟩
    have hx : x < rows.length := by
      have := (List.getElem?_eq_some_iff.mp e).1
      omega
    rcases (mem_narrow hx).mp (d.tie x s e) with a | a
    · rw [a.1, a.2]; exact ht
    · exact a.2.1
  · rintro ⟨d, hpt⟩
    refine ⟨by rw [narrow_len]; exact d.len, fun x s e => ?_, d.nd⟩
    have hx : x < rows.length := by
      have := (List.getElem?_eq_some_iff.mp e).1
      rw [d.len] at this
      exact this
    refine (mem_narrow hx).mpr ?_
    by_cases z : x = p
    · rw [z, hpt] at e
      exact .inl ⟨z, (Option.some.inj e).symm⟩
    · exact .inr ⟨z, d.tie x s e, fun y => z (nodup_get d.nd (by rw [y] at e; exact e) hpt)⟩
def Live (rows : Rows) (p : Nat) (t : Int) : Prop := ∃ D, Ds rows D ∧ D[p]? = some t
/-- the rows without the ties that are in no dealing -/
noncomputable def liveR (rows : Rows) : Rows := rows.mapIdx fun p r => r.filter (fun t => decide (Live rows p t))
theorem liveR_len {rows : Rows} : (liveR rows).length = rows.length := List.length_mapIdx
theorem row_liveR {rows : Rows} {p : Nat} : row (liveR rows) p = (row rows p).filter (fun t => decide (Live rows p t)) := by
  unfold row liveR
  rw [List.getElem?_mapIdx]
  cases rows[p]? with
  | none => rfl
  | some r => rfl
theorem mem_liveR {rows : Rows} {p : Nat} {t : Int} : t ∈ row (liveR rows) p ↔ Live rows p t := by
  rw [row_liveR, List.mem_filter, decide_eq_true_iff]
  exact ⟨fun h => h.2, fun h => ⟨by obtain ⟨D, d, e⟩ := h; exact d.tie p t e, h⟩⟩
theorem ds_liveR {rows : Rows} {D : List Int} : Ds (liveR rows) D ↔ Ds rows D := by
  constructor
  · intro d
    refine ⟨by rw [d.len, liveR_len], fun p t e => ?_, d.nd⟩
    obtain ⟨D', d', e'⟩ := mem_liveR.mp (d.tie p t e)
    exact d'.tie p t e'
  · intro d
    exact ⟨by rw [liveR_len]; exact d.len, fun p t e => mem_liveR.mpr ⟨D, d, e⟩, d.nd⟩
end Mt
set_option maxRecDepth 100000
set_option maxHeartbeats 2000000
namespace Fo
open PySem PySem.Spec PyProof.Rows L2
section
variable {X : Cx}
theorem pip_of {op : Operator} {r : R2} (h : OpR X (inplaceOp op) r) : PIp X op r := fun pins s σ H x y v u Q I r1 r2 q => h pins s σ H x y v u Q I r1 r2 q
def rGetL (K : PySem.W.Frag) : V → V → Hp → VK → Prop := fun o i H Q => ∃ p xs k v, o = .ref p ∧ i = .int k ∧ 0 ≤ k ∧ SqL K H p xs ∧ atI xs k = some v ∧ Q v H
theorem get_list : PGet X (rGetL X.K) := by
  intro pins s σ H o i ov iv Q I ro ri h
  obtain ⟨p, xs, k, z, rfl, rfl, k0, hq, he, q⟩ := h
  cases ro
  obtain ⟨t, rfl⟩ := ri
  obtain ⟨its, r, pl, hz⟩ := I.list hq
  obtain ⟨j, h1, h2, h3, h4, h5⟩ := atI_get he
  obtain ⟨w, ew, rw'⟩ := r.get h2
  have hl := r.length
  have hn := line63
  have hj : k.toNat = j := by
    rw [seqIndex_of k0 h5] at h1
    exact Option.some.inj h1
  exact wpAny_getItem_list pl.isList k0 (by omega) (by rw [hj]; simpa using ew) ⟨z, H, I, rw', q⟩
end
abbrev nV (q : Nat) : V := .int (q : Int)
def DR (H : Hp) (a : Addr) (f : Int → Option Nat) : Prop := ∃ kvs : List (Key × V), H a = some (.dK kvs) ∧ (∀ t : Int, valV kvs (.inl t) = (f t).map nV) ∧ (kvs.map (·.1)).Nodup ∧ ∀ k ∈ kvs.map (·.1), ∃ t : Int, k = .inl t ∧ f t ≠ none
theorem DR.new {H : Hp} {p : Addr} : DR (upd H p (.dK [])) p (fun _ => none) := ⟨[], upd_same, fun _ => rfl, List.nodup_nil, fun _ h => (by cases h)⟩
theorem keys_put {kvs : List (Key × V)} {k : Key} {v : V} : ∀ j ∈ (putK kvs k v).map (·.1), j = k ∨ j ∈ kvs.map (·.1) := by
  intro j hj
  unfold putK at hj
  by_cases c : (kvs.any fun kv => decide (kv.1 = k)) = true
  · rw [if_pos c, List.map_map] at hj
    right
    obtain ⟨kv, h1, h2⟩ := List.mem_map.mp hj
    refine List.mem_map.mpr ⟨kv, h1, ?_⟩
    rw [← h2]
    show kv.1 = (if kv.1 = k then (kv.1, v) else kv).1
    by_cases z : kv.1 = k
    · rw [if_pos z]
    · rw [if_neg z]
  · rw [if_neg c, List.map_append] at hj
    rcases List.mem_append.mp hj with h | h
    · exact .inr h
    · exact .inl (by simpa using h)
theorem nodup_put {kvs : List (Key × V)} {k : Key} {v : V} (h : (kvs.map (·.1)).Nodup) : ((putK kvs k v).map (·.1)).Nodup := by
  unfold putK
  by_cases c : (kvs.any fun kv => decide (kv.1 = k)) = true
  · rw [if_pos c, List.map_map]
    have e : kvs.map ((·.1) ∘ fun kv => if kv.1 = k then (kv.1, v) else kv) = kvs.map (·.1) := List.map_congr_left fun kv _ => by
      show (if kv.1 = k then (kv.1, v) else kv).1 = kv.1
      by_cases z : kv.1 = k
      · rw [if_pos z]
      · rw [if_neg z]
    rw [e]
    exact h
  · rw [if_neg c, List.map_append]
    refine List.nodup_append.mpr ⟨h, List.nodup_cons.mpr ⟨fun z => (by cases z), List.nodup_nil⟩, fun x hx y hy => ?_⟩
    have ey : y = k := by simpa using hy
    rw [ey]
    intro z
    apply c
    rw [List.any_eq_true]
    obtain ⟨kv, h1, h2⟩ := List.mem_map.mp hx
    exact ⟨kv, h1, decide_eq_true (by rw [h2, z])⟩
theorem DR.len {H : Hp} {a : Addr} {f : Int → Option Nat} {U : List Int} {kvs : List (Key × V)} (hn : (kvs.map (·.1)).Nodup) (hk : ∀ k ∈ kvs.map (·.1), ∃ t : Int, k = .inl t ∧ f t ≠ none) (hU : ∀ t, f t ≠ none → t ∈ U) : kvs.length ≤ U.length := by
  have := Mt.len_le (l2 := U.map (Sum.inl : Int → Key)) hn fun k hk' => by
    obtain ⟨t, e, h⟩ := hk k hk'
    exact List.mem_map.mpr ⟨t, hU t h, e.symm⟩
  rw [List.length_map, List.length_map] at this
  exact this
theorem DR.get {H : Hp} {a : Addr} {f : Int → Option Nat} (d : DR H a f) (t : Int) : DGet H a (.int t) ((f t).map nV) := by
  obtain ⟨kvs, e, h, _⟩ := d
  rw [← h t]
  exact DGet.k (k := .inl t) e
theorem DR.put {H : Hp} {a : Addr} {f : Int → Option Nat} {U : List Int} (d : DR H a f) (t : Int) (q : Nat) (hU : ∀ t, f t ≠ none → t ∈ U) (hl : U.length ≤ 100000) : ∃ H', DPut H a (.int t) (nV q) H' ∧ DR H' a (Mt.fset f t (some q)) ∧ ∀ b, b ≠ a → H' b = H b := by
  obtain ⟨kvs, e, h, hn, hk⟩ := d
  have ln := DR.len (H := H) (a := a) hn hk hU
  refine ⟨_, DPut.k (k := .inl t) e (small_lt (by omega)), ⟨_, upd_same, fun s => ?_, nodup_put hn, fun k hk' => ?_⟩, fun b hb => upd_ne hb⟩
  · rw [valV_put]
    by_cases z : s = t
    · rw [if_pos (by rw [z]), z, Mt.fset_same]
      rfl
    · rw [if_neg (fun y => z (by injection y)), Mt.fset_ne z]
      exact h s
  · rcases keys_put k hk' with z | z
    · exact ⟨t, z, by rw [Mt.fset_same]; exact fun y => nomatch y⟩
    · obtain ⟨s, e1, e2⟩ := hk k z
      refine ⟨s, e1, ?_⟩
      by_cases y : s = t
      · rw [y, Mt.fset_same]; exact fun y => nomatch y
      · rw [Mt.fset_ne y]; exact e2
/-- all but two places are kept -/
def Keep2 (a b : Addr) (H H' : Hp) : Prop := ∀ c o, c ≠ a → c ≠ b → H c = some o → H' c = some o
theorem Keep2.refl {a b : Addr} {H : Hp} : Keep2 a b H H := fun _ _ _ _ h => h
theorem Keep2.trans {a b : Addr} {H H1 H2 : Hp} (x : Keep2 a b H H1) (y : Keep2 a b H1 H2) : Keep2 a b H H2 := fun c o h1 h2 e => y c o h1 h2 (x c o h1 h2 e)
theorem Keep2.same {a b : Addr} {H H' : Hp} (s : Same H H') : Keep2 a b H H' := fun c o _ _ e => s c o e
end Fo
set_option maxRecDepth 100000
set_option maxHeartbeats 4000000
namespace Fo
open PySem PySem.Spec PyProof.Rows L2
section
variable {X : Cx}
theorem refs_of {bs : List (Addr × List Int)} {its : List Value} (h : Vals (bs.map fun b => V.ref b.1) its) : its = bs.map fun b => Value.ref b.1 := by
  induction bs generalizing its with
  | nil => cases h; rfl
  | cons b bs ih =>
    cases h with
    | cons r t =>
      rw [ih t, show _ = Value.ref b.1 from r]
      rfl
theorem refs_to : ∀ bs : List (Addr × List Int), Vals (bs.map fun b => V.ref b.1) (bs.map fun b => Value.ref b.1)
  | [] => .nil
  | b :: bs => .cons rfl (refs_to bs)
theorem each_refs : ∀ bs : List (Addr × List Int), PySem.W.EachIs (fun v (b : Addr × List Int) => v = Value.ref b.1) (bs.map fun b => Value.ref b.1) bs
  | [] => .nil
  | b :: bs => .cons rfl (each_refs bs)
theorem each_back {bs : List (Addr × List Int)} {out : List Value} (h : PySem.W.EachIs (fun v (b : Addr × List Int) => v = Value.ref b.1) out bs) : out = bs.map fun b => Value.ref b.1 := by
  induction h with
  | nil => rfl
  | cons h _ ih => rw [ih, h]; rfl
theorem each_of {R : Value → (Addr × List Int) → Prop} : ∀ {bs : List (Addr × List Int)}, (∀ b ∈ bs, R (Value.ref b.1) b) → PySem.W.EachIs R (bs.map fun b => Value.ref b.1) bs
  | [], _ => .nil
  | b :: bs, h => .cons (h b List.mem_cons_self) (each_of fun c hc => h c (List.mem_cons_of_mem _ hc))
end
end Fo
set_option maxRecDepth 100000
set_option maxHeartbeats 1000000
namespace Mt
open Classical
theorem Reach.trans {rows : Rows} {o : Int → Option Nat} {a b c : Nat} (x : Reach rows o a b) (y : Reach rows o b c) : Reach rows o a c := by
  induction y with
  | refl => exact x
  | step _ h1 h2 ih => exact .step ih h1 h2
end Mt
set_option maxRecDepth 100000
set_option maxHeartbeats 1000000
namespace Mt
open Classical
structure Least (rows : Rows) (E : List Int) : Prop where
  ds : Ds rows E
  le : ∀ (D : List Int), Ds rows D → ∀ q : Nat, (∀ j : Nat, j < q → D[j]? = E[j]?) → ∀ x y : Int, E[q]? = some x → D[q]? = some y → x ≤ y
theorem Least.one {rows : Rows} {A B : List Int} (a : Least rows A) (b : Least rows B) : A = B := by
  have h : ∀ q : Nat, ∀ j : Nat, j < q → A[j]? = B[j]? := by
    intro q
    induction q with
    | zero => exact fun j hj => absurd hj (Nat.not_lt_zero _)
    | succ q ih =>
      intro j hj
      by_cases e : j = q
      · subst e
        by_cases hn : j < rows.length
        · obtain ⟨x, hx, _⟩ := a.ds.get hn
          obtain ⟨y, hy, _⟩ := b.ds.get hn
          have h1 := a.le B b.ds j (fun i hi => (ih i hi).symm) x y hx hy
          have h2 := b.le A a.ds j ih y x hy hx
          rw [hx, hy]
          congr 1
          omega
        · rw [List.getElem?_eq_none (by rw [a.ds.len]; omega), List.getElem?_eq_none (by rw [b.ds.len]; omega)]
      · exact ih j (by omega)
  exact List.ext_getElem? fun j => h (j + 1) j (Nat.lt_succ_self j)
/-- behind the choices of the first i people -/
structure Gree (rows : Rows) (i : Nat) (L : Rows) : Prop where
  len : L.length = rows.length
  ex : ∃ D, Ds L D
  live : ∀ p, ∀ t ∈ row L p, Live L p t
  sub : ∀ D, Ds L D → Ds rows D
  asc : ∀ p, (row L p).Pairwise (· < ·)
  one : ∀ q, q < i → q < rows.length → ∃ e, row L q = [e]
  cmp : ∀ D, Ds rows D → (∀ q, q < i → ∀ e, row L q = [e] → D[q]? = some e) → Ds L D
  min : ∀ q, q < i → ∀ e, row L q = [e] → ∀ D, Ds rows D → (∀ j, j < q → ∀ f, row L j = [f] → D[j]? = some f) → ∀ y, D[q]? = some y → e ≤ y
theorem pair_filter {r : List Int} {f : Int → Bool} (h : r.Pairwise (· < ·)) : (r.filter f).Pairwise (· < ·) := List.Pairwise.filter _ h
theorem single_live {L : Rows} {q : Nat} {e : Int} {D : List Int} (h : row L q = [e]) (d : Ds L D) (hq : q < L.length) : D[q]? = some e := by
  obtain ⟨t, ht, hm⟩ := d.get hq
  rw [h] at hm
  rw [ht, List.mem_singleton.mp hm]
theorem first_le {r : List Int} {t y : Int} {l : List Int} (h : r.Pairwise (· < ·)) (e : r = t :: l) (hy : y ∈ r) : t ≤ y := by
  rw [e] at h hy
  rcases List.mem_cons.mp hy with z | z
  · omega
  · have := (List.pairwise_cons.mp h).1 y z
    omega
/-- the person has one thing alone: nothing to choose -/
theorem Gree.stay {rows L : Rows} {i : Nat} {t : Int} (g : Gree rows i L) (hi : i < rows.length) (h : row L i = [t]) : Gree rows (i + 1) L where
  len := g.len
  ex := g.ex
  live := g.live
  sub := g.sub
  asc := g.asc
  one := fun q hq hn => by
    by_cases e : q = i
    · rw [e]; exact ⟨t, h⟩
    · exact g.one q (by omega) hn
  cmp := fun D d hD => g.cmp D d fun q hq e he => hD q (by omega) e he
  min := fun q hq e he D d hD y hy => by
    by_cases z : q = i
    · subst z
      have dl := g.cmp D d fun j hj f hf => hD j hj f hf
      have := single_live he dl (by rw [g.len]; exact hi)
      rw [this] at hy
      cases hy
      exact Int.le_refl _
    · exact g.min q (by omega) e he D d hD y hy
/-- the person takes the first thing -/
theorem Gree.take {rows L : Rows} {i : Nat} {t : Int} {l : List Int} (g : Gree rows i L) (hi : i < rows.length) (h : row L i = t :: l) : Gree rows (i + 1) (liveR (narrow L i t)) := by
  have hiL : i < L.length := by rw [g.len]; exact hi
  have ht : t ∈ row L i := by rw [h]; exact List.mem_cons_self
  have ex2 : ∃ D, Ds (narrow L i t) D := by
    obtain ⟨D, d, e⟩ := g.live i t ht
    exact ⟨D, (ds_narrow hiL ht).mpr ⟨d, e⟩⟩
  have len2 : (liveR (narrow L i t)).length = rows.length := by rw [liveR_len, narrow_len, g.len]
  have dsn : ∀ D, Ds (liveR (narrow L i t)) D ↔ Ds L D ∧ D[i]? = some t := fun D => ds_liveR.trans (ds_narrow hiL ht)
  have rown : ∀ p, p < rows.length → ∀ s, s ∈ row (liveR (narrow L i t)) p ↔ ∃ D, Ds L D ∧ D[i]? = some t ∧ D[p]? = some s := fun p hp s => by
    rw [mem_liveR]
    constructor
    · rintro ⟨D, d, e⟩
      obtain ⟨a, b⟩ := (ds_narrow hiL ht).mp d
      exact ⟨D, a, b, e⟩
    · rintro ⟨D, a, b, e⟩
      exact ⟨D, (ds_narrow hiL ht).mpr ⟨a, b⟩, e⟩
  have asc2 : ∀ p, (row (liveR (narrow L i t)) p).Pairwise (· < ·) := fun p => by
    rw [row_liveR]
    refine pair_filter ?_
    by_cases hp : p < L.length
    · rw [row_narrow hp]
      by_cases e : p = i
      · rw [if_pos e]; exact List.pairwise_singleton _ _
      · rw [if_neg e]; exact pair_filter (g.asc p)
    · have : row (narrow L i t) p = [] := by
        unfold row
        rw [narrow_get, List.getElem?_eq_none (by omega)]
        rfl
      rw [this]
      exact .nil
  have one_of : ∀ p, p < rows.length → ∀ e, (∀ D, Ds L D → D[i]? = some t → D[p]? = some e) → row (liveR (narrow L i t)) p = [e] := fun p hp e he => by
    have all : ∀ s ∈ row (liveR (narrow L i t)) p, s = e := fun s hs => by
      obtain ⟨D, a, b, c⟩ := (rown p hp s).mp hs
      have := he D a b
      rw [c] at this
      exact Option.some.inj this
    have mem : e ∈ row (liveR (narrow L i t)) p := by
      obtain ⟨D, d, b⟩ := g.live i t ht
      exact (rown p hp e).mpr ⟨D, d, b, he D d b⟩
    have as := asc2 p
    cases hr : row (liveR (narrow L i t)) p with
    | nil => rw [hr] at mem; cases mem
    | cons a r =>
      rw [hr] at all as
      have ea := all a List.mem_cons_self
      cases r with
      | nil => rw [ea]
      | cons b r =>
        have eb := all b (List.mem_cons_of_mem _ List.mem_cons_self)
        have := (List.pairwise_cons.mp as).1 b List.mem_cons_self
        omega
  have old : ∀ q, q < i → q < rows.length → ∀ e, row L q = [e] → row (liveR (narrow L i t)) q = [e] := fun q hq hn e he =>
    one_of q hn e fun D d _ => single_live he d (by rw [g.len]; exact hn)
  have new : row (liveR (narrow L i t)) i = [t] := one_of i hi t fun D _ b => b
  refine ⟨len2, ?_, fun p s hs => ?_, fun D d => g.sub D ((dsn D).mp d).1, asc2, fun q hq hn => ?_, fun D d hD => ?_, fun q hq e he D d hD y hy => ?_⟩
  · obtain ⟨D, d⟩ := ex2
    exact ⟨D, ds_liveR.mpr d⟩
  · obtain ⟨D, d, e⟩ := mem_liveR.mp hs
    exact ⟨D, ds_liveR.mpr d, e⟩
  · by_cases z : q = i
    · rw [z]; exact ⟨t, new⟩
    · obtain ⟨e, he⟩ := g.one q (by omega) hn
      exact ⟨e, old q (by omega) hn e he⟩
  · refine (dsn D).mpr ⟨g.cmp D d fun q hq e he => hD q (by omega) e ?_, hD i (Nat.lt_succ_self i) t new⟩
    have hn : q < rows.length := by omega
    exact old q hq hn e he
  · have hn : q < rows.length := by omega
    have back : ∀ j, j < i → j < rows.length → ∀ f, row L j = [f] → row (liveR (narrow L i t)) j = [f] := old
    by_cases z : q = i
    · subst z
      rw [new] at he
      cases he
      have dl := g.cmp D d fun j hj f hf => hD j hj f (old j hj (by omega) f hf)
      obtain ⟨y', e1, m1⟩ := dl.get hiL
      rw [hy] at e1
      cases e1
      exact first_le (g.asc q) h m1
    · have hq2 : q < i := by omega
      obtain ⟨f, hf⟩ := g.one q hq2 hn
      have := old q hq2 hn f hf
      rw [this] at he
      cases he
      exact g.min q hq2 e hf D d (fun j hj f hf => hD j hj f (old j (by omega) (by omega) f hf)) y hy
def ext (found : List (List Int)) (r : List Int) : List (List Int) := found.flatMap fun d => (r.filter fun t => decide (t ∉ d)).map fun t => d ++ [t]
def deals (rows : Rows) : List (List Int) := rows.foldl ext [[]]
theorem mem_ext {found : List (List Int)} {r : List Int} {x : List Int} : x ∈ ext found r ↔ ∃ d ∈ found, ∃ t ∈ r, t ∉ d ∧ x = d ++ [t] := by
  unfold ext
  rw [List.mem_flatMap]
  constructor
  · rintro ⟨d, hd, hx⟩
    obtain ⟨t, ht, e⟩ := List.mem_map.mp hx
    have := List.mem_filter.mp ht
    exact ⟨d, hd, t, this.1, of_decide_eq_true this.2, e.symm⟩
  · rintro ⟨d, hd, t, ht, hn, e⟩
    exact ⟨d, hd, List.mem_map.mpr ⟨t, List.mem_filter.mpr ⟨ht, decide_eq_true hn⟩, e.symm⟩⟩
theorem deals_snoc {rows : Rows} {r : List Int} : deals (rows ++ [r]) = ext (deals rows) r := by
  unfold deals
  rw [List.foldl_append]
  rfl
theorem row_app {rows : Rows} {r : List Int} {p : Nat} (h : p < rows.length) : row (rows ++ [r]) p = row rows p := by
  unfold row
  rw [List.getElem?_append_left h]
theorem row_last {rows : Rows} {r : List Int} : row (rows ++ [r]) rows.length = r := by
  unfold row
  rw [List.getElem?_append_right (Nat.le_refl _), Nat.sub_self]
  rfl
theorem ds_snoc {rows : Rows} {r : List Int} {x : List Int} : Ds (rows ++ [r]) x ↔ ∃ d t, Ds rows d ∧ t ∈ r ∧ t ∉ d ∧ x = d ++ [t] := by
  constructor
  · intro h
    have hl : x.length = rows.length + 1 := by rw [h.len, List.length_append]; rfl
    rcases List.eq_nil_or_concat x with e | ⟨d, t, e⟩
    · rw [e] at hl; cases hl
    · rw [List.concat_eq_append] at e
      subst e
      have dl : d.length = rows.length := by
        rw [List.length_append, List.length_singleton] at hl
        omega
      have nd := List.nodup_append.mp h.nd
      refine ⟨d, t, ⟨dl, fun p s hs => ?_, nd.1⟩, ?_, fun hm => nd.2.2 t hm t List.mem_cons_self rfl, rfl⟩
      · have hp : p < d.length := (List.getElem?_eq_some_iff.mp hs).1
        have := h.tie p s (by rw [List.getElem?_append_left hp]; exact hs)
        rw [row_app (by omega)] at this
        exact this
      · have := h.tie d.length t (by rw [List.getElem?_append_right (Nat.le_refl _), Nat.sub_self]; rfl)
        rw [dl, row_last] at this
        exact this
  · rintro ⟨d, t, h, ht, hn, rfl⟩
    refine ⟨by rw [List.length_append, List.length_append, h.len]; rfl, fun p s hs => ?_, ?_⟩
    · by_cases hp : p < d.length
      · rw [List.getElem?_append_left hp] at hs
        rw [row_app (by rw [← h.len]; exact hp)]
        exact h.tie p s hs
      · rw [List.getElem?_append_right (by omega)] at hs
        have hp2 : p - d.length = 0 := by
          have := (List.getElem?_eq_some_iff.mp hs).1
          rw [List.length_singleton] at this
          omega
        rw [hp2] at hs
        have hs' : some t = some s := hs
        cases hs'
        have : p = rows.length := by rw [← h.len]; omega
        rw [this, row_last]
        exact ht
    · exact List.nodup_append.mpr ⟨h.nd, List.nodup_cons.mpr ⟨fun z => (by cases z), List.nodup_nil⟩, fun x hx y hy => by rw [List.mem_singleton.mp hy]; exact fun e => hn (e ▸ hx)⟩
theorem rev_ind {α : Type} {P : List α → Prop} (h0 : P []) (h1 : ∀ l x, P l → P (l ++ [x])) : ∀ l, P l := by
  intro l
  have : ∀ n, ∀ l : List α, l.length = n → P l := by
    intro n
    induction n with
    | zero => intro l hl; rw [List.length_eq_zero_iff.mp hl]; exact h0
    | succ n ih =>
      intro l hl
      rcases List.eq_nil_or_concat l with e | ⟨d, t, e⟩
      · rw [e] at hl; cases hl
      · rw [List.concat_eq_append] at e
        rw [e] at hl ⊢
        rw [List.length_append, List.length_singleton] at hl
        exact h1 d t (ih d (by omega))
  exact this _ l rfl
theorem mem_deals {rows : Rows} : ∀ x, x ∈ deals rows ↔ Ds rows x := by
  refine rev_ind (P := fun rows => ∀ x, x ∈ deals rows ↔ Ds rows x) ?_ ?_ rows
  · intro x
    show x ∈ [[]] ↔ _
    rw [List.mem_singleton]
    constructor
    · rintro rfl
      exact ⟨rfl, fun p t h => by simp at h, List.nodup_nil⟩
    · intro h
      exact List.length_eq_zero_iff.mp h.len
  · intro rows r ih x
    rw [deals_snoc, mem_ext, ds_snoc]
    constructor
    · rintro ⟨d, hd, t, ht, hn, e⟩
      exact ⟨d, t, (ih d).mp hd, ht, hn, e⟩
    · rintro ⟨d, t, hd, ht, hn, e⟩
      exact ⟨d, (ih d).mpr hd, t, ht, hn, e⟩
/-- smaller at the first place where they differ -/
def Lx (a b : List Int) : Prop := ∃ (q : Nat) (x y : Int), (∀ j : Nat, j < q → a[j]? = b[j]?) ∧ a[q]? = some x ∧ b[q]? = some y ∧ x < y
theorem lx_app {a b u v : List Int} (h : Lx a b) : Lx (a ++ u) (b ++ v) := by
  obtain ⟨q, x, y, h1, h2, h3, h4⟩ := h
  have ha := (List.getElem?_eq_some_iff.mp h2).1
  have hb := (List.getElem?_eq_some_iff.mp h3).1
  refine ⟨q, x, y, fun j hj => ?_, ?_, ?_, h4⟩
  · rw [List.getElem?_append_left (by omega), List.getElem?_append_left (by omega)]
    exact h1 j hj
  · rw [List.getElem?_append_left ha]; exact h2
  · rw [List.getElem?_append_left hb]; exact h3
theorem lx_last {d : List Int} {s t : Int} (h : s < t) : Lx (d ++ [s]) (d ++ [t]) := by
  refine ⟨d.length, s, t, fun j hj => ?_, ?_, ?_, h⟩
  · rw [List.getElem?_append_left hj, List.getElem?_append_left hj]
  · rw [List.getElem?_append_right (Nat.le_refl _), Nat.sub_self]; rfl
  · rw [List.getElem?_append_right (Nat.le_refl _), Nat.sub_self]; rfl
theorem pair_flat {f : List Int → List (List Int)} : ∀ {l : List (List Int)}, l.Pairwise Lx → (∀ d ∈ l, (f d).Pairwise Lx) → (∀ a ∈ l, ∀ b ∈ l, Lx a b → ∀ x ∈ f a, ∀ y ∈ f b, Lx x y) → (l.flatMap f).Pairwise Lx
  | [], _, _, _ => .nil
  | d :: l, hp, h1, h2 => by
    rw [List.flatMap_cons, List.pairwise_append]
    have hc := List.pairwise_cons.mp hp
    refine ⟨h1 d List.mem_cons_self, pair_flat hc.2 (fun e he => h1 e (List.mem_cons_of_mem _ he)) (fun a ha b hb => h2 a (List.mem_cons_of_mem _ ha) b (List.mem_cons_of_mem _ hb)), fun x hx y hy => ?_⟩
    obtain ⟨e, he, hy⟩ := List.mem_flatMap.mp hy
    exact h2 d List.mem_cons_self e (List.mem_cons_of_mem _ he) (hc.1 e he) x hx y hy
theorem ext_lx {found : List (List Int)} {r : List Int} (hf : found.Pairwise Lx) (hr : r.Pairwise (· < ·)) : (ext found r).Pairwise Lx := by
  unfold ext
  refine pair_flat hf (fun d _ => ?_) (fun a _ b _ hab x hx y hy => ?_)
  · rw [List.pairwise_map]
    exact (pair_filter hr).imp fun {s t} h => lx_last h
  · obtain ⟨s, _, rfl⟩ := List.mem_map.mp hx
    obtain ⟨t, _, rfl⟩ := List.mem_map.mp hy
    exact lx_app hab
theorem deals_lx {rows : Rows} (asc : ∀ r ∈ rows, r.Pairwise (· < ·)) : (deals rows).Pairwise Lx := by
  revert asc
  refine rev_ind (P := fun rows => (∀ r ∈ rows, r.Pairwise (· < ·)) → (deals rows).Pairwise Lx) ?_ ?_ rows
  · intro _
    exact List.pairwise_singleton _ _
  · intro rows r ih asc
    rw [deals_snoc]
    exact ext_lx (ih fun x hx => asc x (List.mem_append_left _ hx)) (asc r (List.mem_append_right _ List.mem_cons_self))
end Mt
namespace Mt
theorem sum_append (a b : List Nat) : (a ++ b).sum = a.sum + b.sum := by
  induction a with
  | nil => simp
  | cons x a ih => rw [List.cons_append, List.sum_cons, List.sum_cons, ih]; omega
theorem sum_flat {α : Type} (f : α → List Nat) : ∀ l : List α, (l.flatMap f).sum = (l.map fun x => (f x).sum).sum
  | [] => rfl
  | x :: l => by rw [List.flatMap_cons, sum_append, List.map_cons, List.sum_cons, sum_flat f l]
theorem sum_zero {α : Type} {f : α → Nat} : ∀ {l : List α}, (∀ x ∈ l, f x = 0) → (l.map f).sum = 0
  | [], _ => rfl
  | x :: l, h => by rw [List.map_cons, List.sum_cons, h x List.mem_cons_self, sum_zero fun y hy => h y (List.mem_cons_of_mem _ hy)]
theorem sum_congr {α : Type} {f g : α → Nat} : ∀ {l : List α}, (∀ x ∈ l, f x = g x) → (l.map f).sum = (l.map g).sum
  | [], _ => rfl
  | x :: l, h => by rw [List.map_cons, List.map_cons, List.sum_cons, List.sum_cons, h x List.mem_cons_self, sum_congr fun y hy => h y (List.mem_cons_of_mem _ hy)]
theorem sum_if {α : Type} {p : α → Bool} {f : α → Nat} : ∀ l : List α, ((l.filter p).map f).sum = (l.map fun x => if p x = true then f x else 0).sum
  | [] => rfl
  | x :: l => by
    rw [List.map_cons, List.sum_cons, ← sum_if l]
    by_cases h : p x = true
    · rw [List.filter_cons_of_pos h, List.map_cons, List.sum_cons, if_pos h]
    · rw [List.filter_cons_of_neg h, if_neg h, Nat.zero_add]
theorem sum_add {α : Type} {f g : α → Nat} : ∀ l : List α, (l.map fun x => f x + g x).sum = (l.map f).sum + (l.map g).sum
  | [] => rfl
  | x :: l => by rw [List.map_cons, List.map_cons, List.map_cons, List.sum_cons, List.sum_cons, List.sum_cons, sum_add l]; omega
theorem sum_swap {α β : Type} {f : α → β → Nat} : ∀ (a : List α) (b : List β), (a.map fun x => (b.map fun y => f x y).sum).sum = (b.map fun y => (a.map fun x => f x y).sum).sum
  | [], b => (sum_zero fun y _ => rfl).symm
  | x :: a, b => by
    rw [List.map_cons, List.sum_cons, sum_swap a b, ← sum_add]
    rfl
theorem sum_mul {α : Type} {f : α → Nat} (c : Nat) : ∀ l : List α, (l.map fun x => f x * c).sum = (l.map f).sum * c
  | [] => (Nat.zero_mul c).symm
  | x :: l => by rw [List.map_cons, List.map_cons, List.sum_cons, List.sum_cons, sum_mul c l, Nat.add_mul]
theorem sum_const {α : Type} {f : α → Nat} {c : Nat} : ∀ {l : List α}, (∀ x ∈ l, f x = c) → (l.map f).sum = l.length * c
  | [], _ => (Nat.zero_mul c).symm
  | x :: l, h => by rw [List.map_cons, List.sum_cons, h x List.mem_cons_self, sum_const fun y hy => h y (List.mem_cons_of_mem _ hy), List.length_cons, Nat.add_mul, Nat.one_mul]; omega
/-- in how many ways each row takes a thing, none twice, none of S -/
def cnt : List Int → Rows → Nat
  | _, [] => 1
  | S, r :: rs => ((r.filter fun t => decide (t ∉ S)).map fun t => cnt (t :: S) rs).sum
theorem cnt_congr : ∀ {rows : Rows} {S S' : List Int}, (∀ r ∈ rows, ∀ t ∈ r, t ∈ S ↔ t ∈ S') → cnt S rows = cnt S' rows
  | [], _, _, _ => rfl
  | r :: rs, S, S', h => by
    unfold cnt
    have e : (r.filter fun t => decide (t ∉ S)) = r.filter fun t => decide (t ∉ S') := List.filter_congr fun t ht => decide_eq_decide.mpr (not_congr (h r List.mem_cons_self t ht))
    rw [e]
    refine sum_congr fun t _ => cnt_congr fun q hq u hu => ?_
    rw [List.mem_cons, List.mem_cons, h q (List.mem_cons_of_mem _ hq) u hu]
theorem cnt_deals : ∀ (rows : Rows) (found : List (List Int)), (rows.foldl ext found).length = (found.map fun d => cnt d rows).sum
  | [], found => by
    show found.length = (found.map fun _ => 1).sum
    rw [sum_const (c := 1) fun _ _ => rfl, Nat.mul_one]
  | r :: rs, found => by
    show (rs.foldl ext (ext found r)).length = _
    rw [cnt_deals rs]
    unfold ext
    rw [List.map_flatMap, sum_flat]
    refine sum_congr fun d _ => ?_
    rw [List.map_map]
    show _ = ((r.filter fun t => decide (t ∉ d)).map fun t => cnt (t :: d) rs).sum
    exact sum_congr fun t _ => cnt_congr fun q _ u _ => by
      show u ∈ d ++ [t] ↔ _
      rw [List.mem_append, List.mem_singleton, List.mem_cons]
      exact Or.comm
theorem deals_cnt (rows : Rows) : (deals rows).length = cnt [] rows := by
  have := cnt_deals rows [[]]
  rwa [List.map_singleton, List.sum_singleton] at this
theorem cnt_swap {S : List Int} {a b : List Int} {rs : Rows} : cnt S (a :: b :: rs) = cnt S (b :: a :: rs) := by
  have e : ∀ a b : List Int, cnt S (a :: b :: rs) = (a.map fun t => (b.map fun u => if t ∉ S ∧ u ∉ S ∧ u ≠ t then cnt (u :: t :: S) rs else 0).sum).sum := fun a b => by
    show ((a.filter fun t => decide (t ∉ S)).map fun t => ((b.filter fun u => decide (u ∉ t :: S)).map fun u => cnt (u :: t :: S) rs).sum).sum = _
    rw [sum_if]
    refine sum_congr fun t _ => ?_
    by_cases h : t ∉ S
    · rw [if_pos (decide_eq_true h), sum_if]
      refine sum_congr fun u _ => ?_
      by_cases h2 : u ∉ t :: S
      · rw [if_pos (decide_eq_true h2), if_pos ⟨h, fun z => h2 (List.mem_cons_of_mem _ z), fun z => h2 (z ▸ List.mem_cons_self)⟩]
      · rw [if_neg (by simpa using h2), if_neg]
        rintro ⟨_, x, y⟩
        exact h2 fun z => (List.mem_cons.mp z).elim y x
    · rw [if_neg (by simpa using h)]
      exact (sum_zero fun u _ => if_neg fun z => h z.1).symm
  rw [e a b, e b a, sum_swap]
  refine sum_congr fun u _ => sum_congr fun t _ => ?_
  by_cases h : t ∉ S ∧ u ∉ S ∧ u ≠ t
  · rw [if_pos h, if_pos ⟨h.2.1, h.1, fun z => h.2.2 z.symm⟩]
    exact cnt_congr fun q _ x _ => by
      simp only [List.mem_cons]
      constructor <;> rintro (x | x | x) <;> simp [x]
  · rw [if_neg h, if_neg fun z => h ⟨z.2.1, z.1, fun y => z.2.2 y.symm⟩]
theorem cnt_perm {A B : Rows} (h : A.Perm B) : ∀ S, cnt S A = cnt S B := by
  induction h with
  | nil => exact fun _ => rfl
  | cons x _ ih => exact fun S => sum_congr fun t _ => ih _
  | swap x y l => exact fun S => cnt_swap
  | trans _ _ a b => exact fun S => (a S).trans (b S)
theorem cnt_app : ∀ {A B : Rows} {S : List Int}, (∀ a ∈ A, ∀ b ∈ B, ∀ t ∈ a, t ∉ b) → cnt S (A ++ B) = cnt S A * cnt S B
  | [], B, S, _ => (Nat.one_mul _).symm
  | r :: A, B, S, h => by
    show ((r.filter fun t => decide (t ∉ S)).map fun t => cnt (t :: S) (A ++ B)).sum = ((r.filter fun t => decide (t ∉ S)).map fun t => cnt (t :: S) A).sum * cnt S B
    rw [← sum_mul]
    refine sum_congr fun t ht => ?_
    rw [cnt_app fun a ha => h a (List.mem_cons_of_mem _ ha)]
    congr 1
    exact cnt_congr fun q hq u hu => by
      rw [List.mem_cons]
      exact ⟨fun z => z.elim (fun e => absurd hu (e ▸ h r List.mem_cons_self q hq t (List.mem_filter.mp ht).1)) id, .inr⟩
end Mt
namespace Mt
structure Hap where
  ppl : List Nat
  place : Nat
  most : Nat
deriving DecidableEq
/-- how many of a heap are used in a state -/
def dg (s : Nat) (h : Hap) : Nat := s / h.place % (h.most + 1)
theorem up_mod {q m : Nat} (h : q % (m + 1) < m) : (q + 1) % (m + 1) = q % (m + 1) + 1 ∧ (q + 1) / (m + 1) = q / (m + 1) := by
  have e := Nat.div_add_mod q (m + 1)
  have hl : q % (m + 1) + 1 < m + 1 := by omega
  have e2 : q + 1 = (m + 1) * (q / (m + 1)) + (q % (m + 1) + 1) := by omega
  constructor
  · rw [e2, Nat.mul_add_mod, Nat.mod_eq_of_lt hl]
  · rw [e2, Nat.mul_add_div (Nat.succ_pos _), Nat.div_eq_of_lt hl, Nat.add_zero]
theorem dg_up {s : Nat} {a : Hap} (hp : 0 < a.place) (h : dg s a < a.most) : dg (s + a.place) a = dg s a + 1 := by
  unfold dg at h ⊢
  rw [Nat.add_div_right _ hp]
  exact (up_mod h).1
theorem dg_low {s : Nat} {a b : Hap} (hp : 0 < a.place) (h : a.place * (a.most + 1) ∣ b.place) : dg (s + b.place) a = dg s a := by
  obtain ⟨c, e⟩ := h
  unfold dg
  rw [e, Nat.mul_assoc, Nat.add_mul_div_left _ _ hp, Nat.add_mul_mod_self_left]
theorem dg_high {s : Nat} {a b : Hap} (hp : 0 < a.place) (h : a.place * (a.most + 1) ∣ b.place) (hl : dg s a < a.most) : dg (s + a.place) b = dg s b := by
  obtain ⟨c, e⟩ := h
  unfold dg at hl ⊢
  rw [e, ← Nat.div_div_eq_div_mul, ← Nat.div_div_eq_div_mul, ← Nat.div_div_eq_div_mul, ← Nat.div_div_eq_div_mul, Nat.add_div_right _ hp, (up_mod hl).2]
def pplOf (R : Rows) (t : Int) : List Nat := (List.range R.length).filter fun p => decide (t ∈ row R p)
/-- things in heaps -/
structure Heaped (R : Rows) (T : List Int) (hs : List Hap) : Prop where
  rnd : ∀ p, (row R p).Nodup
  nd : T.Nodup
  sub : ∀ p, ∀ t ∈ row R p, t ∈ T
  len : T.length = R.length
  knd : (hs.map Hap.ppl).Nodup
  key : ∀ t ∈ T, ∃ h ∈ hs, h.ppl = pplOf R t
  most : ∀ h ∈ hs, h.most = (T.filter fun t => decide (pplOf R t = h.ppl)).length
  pos : ∀ h ∈ hs, 0 < h.place
  pair : hs.Pairwise fun a b => a.place * (a.most + 1) ∣ b.place
def usedN (R : Rows) (T : List Int) (k : List Nat) (S : List Int) : Nat := (T.filter fun t => decide (pplOf R t = k ∧ t ∈ S)).length
def Enc (R : Rows) (T : List Int) (hs : List Hap) (s : Nat) (S : List Int) : Prop := ∀ h ∈ hs, dg s h = usedN R T h.ppl S
theorem filt_split {α : Type} (p q : α → Bool) : ∀ l : List α, (l.filter p).length = (l.filter fun x => p x && q x).length + (l.filter fun x => p x && !q x).length
  | [] => rfl
  | x :: l => by
    have ih := filt_split p q l
    cases hp : p x <;> cases hq : q x <;> simp [List.filter_cons, hp, hq] <;> omega
theorem used_left {R : Rows} {T : List Int} {k : List Nat} {S : List Int} : (T.filter fun t => decide (pplOf R t = k)).length = usedN R T k S + (T.filter fun t => decide (pplOf R t = k ∧ t ∉ S)).length := by
  rw [filt_split _ (fun t => decide (t ∈ S))]
  unfold usedN
  congr 1
  · congr 1
    refine List.filter_congr fun t _ => ?_
    rw [Bool.eq_iff_iff]
    simp
  · congr 1
    refine List.filter_congr fun t _ => ?_
    rw [Bool.eq_iff_iff]
    simp
theorem used_same {R : Rows} {T : List Int} {k : List Nat} {S : List Int} {t : Int} (h : pplOf R t ≠ k) : usedN R T k (t :: S) = usedN R T k S := by
  unfold usedN
  congr 1
  refine List.filter_congr fun u _ => decide_eq_decide.mpr ⟨fun ⟨a, b⟩ => ⟨a, (List.mem_cons.mp b).elim (fun e => absurd (e ▸ a) h) id⟩, fun ⟨a, b⟩ => ⟨a, List.mem_cons_of_mem _ b⟩⟩
theorem left_one {R : Rows} {S : List Int} {t : Int} (hS : t ∉ S) : ∀ {T : List Int}, T.Nodup → t ∈ T → (T.filter fun u => decide (pplOf R u = pplOf R t ∧ u ∈ t :: S)).length = (T.filter fun u => decide (pplOf R u = pplOf R t ∧ u ∈ S)).length + 1
  | [], _, h => by cases h
  | x :: T, nd, h => by
    have hx := List.nodup_cons.mp nd
    by_cases e : x = t
    · subst e
      have same : (T.filter fun u => decide (pplOf R u = pplOf R x ∧ u ∈ x :: S)) = T.filter fun u => decide (pplOf R u = pplOf R x ∧ u ∈ S) := List.filter_congr fun u hu => decide_eq_decide.mpr ⟨fun ⟨a, b⟩ => ⟨a, (List.mem_cons.mp b).elim (fun e => absurd (e ▸ hu) hx.1) id⟩, fun ⟨a, b⟩ => ⟨a, List.mem_cons_of_mem _ b⟩⟩
      rw [List.filter_cons_of_pos (by simp), List.filter_cons_of_neg (by simp [hS]), same, List.length_cons]
    · have ht : t ∈ T := (List.mem_cons.mp h).elim (fun y => absurd y.symm e) id
      have ih := left_one (R := R) hS hx.2 ht
      by_cases c : pplOf R x = pplOf R t ∧ x ∈ S
      · rw [List.filter_cons_of_pos (by simp [c.1, c.2]), List.filter_cons_of_pos (by simp [c.1, c.2]), List.length_cons, List.length_cons, ih]
      · rw [List.filter_cons_of_neg (by simpa [e] using c), List.filter_cons_of_neg (by simpa using c), ih]
theorem Enc.step {R : Rows} {T : List Int} {hs : List Hap} (W : Heaped R T hs) {s : Nat} {S : List Int} (e : Enc R T hs s S) {t : Int} (ht : t ∈ T) (hS : t ∉ S) {h : Hap} (hh : h ∈ hs) (hk : h.ppl = pplOf R t) : dg s h < h.most ∧ Enc R T hs (s + h.place) (t :: S) := by
  have lt : dg s h < h.most := by
    rw [e h hh, W.most h hh, used_left (S := S)]
    have : 0 < (T.filter fun u => decide (pplOf R u = h.ppl ∧ u ∉ S)).length := List.length_pos_of_mem (List.mem_filter.mpr ⟨ht, decide_eq_true ⟨hk.symm, hS⟩⟩)
    omega
  refine ⟨lt, fun b hb => ?_⟩
  by_cases eb : b = h
  · subst eb
    rw [dg_up (W.pos b hb) lt, e b hb]
    unfold usedN
    rw [hk, left_one hS W.nd ht]
  · have nk : pplOf R t ≠ b.ppl := fun z => eb (by
      have hn := W.knd
      obtain ⟨i, hi⟩ := List.getElem?_of_mem hb
      obtain ⟨j, hj⟩ := List.getElem?_of_mem hh
      have := nodup_get hn (i := i) (j := j) (x := b.ppl) (by rw [List.getElem?_map, hi]; rfl) (by rw [List.getElem?_map, hj]; show some h.ppl = _; rw [hk, z])
      subst this
      rw [hi] at hj
      exact Option.some.inj hj)
    rw [used_same nk, ← e b hb]
    obtain ⟨i, hi⟩ := List.getElem?_of_mem hb
    obtain ⟨j, hj⟩ := List.getElem?_of_mem hh
    obtain ⟨li, ei⟩ := List.getElem?_eq_some_iff.mp hi
    obtain ⟨lj, ej⟩ := List.getElem?_eq_some_iff.mp hj
    have pw := List.pairwise_iff_getElem.mp W.pair
    rcases Nat.lt_trichotomy i j with z | z | z
    · have := pw i j li lj z
      rw [ei, ej] at this
      exact dg_low (W.pos b hb) this
    · subst z
      exact absurd (ei.symm.trans ej) eb
    · have := pw j i lj li z
      rw [ei, ej] at this
      exact dg_high (W.pos h hh) this lt
end Mt
namespace Mt
def Tied (rows : Rows) (p q : Nat) : Prop := ∃ t, t ∈ row rows p ∧ t ∈ row rows q
theorem Tied.symm {rows : Rows} {p q : Nat} (h : Tied rows p q) : Tied rows q p := let ⟨t, a, b⟩ := h; ⟨t, b, a⟩
inductive Conn (rows : Rows) (p : Nat) : Nat → Prop
  | refl : Conn rows p p
  | step {q r : Nat} : Conn rows p q → Tied rows q r → Conn rows p r
theorem Conn.trans {rows : Rows} {p q r : Nat} (a : Conn rows p q) (b : Conn rows q r) : Conn rows p r := by
  induction b with
  | refl => exact a
  | step _ h ih => exact .step ih h
theorem Conn.one {rows : Rows} {p q : Nat} (h : Tied rows p q) : Conn rows p q := .step .refl h
theorem Conn.symm {rows : Rows} {p q : Nat} (a : Conn rows p q) : Conn rows q p := by
  induction a with
  | refl => exact .refl
  | step _ h ih => exact (Conn.one h.symm).trans ih
theorem pair_all {α : Type} {R : α → α → Prop} (sym : ∀ a b, R a b → R b a) : ∀ {l : List α}, l.Pairwise R → ∀ a ∈ l, ∀ b ∈ l, a ≠ b → R a b
  | [], _, a, h, _, _, _ => by cases h
  | x :: l, hp, a, ha, b, hb, ne => by
    have hp' := List.pairwise_cons.mp hp
    rcases List.mem_cons.mp ha with e1 | h1
    · rcases List.mem_cons.mp hb with e2 | h2
      · exact absurd (e1.trans e2.symm) ne
      · rw [e1]
        exact hp'.1 b h2
    · rcases List.mem_cons.mp hb with e2 | h2
      · rw [e2]
        exact sym _ _ (hp'.1 a h1)
      · exact pair_all sym hp'.2 a h1 b h2 ne
theorem flat_split {α : Type} (p : List α → Bool) : ∀ F : List (List α), ((F.filter fun g => !p g).flatten ++ (F.filter p).flatten).Perm F.flatten
  | [] => .refl _
  | g :: F => by
    have ih := flat_split p F
    cases h : p g
    · rw [List.filter_cons_of_pos (by simp [h]), List.filter_cons_of_neg (by simp [h]), List.flatten_cons, List.flatten_cons, List.append_assoc]
      exact ih.append_left g
    · rw [List.filter_cons_of_neg (by simp [h]), List.filter_cons_of_pos (by simp [h]), List.flatten_cons, List.flatten_cons]
      refine (List.perm_append_comm.trans ?_)
      rw [List.append_assoc]
      exact (List.perm_append_comm.trans ih).append_left g
structure Parts (rows : Rows) (i : Nat) (F : List (List Nat)) : Prop where
  perm : F.flatten.Perm (List.range i)
  ne : ∀ g ∈ F, g ≠ []
  apart : F.Pairwise fun a b => ∀ p ∈ a, ∀ q ∈ b, ¬ Tied rows p q
  conn : ∀ g ∈ F, ∀ p ∈ g, ∀ q ∈ g, Conn rows p q
theorem Parts.step {rows : Rows} {i : Nat} {F : List (List Nat)} (h : Parts rows i F) {hit : List Nat → Bool} (hh : ∀ g ∈ F, hit g = true ↔ ∃ p ∈ g, Tied rows i p) : Parts rows (i + 1) ((F.filter fun g => !hit g) ++ [i :: (F.filter hit).flatten]) where
  perm := by
    rw [List.flatten_append, List.flatten_singleton, List.range_succ]
    have e : ((F.filter fun g => !hit g).flatten ++ i :: (F.filter hit).flatten).Perm (((F.filter fun g => !hit g).flatten ++ (F.filter hit).flatten) ++ [i]) := by
      rw [List.append_assoc]
      refine List.Perm.append_left _ ?_
      exact List.perm_append_comm (l₁ := [i]) (l₂ := (F.filter hit).flatten)
    exact e.trans (((flat_split hit F).trans h.perm).append_right [i])
  ne := fun g hg => by
    rcases List.mem_append.mp hg with hg | hg
    · exact h.ne g (List.mem_filter.mp hg).1
    · rw [List.mem_singleton.mp hg]
      exact fun z => by cases z
  apart := by
    refine List.pairwise_append.mpr ⟨h.apart.sublist List.filter_sublist, List.pairwise_singleton _ _, fun a ha b hb p hp q hq => ?_⟩
    rw [List.mem_singleton.mp hb] at hq
    obtain ⟨ha, na⟩ := List.mem_filter.mp ha
    have na' : ¬ hit a = true := by simpa using na
    rcases List.mem_cons.mp hq with rfl | hq
    · exact fun z => na' ((hh a ha).mpr ⟨p, hp, z.symm⟩)
    · obtain ⟨c, hc, hqc⟩ := List.mem_flatten.mp hq
      obtain ⟨hc, hitc⟩ := List.mem_filter.mp hc
      exact pair_all (R := fun a b => ∀ p ∈ a, ∀ q ∈ b, ¬ Tied rows p q) (fun a b h p hp q hq z => h q hq p hp z.symm) h.apart a ha c hc (fun z => na' (z ▸ hitc)) p hp q hqc
  conn := fun g hg => by
    rcases List.mem_append.mp hg with hg | hg
    · exact h.conn g (List.mem_filter.mp hg).1
    · rw [List.mem_singleton.mp hg]
      have from_i : ∀ p ∈ i :: (F.filter hit).flatten, Conn rows i p := fun p hp => by
        rcases List.mem_cons.mp hp with rfl | hp
        · exact .refl
        · obtain ⟨c, hc, hpc⟩ := List.mem_flatten.mp hp
          obtain ⟨hc, hitc⟩ := List.mem_filter.mp hc
          obtain ⟨p0, h0, ht⟩ := (hh c hc).mp hitc
          exact (Conn.one ht).trans (h.conn c hc p0 h0 p hpc)
      exact fun p hp q hq => (from_i p hp).symm.trans (from_i q hq)
/-- ascending lists of the people whom things hang together -/
structure Groups (rows : Rows) (G : List (List Nat)) : Prop where
  asc : ∀ g ∈ G, g.Pairwise (· < ·)
  perm : G.flatten.Perm (List.range rows.length)
  ne : ∀ g ∈ G, g ≠ []
  apart : G.Pairwise fun a b => ∀ p ∈ a, ∀ q ∈ b, ¬ Tied rows p q
  conn : ∀ g ∈ G, ∀ p ∈ g, ∀ q ∈ g, Conn rows p q
theorem Groups.lt {rows : Rows} {G : List (List Nat)} (h : Groups rows G) {g : List Nat} (hg : g ∈ G) {p : Nat} (hp : p ∈ g) : p < rows.length :=
  List.mem_range.mp (h.perm.mem_iff.mp (List.mem_flatten.mpr ⟨g, hg, hp⟩))
theorem Groups.nd {rows : Rows} {G : List (List Nat)} (h : Groups rows G) {g : List Nat} (hg : g ∈ G) : g.Nodup := (h.asc g hg).imp fun {a b} z => Nat.ne_of_lt z
def prodN (l : List Nat) : Nat := l.foldl (· * ·) 1
theorem foldl_mul (l : List Nat) : ∀ a : Nat, l.foldl (· * ·) a = a * prodN l := by
  induction l with
  | nil => exact fun a => (Nat.mul_one a).symm
  | cons x l ih =>
    intro a
    show l.foldl (· * ·) (a * x) = a * l.foldl (· * ·) (1 * x)
    rw [ih, ih (1 * x), Nat.one_mul, Nat.mul_assoc]
theorem prodN_cons {l : List Nat} {a : Nat} : prodN (a :: l) = a * prodN l := by
  show l.foldl (· * ·) (1 * a) = _
  rw [foldl_mul, Nat.one_mul]
theorem rows_range (rows : Rows) : (List.range rows.length).map (row rows) = rows := by
  refine List.ext_getElem? fun i => ?_
  rw [List.getElem?_map]
  by_cases h : i < rows.length
  · rw [List.getElem?_range h, List.getElem?_eq_getElem h]
    show some (row rows i) = _
    rw [row_get (List.getElem?_eq_getElem h)]
  · rw [List.getElem?_eq_none (by rw [List.length_range]; omega), List.getElem?_eq_none (by omega)]
    rfl
theorem cnt_groups {rows : Rows} : ∀ {G : List (List Nat)}, (G.Pairwise fun a b => ∀ p ∈ a, ∀ q ∈ b, ¬ Tied rows p q) → cnt [] (G.flatten.map (row rows)) = prodN (G.map fun g => cnt [] (g.map (row rows)))
  | [], _ => rfl
  | g :: G, h => by
    have h' := List.pairwise_cons.mp h
    rw [List.flatten_cons, List.map_append, List.map_cons, prodN_cons, cnt_app, cnt_groups h'.2]
    intro a ha b hb t hta htb
    obtain ⟨p, hp, rfl⟩ := List.mem_map.mp ha
    obtain ⟨q, hq, rfl⟩ := List.mem_map.mp hb
    obtain ⟨c, hc, hqc⟩ := List.mem_flatten.mp hq
    exact h'.1 c hc p hp q hqc ⟨t, hta, htb⟩
theorem Groups.cnt {rows : Rows} {G : List (List Nat)} (h : Groups rows G) : cnt [] rows = prodN (G.map fun g => Mt.cnt [] (g.map (row rows))) := by
  rw [← cnt_groups h.apart]
  have := cnt_perm (h.perm.map (row rows)) []
  rw [rows_range] at this
  exact this.symm
end Mt
namespace Mt
section
variable {κ : Type} [DecidableEq κ]
def getN : List (κ × Nat) → κ → Nat
  | [], _ => 0
  | (s, w) :: r, k => if s = k then w else getN r k
/-- the sum of the counts, each by its key's weight -/
def wt (F : κ → Nat) (st : List (κ × Nat)) : Nat := (st.map fun q => q.2 * F q.1).sum
end
structure Sts (M : Nat) (st : List (Nat × Nat)) : Prop where
  nd : (st.map (·.1)).Nodup
  lt : ∀ s ∈ st.map (·.1), s < M
theorem Sts.len {M : Nat} {st : List (Nat × Nat)} (h : Sts M st) : st.length ≤ M := by
  have := len_le h.nd (l2 := List.range M) fun x hx => List.mem_range.mpr (h.lt x hx)
  rwa [List.length_map, List.length_range] at this
theorem Sts.nil {M : Nat} : Sts M [] := ⟨List.nodup_nil, fun _ h => by cases h⟩
end Mt
set_option maxRecDepth 100000
set_option maxHeartbeats 4000000
namespace Fo
open PySem PySem.Spec PyProof.Rows L2
section
variable {κ κ' : Type} [DecidableEq κ] [DecidableEq κ']
/-- a dict of counts -/
def encG (e : κ → κ') (st : List (κ × Nat)) : List (κ' × V) := st.map fun q => (e q.1, V.int ((q.2 : Nat) : Int))
theorem enc_val {e : κ → κ'} (inj : ∀ a b, e a = e b → a = b) (k : κ) : ∀ st : List (κ × Nat), valV (encG e st) (e k) = if k ∈ st.map (·.1) then some (V.int ((Mt.getN st k : Nat) : Int)) else none
  | [] => rfl
  | (s, w) :: r => by
    have ih := enc_val inj k r
    show valV ((e s, V.int (w : Int)) :: encG e r) (e k) = _
    by_cases h : s = k
    · rw [valV_pos (by rw [h]), if_pos (by rw [h]; exact List.mem_cons_self)]
      show _ = some (V.int (((if s = k then w else Mt.getN r k) : Nat) : Int))
      rw [if_pos h]
    · rw [valV_neg (fun z => h (inj _ _ z)), ih]
      show (if k ∈ r.map (·.1) then some (V.int ((Mt.getN r k : Nat) : Int)) else none) = if k ∈ s :: r.map (·.1) then some (V.int (((if s = k then w else Mt.getN r k) : Nat) : Int)) else none
      rw [if_neg h]
      by_cases m : k ∈ r.map (·.1)
      · rw [if_pos m, if_pos (List.mem_cons_of_mem _ m)]
      · rw [if_neg m, if_neg fun z => (List.mem_cons.mp z).elim (fun y => h y.symm) m]
theorem get_none {k : κ} : ∀ {st : List (κ × Nat)}, k ∉ st.map (·.1) → Mt.getN st k = 0
  | [], _ => rfl
  | (s, w) :: r, h => by
    show (if s = k then w else Mt.getN r k) = 0
    rw [if_neg fun z => h (by rw [← z]; exact List.mem_cons_self)]
    exact get_none fun z => h (List.mem_cons_of_mem _ z)
/-- d.get(k, 0) -/
theorem enc_get {e : κ → κ'} (inj : ∀ a b, e a = e b → a = b) (k : κ) (st : List (κ × Nat)) : (valV (encG e st) (e k)).getD (.int 0) = V.int ((Mt.getN st k : Nat) : Int) := by
  rw [enc_val inj]
  by_cases h : k ∈ st.map (·.1)
  · rw [if_pos h]; rfl
  · rw [if_neg h, get_none h]; rfl
theorem enc_len {e : κ → κ'} {st : List (κ × Nat)} : (encG e st).length = st.length := List.length_map _
end
def ValsO (v d : Addr) : HO := .ext fun h => h.get? v = some ({ cls := .type "dict_values", data := .fields #[.ref d] } : Obj)
section
variable {X : Cx}
theorem vals_get : ∀ {xs : List V} {us : List Value}, xs.length = us.length → (∀ (j : Nat) (x : V) (u : Value), xs[j]? = some x → us[j]? = some u → RelV x u) → Vals xs us
  | [], [], _, _ => .nil
  | [], _ :: _, h, _ => by cases h
  | _ :: _, [], h, _ => by cases h
  | x :: xs, u :: us, h, r => .cons (r 0 x u rfl rfl) (vals_get (Nat.succ.inj h) fun j y z a b => r (j + 1) y z a b)
end
section
variable {X : Cx} {pins : List (Addr × Obj)} {σ : L2.St} {H : Hp} {s : Shared} {d : Addr} {o : Obj}
theorem frzT2 {kvs : List (List Key × V)} (I : Inv X pins σ H s) (h : H d = some (.frz o (.dT kvs))) :
    (d == sysModules) = false ∧ s.heap.get? d = some o ∧ o.ExactDict ∧ ∃ (es : Array DictEntry) (ep : Nat), o.data = .dict es ep ∧ es.size = kvs.length ∧
      ∀ (i : Nat) (k : List Key) (v : V), kvs[i]? = some (k, v) → ∃ (en : DictEntry) (q : Addr), es[i]? = some en ∧ en.key = .ref q ∧ H q = some (.tup (k.map kV)) ∧ RelV v en.val := by
  obtain ⟨hd, z, hs, xs, pr, o', es, ep, ho, hx, hdt, he, _⟩ := I.hok d _ h
  rw [hd] at ho
  cases ho
  refine ⟨hs, hd, hx, es, ep, hdt, ?_, fun i k v e => ?_⟩
  · have l1 : es.size = xs.length := size_of_entries he
    have l2 : kvs.length = xs.length := Paired.length pr
    omega
  · obtain ⟨b, hb, e1, e2, e3⟩ := paired_get pr e
    have q := entry_at he i
    rw [hb] at q
    exact ⟨_, b.2.1, q, rfl, e2, e3⟩
end
/-- the pairs, each a new tuple of the key's own tuple and the value -/
def ItiT (d : Addr) (o : Obj) (kvs : List (List Key × V)) : It :=
  ⟨fun i H => H d = some (.frz o (.dT kvs)) ∧ i < kvs.length, fun i H x H' => ∃ T k v q, kvs[i]? = some (k, v) ∧ x = .ref T ∧ H T = none ∧ H q = some (.tup (k.map kV)) ∧ H' = upd H T (.tup [.ref q, v]), fun i H => H d = some (.frz o (.dT kvs)) ∧ kvs.length ≤ i⟩
theorem walk_itemsT {d : Addr} {o : Obj} {kvs : List (List Key × V)} : Walk (ItiT d o kvs) kvs.length (fun H => H d = some (.frz o (.dT kvs))) (fun i H x H' => ∃ T k v q, kvs[i]? = some (k, v) ∧ x = .ref T ∧ H T = none ∧ H q = some (.tup (k.map kV)) ∧ H' = upd H T (.tup [.ref q, v])) :=
  ⟨fun _ _ hi q => ⟨q, hi⟩, fun _ q => ⟨q, Nat.le_refl _⟩, fun _ _ _ _ _ _ y => y⟩
section
variable {P : Program} {w : World} {K : PySem.W.Frag} {d : Addr} {o : Obj} {es : Array DictEntry} {ep : Nat}
theorem turn_itemsT {kvs : List (List Key × V)} {elts : List Expr} {kk : Nat} {tpos : Pos} (it : Addr) (hod : o.data = .dict es ep) :
    Turn P w K (.Tuple elts kk tpos) (ItiT d o kvs) [it] it (fun i h => ∃ ok ov, IsItemIter h it d i kvs.length ep ok ov) where
  mem := by simp
  obj := fun i h st b hb => by
    have e : b = it := by simpa using hb
    subst e
    obtain ⟨ok, ov, e⟩ := st
    exact ⟨_, e, fun v z => nomatch z⟩
  keep := fun i h h' st k => let ⟨ok, ov, e⟩ := st; ⟨ok, ov, k it (by simp) _ e⟩
  item := by
    intro X hP hw hK hc i pins s σ H E I hf st hg
    subst hP hw hK
    obtain ⟨hd, hi⟩ := hg
    obtain ⟨hs, hgd, hx, es', ep', hdt, hsz, ent⟩ := frzT2 I hd
    obtain ⟨rfl, rfl⟩ := dict_ep hod hdt
    obtain ⟨⟨k, v⟩, hkv⟩ : ∃ p, kvs[i]? = some p := ⟨kvs[i], List.getElem?_eq_getElem hi⟩
    obtain ⟨en, q, hen, ek, hq, rv⟩ := ent i k v hkv
    obtain ⟨hil, een⟩ := Array.getElem?_eq_some_iff.mp hen
    obtain ⟨ok, ov, he⟩ := st
    rw [← hsz] at he
    have hlt : it < s.heap.objs.size := Heap.lt_size he
    refine DT.nextI he ⟨o, hgd, hx, hdt⟩ hil fun h' ho hT hz hk => ?_
    rw [een, ek] at ho hT
    refine ⟨_, rfl, wpAny_letOwnedTupleGo_items (s := { s with heap := h' }) ho fun h'' he' sb => ?_⟩
    have hT2 : h''.get? s.heap.objs.size = some { cls := .type "tuple", data := .seq #[.ref q, en.val] } := (sb.2 _ (Nat.ne_of_gt hlt)).trans hT
    have new : ObjOk X.prog X.w (upd H s.heap.objs.size (.tup [.ref q, v])) h'' s.heap.objs.size (.tup [.ref q, v]) :=
      ⟨by show 2 ≤ sizeLine; decide, [.ref q, en.val], .cons rfl (.cons rv .nil), ⟨_, hT2, rfl, _, rfl⟩⟩
    have I1 : Inv X pins σ (upd H s.heap.objs.size (.tup [.ref q, v])) { s with heap := h'' } :=
      I.turnedNew (t' := s.toks) (ch := [it]) (fun b ob hb e => (sb.2 b (by simpa using hb)).trans (hk b ob (by simpa using hb) e)) hf (Nat.le_refl _) new
    refine ⟨.ref s.heap.objs.size, _, I1, rfl, ⟨_, k, v, q, hkv, rfl, I.hok.fresh (Nat.le_refl _), hq, rfl⟩, ⟨.ref q, en.val, ?_⟩, fun b hb => ?_⟩
    · rw [← hsz]; exact he'
    · have e : b = it := by simpa using hb
      rw [e, upd_ne (Nat.ne_of_lt hlt)]
      exact (hf it (by simp)).1
  done := by
    intro X hP hw hK hc i pins s σ H E I hf st hg
    subst hP hw hK
    obtain ⟨hd, hi⟩ := hg
    obtain ⟨f0, f1, f2, f3, f4, f5⟩ := hf it (by simp)
    obtain ⟨hs, hgd, hx, es', ep', hdt, hsz, ent⟩ := frzT2 I hd
    obtain ⟨rfl, rfl⟩ := dict_ep hod hdt
    obtain ⟨ok, ov, he⟩ := st
    rw [← hsz] at he
    exact DT.endI (I.ok.hd hc) he ⟨o, hgd, hx, hdt⟩ (by omega) fun h' eb => ⟨rfl, I.turned (t' := s.toks) (fun b ob hb e => eb b ob hb e) f0 f1 f3 f4 f5⟩
  self := fun A i s Q E st h => let ⟨_, _, e⟩ := st; PySem.W.kcp_self e h
end
def iItemsT (td : TE) : TI := fun σ H R => td σ H fun x H1 => ∃ d o kvs, x = .ref d ∧ H1 d = some (.frz o (.dT kvs)) ∧ R (ItiT d o kvs) H1
section
variable {X : Cx}
theorem pi_itemsT {e : Expr} {td : TE} {apos cpos : Pos} {elts : List Expr} {kk : Nat} {tpos : Pos} (he : PE X e td) (hbase : attributeBase e "items" X.env (eval e X.env) = eval e X.env := by rfl) (hline : (apos.endLine == cpos.line) = true := by rfl) :
    PI X (.Tuple elts kk tpos) (.Call (.Attribute e "items" apos) [] [] cpos) (iItemsT td) := by
  refine ⟨fun pins s σ H R I h => ?_⟩
  refine wpAny_Call_method (T := "dict") (id := "dict.items") hbase rfl hline PySem.F.plainAttrs_dict PySem.F.slot_dict_items PySem.F.type_dict_items (thn (he.run pins s σ H _ I h) fun u s1 ⟨x, H1, I1, rx, d, o, kvs, ex, hd, q⟩ => ?_)
  subst ex
  obtain rfl : u = Value.ref d := rx
  obtain ⟨hs, hgd, hx, es, ep, hdt, hsz, ent⟩ := frzT2 I1 hd
  have raw : DT.Raw s1.heap d es ep := ⟨o, hgd, hx, hdt⟩
  refine ⟨raw.typeIs, fun a ea => ?_, ?_⟩
  · cases ea
    exact ⟨o, hgd, hx.2.1⟩
  have I2 : Inv X pins σ H1 { s1 with heap := s1.heap.push { cls := .type "dict_items", data := .fields #[.ref d] } } := I1.kept (t' := s1.toks) fun b ob q => Heap.get?_push_of_some _ q
  have fin : wpAny (model X.prog X.w) X.A (pyIter (.ref s1.heap.objs.size)) (PIE X pins σ (.Tuple elts kk tpos) R) X.xe { s1 with heap := s1.heap.push { cls := .type "dict_items", data := .fields #[.ref d] } } := by
    refine DT.iterI (d := d) ⟨_, Heap.get?_push_size _ rfl, rfl, rfl⟩ (raw.push _) (pi_one (tk := s1.toks) I2 _ (turn_itemsT _ hdt) ⟨.none, .none, ?_⟩ q)
    rw [← hsz]
    exact Heap.get?_push_size _ rfl
  show wpAny _ _ (callWith cpos (.builtin "dict.items") [.ref d] [] []) _ X.xe s1
  exact method_meetsIn PySem.F.slot_dict_items PySem.F.entry_dict_items rfl (PySem.evalArgs_none ⟨rfl, raw.typeIs, PySem.F.args_dict_items_1 _, _, DT.meetsItems (es := es) (ep := ep) hs, raw, fin⟩)
end
end Fo
set_option maxRecDepth 100000
set_option maxHeartbeats 4000000
set_option maxRecDepth 100000
set_option maxHeartbeats 4000000
namespace Fo
open PySem PySem.Spec PyProof.Rows L2
def rowN (r : List Int) : NestedKey := .tup (r.map .num)
def keyN (R : List (List Int)) : NestedKey := .tup (R.map rowN)
/-- a tuple of tuples of ints, made by the program -/
inductive RowsE (H : Hp) : List V → List (List Int) → Prop
  | nil : RowsE H [] []
  | cons {a : Addr} {vs : List V} {r : List Int} {R : List (List Int)} : H a = some (.tup (r.map V.int)) → RowsE H vs R → RowsE H (.ref a :: vs) (r :: R)
def TupR (H : Hp) (a : Addr) (R : List (List Int)) : Prop := ∃ vs, H a = some (.tup vs) ∧ RowsE H vs R
/-- tuples stay -/
def KeepT (H H' : Hp) : Prop := ∀ a xs, H a = some (.tup xs) → H' a = some (.tup xs)
theorem RowsE.keep {H H' : Hp} (e : KeepT H H') : ∀ {vs : List V} {R : List (List Int)}, RowsE H vs R → RowsE H' vs R
  | _, _, .nil => .nil
  | _, _, .cons h r => .cons (e _ _ h) (r.keep e)
theorem TupR.keep {H H' : Hp} (e : KeepT H H') {a : Addr} {R : List (List Int)} (h : TupR H a R) : TupR H' a R := let ⟨vs, h1, h2⟩ := h; ⟨vs, e _ _ h1, h2.keep e⟩
theorem KeepT.of {H H' : Hp} (e : Same H H') : KeepT H H' := fun a xs h => e _ _ h
section
variable {P : Program} {w : World}
/-- a dict of such keys, by its entries -/
def KnO (P : Program) (w : World) (d : Addr) (xs : List (NestedKey × Addr × Value)) : HO := .ext fun h => ∃ o es ep, h.get? d = some o ∧ o.ExactDict ∧ o.data = .dict es ep ∧ es.toList = xs.map (entryOfKey (nestedKind P w))
/-- counts by tuples of tuples -/
def NK (P : Program) (w : World) (H : Hp) (d : Addr) (kv : List (List (List Int) × Nat)) : Prop := ∃ xs : List (NestedKey × Addr × Value), H d = some (KnO P w d xs) ∧ (d == sysModules) = false ∧ kv.length ≤ sizeLine ∧ (kv.map (·.1)).Nodup ∧
  Paired (fun (p : List (List Int) × Nat) (x : NestedKey × Addr × Value) => x.1 = keyN p.1 ∧ TupR H x.2.1 p.1 ∧ RelV (V.int ((p.2 : Nat) : Int)) x.2.2) kv xs
theorem NK.keep {H H' : Hp} {d : Addr} {kv : List (List (List Int) × Nat)} (h : NK P w H d kv) (e : H' d = H d) (k : KeepT H H') : NK P w H' d kv := by
  obtain ⟨xs, h1, h2, h3, h4, h5⟩ := h
  exact ⟨xs, by rw [e]; exact h1, h2, h3, h4, Paired.mapP h5 fun p x z => ⟨z.1, z.2.1.keep k, z.2.2⟩⟩
theorem NK.same {H H' : Hp} {d : Addr} {kv : List (List (List Int) × Nat)} (h : NK P w H d kv) (e : Same H H') : NK P w H' d kv := by
  obtain ⟨xs, h1, h2, h3, h4, h5⟩ := h
  exact ⟨xs, e _ _ h1, h2, h3, h4, Paired.mapP h5 fun p x z => ⟨z.1, z.2.1.keep (.of e), z.2.2⟩⟩
end
end Fo
set_option maxRecDepth 100000
set_option maxHeartbeats 2000000
namespace L2
open PySem PySem.Spec PyProof.Rows
end L2
set_option maxRecDepth 100000
set_option maxHeartbeats 4000000
namespace Fo
open PySem PySem.Spec PyProof.Rows L2 LamX NdefX
theorem rd_ext {H H' : Hp} {a : Addr} {xs : List V} (e : ExtN H H') (h : Rd H a (.lst xs)) : Rd H' a (.lst xs) := by
  rcases h with h | ⟨o, h⟩
  · exact .inl (e _ _ h fun ps z => by cases z)
  · exact .inr ⟨o, e _ _ h fun ps z => by cases z⟩
theorem sqL_ext {K : PySem.W.Frag} {H H' : Hp} {a : Addr} {xs : List V} (e : ExtN H H') (h : SqL K H a xs) : SqL K H' a xs := by
  rcases h with h | h
  · exact .inl (rd_ext e h)
  · exact .inr h
end Fo
set_option maxRecDepth 100000
set_option maxHeartbeats 4000000
set_option maxRecDepth 100000
set_option maxHeartbeats 4000000
namespace Fo
open PySem PySem.Spec PyProof.Rows L2 LamX
structure FunC (K : PySem.W.Frag) (x qual : Str) (st : Stmt) (f : Addr) (fd : FuncData) (c : Addr) : Prop where
  ex : ∃ (oc : Value) (od : Option Addr) (kV doc pm : Value) (an : Option Addr) (ct : Value) (osl : Array (Option Value)),
    fd = PySem.W.fnOf x qual (defArgs st) (defBody st) (defScope st) .none kV doc pm an (.ref c) ct ∧ K.lookup f = some ⟨oc, od, .func fd, osl⟩ ∧ PySem.W.codeIn K (.ref c) qual = true
  kp : PySem.W.keepIn K (.ref f) = true
structure AtC (K : PySem.W.Frag) (mg : Str → Option Value) (x : Str) (st : Stmt) (ps : List Str) (c : Addr) : Prop where
  ex : ∃ f fd, mg x = some (.ref f) ∧ FunC K x x st f fd c ∧ Binds K fd ps []
theorem AtC.of {K : PySem.W.Frag} {mg : Str → Option Value} {x : Str} {st : Stmt} {ps : List Str} {h : Heap} {c P : Addr} (A : At K mg x st ps) (X : K.In h) (G : h.Ns mainGlobals mg) (ht : PySem.W.tabIn K x = some (c, P)) : AtC K mg x st ps c := by
  obtain ⟨f, fd, hm, F, b⟩ := A.ex
  obtain ⟨oc, od, kV, doc, pm, an, cdv, ct, osl, rfl, lk, hcd⟩ := id F.ex
  have e := PySem.W.law_code X G ht hm (X _ _ lk) rfl
  have e' : cdv = .ref c := e
  subst e'
  exact ⟨f, _, hm, ⟨⟨oc, od, kV, doc, pm, an, ct, osl, rfl, lk, hcd⟩, F.kp⟩, b⟩
section
variable {P : Program} {w : World} {K : PySem.W.Frag} {mg : Str → Option Value} {base : Heap}
theorem AtC.ok {x : Str} {st : Stmt} {N ps : List Str} {k : Nat} {sp : Sp} {c : Addr} (a : AtC K mg x st ps c) (S : FnScope N ps (defScope st)) (len : ∀ vs H Q E, sp vs H Q E → vs.length = ps.length)
    (hbody : ∀ (f : Addr) (A : Around) (outer : List Env) (s : Shared) (H : Hp) (vs : List V) (Q : VK) (E : XK), Room k (A.deeper (envOfC x (defScope st) s.heap.objs.size f (.ref c))) → sp vs H Q E →
      ∃ t, PSs (cxOf CX0 P w K mg base N x (defScope st) f (.ref c) A outer s H E).nox (defBody st) t ∧ t { nx := fun _ H' => Q .non H', rt := Q } (start N vs) H) : Dfn P w K mg base x ps (k + 1) sp := by
  obtain ⟨f, fd, hm, F, b⟩ := a.ex
  obtain ⟨oc, od, kV, doc, pm, an, ct, osl, rfl, lk, hcd⟩ := F.ex
  exact ⟨f, _, hm, F.kp, fn_of lk hcd S len fun A outer s H vs Q E hr hsp => (by
    obtain ⟨t, h, q⟩ := hbody f A outer s H vs Q E hr hsp
    exact ⟨t, h.nox, q⟩), b⟩
end
/-- nothing but a table stands at p -/
def Fz (H : Hp) (p : Addr) : Prop := ∀ o, H p = some o → ∃ ps, o = .tbl ps
theorem Fz.of {H : Hp} {p : Addr} (h : H p = none) : Fz H p := fun o e => by rw [h] at e; cases e
theorem _root_.LamX.ExtN.fz {H H' : Hp} (e : ExtN H H') {p : Addr} (h : Fz H' p) : Fz H p := fun o ho => by
  by_cases q : ∃ ps, o = .tbl ps
  · exact q
  · exact h o (e p o ho fun ps z => q ⟨ps, z⟩)
theorem _root_.LamX.ExtN.free {H H' : Hp} (e : ExtN H H') {p : Addr} (h : H' p = none) : Fz H p := e.fz (Fz.of h)
theorem _root_.LamX.ExtN.same {H H' : Hp} (e : Same H H') : ExtN H H' := fun b o h _ => e b o h
theorem _root_.LamX.ExtN.mut {H H' : Hp} {p : Addr} {o : HO} (e : ExtN H H') (h : Fz H p) : ExtN H (upd H' p o) := fun b u hb n => by
  have ne : b ≠ p := fun z => by
    obtain ⟨ps, q⟩ := h u (z ▸ hb)
    exact n ps q
  rw [upd_ne ne]
  exact e b u hb n
theorem Fz.ne {H : Hp} {p b : Addr} {o : HO} (h : Fz H p) (e : H b = some o) (n : ∀ ps, o ≠ .tbl ps) : b ≠ p := fun z => by
  obtain ⟨ps, q⟩ := h o (z ▸ e)
  exact n ps q
theorem sqT_ext {K : PySem.W.Frag} {H H' : Hp} {a : Addr} {xs : List V} (e : ExtN H H') (h : SqT K H a xs) : SqT K H' a xs := by
  rcases h with (h | ⟨o, h⟩) | h
  · exact .inl (.inl (e _ _ h fun ps z => by cases z))
  · exact .inl (.inr ⟨o, e _ _ h fun ps z => by cases z⟩)
  · exact .inr h
theorem Sq.ext {b : Bool} {K : PySem.W.Frag} {H H' : Hp} {a : Addr} {xs : List V} (h : Sq b K H a xs) (e : ExtN H H') : Sq b K H' a xs := by
  cases b with
  | true => exact sqL_ext e h
  | false => exact sqT_ext e h
theorem RowsT.ext {K : PySem.W.Frag} {H H' : Hp} (g : ExtN H H') : ∀ {vs : List V} {rs : List (List Int)}, RowsT K H vs rs → RowsT K H' vs rs
  | _, _, .nil => .nil
  | _, _, .cons h r => .cons (sqT_ext g h) (r.ext g)
theorem RowsB.ext {b : Bool} {K : PySem.W.Frag} {H H' : Hp} (g : ExtN H H') : ∀ {vs : List V} {rs : List (List Int)}, RowsB b K H vs rs → RowsB b K H' vs rs
  | _, _, .nil => .nil
  | _, _, .cons h r => .cons (h.ext g) (r.ext g)
theorem RowsQ.ext {b : Bool} {K : PySem.W.Frag} {H H' : Hp} {v : V} {rows : List (List Int)} (h : RowsQ b K H v rows) (g : ExtN H H') : RowsQ b K H' v rows := by
  obtain ⟨a, vs, e, h1, h2⟩ := h
  exact ⟨a, vs, e, h1.ext g, h2.ext g⟩
theorem RowsAt.ext {K : PySem.W.Frag} {H H' : Hp} {v : V} {rows : List (List Int)} (h : RowsAt K H v rows) (g : ExtN H H') : RowsAt K H' v rows := by
  obtain ⟨a, vs, e, h1, h2⟩ := h
  exact ⟨a, vs, e, sqT_ext g h1, h2.ext g⟩
theorem TableAt.ext {K : PySem.W.Frag} {C : Addr} {H H' : Hp} {x : V} {rows : List (List Int)} (h : TableAt K C H x rows) (g : ExtN H H') : TableAt K C H' x rows := by
  obtain ⟨p, dx, v, e, h1, h2⟩ := h
  exact ⟨p, dx, v, e, g _ _ h1 (fun ps z => by cases z), h2.ext g⟩
theorem Tape.ext {H H' : Hp} {t l : Addr} (T : Tape H t l) (g : ExtN H H') : Tape H' t l := by
  obtain ⟨ns, b, c, d, e, h, hl, hb⟩ := T
  exact ⟨ns, b, c, d, e, g _ _ h (fun ps z => by cases z), g _ _ hl (fun ps z => by cases z), hb⟩
theorem KeepT.ext {H H' : Hp} (e : ExtN H H') : KeepT H H' := fun a xs h => e _ _ h fun ps z => by cases z
theorem NK.ext {P : Program} {w : World} {H H' : Hp} {d : Addr} {kv : List (List (List Int) × Nat)} (h : NK P w H d kv) (e : ExtN H H') : NK P w H' d kv := by
  obtain ⟨xs, h1, r⟩ := id h
  exact h.keep ((e _ _ h1 fun ps z => by unfold KnO at z; cases z).trans h1.symm) (KeepT.ext e)
theorem _root_.LamX.TabS.same {H H' : Hp} {P : Addr} {q : Str} (t : TabS H P q) (e : Same H H') : TabS H' P q := t.ext e
theorem _root_.LamX.TabS.put {H : Hp} {P p : Addr} {q : Str} {o u : HO} (t : TabS H P q) (h : H p = some u) (n1 : ∀ ps, u ≠ .tbl ps) (n2 : ∀ c q, u ≠ CodeO c q) : TabS (upd H p o) P q := by
  obtain ⟨ps, h1, h2, h3⟩ := t
  have ne : P ≠ p := fun z => by rw [z, h] at h1; exact n1 ps (Option.some.inj h1)
  refine ⟨ps, by rw [upd_ne ne]; exact h1, h2, fun pos cv hc => ?_⟩
  obtain ⟨c, e1, e2⟩ := h3 pos cv hc
  refine ⟨c, e1, ?_⟩
  have ne2 : c ≠ p := fun z => by rw [z, h] at e2; exact n2 p q (Option.some.inj e2)
  rw [upd_ne ne2]
  exact e2
theorem code_ne {c : Addr} {q : Str} {u : HO} (h : ∀ f, u ≠ .ext f) : u ≠ CodeO c q := fun z => by
  unfold CodeO at z
  exact h _ z
theorem _root_.LamX.TabS.lst {H : Hp} {P p : Addr} {q : Str} {o : HO} {xs : List V} (t : TabS H P q) (h : H p = some (.lst xs)) : TabS (upd H p o) P q := t.put h (fun ps z => by cases z) fun c q => code_ne fun f z => by cases z
def Vol (b : Addr) (o : HO) : Prop := (∃ ps, o = .tbl ps) ∨ ∃ P w xs, o = KnO P w b xs
theorem vol_tup {b : Addr} {xs : List V} : ¬ Vol b (.tup xs) := fun h => h.elim (fun ⟨_, z⟩ => by cases z) fun ⟨_, _, _, z⟩ => by unfold KnO at z; cases z
theorem vol_lst {b : Addr} {xs : List V} : ¬ Vol b (.lst xs) := fun h => h.elim (fun ⟨_, z⟩ => by cases z) fun ⟨_, _, _, z⟩ => by unfold KnO at z; cases z
theorem vol_ins {b C dx : Addr} {fs : List (Str × V)} : ¬ Vol b (.ins C dx fs) := fun h => h.elim (fun ⟨_, z⟩ => by cases z) fun ⟨_, _, _, z⟩ => by unfold KnO at z; cases z
theorem vol_frz {b : Addr} {o : Obj} {u : HO} : ¬ Vol b (.frz o u) := fun h => h.elim (fun ⟨_, z⟩ => by cases z) fun ⟨_, _, _, z⟩ => by unfold KnO at z; cases z
/-- all but tables and such dicts stay -/
def ExtK (H H' : Hp) : Prop := ∀ b o, H b = some o → ¬ Vol b o → H' b = some o
theorem ExtK.refl (H : Hp) : ExtK H H := fun _ _ h _ => h
theorem ExtK.trans {H H1 H2 : Hp} (a : ExtK H H1) (b : ExtK H1 H2) : ExtK H H2 := fun c o h n => b c o (a c o h n) n
theorem ExtK.same {H H' : Hp} (e : Same H H') : ExtK H H' := fun b o h _ => e b o h
theorem ExtK.of {H H' : Hp} (e : ExtN H H') : ExtK H H' := fun b o h n => e b o h fun ps z => n (.inl ⟨ps, z⟩)
def Fk (H : Hp) (p : Addr) : Prop := ∀ o, H p = some o → Vol p o
theorem Fk.of {H : Hp} {p : Addr} (h : H p = none) : Fk H p := fun o e => by rw [h] at e; cases e
theorem ExtK.fk {H H' : Hp} (e : ExtK H H') {p : Addr} (h : Fk H' p) : Fk H p := fun o ho => Classical.byContradiction fun n => n (h o (e p o ho n))
theorem ExtK.free {H H' : Hp} (e : ExtK H H') {p : Addr} (h : H' p = none) : Fk H p := e.fk (Fk.of h)
theorem ExtK.mut {H H' : Hp} {p : Addr} {o : HO} (e : ExtK H H') (h : Fk H p) : ExtK H (upd H' p o) := fun b u hb n => by
  have ne : b ≠ p := fun z => n (by rw [z] at hb ⊢; exact h u hb)
  rw [upd_ne ne]
  exact e b u hb n
theorem Fk.ne {H : Hp} {p b : Addr} {o : HO} (h : Fk H p) (e : H b = some o) (n : ¬ Vol b o) : b ≠ p := fun z => n (by rw [z] at e ⊢; exact h o e)
theorem sqT_k {K : PySem.W.Frag} {H H' : Hp} {a : Addr} {xs : List V} (e : ExtK H H') (h : SqT K H a xs) : SqT K H' a xs := by
  rcases h with (h | ⟨o, h⟩) | h
  · exact .inl (.inl (e _ _ h vol_tup))
  · exact .inl (.inr ⟨o, e _ _ h vol_frz⟩)
  · exact .inr h
theorem sqL_k {K : PySem.W.Frag} {H H' : Hp} {a : Addr} {xs : List V} (e : ExtK H H') (h : SqL K H a xs) : SqL K H' a xs := by
  rcases h with (h | ⟨o, h⟩) | h
  · exact .inl (.inl (e _ _ h vol_lst))
  · exact .inl (.inr ⟨o, e _ _ h vol_frz⟩)
  · exact .inr h
theorem Sq.k {b : Bool} {K : PySem.W.Frag} {H H' : Hp} {a : Addr} {xs : List V} (h : Sq b K H a xs) (e : ExtK H H') : Sq b K H' a xs := by
  cases b with
  | true => exact sqL_k e h
  | false => exact sqT_k e h
theorem RowsT.k {K : PySem.W.Frag} {H H' : Hp} (g : ExtK H H') : ∀ {vs : List V} {rs : List (List Int)}, RowsT K H vs rs → RowsT K H' vs rs
  | _, _, .nil => .nil
  | _, _, .cons h r => .cons (sqT_k g h) (r.k g)
theorem RowsB.k {b : Bool} {K : PySem.W.Frag} {H H' : Hp} (g : ExtK H H') : ∀ {vs : List V} {rs : List (List Int)}, RowsB b K H vs rs → RowsB b K H' vs rs
  | _, _, .nil => .nil
  | _, _, .cons h r => .cons (h.k g) (r.k g)
theorem RowsQ.k {b : Bool} {K : PySem.W.Frag} {H H' : Hp} {v : V} {rows : List (List Int)} (h : RowsQ b K H v rows) (g : ExtK H H') : RowsQ b K H' v rows := by
  obtain ⟨a, vs, e, h1, h2⟩ := h
  exact ⟨a, vs, e, h1.k g, h2.k g⟩
theorem RowsAt.k {K : PySem.W.Frag} {H H' : Hp} {v : V} {rows : List (List Int)} (h : RowsAt K H v rows) (g : ExtK H H') : RowsAt K H' v rows := by
  obtain ⟨a, vs, e, h1, h2⟩ := h
  exact ⟨a, vs, e, sqT_k g h1, h2.k g⟩
theorem TableAt.k {K : PySem.W.Frag} {C : Addr} {H H' : Hp} {x : V} {rows : List (List Int)} (h : TableAt K C H x rows) (g : ExtK H H') : TableAt K C H' x rows := by
  obtain ⟨p, dx, v, e, h1, h2⟩ := h
  exact ⟨p, dx, v, e, g _ _ h1 vol_ins, h2.k g⟩
theorem Tape.k {H H' : Hp} {t l : Addr} (T : Tape H t l) (g : ExtK H H') : Tape H' t l := by
  obtain ⟨ns, b, c, d, e, h, hl, hb⟩ := T
  exact ⟨ns, b, c, d, e, g _ _ h vol_lst, g _ _ hl vol_lst, hb⟩
theorem NK.ne {P : Program} {w : World} {H : Hp} {d b : Addr} {kv : List (List (List Int) × Nat)} {o : HO} (h : NK P w H d kv) (e : H b = some o) (n : ¬ Vol b o) : b ≠ d := fun z => by
  obtain ⟨xs, h1, _⟩ := h
  rw [z, h1] at e
  cases e
  exact n (.inr ⟨P, w, xs, by rw [z]⟩)
def ExtT (t : Addr) (H H' : Hp) : Prop := ∀ b o, b ≠ t → H b = some o → ¬ Vol b o → H' b = some o
theorem ExtT.refl {t : Addr} (H : Hp) : ExtT t H H := fun _ _ _ h _ => h
theorem ExtT.trans {t : Addr} {H H1 H2 : Hp} (a : ExtT t H H1) (b : ExtT t H1 H2) : ExtT t H H2 := fun c o n h v => b c o n (a c o n h v) v
theorem ExtT.k {t : Addr} {H H' : Hp} (e : ExtK H H') : ExtT t H H' := fun b o _ h v => e b o h v
theorem ExtT.same {t : Addr} {H H' : Hp} (e : Same H H') : ExtT t H H' := fun b o _ h _ => e b o h
theorem ExtT.mut {t : Addr} {H H' : Hp} {p : Addr} {o : HO} (e : ExtT t H H') (h : Fk H p) : ExtT t H (upd H' p o) := fun b u n hb v => by
  have ne : b ≠ p := fun z => v (by rw [z] at hb ⊢; exact h u hb)
  rw [upd_ne ne]
  exact e b u n hb v
theorem ExtT.fk {t l : Addr} {H H' : Hp} (e : ExtT t H H') (T : Tape H' t l) {p : Addr} (h : H' p = none) : Fk H p := fun o ho => Classical.byContradiction fun v => by
  have n : p ≠ t := fun z => T.there (by rw [← z]; exact h)
  rw [e p o n ho v] at h
  cases h
theorem sqT_t {K : PySem.W.Frag} {t l : Addr} {H H' : Hp} {a : Addr} {xs : List V} (e : ExtT t H H') (T : Tape H t l) (h : SqT K H a xs) : SqT K H' a xs := by
  obtain ⟨ns, b, c, d, f, ht, hl, hb⟩ := T
  rcases h with (h | ⟨o, h⟩) | h
  · exact .inl (.inl (e _ _ (ne_of h ht (by intro z; cases z)) h vol_tup))
  · exact .inl (.inr ⟨o, e _ _ (ne_of h ht (by intro z; cases z)) h vol_frz⟩)
  · exact .inr h
theorem RowsT.t {K : PySem.W.Frag} {t l : Addr} {H H' : Hp} (g : ExtT t H H') (T : Tape H t l) : ∀ {vs : List V} {rs : List (List Int)}, RowsT K H vs rs → RowsT K H' vs rs
  | _, _, .nil => .nil
  | _, _, .cons h r => .cons (sqT_t g T h) (r.t g T)
theorem RowsAt.t {K : PySem.W.Frag} {t l : Addr} {H H' : Hp} {v : V} {rows : List (List Int)} (h : RowsAt K H v rows) (g : ExtT t H H') (T : Tape H t l) : RowsAt K H' v rows := by
  obtain ⟨a, vs, e, h1, h2⟩ := h
  exact ⟨a, vs, e, sqT_t g T h1, h2.t g T⟩
theorem TableAt.t {K : PySem.W.Frag} {C t l : Addr} {H H' : Hp} {x : V} {rows : List (List Int)} (h : TableAt K C H x rows) (g : ExtT t H H') (T : Tape H t l) : TableAt K C H' x rows := by
  obtain ⟨p, dx, v, e, h1, h2⟩ := h
  obtain ⟨ns, b, c, d, f, ht, hl, hb⟩ := id T
  exact ⟨p, dx, v, e, g _ _ (ne_of h1 ht (by intro z; cases z)) h1 vol_ins, h2.t g T⟩
end Fo
set_option maxRecDepth 100000
set_option maxHeartbeats 2000000
namespace Fo
open PySem PySem.Spec PyProof.Rows L2
structure FnG (P : Program) (w : World) (K : PySem.W.Frag) (mg : Str → Option Value) (base : Heap) (k : Nat) (f : Addr) (fd : FuncData) (ps : List Str) (sp : Sp) : Prop where
  len : ∀ (vs : List V) (H : Hp) (Q : VK) (E : XK), sp vs H Q E → vs.length = ps.length
  run : ∀ (A : Around) (outer : List Env) (s : Shared) (H : Hp) (args : Args) (us : List Value) (vs : List V) (Q : VK) (E : XK), Room k A → A.guards = some [] → Env0 P w K mg base A outer s H →
    BindsTo s fd args (ps.zip us) → Vals vs us → sp vs H Q E → codeAny (model P w) A (Code.call (.ref f) args) (CR CX0 outer P w H s Q E) s
end Fo
set_option maxRecDepth 100000
set_option maxHeartbeats 2000000
set_option maxRecDepth 100000
set_option maxHeartbeats 2000000
namespace PySem.W
open PySem PySem.Spec PyProof.Rows Builtin
end PySem.W
namespace Fo
open PySem PySem.Spec PyProof.Rows L2
theorem FnOk.imp {P : Program} {w : World} {K : PySem.W.Frag} {mg : Str → Option Value} {base : Heap} {CX : CXT} {k : Nat} {f : Addr} {fd : FuncData} {ps : List Str} {sp sp' : Sp} (F : FnOk P w K mg base CX k f fd ps sp) (h : ∀ vs H Q E, sp' vs H Q E → sp vs H Q E) : FnOk P w K mg base CX k f fd ps sp' :=
  ⟨fun vs H Q E q => F.len vs H Q E (h _ _ _ _ q), fun A outer s H args us vs Q E hr e0 hb r q => F.run A outer s H args us vs Q E hr e0 hb r (h _ _ _ _ q)⟩
end Fo
set_option maxRecDepth 100000
set_option maxHeartbeats 4000000
namespace PySem.W
open PySem PySem.Spec PyProof.Rows Builtin PyProof
end PySem.W
namespace Fo
open PySem PySem.Spec PyProof.Rows L2
inductive Nx (K : PySem.W.Frag) (C : Addr) (H : Hp) : V → Prop
  | non : Nx K C H .non
  | bl (b : Bool) : Nx K C H (.bl b)
  | int (i : Int) : Nx K C H (.int i)
  | str (x : Str) : Nx K C H (.str x)
  | lst {a : Addr} {xs : List V} (h : SqL K H a xs) : Nx K C H (.ref a)
  | tup {a : Addr} {xs : List V} (h : SqT K H a xs) : Nx K C H (.ref a)
  | dK {a : Addr} {es : List (Key × V)} (h : H a = some (.dK es)) : Nx K C H (.ref a)
  | tab {x : V} {rows : List (List Int)} (h : TableAt K C H x rows) : Nx K C H x
end Fo
set_option maxRecDepth 100000
set_option maxHeartbeats 4000000
namespace Fo
open PySem PySem.Spec PyProof.Rows L2 LamX
def Po (H : Hp) (t l : Addr) : Prop := ∃ (sd c : Int) (cs : List Int), H t = some (.lst [.int sd, .int c, .ref l]) ∧ H l = some (.lst (cs.map V.int))
/-- all but the pool's two stay -/
def Gs (t l : Addr) (H H' : Hp) : Prop := ∀ b o, b ≠ t → b ≠ l → H b = some o → H' b = some o
theorem Gs.refl {t l : Addr} (H : Hp) : Gs t l H H := fun _ _ _ _ h => h
theorem Gs.trans {t l : Addr} {H H1 H2 : Hp} (a : Gs t l H H1) (b : Gs t l H1 H2) : Gs t l H H2 := fun c o n m h => b c o n m (a c o n m h)
theorem Gs.of {t l : Addr} {H H' : Hp} (e : Same H H') : Gs t l H H' := fun b o _ _ h => e b o h
theorem Gs.new {t l p : Addr} {H : Hp} {o : HO} (h : H p = none) : Gs t l H (upd H p o) := .of (same_new h)
theorem Gs.mut {t l p : Addr} {H H' : Hp} {o : HO} (e : Gs t l H H') (h : H p = none) : Gs t l H (upd H' p o) := fun a u n m ha => by
  rw [upd_ne (ne_of_none ha h)]
  exact e a u n m ha
theorem ints_nep (ns : List Int) (l : Addr) (x y : Int) : (HO.lst (ns.map V.int)) ≠ .lst [.int x, .int y, .ref l] := by
  intro q
  injection q with q
  match ns, q with
  | [], q => cases q
  | [_], q => cases q
  | [_, _], q => cases q
  | [_, _, _], q => cases q
  | _ :: _ :: _ :: _ :: _, q => cases q
theorem Po.ne {H : Hp} {t l : Addr} (T : Po H t l) : l ≠ t := by
  obtain ⟨sd, c, cs, ht, hl⟩ := T
  exact ne_of hl ht (ints_nep _ _ _ _)
theorem Po.there {H : Hp} {t l : Addr} (T : Po H t l) : H t ≠ none ∧ H l ≠ none := by
  obtain ⟨sd, c, cs, ht, hl⟩ := T
  exact ⟨by rw [ht]; exact (fun z => nomatch z), by rw [hl]; exact (fun z => nomatch z)⟩
theorem Po.keep {H H' : Hp} {t l : Addr} (T : Po H t l) (g : Same H H') : Po H' t l := by
  obtain ⟨sd, c, cs, ht, hl⟩ := T
  exact ⟨sd, c, cs, g _ _ ht, g _ _ hl⟩
theorem Po.k {H H' : Hp} {t l : Addr} (T : Po H t l) (g : ExtK H H') : Po H' t l := by
  obtain ⟨sd, c, cs, ht, hl⟩ := T
  exact ⟨sd, c, cs, g _ _ ht vol_lst, g _ _ hl vol_lst⟩
theorem Po.free {H : Hp} {t l a : Addr} (T : Po H t l) (h : H a = none) : a ≠ t ∧ a ≠ l := by
  obtain ⟨sd, c, cs, ht, hl⟩ := T
  exact ⟨(ne_of_none ht h).symm, (ne_of_none hl h).symm⟩
theorem Po.fk {H : Hp} {t l a : Addr} (T : Po H t l) (h : Fk H a) : a ≠ t ∧ a ≠ l := by
  obtain ⟨sd, c, cs, ht, hl⟩ := T
  exact ⟨(h.ne ht vol_lst).symm, (h.ne hl vol_lst).symm⟩
theorem Po.new {H : Hp} {t l a : Addr} {o : HO} (T : Po H t l) (h : H a = none) : Po (upd H a o) t l := T.keep (same_new h)
theorem Po.mut {H : Hp} {t l a : Addr} {u : HO} (T : Po H t l) (n : a ≠ t ∧ a ≠ l) : Po (upd H a u) t l := by
  obtain ⟨sd, c, cs, ht, hl⟩ := T
  exact ⟨sd, c, cs, by rw [upd_ne n.1.symm]; exact ht, by rw [upd_ne n.2.symm]; exact hl⟩
theorem Gs.fresh {t l : Addr} {H H' : Hp} (g : Gs t l H H') (T : Po H' t l) {p : Addr} (h : H' p = none) : H p = none := by
  cases q : H p with
  | none => rfl
  | some o =>
    obtain ⟨n, m⟩ := T.free h
    rw [g p o n m q] at h
    cases h
/-- what is no list is not changed -/
theorem Gs.at {t l : Addr} {H H' : Hp} (g : Gs t l H H') (T : Po H t l) {b : Addr} {o : HO} (h : H b = some o) (n : ∀ xs, o ≠ .lst xs) : H' b = some o := by
  obtain ⟨sd, c, cs, ht, hl⟩ := T
  exact g _ _ (ne_of h ht (n _)) (ne_of h hl (n _)) h
theorem gs_T {t l : Addr} {K : PySem.W.Frag} {H H' : Hp} (g : Gs t l H H') (T : Po H t l) {a : Addr} {xs : List V} (h : SqT K H a xs) : SqT K H' a xs := by
  rcases h with (h | ⟨o, h⟩) | h
  · exact .inl (.inl (g.at T h fun _ z => by cases z))
  · exact .inl (.inr ⟨o, g.at T h fun _ z => by cases z⟩)
  · exact .inr h
def Gp (t l : Addr) (H H' : Hp) : Prop := ∀ b o, b ≠ t → b ≠ l → H b = some o → ¬ Vol b o → H' b = some o
theorem Gp.refl {t l : Addr} (H : Hp) : Gp t l H H := fun _ _ _ _ h _ => h
theorem Gp.trans {t l : Addr} {H H1 H2 : Hp} (a : Gp t l H H1) (b : Gp t l H1 H2) : Gp t l H H2 := fun c o n m h v => b c o n m (a c o n m h v) v
theorem Gp.k {t l : Addr} {H H' : Hp} (e : ExtK H H') : Gp t l H H' := fun b o _ _ h v => e b o h v
theorem Gp.same {t l : Addr} {H H' : Hp} (e : Same H H') : Gp t l H H' := fun b o _ _ h _ => e b o h
theorem Gp.of {t l : Addr} {H H' : Hp} (g : Gs t l H H') : Gp t l H H' := fun b o n m h _ => g b o n m h
theorem Gp.mut {t l : Addr} {H H' : Hp} {p : Addr} {o : HO} (e : Gp t l H H') (h : Fk H p) : Gp t l H (upd H' p o) := fun b u n m hb v => by
  have ne : b ≠ p := fun z => v (by rw [z] at hb ⊢; exact h u hb)
  rw [upd_ne ne]
  exact e b u n m hb v
theorem Gp.fk {t l : Addr} {H H' : Hp} (e : Gp t l H H') (T : Po H' t l) {p : Addr} (h : H' p = none) : Fk H p := fun o ho => Classical.byContradiction fun v => by
  obtain ⟨n, m⟩ := T.free h
  rw [e p o n m ho v] at h
  cases h
theorem Gp.at {t l : Addr} {H H' : Hp} (g : Gp t l H H') (T : Po H t l) {b : Addr} {o : HO} (h : H b = some o) (v : ¬ Vol b o) (n : ∀ xs, o ≠ .lst xs) : H' b = some o := by
  obtain ⟨sd, c, cs, ht, hl⟩ := T
  exact g _ _ (ne_of h ht (n _)) (ne_of h hl (n _)) h v
theorem sqT_p {K : PySem.W.Frag} {t l : Addr} {H H' : Hp} {a : Addr} {xs : List V} (g : Gp t l H H') (T : Po H t l) (h : SqT K H a xs) : SqT K H' a xs := by
  rcases h with (h | ⟨o, h⟩) | h
  · exact .inl (.inl (g.at T h vol_tup fun _ z => by cases z))
  · exact .inl (.inr ⟨o, g.at T h vol_frz fun _ z => by cases z⟩)
  · exact .inr h
theorem RowsT.p {K : PySem.W.Frag} {t l : Addr} {H H' : Hp} (g : Gp t l H H') (T : Po H t l) : ∀ {vs : List V} {rs : List (List Int)}, RowsT K H vs rs → RowsT K H' vs rs
  | _, _, .nil => .nil
  | _, _, .cons h r => .cons (sqT_p g T h) (r.p g T)
theorem RowsAt.p {K : PySem.W.Frag} {t l : Addr} {H H' : Hp} {v : V} {rows : List (List Int)} (h : RowsAt K H v rows) (g : Gp t l H H') (T : Po H t l) : RowsAt K H' v rows := by
  obtain ⟨a, vs, e, h1, h2⟩ := h
  exact ⟨a, vs, e, sqT_p g T h1, h2.p g T⟩
theorem TableAt.p {K : PySem.W.Frag} {C t l : Addr} {H H' : Hp} {x : V} {rows : List (List Int)} (h : TableAt K C H x rows) (g : Gp t l H H') (T : Po H t l) : TableAt K C H' x rows := by
  obtain ⟨p, dx, v, e, h1, h2⟩ := h
  exact ⟨p, dx, v, e, g.at T h1 vol_ins (fun _ z => by cases z), h2.p g T⟩
end Fo
namespace Fo
open PySem PySem.Spec PyProof.Rows L2
def rAbs : List V → Hp → VK → Prop := fun xs H Q => ∃ i, xs = [.int i] ∧ Q (.int (if i < 0 then -i else i)) H
theorem cr_abs {X : Cx} : CallR X (.builtin "abs") rAbs := call_abs
end Fo
set_option maxRecDepth 100000
set_option maxHeartbeats 4000000
namespace Fo
open PySem PySem.Spec PyProof.Rows L2
def top (i : Nat) : Stmt := PySem.Challenge.pw_fullorring_k83_whole_families_counted.main.body.getD i (.Pass ⟨0, 0, 0, 0⟩)
abbrev s_law_pool : Stmt := top 30
abbrev n_law_pool : List Str := ["script", "seed", "cell"]
theorem sc_law_pool : FnScope n_law_pool ["script"] (defScope s_law_pool) := ⟨rfl, rfl, rfl, by decide +kernel, rfl, by decide +kernel, by decide +kernel⟩
abbrev s_law_draw : Stmt := top 31
abbrev n_law_draw : List Str := ["pool", "many", "cells", "digit", "mixed"]
theorem sc_law_draw : FnScope n_law_draw ["pool", "many"] (defScope s_law_draw) := ⟨rfl, rfl, rfl, by decide +kernel, rfl, by decide +kernel, by decide +kernel⟩
abbrev s_law_mixed : Stmt := top 32
abbrev n_law_mixed : List Str := ["pool", "things", "left", "k"]
theorem sc_law_mixed : FnScope n_law_mixed ["pool", "things"] (defScope s_law_mixed) := ⟨rfl, rfl, rfl, by decide +kernel, rfl, by decide +kernel, by decide +kernel⟩
theorem cut_ints (ns : List Int) (lo hi : Option Int) : cutV (ns.map V.int) lo hi = ((ns.drop (HT.sIx ns.length 0 lo)).take (HT.sIx ns.length ns.length hi - HT.sIx ns.length 0 lo)).map V.int := by
  unfold cutV
  rw [List.length_map, List.map_take, List.map_drop]
theorem ix0 {n : Nat} (h : 0 < n) : ixN n 0 = some 0 := by
  unfold ixN
  rw [if_pos (by decide), if_pos (by omega)]
  rfl
section
variable {P : Program} {w : World} {K : PySem.W.Frag} {mg : Str → Option Value} {base : Heap}
def spPool (K : PySem.W.Frag) : Sp := fun vs H Q _ => ∃ (a : Addr) (ns : List Int), vs = [.ref a] ∧ SqL K H a (ns.map V.int) ∧ ns.length ≤ 63 ∧ ∀ t l H', Same H H' → H t = none → H l = none → Po H' t l → Q (.ref t) H'
theorem ok_pool (A : At K mg "_law_pool" s_law_pool ["script"]) (T : Tx mg) (Tsum : mg "sum" = none) (Tabs : mg "abs" = none) : Dfn P w K mg base "_law_pool" ["script"] 1 (spPool K) := by
  refine A.ok sc_law_pool (fun vs H Q E h => ?_) (fun f cdv A outer s H vs Q E hr h => ?_)
  · obtain ⟨a, ns, rfl, _⟩ := h
    rfl
  · obtain ⟨a, ns, rfl, hS, hl, k⟩ := h
    refine ⟨_, (pss_cons (ps_set (i := 1) sc_law_pool.nd rfl (Or.inl rfl) (pe_op op_add (pe_op op_add (pe_op op_mod (pe_callTy c_int (by rfl) T.int (by decide +kernel) (pa_cons (pe_callB (cr_sum rfl) (by rfl) Tsum (by decide +kernel) (pa_cons (pe_slice sl_list (pv 0) po_none (po_some pe_int)) pa_nil)) pa_nil)) pe_int) (pe_callB c_len (by rfl) T.len (by decide +kernel) (pa_cons (pv 0) pa_nil))) pe_int))
      (pss_cons (ps_for PassesOwn.never rfl (pi_list (pe_slice sl_list (pv 0) po_none (po_some pe_int))) (pg_name (i := 2) sc_law_pool.nd rfl (Or.inl rfl))
      (pss_one (ps_set (i := 1) sc_law_pool.nd rfl (Or.inl rfl) (pe_op op_mod (pe_callTy c_int (by rfl) T.int (by decide +kernel) (pa_cons (pe_op op_add (pe_op op_add (pe_op op_mul (pv 1) pe_int) (pe_op op_mod (pe_callTy c_int (by rfl) T.int (by decide +kernel) (pa_cons (pv 2) pa_nil)) pe_int)) pe_int) pa_nil)) pe_int))))
      (pss_one (ps_ret (pe_lst (pa_cons (pv 1) (pa_cons pe_int (pa_cons (pe_lc (own := [("cell", 2)]) (g := (gName 2)) (tt := (tTest (tOp (rI0 fun i j => V.bl (decide (j ≤ i))) (tCB rAbs (tCons (tVar 2) tNil)) (tOp (rI CPow fun i j => V.int (i ^ j.toNat)) (tC (V.int 10)) (tC (V.int 18)))))) (te := (tCB rAbs (tCons (tVar 2) tNil))) (by rfl) sc_law_pool.nd (pi_list (pe_slice sl_list (pv 0) po_none (po_some pe_int))) (blkOk_by (own := [("cell", 2)]) (N := n_law_pool) (sc := (defScope s_law_pool)) (by decide +kernel)) (fun _ _ _ _ _ => (pg_name (i := 2) sc_law_pool.nd rfl (Or.inl rfl))) (fun _ _ _ _ _ => (pts_one (pt_cmpR op_ge (pe_callB cr_abs (by rfl) Tabs (by decide +kernel) (pa_cons (pv 2) pa_nil)) (pe_op op_pow pe_int pe_int) (nomark _)))) (fun _ _ _ _ _ => (pe_callB cr_abs (by rfl) Tabs (by decide +kernel) (pa_cons (pv 2) pa_nil)))) pa_nil)))))))), ?_⟩
    refine ⟨_, rfl, _, rfl, a, _, rfl, hS, fun p hp => ?_⟩
    have s1 := same_new (o := .lst (cutV (ns.map V.int) none (some 1))) hp
    refine ⟨p, _, rfl, SqL.of (by rw [upd_same, cut_ints]), .inl ⟨_, rfl, ?_⟩⟩
    refine ⟨_, _, rfl, rfl, by show (0 : Int) < 1000003; decide, ?_⟩
    refine ⟨_, rfl, a, _, rfl, .inl (s1.seq hS), ?_⟩
    refine ⟨_, _, rfl, rfl, _, _, rfl, rfl, ?_⟩
    obtain ⟨H1, e1⟩ : ∃ H1, H1 = upd H p (.lst (cutV (ns.map V.int) none (some 1))) := ⟨_, rfl⟩
    rw [← e1] at s1 ⊢
    refine ⟨_, rfl, _, rfl, a, _, rfl, s1.seq hS, fun p2 hp2 => ?_⟩
    have s2 := s1.trans (same_new (o := .lst (cutV (ns.map V.int) none (some 63))) hp2)
    obtain ⟨ms, ems⟩ : ∃ ms : List Int, cutV (ns.map V.int) none (some 63) = ms.map V.int := ⟨_, cut_ints _ _ _⟩
    have ml : ms.length ≤ 63 := by
      have := cutV_length (ns.map V.int) none (some 63)
      rw [ems, List.length_map, List.length_map] at this
      omega
    rw [ems] at s2 ⊢
    obtain ⟨H2, e2⟩ : ∃ H2, H2 = upd H1 p2 (.lst (ms.map V.int)) := ⟨_, rfl⟩
    rw [← e2] at s2 ⊢
    have hp2' : H2 p2 = some (.lst (ms.map V.int)) := by rw [e2]; exact upd_same
    refine ⟨p2, rfl, ⟨_, SqL.of hp2'⟩, for_list (xs := ms.map V.int) (fun i σ' H' => (∃ sd x2, σ' = [some (.ref a), some (.int sd), x2]) ∧ H' = H2) ⟨⟨_, _, rfl⟩, rfl⟩ (fun i σ' H' _ hp => by rw [hp.2]; exact SqL.of hp2') ?_ ?_⟩
    · rintro i z σ' H' hz ⟨⟨sd, x2, rfl⟩, rfl⟩
      obtain ⟨c, rfl⟩ : ∃ c : Int, z = .int c := by
        rw [List.getElem?_map] at hz
        cases q : ms[i]? with
        | none => rw [q] at hz; cases hz
        | some c => rw [q] at hz; exact ⟨c, (Option.some.inj hz).symm⟩
      refine ⟨_, rfl, _, _, rfl, rfl, .inr (by decide), ?_⟩
      refine ⟨_, rfl, .inl ⟨_, rfl, _, _, rfl, rfl, by show (0 : Int) < 2147483629; decide, ?_⟩⟩
      refine ⟨_, _, rfl, rfl, _, _, rfl, rfl, .inl ⟨_, rfl, _, _, rfl, rfl, by show (0 : Int) < 2147483647; decide, ?_⟩⟩
      exact ⟨⟨_, _, rfl⟩, rfl⟩
    · rintro σ' H' ⟨⟨sd, x2, rfl⟩, rfl⟩
      refine ⟨_, rfl, _, rfl, _, rfl, a, _, rfl, s2.seq hS, fun p3 hp3 => ?_⟩
      rw [ems]
      have s3 := s2.trans (same_new (o := .lst (ms.map V.int)) hp3)
      refine ⟨p3, rfl, ⟨_, SqL.of upd_same⟩, fun l hl => ?_⟩
      have npl : p3 ≠ l := ne_of_none upd_same hl
      have hl0 : H l = none := s3.free hl
      refine lc_list (xs := ms.map V.int) (fun i H' => ∃ acc : List Int, H' l = some (.lst (acc.map V.int)) ∧ acc.length ≤ i ∧ Same H H' ∧ H' p3 = some (.lst (ms.map V.int))) ⟨[], upd_same, Nat.le_refl _, same_mut s3 hl0, by rw [upd_ne npl, upd_same]⟩ (fun i H' _ hp => SqL.of hp.choose_spec.2.2.2) ?_ ?_
      · rintro i z H' hz ⟨acc, h1, h2, h3, h4⟩
        have il := (List.getElem?_eq_some_iff.mp hz).1
        rw [List.length_map] at il
        obtain ⟨c, rfl⟩ : ∃ c : Int, z = .int c := by
          rw [List.getElem?_map] at hz
          cases q : ms[i]? with
          | none => rw [q] at hz; cases hz
          | some c => rw [q] at hz; exact ⟨c, (Option.some.inj hz).symm⟩
        refine ⟨rfl, _, rfl, _, rfl, _, _, rfl, rfl, by unfold CPow; decide, _, _, rfl, rfl, _, rfl, ?_⟩
        refine ite2 (fun _ => ?_) (fun _ => ?_)
        · refine ⟨_, rfl, _, rfl, _, h1, small_lt (by rw [List.length_map]; omega), acc ++ [_], by rw [upd_same, List.map_append]; rfl, by rw [List.length_append]; exact Nat.succ_le_succ h2, same_mut h3 hl0, by rw [upd_ne npl]; exact h4⟩
        · exact ⟨acc, h1, by omega, h3, h4⟩
      · rintro H' ⟨acc, h1, h2, h3, h4⟩
        refine ⟨by show 3 ≤ sizeLine; decide, fun t ht => ?_⟩
        have nlt : l ≠ t := ne_of_none h1 ht
        exact k t l _ (same_mut h3 (h3.free ht)) (h3.free ht) hl0 ⟨sd, 0, acc, upd_same, by rw [upd_ne nlt]; exact h1⟩
def spDraw : Sp := fun vs H Q _ => ∃ (t l : Addr) (n : Int), vs = [.ref t, .int n] ∧ Po H t l ∧ 0 < n ∧ n < 1073741824 ∧ ∀ (k : Int) (H' : Hp), 0 ≤ k → k < n → Gs t l H H' → Po H' t l → Q (.int k) H'
theorem ok_draw (A : At K mg "_law_draw" s_law_draw ["pool", "many"]) (T : Tx mg) : Dfn P w K mg base "_law_draw" ["pool", "many"] 1 spDraw := by
  refine A.ok sc_law_draw (fun vs H Q E h => ?_) (fun f cdv A outer s H vs Q E hr h => ?_)
  · obtain ⟨t, l, n, rfl, _⟩ := h
    rfl
  · obtain ⟨t, l, n, rfl, ⟨sd, c, cs, hT, hL⟩, hn, hn2, k⟩ := h
    have hlt : l ≠ t := ne_of hL hT (ints_nep _ _ _ _)
    refine ⟨_, (pss_cons (ps_asg (pe_op op_add (pe_ix ix_list (pv 0) pe_int (fun _ _ => rfl)) pe_int) (pg_sub (pv 0) pe_int set_list))
      (pss_cons (ps_set (i := 2) sc_law_draw.nd rfl (Or.inl rfl) (pe_ix ix_list (pv 0) pe_int (fun _ _ => rfl)))
      (pss_cons (ps_if (pt_cmpR op_gt (pe_callB c_len (by rfl) T.len (by decide +kernel) (pa_cons (pv 2) pa_nil)) pe_int (nomark _)) (pss_cons (ps_set (i := 3) sc_law_draw.nd rfl (Or.inl rfl) (pe_op op_mod (pe_callTy c_int (by rfl) T.int (by decide +kernel) (pa_cons (pe_ix ix_list (pv 2) pe_int (fun _ _ => rfl)) pa_nil)) (pv 1)))
      (pss_cons (ps_asg (pe_op op_fdiv (pe_callTy c_int (by rfl) T.int (by decide +kernel) (pa_cons (pe_ix ix_list (pv 2) pe_int (fun _ _ => rfl)) pa_nil)) (pv 1)) (pg_sub (pv 2) pe_int set_list))
      (pss_cons (ps_if (pt_cmpR op_eq (pe_ix ix_list (pv 2) pe_int (fun _ _ => rfl)) pe_int (nomark _)) (pss_one (ps_expr (pe_bm PySem.F.plainAttrs_list PySem.F.slot_list_pop PySem.F.type_list_pop mt_popAt (pv 2) (pa_cons pe_int pa_nil)))) pss_nil)
      (pss_one (ps_ret (pv 3)))))) pss_nil)
      (pss_cons (ps_set (i := 4) sc_law_draw.nd rfl (Or.inl rfl) (pe_op op_mod (pe_callTy c_int (by rfl) T.int (by decide +kernel) (pa_cons (pe_op op_mul (pe_op op_add (pe_ix ix_list (pv 0) pe_int (fun _ _ => rfl)) (pe_op op_mul pe_int (pe_ix ix_list (pv 0) pe_int (fun _ _ => rfl)))) pe_int) pa_nil)) pe_int))
      (pss_cons (ps_set (i := 4) sc_law_draw.nd rfl (Or.inl rfl) (pe_op op_mod (pe_callTy c_int (by rfl) T.int (by decide +kernel) (pa_cons (pe_op op_mul (pv 4) (pe_op op_add (pe_op op_fdiv (pv 4) pe_int) pe_int)) pa_nil)) pe_int))
      (pss_cons (ps_set (i := 4) sc_law_draw.nd rfl (Or.inl rfl) (pe_op op_mod (pe_callTy c_int (by rfl) T.int (by decide +kernel) (pa_cons (pe_op op_mul (pv 4) (pe_op op_add (pe_op op_fdiv (pv 4) pe_int) pe_int)) pa_nil)) pe_int))
      (pss_one (ps_ret (pe_op op_mod (pe_callTy c_int (by rfl) T.int (by decide +kernel) (pa_cons (pe_op op_fdiv (pv 4) pe_int) pa_nil)) (pv 1)))))))))), ?_⟩
    refine ⟨_, rfl, t, _, _, _, rfl, rfl, SqL.of hT, rfl, _, _, rfl, rfl, _, rfl, t, _, _, 1, rfl, rfl, hT, rfl, ?_⟩
    have hT1 : (upd H t (.lst [.int sd, .int (c + 1), .ref l])) t = some (.lst [.int sd, .int (c + 1), .ref l]) := upd_same
    have hL1 : (upd H t (.lst [.int sd, .int (c + 1), .ref l])) l = some (.lst (cs.map V.int)) := by rw [upd_ne hlt]; exact hL
    refine ⟨_, rfl, t, _, _, _, rfl, rfl, SqL.of hT1, rfl, ?_⟩
    refine ⟨_, rfl, l, _, rfl, .inl (SqL.of hL1), _, _, rfl, rfl, _, rfl, ?_⟩
    refine ite2 (fun hc => ?_) (fun _ => ?_)
    · have cpos : 0 < cs.length := by
        have := of_decide_eq_true hc
        rw [List.length_map] at this
        omega
      obtain ⟨c0, cr, rfl⟩ : ∃ c0 cr, cs = c0 :: cr := by
        cases cs with
        | nil => cases cpos
        | cons c0 cr => exact ⟨c0, cr, rfl⟩
      have ha0 : atI ((c0 :: cr).map V.int) 0 = some (V.int c0) := atI_nat (j := 0) (by rfl)
      refine ⟨_, rfl, l, _, _, _, rfl, rfl, SqL.of hL1, ha0, .inl ⟨_, rfl, _, rfl, _, _, rfl, rfl, hn, ?_⟩⟩
      refine ⟨_, rfl, l, _, _, _, rfl, rfl, SqL.of hL1, ha0, .inl ⟨_, rfl, _, rfl, _, _, rfl, rfl, ⟨hn, hn2⟩, ?_⟩⟩
      refine ⟨_, rfl, l, _, _, 0, rfl, rfl, hL1, ix0 (by rw [List.length_map]; exact Nat.succ_pos _), ?_⟩
      have hL2 : (upd (upd H t (.lst [.int sd, .int (c + 1), .ref l])) l (.lst (((c0 :: cr).map V.int).set 0 (V.int (c0 / n))))) l = some (.lst (((c0 / n) :: cr).map V.int)) := upd_same
      have ha1 : atI (((c0 / n) :: cr).map V.int) 0 = some (V.int (c0 / n)) := atI_nat (j := 0) (by rfl)
      have fin0 : ∀ (cs2 : List Int), Q (.int (c0 % n)) (upd (upd H t (.lst [.int sd, .int (c + 1), .ref l])) l (.lst (cs2.map V.int))) := fun cs2 => 
        k _ _ (Int.emod_nonneg _ (by omega)) (Int.emod_lt_of_pos _ hn) (fun b o n m h => by rw [upd_ne m, upd_ne n]; exact h) ⟨sd, c + 1, cs2, by rw [upd_ne hlt.symm]; exact upd_same, upd_same⟩
      have fin : ∀ (cs2 : List Int) (u1 : HO), Q (.int (c0 % n)) (upd (upd (upd H t (.lst [.int sd, .int (c + 1), .ref l])) l u1) l (.lst (cs2.map V.int))) := fun cs2 u1 => by
        rw [upd_upd]
        exact fin0 cs2
      refine ⟨_, rfl, l, _, _, _, rfl, rfl, SqL.of hL2, ha1, rfl, _, rfl, ?_⟩
      refine ite2 (fun _ => ?_) (fun _ => ?_)
      · refine ⟨_, rfl, .inl ⟨rfl, _, SqL.of hL2⟩, l, _, 0, 0, _, rfl, rfl, hL2, by decide, by decide, seq_at (by decide) (by rw [List.length_map, List.length_cons]; omega), by rfl, ?_⟩
        exact ⟨_, rfl, fin cr _⟩
      · exact ⟨_, rfl, fin0 ((c0 / n) :: cr)⟩
    · have m3 : ∀ (x d : Int), 0 < d → 0 ≤ x % d ∧ x % d < d := fun x d h => ⟨Int.emod_nonneg _ (by omega), Int.emod_lt_of_pos _ h⟩
      refine ⟨_, rfl, t, _, _, _, rfl, rfl, SqL.of hT1, rfl, _, rfl, t, _, _, _, rfl, rfl, SqL.of hT1, rfl, _, _, rfl, rfl, .inl ⟨by decide, by decide⟩, _, _, rfl, rfl, ?_⟩
      refine ⟨_, _, rfl, rfl, .inr (by decide), .inl ⟨_, rfl, _, _, rfl, rfl, by show (0 : Int) < 2147483647; decide, ?_⟩⟩
      have q1 := m3 ((sd + 7919 * (c + 1)) * 48271) 2147483647 (by decide)
      generalize ((sd + 7919 * (c + 1)) * 48271) % 2147483647 = u at q1 ⊢
      refine ⟨_, rfl, _, rfl, _, _, rfl, rfl, ⟨by decide, by decide⟩, _, _, rfl, rfl, _, _, rfl, rfl, .inl ⟨by omega, by omega⟩, .inl ⟨_, rfl, _, _, rfl, rfl, by show (0 : Int) < 2147483647; decide, ?_⟩⟩
      have q2 := m3 (u * (u / 1009 + 69621)) 2147483647 (by decide)
      generalize (u * (u / 1009 + 69621)) % 2147483647 = v at q2 ⊢
      refine ⟨_, rfl, _, rfl, _, _, rfl, rfl, ⟨by decide, by decide⟩, _, _, rfl, rfl, _, _, rfl, rfl, .inl ⟨by omega, by omega⟩, .inl ⟨_, rfl, _, _, rfl, rfl, by show (0 : Int) < 2147483399; decide, ?_⟩⟩
      refine ⟨_, rfl, _, _, rfl, rfl, ⟨by decide, by decide⟩, .inl ⟨_, rfl, _, rfl, _, _, rfl, rfl, hn, ?_⟩⟩
      exact k _ _ (m3 _ _ hn).1 (m3 _ _ hn).2 (fun b o n m h => by rw [upd_ne n]; exact h) ⟨sd, c + 1, cs, hT1, hL1⟩
/-- a mixing: from a list of ints of any kind, each once -/
def spMixed (K : PySem.W.Frag) : Sp := fun vs H Q _ => ∃ (t l q : Addr) (ns : List Int), vs = [.ref t, .ref q] ∧ Po H t l ∧ SqL K H q (ns.map V.int) ∧ ns.length ≤ 1000 ∧ ∀ (p : Addr) (xs : List Int) (H' : Hp), xs.Perm ns → H p = none → H' p = some (.lst (xs.map V.int)) → Gs t l H H' → Po H' t l → Q (.ref p) H'
theorem ok_mixed (A : At K mg "_law_mixed" s_law_mixed ["pool", "things"]) (T : Tx mg) (G_law_draw : Dfn P w K mg base "_law_draw" ["pool", "many"] 1 spDraw) : Dfn P w K mg base "_law_mixed" ["pool", "things"] 2 (spMixed K) := by
  refine A.ok sc_law_mixed (fun vs H Q E h => ?_) (fun f cdv A outer s H vs Q E hr h => ?_)
  · obtain ⟨t, l, q, ns, rfl, _⟩ := h
    rfl
  · obtain ⟨t, l, q0, ns, rfl, hT, hq0, hn, k⟩ := h
    refine ⟨_, (pss_cons (ps_set (i := 2) sc_law_mixed.nd rfl (Or.inr rfl) (pe_callTy c_list (by rfl) T.list (by decide +kernel) (pa_cons (pv 1) pa_nil)))
      (pss_one (ps_ret (pe_lc (own := [("k", 3)]) (g := (gName 3)) (tt := tYes) (te := (tBM K "list" rPopAt (tVar 2) (tCons (tCall spDraw [] E0 (tCons (tVar 0) (tCons (tCB (rLenS K) (tCons (tVar 2) tNil)) tNil))) tNil))) (by rfl) sc_law_mixed.nd (pi_range1 rfl T.range (pa_cons (pe_callB c_len (by rfl) T.len (by decide +kernel) (pa_cons (pv 2) pa_nil)) pa_nil)) (blkOk_by (own := [("k", 3)]) (N := n_law_mixed) (sc := (defScope s_law_mixed)) (by decide +kernel)) (fun _ _ _ _ _ => (pg_name (i := 3) sc_law_mixed.nd rfl (Or.inl rfl))) (fun _ _ _ _ _ => pts_nil) (fun _ _ _ _ _ => (pe_bm PySem.F.plainAttrs_list PySem.F.slot_list_pop PySem.F.type_list_pop mt_popAt (pv 2) (pa_cons (pe_d G_law_draw (hr.mono (by decide)) (pa_cons (pv 0) (pa_cons (pe_callB c_len (by rfl) T.len (by decide +kernel) (pa_cons (pv 2) pa_nil)) pa_nil))) pa_nil))))))), ?_⟩
    refine ⟨_, rfl, q0, _, rfl, .inl hq0, fun q hq => ?_⟩
    have nq := hT.free hq
    refine ⟨_, rfl, q, _, rfl, .inl (SqL.of upd_same), ?_⟩
    rw [List.length_map]
    refine ⟨_, rfl, by omega, by omega, fun D hD => ?_⟩
    have nqD : q ≠ D := ne_of_none upd_same hD
    have hD0 : H D = none := by
      rw [upd_ne nqD.symm] at hD
      exact hD
    have nD := hT.free hD0
    refine lc_range (lo := 0) (n := ns.length) (fun i H' => ∃ acc left : List Int, (acc ++ left).Perm ns ∧ acc.length = i ∧ left.length = ns.length - i ∧ H' D = some (.lst (acc.map V.int)) ∧ H' q = some (.lst (left.map V.int)) ∧ Gs t l H H' ∧ Po H' t l)
      ⟨[], ns, List.Perm.refl _, rfl, rfl, upd_same, by rw [upd_ne nqD, upd_same], (Gs.new hq).mut hD0, (hT.new hq).new hD⟩ ?_ ?_
    · rintro i H1 hi ⟨acc, left, pm, la, ll, hDa, hqa, g1, T1⟩
      have lp : 0 < left.length := by omega
      refine ⟨rfl, _, rfl, .inl ⟨rfl, _, SqL.of hqa⟩, _, rfl, _, rfl, q, _, rfl, .inl (SqL.of hqa), t, l, _, rfl, T1, by rw [List.length_map]; omega, by rw [List.length_map]; omega, fun x H2 x0 x1 g2 T2 => ?_⟩
      rw [List.length_map] at x1
      have hqb : H2 q = some (.lst (left.map V.int)) := g2 _ _ nq.1 nq.2 hqa
      have hDb : H2 D = some (.lst (acc.map V.int)) := g2 _ _ nD.1 nD.2 hDa
      have xl : x.toNat < left.length := by omega
      have hy : (left.map V.int)[x.toNat]? = some (.int left[x.toNat]) := by
        rw [List.getElem?_map, List.getElem?_eq_getElem xl]
        rfl
      refine ⟨q, _, x, x.toNat, _, rfl, rfl, hqb, by omega, by omega, seq_at x0 (by rw [List.length_map]; exact x1), hy, acc.map V.int, by rw [upd_ne nqD.symm]; exact hDb, by rw [List.length_map]; exact Nat.lt_of_le_of_lt (show acc.length ≤ 1000 by omega) (by decide), ?_⟩
      refine ⟨acc ++ [left[x.toNat]], left.eraseIdx x.toNat, ?_, by rw [List.length_append, la]; rfl, by rw [List.length_eraseIdx, if_pos xl]; omega, by rw [upd_same, List.map_append]; rfl, by rw [upd_ne nqD, upd_same, map_eraseIdx'], ((g1.trans g2).mut hq).mut hD0, (T2.mut nq).mut nD⟩
      refine List.Perm.trans ?_ pm
      rw [List.append_assoc]
      exact List.Perm.append_left acc (perm_erase left _ xl)
    · rintro H1 ⟨acc, left, pm, la, ll, hDa, hqa, g1, T1⟩
      have e : left = [] := List.eq_nil_of_length_eq_zero (by omega)
      subst e
      rw [List.append_nil] at pm
      exact k D acc H1 pm hD0 hDa g1 T1
end
end Fo
set_option maxRecDepth 100000
set_option maxHeartbeats 4000000
namespace Fo
open PySem PySem.Spec PyProof.Rows L2
abbrev s_is_integer : Stmt := top 8
abbrev n_is_integer : List Str := ["thing"]
theorem sc_is_integer : FnScope n_is_integer ["thing"] (defScope s_is_integer) := ⟨rfl, rfl, rfl, by decide +kernel, rfl, by decide +kernel, by decide +kernel⟩
abbrev s_is_number : Stmt := top 9
abbrev n_is_number : List Str := ["bound", "thing"]
theorem sc_is_number : FnScope n_is_number ["bound", "thing"] (defScope s_is_number) := ⟨rfl, rfl, rfl, by decide +kernel, rfl, by decide +kernel, by decide +kernel⟩
abbrev s_is_numbers : Stmt := top 10
abbrev n_is_numbers : List Str := ["bound", "thing", "one"]
theorem sc_is_numbers : FnScope n_is_numbers ["bound", "thing"] (defScope s_is_numbers) := ⟨rfl, rfl, rfl, by decide +kernel, rfl, by decide +kernel, by decide +kernel⟩
abbrev s_is_ascending : Stmt := top 11
abbrev n_is_ascending : List Str := ["bound", "thing", "low", "high"]
theorem sc_is_ascending : FnScope n_is_ascending ["bound", "thing"] (defScope s_is_ascending) := ⟨rfl, rfl, rfl, by decide +kernel, rfl, by decide +kernel, by decide +kernel⟩
section
variable {P : Program} {w : World} {K : PySem.W.Frag} {mg : Str → Option Value} {base : Heap} {C : Addr}
def spInteger (K : PySem.W.Frag) (C : Addr) : Sp := fun vs H Q _ => ∃ x, vs = [x] ∧ Th K C H x ∧ Q (.bl (isIntV x)) H
theorem ok_is_integer (A : At K mg "is_integer" s_is_integer ["thing"]) (T : Tx mg) (tc : TC K C) : Dfn P w K mg base "is_integer" ["thing"] 1 (spInteger K C) := by
  refine A.ok sc_is_integer (fun vs H Q E h => ?_) (fun f cdv A outer s H vs Q E hr h => ?_)
  · obtain ⟨x, rfl, _⟩ := h
    rfl
  · obtain ⟨x, rfl, hx, k⟩ := h
    obtain ⟨t, b1, b2, ty, h1, h2, h3⟩ := th_kit tc hx
    refine ⟨_, (pss_one (ps_ret (pe_and (pe_callB call_isi (by rfl) T.isinstance (by decide +kernel) (pa_cons (pv 0) (pa_cons (pe_bltn (v := V.ty "int") (by rfl) T.int (by decide +kernel) rfl) pa_nil))) (pe_one (pe_not (pe_callB call_isi (by rfl) T.isinstance (by decide +kernel) (pa_cons (pv 0) (pa_cons (pe_bltn (v := V.ty "bool") (by rfl) T.bool (by decide +kernel) rfl) pa_nil)))))))), ?_⟩
    refine ⟨_, rfl, x, .ty "int", t, .type "int", b1, rfl, .ty "int", ty, h1, b1, rfl, ?_⟩
    cases b1 with
    | true =>
      refine ⟨_, rfl, x, .ty "bool", t, .type "bool", b2, rfl, .ty "bool", ty, h2, b2, rfl, ?_⟩
      rw [Bool.true_and] at h3
      rw [h3]
      exact k
    | false =>
      rw [Bool.false_and] at h3
      rw [← h3] at k
      exact k
def spNumber (K : PySem.W.Frag) (C : Addr) : Sp := fun vs H Q _ => ∃ (b : Int) (x : V), vs = [.int b, x] ∧ Th K C H x ∧ Q (.bl (numV b x)) H
theorem ok_is_number (A : At K mg "is_number" s_is_number ["bound", "thing"]) (T : Tx mg) (G_is_integer : Dfn P w K mg base "is_integer" ["thing"] 1 (spInteger K C)) : Dfn P w K mg base "is_number" ["bound", "thing"] 2 (spNumber K C) := by
  refine A.ok sc_is_number (fun vs H Q E h => ?_) (fun f cdv A outer s H vs Q E hr h => ?_)
  · obtain ⟨b, x, rfl, _⟩ := h
    rfl
  · obtain ⟨b, x, rfl, hx, k⟩ := h
    refine ⟨_, (pss_one (ps_ret (pe_and (pe_d G_is_integer (hr.mono (by decide)) (pa_cons (pv 1) pa_nil)) (pe_one (pe_chain op_le op_lt pe_int (pv 1) (pv 0)))))), ?_⟩
    refine ⟨_, rfl, x, rfl, hx, _, rfl, ?_⟩
    cases x with
    | int i =>
      have k : Q (.bl (decide (0 ≤ i) && decide (i < b))) H := k
      refine ⟨_, rfl, 0, i, rfl, rfl, _, rfl, ?_⟩
      refine ite2 (fun h1 => ?_) (fun h1 => ?_)
      · rw [h1, Bool.true_and] at k
        exact ⟨_, rfl, i, b, rfl, rfl, k⟩
      · rw [show decide (0 ≤ i) = false from Bool.eq_false_iff.mpr h1, Bool.false_and] at k
        exact k
    | _ => exact k
def numbersOf (b : Int) : Option (List V) → Bool
  | some xs => xs.all (numV b)
  | none => false
def spNumbers (K : PySem.W.Frag) (C : Addr) : Sp := fun vs H Q _ => ∃ (b : Int) (x : V) (o : Option (List V)), vs = [.int b, x] ∧ Tg K C H x o ∧ ∀ H', Same H H' → Q (.bl (numbersOf b o)) H'
theorem ok_is_numbers (A : At K mg "is_numbers" s_is_numbers ["bound", "thing"]) (T : Tx mg) (G_is_number : Dfn P w K mg base "is_number" ["bound", "thing"] 2 (spNumber K C)) : Dfn P w K mg base "is_numbers" ["bound", "thing"] 3 (spNumbers K C) := by
  refine A.ok sc_is_numbers (fun vs H Q E h => ?_) (fun f cdv A outer s H vs Q E hr h => ?_)
  · obtain ⟨b, x, o, rfl, _⟩ := h
    rfl
  · obtain ⟨b, x, o, rfl, hx, k⟩ := h
    refine ⟨_, (pss_one (ps_ret (pe_and (pe_callB call_isi (by rfl) T.isinstance (by decide +kernel) (pa_cons (pv 1) (pa_cons (pe_bltn (v := V.ty "tuple") (by rfl) T.tuple (by decide +kernel) rfl) pa_nil))) (pe_one (pe_callB (cr_all rfl) (by rfl) T.all (by decide +kernel) (pa_cons (pe_lc (own := [("one", 2)]) (g := (gName 2)) (tt := tYes) (te := (tCall (spNumber K C) [] E0 (tCons (tVar 0) (tCons (tVar 2) tNil)))) (by rfl) sc_is_numbers.nd (pi_tup (pv 1)) (blkOk_by (own := [("one", 2)]) (N := n_is_numbers) (sc := (defScope s_is_numbers)) (by decide +kernel)) (fun _ _ _ _ _ => (pg_name (i := 2) sc_is_numbers.nd rfl (Or.inl rfl))) (fun _ _ _ _ _ => pts_nil) (fun _ _ _ _ _ => (pe_d G_is_number (hr.mono (by decide)) (pa_cons (pv 0) (pa_cons (pv 2) pa_nil))))) pa_nil)))))), ?_⟩
    cases hx with
    | no ty hk => exact ⟨_, rfl, x, .ty "tuple", _, .type "tuple", false, rfl, .ty "tuple", ty, hk, false, rfl, k H (Same.refl H)⟩
    | @tup a xs hq hi hz =>
      refine ⟨_, rfl, .ref a, .ty "tuple", _, .type "tuple", true, rfl, .ty "tuple", tyX_sqT hq, kit_ty (by decide +kernel), true, rfl, ?_⟩
      refine ⟨_, rfl, a, rfl, ⟨xs, hq⟩, fun D hD => lc_tup (xs := xs) (fun i H' => H' D = some (.lst ((xs.take i).map fun x => V.bl (numV b x))) ∧ Same H H') ⟨by rw [upd_same]; rfl, same_new hD⟩ (fun i H' _ p => sqT_same p.2 hq) (fun i y H' hy p => ?_) (fun H' p => ?_)⟩
      · refine ⟨rfl, _, rfl, _, rfl, b, y, rfl, (hi y (List.mem_of_getElem? hy)).same p.2, _, p.1, by rw [List.length_map]; exact small_lt (Nat.le_trans (List.length_take_le _ _) (by have := (List.getElem?_eq_some_iff.mp hy).1; omega)), ?_, same_mut p.2 hD⟩
        rw [upd_same, List.take_add_one, hy, List.map_append]
        rfl
      · obtain ⟨p1, p2⟩ := p
        rw [List.take_length] at p1
        refine ⟨D, xs.map (numV b), rfl, SqL.of (by rw [p1, List.map_map]; rfl), ?_⟩
        have e : (xs.map (numV b)).all id = numbersOf b (some xs) := by
          show _ = xs.all (numV b)
          rw [List.all_map]
          rfl
        rw [e]
        exact k H' p2
def ascOf (b : Int) : Option (List V) → Bool
  | some xs => ascV b xs
  | none => false
def spAsc (K : PySem.W.Frag) (C : Addr) : Sp := fun vs H Q _ => ∃ (b : Int) (x : V) (o : Option (List V)), vs = [.int b, x] ∧ Tg K C H x o ∧ ∀ H', Same H H' → Q (.bl (ascOf b o)) H'
theorem asc_lc {a p D : Addr} {ns : List Int} {H2 : Hp} {b : Int} {Qd : Hp → Prop} (hD : H2 D = none) (hx : SqT K H2 a (ns.map V.int)) (hy : SqT K H2 p ((ns.map V.int).drop 1)) (hz : ns.length ≤ 100000)
    (hd : ∀ H', Same H2 H' → H' D = some (.lst (((ns.map V.int).zip ((ns.map V.int).drop 1)).map fun q => V.bl (ltV q.1 q.2))) → Qd H') :
    ∃ W : Nat → Nat → Hp → Prop, (∃ m, W 0 m (upd H2 D (.lst []))) ∧ ∀ i m H, W i m H →
      ((RZ.ItzT K a p).stop i H ∧ Qd H) ∨ ((RZ.ItzT K a p).go i H ∧ ∃ Nx : Hp → Prop, (∀ H', Nx H' → ∃ m', m' < m ∧ W (i + 1) m' H') ∧ ∀ x H', (RZ.ItzT K a p).yld i H x H' → (gTup K 2 (gCons (gName 2) (gCons (gName 3) gNil))) x (wipe [some (.int b), some (.ref a), none, none] [2, 3]) H' fun σ2 H2 => wipe σ2 [2, 3] = wipe [some (.int b), some (.ref a), none, none] [2, 3] ∧ tYes σ2 H2 fun c H3 =>
        if c = true then (tOp (rI0 fun i j => V.bl (decide (i < j))) (tVar 2) (tVar 3)) σ2 H3 fun y H4 => ∃ acc, H4 D = some (.lst acc) ∧ acc.length < sizeLine ∧ Nx (upd H4 D (.lst (acc ++ [y]))) else Nx H3) := by
  refine lc_zipT (xs := ns.map V.int) (ys := (ns.map V.int).drop 1) (by rw [List.length_drop]; omega) (fun i H' => H' D = some (.lst ((((ns.map V.int).zip ((ns.map V.int).drop 1)).take i).map fun q => V.bl (ltV q.1 q.2))) ∧ Same H2 H') ⟨by rw [upd_same]; rfl, same_new hD⟩ (fun i H' _ q => ⟨sqT_same q.2 hx, sqT_same q.2 hy⟩) ?_ ?_
  · rintro i x y H3 T hxi hyi ⟨q1, q2⟩ hT
    have hDT : D ≠ T := ne_of_none q1 hT
    obtain ⟨u, rfl⟩ : ∃ u, x = V.int u := by
      rw [List.getElem?_map] at hxi
      cases e : ns[i]? with
      | none => rw [e] at hxi; cases hxi
      | some u => rw [e] at hxi; exact ⟨u, (Option.some.inj hxi).symm⟩
    obtain ⟨v, rfl⟩ : ∃ v, y = V.int v := by
      rw [List.getElem?_drop, List.getElem?_map] at hyi
      cases e : ns[1 + i]? with
      | none => rw [e] at hyi; cases hyi
      | some v => rw [e] at hyi; exact ⟨v, (Option.some.inj hyi).symm⟩
    have hzip : ((ns.map V.int).zip ((ns.map V.int).drop 1))[i]? = some (V.int u, V.int v) := List.getElem?_zip_eq_some.mpr ⟨hxi, hyi⟩
    refine ⟨T, [.int u, .int v], rfl, SqT.of upd_same, rfl, .int u, [.int v], rfl, .int v, [], rfl, rfl, rfl, _, rfl, _, rfl, u, v, rfl, rfl, _, by rw [upd_ne hDT]; exact q1, by rw [List.length_map]; exact small_lt (Nat.le_trans (List.length_take_le _ _) (by have := (List.getElem?_eq_some_iff.mp hxi).1; rw [List.length_map] at this; omega)), ?_, same_mut (q2.trans (same_new hT)) hD⟩
    rw [upd_same, List.take_add_one, hzip, List.map_append]
    rfl
  · rintro H3 ⟨q1, q2⟩
    refine hd H3 q2 ?_
    rw [q1, List.take_of_length_le]
    rw [List.length_zip]
    exact Nat.min_le_right _ _
theorem ok_is_ascending (A : At K mg "is_ascending" s_is_ascending ["bound", "thing"]) (T : Tx mg) (G_is_numbers : Dfn P w K mg base "is_numbers" ["bound", "thing"] 3 (spNumbers K C)) : Dfn P w K mg base "is_ascending" ["bound", "thing"] 4 (spAsc K C) := by
  refine A.ok sc_is_ascending (fun vs H Q E h => ?_) (fun f cdv A outer s H vs Q E hr h => ?_)
  · obtain ⟨b, x, o, rfl, _⟩ := h
    rfl
  · obtain ⟨b, x, o, rfl, hx, k⟩ := h
    refine ⟨_, (pss_one (ps_ret (pe_and (pe_d G_is_numbers (hr.mono (by decide)) (pa_cons (pv 0) (pa_cons (pv 1) pa_nil))) (pe_one (pe_callB (cr_all rfl) (by rfl) T.all (by decide +kernel) (pa_cons (pe_lc (own := [("low", 2), ("high", 3)]) (g := (gTup K 2 (gCons (gName 2) (gCons (gName 3) gNil)))) (tt := tYes) (te := (tOp (rI0 fun i j => V.bl (decide (i < j))) (tVar 2) (tVar 3))) (by rfl) sc_is_ascending.nd (RZ.pi_zipA (by rfl) T.zip (pa_cons (pv 1) (pa_cons (pe_slice sl_tupA (pv 1) (po_some pe_int) po_none) pa_nil))) (blkOk_by (own := [("low", 2), ("high", 3)]) (N := n_is_ascending) (sc := (defScope s_is_ascending)) (by decide +kernel)) (fun _ _ _ _ _ => (pg_tup rfl (pgs_cons (pg_name (i := 2) sc_is_ascending.nd rfl (Or.inl rfl)) (pgs_cons (pg_name (i := 3) sc_is_ascending.nd rfl (Or.inl rfl)) pgs_nil)))) (fun _ _ _ _ _ => pts_nil) (fun _ _ _ _ _ => (pe_cmpR op_lt (pv 2) (pv 3) (nomark _)))) pa_nil)))))), ?_⟩
    refine ⟨_, rfl, _, rfl, b, x, o, rfl, hx, fun H1 s1 => ⟨_, rfl, ?_⟩⟩
    cases hx with
    | no ty hk => exact k H1 s1
    | @tup a xs hq hi hz =>
      have kk : ∀ H', Same H H' → Q (.bl (ascV b xs)) H' := k
      show if xs.all (numV b) = true then _ else _
      cases hn : xs.all (numV b) with
      | false =>
        have e : ascV b xs = false := by rw [ascV_eq, hn]; rfl
        rw [e] at kk
        exact kk H1 s1
      | true =>
        obtain ⟨ns, rfl, hb⟩ := all_num_ints hn
        have hq1 := sqT_same s1 hq
        have cut : cutV (ns.map V.int) (some 1) none = (ns.map V.int).drop 1 := by
          unfold cutV
          rw [show HT.sIx (ns.map V.int).length 0 (some 1) = min 1 (ns.map V.int).length from HT.sIx_nat _ 0 1, HT.sIx_none]
          cases ns with
          | nil => rfl
          | cons x r =>
            rw [show min 1 ((x :: r).map V.int).length = 1 by rw [List.map_cons, List.length_cons]; omega]
            show List.take (((x :: r).map V.int).length - 1) (r.map V.int) = r.map V.int
            rw [List.map_cons, List.length_cons, Nat.add_sub_cancel]
            exact List.take_length
        have kk2 : ∀ (D : Addr) (H' : Hp), Same H H' → H' D = some (.lst (((ns.map V.int).zip ((ns.map V.int).drop 1)).map fun q => V.bl (ltV q.1 q.2))) → ∃ (a : Addr) (bs : List Bool), [V.ref D] = [V.ref a] ∧ SqL K H' a (bs.map V.bl) ∧ Q (.bl (bs.all id)) H' := fun D H' s2 hD => by
          refine ⟨D, ((ns.map V.int).zip ((ns.map V.int).drop 1)).map fun q => ltV q.1 q.2, rfl, SqL.of (by rw [hD, List.map_map]; rfl), ?_⟩
          have e : ((((ns.map V.int).zip ((ns.map V.int).drop 1)).map fun q => ltV q.1 q.2).all id) = ascV b (ns.map V.int) := by
            rw [ascV_eq, hn, Bool.true_and, List.all_map]
            rfl
          rw [e]
          exact kk H' s2
        have nz : ns.length ≤ 100000 := by rw [List.length_map] at hz; exact hz
        refine ⟨_, rfl, _, rfl, 1, rfl, a, ns.map V.int, rfl, hq1, fun hw => ?_, fun hw p hp => ?_⟩
        · have e0 : ns = [] := by
            cases ns with
            | nil => rfl
            | cons x r =>
              have h1 := hw.1
              rw [show HT.sIx ((x :: r).map V.int).length 0 (some 1) = min 1 ((x :: r).map V.int).length from HT.sIx_nat _ 0 1, List.map_cons, List.length_cons] at h1
              omega
          have hy : SqT K H1 a ((ns.map V.int).drop 1) := by rw [e0] at hq1 ⊢; exact hq1
          exact ⟨a, a, _, _, rfl, .inr ⟨hq1, hy, fun D hD => asc_lc hD hq1 hy nz fun H' s2 q => kk2 D H' (s1.trans s2) q⟩⟩
        · rw [cut]
          have hx2 := sqT_same (same_new (o := .tup ((ns.map V.int).drop 1)) hp) hq1
          exact ⟨a, p, _, _, rfl, .inr ⟨hx2, SqT.of upd_same, fun D hD => asc_lc hD hx2 (SqT.of upd_same) nz fun H' s2 q => kk2 D H' ((s1.trans (same_new hp)).trans s2) q⟩⟩
end
end Fo
set_option maxRecDepth 100000
set_option maxHeartbeats 2000000
set_option maxRecDepth 100000
set_option maxHeartbeats 2000000
namespace Fo
open PySem PySem.Spec PyProof.Rows L2
structure XcC (K : PySem.W.Frag) (D : Addr) : Prop where
  hc : (PySem.W.clsIn K D).isSome = true
  hg : PySem.W.findIn K (.ref D) "__getattribute__" = some (some (.builtin "BaseException.__getattribute__"))
  hk : PySem.W.findIn K (.ref D) "__getattr__" = some none
  hs : PySem.W.subIn K (.ref D) (.type "BaseException") = some true
  ha : PySem.W.findIn K (.ref D) "__class__" = some (some (.builtin "object.__class__"))
  hn : PySem.W.specialIn K (.builtin "object.__class__") "__get__" = some (some (.builtin "getset_descriptor.__get__"))
  ht : PySem.W.takesIn K (.builtin "object.__class__") = some true
  hm : PySem.W.mroIn K D (.type "object") = some true
theorem kit_other {K : PySem.W.Frag} {D D2 : Addr} (h1 : (PySem.W.clsIn K D2).isSome = true) (h2 : PySem.W.typeIn K (.ref D2) = some (.type "type")) (h3 : PySem.W.subIn K (.ref D) (.ref D2) = some false) (h4 : PySem.W.subIn K (.ref D2) (.ref D2) = some true) : PySem.W.kitOne K (.ref D) (.ref D2) = some false := by
  have ne : (Value.ref D == Value.ref D2) = false := by
    rw [beq_eq_false_iff_ne]
    intro q
    cases q
    rw [h3] at h4
    cases h4
  have e2 : ((PySem.W.clsIn K D2).isSome && PySem.W.typeIn K (.ref D2) == some (.type "type")) = true := by rw [h1, h2] <;> rfl
  unfold PySem.W.kitOne
  rw [ne, if_neg (by decide)]
  show (if ((PySem.W.clsIn K D2).isSome && PySem.W.typeIn K (.ref D2) == some (.type "type")) = true then PySem.W.subIn K (.ref D) (.ref D2) else none) = some false
  rw [if_pos e2]
  exact h3
end Fo
set_option maxRecDepth 100000
set_option maxHeartbeats 4000000
namespace Fo
open PySem PySem.Spec PyProof.Rows L2
/-- the promise of an __init__ that does nothing -/
def spPass : Sp := fun vs H Q _ => ∃ a : Addr, vs = [.ref a] ∧ Q .non H
section
variable {X : Cx}
theorem mk_endN {pins : List (Addr × Obj)} {σ : L2.St} {H1 : Hp} {Q : XK} {hp hp2 h2 : Heap} {g1 g2 : Array GenState} {d1 d2 : Drawn} {t1 t2 : Nat} {os1 os2 : OsState} {a C : Addr} (T : Raises X (.ref C)) (I1 : Inv X pins σ H1 ⟨hp, g1, d1, t1, os1⟩)
    (ha : hp.objs.size ≤ a) (k : ∀ b o, hp.get? b = some o → hp2.get? b = some o) (un : Un (frs X.stack) [] (upd H1 a (exo a C none)) (upd H1 a (exo a C none)) hp2 h2) (hok : HOk X.prog X.w (upd H1 a (exo a C none)) h2) (ho : os2 = os1) (hb : AllBare g2)
    (q : Q (.ref C) none H1) : MkP X pins σ Q (.ref a) ⟨h2, g2, d2, t2, os2⟩ := by
  have ea : upd H1 a (exo a C none) a = some (exo a C none) := upd_same
  obtain ⟨t0, hoe⟩ := exo_at hok ea
  have hn : H1 a = none := I1.hok.fresh ha
  obtain ⟨G, g1', g2'⟩ := restrict h2 fun b => decide (b ≠ a)
  have gk : ∀ b, b ≠ a → G.get? b = h2.get? b := fun b hb => g1' b (decide_eq_true hb)
  have ge : G.get? a = none := g2' a (by simp)
  have nha : ∀ {b : Addr} {o : Obj}, hp.get? b = some o → b ≠ a := fun {b o} z => Nat.ne_of_lt (Nat.lt_of_lt_of_le (Heap.lt_size z) ha)
  have up : ∀ {b : Addr}, b ≠ a → H1 b = none → upd H1 a (exo a C none) b = none := fun {b} hb n => by rw [upd_ne hb]; exact n
  have U : Un (frs X.stack) [] H1 H1 hp G := {
    keep := fun b o z n hf hx => by
      rw [gk b (nha z)]
      exact un.keep b o (k b o z) (up (nha z) n) hf hx
    slot := fun b o z n hf hx => by
      rw [gk b (nha z)]
      exact un.slot b o (k b o z) (up (nha z) n) hf hx
    free := fun b o z n hx => n
    there := fun b o z hx => by
      rw [gk b (nha z)]
      exact un.there b o (k b o z) hx
    tups := fun b xs z => z
    frzs := fun b o v z => z
    tbls := fun b ps z => ⟨#[], by rw [Array.append_empty]; exact z⟩ }
  have hok3 : HOk X.prog X.w H1 G := fun b o z => by
    have hba : b ≠ a := ne_of_none z hn
    have z2 : upd H1 a (exo a C none) b = some o := by rw [upd_ne hba]; exact z
    have noa : ∀ {c : Addr}, upd H1 a (exo a C none) c = some (.own b) → c ≠ a := fun {c} hc => at_ne ea hc exo_own
    exact (hok b o z2).stay (fun c v hc y => by
        have hca : c ≠ a := by
          rcases hc with hc | hc
          · rw [hc]
            exact hba
          · exact noa hc
        rw [gk c hca]
        exact y)
      (fun c hc => by
        have := noa hc
        rw [upd_ne this] at hc
        exact hc) (fun c xs hc => by
        have := at_ne ea hc exo_tup
        rw [upd_ne this] at hc
        exact hc)
  have J : Inv X pins σ H1 ⟨G, g2, d2, t2, os2⟩ := I1.call' (ch := []) ho U hok3 hb (fun b z => absurd z (by simp))
  refine ⟨a, _, _, ⟨G, g2, d2, t2, os2⟩, _, .ref C, none, rfl, J, fun b o z => ?_, ge, hoe, ⟨rfl, rfl⟩, rfl, rfl, hn, rfl, hb, T, q⟩
  by_cases hba : b = a
  · rw [hba, ge] at z
    cases z
  · exact (gk b hba).symm.trans z
theorem pmk_oex0 {x : Str} {C fI : Addr} {k : Nat} {fd : FuncData} {p pos : Pos} (T : OexC X.K C) (iC : PySem.W.findIn X.K (.ref C) "__init__" = some (some (.ref fI))) (tI : PySem.W.typeIn X.K (.ref fI) = some (.type "function"))
    (F1 : FnOk X.prog X.w X.K X.mg X.base CX0 k fI fd ["self"] spPass) (hr : Room (k + 1) X.A) (hb : Binds X.K fd ["self"] []) (hg : Gl X x) (hm : X.mg x = some (.ref C))
    (hdb : (x == ("__debug__" : Str)) = false := by decide) : PMk X (.Call (.Name x p) [] [] pos) (fun _ H Q => Q (.ref C) none H) := by
  intro pins s σ H Q I h
  obtain ⟨nm, q, N, bs, bm, sn, sub, ab, col, dd, k0, k1, k2, k3, k5, hC, hbm⟩ := T.cls
  refine wpAny_Call_Name_kw (ld_glob I hg hm ?_ hdb)
  refine PySem.W.callWith_K0 I.kIn T.kC ?_
  show wpAny _ _ (call (.ref C) []) _ _ _
  obtain ⟨hp, g, dr, tk, os⟩ := s
  have hsz : hp.objs.size ≤ hp.objs.size + 1 := Nat.le_succ _
  have hn : H (hp.objs.size + 1) = none := I.hok.fresh hsz
  have kk : ∀ b o, hp.get? b = some o → ((hp.push (PySem.W.kdv_tup [])).push (PySem.HandSPX.excO C hp.objs.size)).get? b = some o := fun b o e => Heap.get?_push_of_some _ (Heap.get?_push_of_some _ e)
  have hget : ((hp.push (PySem.W.kdv_tup [])).push (PySem.HandSPX.excO C hp.objs.size)).get? (hp.objs.size + 1) = some (PySem.HandSPX.excO C hp.objs.size) := by heap_get
  have I2 : Inv X pins σ (upd H (hp.objs.size + 1) (exo (hp.objs.size + 1) C none)) ⟨(hp.push (PySem.W.kdv_tup [])).push (PySem.HandSPX.excO C hp.objs.size), g, dr, tk, os⟩ :=
    I.laid (t' := tk) (a := hp.objs.size + 1) (o := exo (hp.objs.size + 1) C none) (h' := (hp.push (PySem.W.kdv_tup [])).push (PySem.HandSPX.excO C hp.objs.size)) kk hsz (exo_ok hget)
  have r2 : Vals [V.ref (hp.objs.size + 1)] [Value.ref (hp.objs.size + 1)] := .cons rfl .nil
  refine wpAny_call (PySem.HandSPX.call_own F.excBase_ValueError (fun Y => PySem.HandSPX.refsVE_contains Y bm hbm) (I.kIn _ _ hC) (PySem.W.looks_findIn I.kIn iC) (fun self => PySem.W.bind_fn I.kIn self tI) (by show 0 ≤ sizeLine; decide)
    (codeAny_mono (F1.run _ X.stack _ (upd H (hp.objs.size + 1) (exo (hp.objs.size + 1) C none)) ⟨[Value.ref (hp.objs.size + 1)], []⟩ [Value.ref (hp.objs.size + 1)] _ (fun v H2 => v = .non ∧ H2 = upd H (hp.objs.size + 1) (exo (hp.objs.size + 1) C none) ∧ Q (.ref C) none H) (fun _ _ _ => False) (hr.make C [] []) (I2.env0.make C [] []) (hb _ [Value.ref (hp.objs.size + 1)] I2.kIn rfl) r2 ⟨_, rfl, rfl, rfl, h⟩) fun r s' hq' => ?_))
  cases r with
  | error er => exact pass0 pins σ _ _ er s' I2 hq'
  | ok fl =>
    cases fl with
    | ret u =>
      obtain ⟨v, H2, os2, bare2, un2, hok2, rv, ev, eH, q2⟩ := hq'
      subst ev
      subst eH
      obtain ⟨h2, g2, d2, t2, os'⟩ := s'
      exact ⟨rv, mk_endN (raises_own T.exC T.tyC) I hsz kk un2 hok2 os2 bare2 q2⟩
    | next => exact False.elim hq'
    | brk => exact False.elim hq'
    | cont => exact False.elim hq'
end
structure DfnX (P : Program) (w : World) (K : PySem.W.Frag) (mg : Str → Option Value) (base : Heap) (x : Str) (ps : List Str) (k : Nat) (sp : Sp) : Prop where
  ex : ∃ f fd, mg x = some (.ref f) ∧ PySem.W.keepIn K (.ref f) = true ∧ FnOk P w K mg base (CX P w) k f fd ps sp ∧ Binds K fd ps []
theorem pe_dX {X : Cx} {x : Str} {ps : List Str} {k : Nat} {sp : Sp} {E : XK} {e : Expr} {es : List Expr} {t : TA} {p pos : Pos} (G : DfnX X.prog X.w X.K X.mg X.base x ps k sp) (hr : Room k X.A) (hx : Passes (CX X.prog X.w) X E) (ha : PA X (e :: es) t) (hg : Gl X x := by rfl)
    (hdb : (x == ("__debug__" : Str)) = false := by decide) (he : starEach (e :: es) X.env = (false, eval e X.env) :: starEach es X.env := by rfl) (hpl : (backTo pos (starEach es X.env)).any (·.1) = false := by rfl) :
    PE X (.Call (.Name x p) (e :: es) [] pos) (tCall sp [] E t) := by
  obtain ⟨f, fd, hm, kp, F, b⟩ := G.ex
  exact pe_call F hr hg hm kp b .nil hx ha hdb he hpl
theorem At.okX {P : Program} {w : World} {K : PySem.W.Frag} {mg : Str → Option Value} {base : Heap} {x : Str} {st : Stmt} {N ps : List Str} {k : Nat} {sp : Sp} (a : At K mg x st ps) (S : FnScope N ps (defScope st)) (len : ∀ vs H Q E, sp vs H Q E → vs.length = ps.length)
    (hbody : ∀ (f : Addr) (cdv : Value) (A : Around) (outer : List Env) (s : Shared) (H : Hp) (vs : List V) (Q : VK) (E : XK), Room k (A.deeper (envOfC x (defScope st) s.heap.objs.size f cdv)) → sp vs H Q E →
      ∃ t, PSs (cxOf (L2.CX P w) P w K mg base N x (defScope st) f cdv A outer s H E) (defBody st) t ∧ t { nx := fun _ H' => Q .non H', rt := Q } (start N vs) H) : DfnX P w K mg base x ps (k + 1) sp := by
  obtain ⟨f, fd, hm, F, b⟩ := a.ex
  exact ⟨f, fd, hm, F.kp, F.okX S len (hbody f), b⟩
/-- what is known of an error's class, without fields -/
structure Er0 (P : Program) (w : World) (K : PySem.W.Frag) (mg : Str → Option Value) (base : Heap) (x : Str) (D : Addr) : Prop where
  oex : OexC K D
  gC : mg x = some (.ref D)
  ini : ∃ fI fd, PySem.W.findIn K (.ref D) "__init__" = some (some (.ref fI)) ∧ PySem.W.typeIn K (.ref fI) = some (.type "function") ∧ FnOk P w K mg base CX0 1 fI fd ["self"] spPass ∧ Binds K fd ["self"] []
theorem pmk_er0 {X : Cx} {x : Str} {D : Addr} {p pos : Pos} (T : Er0 X.prog X.w X.K X.mg X.base x D) (hr : Room 2 X.A) (hg : Gl X x) (hdb : (x == ("__debug__" : Str)) = false := by decide) : PMk X (.Call (.Name x p) [] [] pos) (fun _ H Q => Q (.ref D) none H) := by
  obtain ⟨fI, fd, iC, tI, F1, hb⟩ := T.ini
  exact pmk_oex0 T.oex iC tI F1 hr hb hg T.gC hdb
theorem cxMono {P : Program} {w : World} {outer : List Env} {H : Hp} {s : Shared} {E E' : XK} {e : Value} {s' : Shared} (h : CX P w outer H s E e s') (m : ∀ cls d H, E cls d H → E' cls d H) : CX P w outer H s E' e s' := by
  obtain ⟨a, B, H', cls, d, h1, h2, h3, h4, h5, h6, h7, h8⟩ := h
  exact ⟨a, B, H', cls, d, h1, h2, h3, h4, h5, h6, h7, m _ _ _ h8⟩
end Fo
set_option maxRecDepth 100000
set_option maxHeartbeats 4000000
namespace Fo
open PySem PySem.Spec PyProof.Rows L2
def spFld1 (D : Addr) (x : Str) : Sp := fun vs H Q _ => ∃ (a : Addr) (u : V), vs = [.ref a, u] ∧ H a = some (exo a D none) ∧ ∀ (d : Addr) (H' : Hp), (∀ b o, b ≠ a → H b = some o → H' b = some o) → H d = none → d ≠ a → H' a = some (exo a D (some d)) → H' d = some (exd d [(x, u)]) → Q .non H'
structure Er1 (P : Program) (w : World) (K : PySem.W.Frag) (mg : Str → Option Value) (base : Heap) (x fld : Str) (D : Addr) : Prop where
  oex : OexC K D
  gC : mg x = some (.ref D)
  ini : ∃ fI fd, PySem.W.findIn K (.ref D) "__init__" = some (some (.ref fI)) ∧ PySem.W.typeIn K (.ref fI) = some (.type "function") ∧ FnOk P w K mg base CX0 1 fI fd ["self", fld] (spFld1 D fld) ∧ Binds K fd ["self", fld] []
def MonoA (ta : TA) : Prop := ∀ σ H (A B : List V → Hp → Prop), (∀ vs H1, A vs H1 → B vs H1) → ta σ H A → ta σ H B
theorem pmk_er1 {X : Cx} {x fld : Str} {D : Addr} {e : Expr} {ta : TA} {p pos : Pos} (T : Er1 X.prog X.w X.K X.mg X.base x fld D) (hr : Room 2 X.A) (hg : Gl X x) (ha : PA X [e] ta) (hmo : MonoA ta) (hdb : (x == ("__debug__" : Str)) = false := by decide) (he : starEach [e] X.env = (false, eval e X.env) :: starEach [] X.env := by rfl) (hpl : (backTo pos (starEach [] X.env)).any (·.1) = false := by rfl) :
    PMk X (.Call (.Name x p) [e] [] pos) (fun σ H Q => ta σ H fun vs H1 => ∃ u, vs = [u] ∧ ∀ d H', Same H1 H' → H1 d = none → H' d = some (.xd [(fld, u)]) → Q (.ref D) (some d) H') := by
  obtain ⟨fI, fd, iC, tI, F1, hb⟩ := T.ini
  intro pins s σ H Q I h
  refine pmk_oex T.oex iC tI F1 hr hb .nil pass0 hg T.gC ha hdb he hpl pins s σ H Q I ?_
  refine hmo σ H _ _ (fun vs H1 h2 => ?_) h
  obtain ⟨u, rfl, k2⟩ := h2
  refine ⟨by show 1 ≤ 1000; decide, fun a ha => ⟨a, _, rfl, upd_same, fun d H' hk hdn hne h1 h2 => ⟨rfl, d, _, h1, h2, ?_, ?_⟩⟩⟩
  · rw [upd_ne hne] at hdn
    exact hdn
  · have hdn' : H1 d = none := by rw [upd_ne hne] at hdn; exact hdn
    refine k2 d _ (fun b o e1 => ?_) hdn' upd_same
    have hba : b ≠ a := ne_of_none e1 ha
    have hbd : b ≠ d := ne_of_none e1 hdn'
    rw [upd_ne hbd, del_ne hba]
    exact hk b o hba (by rw [upd_ne hba]; exact e1)
end Fo
set_option maxRecDepth 100000
set_option maxHeartbeats 2000000
set_option maxRecDepth 100000
set_option maxHeartbeats 2000000
set_option maxRecDepth 100000
set_option maxHeartbeats 2000000
namespace Fo
open PySem PySem.Spec PyProof.Rows L2
def rSumT (K : PySem.W.Frag) : List V → Hp → VK → Prop := fun vs H Q => ∃ (a : Addr) (ns : List Int), vs = [V.ref a] ∧ SqT K H a (ns.map V.int) ∧ Q (.int ns.sum) H
theorem cr_sumT {X : Cx} (hc : X.calm = true) : CallR X (.builtin "sum") (rSumT X.K) := by
  intro pins s σ H vs us Q I r h
  obtain ⟨a, ns, rfl, hs, q⟩ := h
  obtain ⟨its, rv, ht, _⟩ := I.tuple hs
  rw [Vals.ref1 r]
  have hi := rv.ints
  obtain ⟨xs, e⟩ := hi.allInts.items
  have hn : numsOf (intItems xs).toList = ns := by rw [← e]; exact hi.numsOf
  rw [nums_intItems] at hn
  rw [e] at ht
  refine PySem.W.ktm_sumG (I.ok.hd hc) ht fun h' tk t' hk => ?_
  rw [preSum_eq, List.take_of_length_le (by simp), hn]
  exact ⟨.int _, H, I.kept hk, ⟨_, rfl⟩, q⟩
end Fo
set_option maxRecDepth 100000
set_option maxHeartbeats 4000000
namespace Fo
open PySem PySem.Spec PyProof.Rows L2
abbrev s_are_sizes : Stmt := top 21
abbrev n_are_sizes : List Str := ["least", "thing", "one"]
theorem sc_are_sizes : FnScope n_are_sizes ["least", "thing"] (defScope s_are_sizes) := ⟨rfl, rfl, rfl, by decide +kernel, rfl, by decide +kernel, by decide +kernel⟩
abbrev s_check_kinds : Stmt := top 20
abbrev n_check_kinds : List Str := ["people", "things", "allowed", "row"]
theorem sc_check_kinds : FnScope n_check_kinds ["people", "things", "allowed"] (defScope s_check_kinds) := ⟨rfl, rfl, rfl, by decide +kernel, rfl, by decide +kernel, by decide +kernel⟩
def mostK : Int := 1000000000000000000000000000000
/-- a count of one kind, from b on -/
def cntV (b : Int) : V → Bool
  | .int i => decide (b ≤ i) && decide (i ≤ mostK)
  | _ => false
def sizesO (b : Int) : Option (List V) → Bool
  | some xs => decide (1 ≤ xs.length) && decide (xs.length ≤ 8) && xs.all (cntV b)
  | none => false
def valV : V → Int
  | .int i => i
  | _ => 0
def sumV (xs : List V) : Int := (xs.map valV).sum
def dueA (xs ys : List V) : Option (List (Option (List V))) → Option Str
  | none => some "allowed"
  | some os => if os.length = xs.length then if os.all (ascOf (ys.length : Int)) = true then if sumV xs = sumV ys then none else some "sums" else some "allowed" else some "allowed"
/-- the word of what is wrong with kinds first -/
def dueK (ox oy : Option (List V)) (oo : Option (List (Option (List V)))) : Option Str :=
  if sizesO 0 ox = true then if sizesO 0 oy = true then dueA (ox.getD []) (oy.getD []) oo else some "things" else some "people"
theorem dueK_some {xs ys : List V} {oo : Option (List (Option (List V)))} (c : sizesO 0 (some xs) = true) (c2 : sizesO 0 (some ys) = true) : dueK (some xs) (some ys) oo = dueA xs ys oo := by
  unfold dueK
  rw [if_pos c, if_pos c2]
  rfl
theorem dueA_len {xs ys : List V} {os : List (Option (List V))} (h : os.length ≠ xs.length) : dueA xs ys (some os) = some ("allowed" : Str) := by
  rw [dueA, if_neg h]
theorem dueA_row {xs ys : List V} {os : List (Option (List V))} (h : os.all (ascOf (ys.length : Int)) = false) : dueA xs ys (some os) = some ("allowed" : Str) := by
  rw [dueA, h]
  by_cases e : os.length = xs.length
  · rw [if_pos e, if_neg (by decide)]
  · rw [if_neg e]
theorem dueA_sum {xs ys : List V} {os : List (Option (List V))} (h : os.length = xs.length) (h2 : os.all (ascOf (ys.length : Int)) = true) : dueA xs ys (some os) = if sumV xs = sumV ys then none else some ("sums" : Str) := by
  rw [dueA, if_pos h, if_pos h2]
theorem cnt_ints {b : Int} : ∀ {xs : List V}, xs.all (cntV b) = true → ∃ ns : List Int, xs = ns.map V.int ∧ ∀ n ∈ ns, b ≤ n ∧ n ≤ mostK
  | [], _ => ⟨[], rfl, fun n hn => by cases hn⟩
  | x :: xs, h => by
    rw [List.all_cons, Bool.and_eq_true] at h
    obtain ⟨ns, rfl, hn⟩ := cnt_ints h.2
    match x, h.1 with
    | .int i, h1 =>
      have h1 : (decide (b ≤ i) && decide (i ≤ mostK)) = true := h1
      rw [Bool.and_eq_true, decide_eq_true_iff, decide_eq_true_iff] at h1
      exact ⟨i :: ns, rfl, fun n hn' => (List.mem_cons.mp hn').elim (fun e => by rw [e]; exact h1) (hn n)⟩
theorem sumV_ints (ns : List Int) : sumV (ns.map V.int) = ns.sum := by
  unfold sumV
  rw [List.map_map]
  exact congrArg List.sum (List.map_id ns)
theorem sizes_ints {b : Int} {o : Option (List V)} (h : sizesO b o = true) : ∃ ns : List Int, o = some (ns.map V.int) ∧ 1 ≤ ns.length ∧ ns.length ≤ 8 ∧ ∀ n ∈ ns, b ≤ n ∧ n ≤ mostK := by
  match o, h with
  | some xs, h =>
    have h : (decide (1 ≤ xs.length) && decide (xs.length ≤ 8) && xs.all (cntV b)) = true := h
    rw [Bool.and_eq_true, Bool.and_eq_true, decide_eq_true_iff, decide_eq_true_iff] at h
    obtain ⟨ns, rfl, hn⟩ := cnt_ints h.2
    rw [List.length_map] at h
    exact ⟨ns, rfl, h.1.1, h.1.2, hn⟩
section
variable {K : PySem.W.Frag} {C : Addr}
inductive TgAll (K : PySem.W.Frag) (C : Addr) (H : Hp) : List V → List (Option (List V)) → Prop
  | nil : TgAll K C H [] []
  | cons {x : V} {o : Option (List V)} {xs : List V} {os : List (Option (List V))} (h : Tg K C H x o) (t : TgAll K C H xs os) : TgAll K C H (x :: xs) (o :: os)
theorem TgAll.same {H H' : Hp} (e : Same H H') : ∀ {xs : List V} {os : List (Option (List V))}, TgAll K C H xs os → TgAll K C H' xs os
  | _, _, .nil => .nil
  | _, _, .cons h t => .cons (h.same e) (t.same e)
theorem TgAll.len {H : Hp} : ∀ {xs : List V} {os : List (Option (List V))}, TgAll K C H xs os → xs.length = os.length
  | _, _, .nil => rfl
  | _, _, .cons _ t => congrArg (· + 1) t.len
theorem TgAll.get {H : Hp} : ∀ {xs : List V} {os : List (Option (List V))} {i : Nat} {x : V}, TgAll K C H xs os → xs[i]? = some x → ∃ o, os[i]? = some o ∧ Tg K C H x o
  | _, _, _, _, .nil, h => by simp at h
  | _, _, 0, _, .cons h _, e => ⟨_, rfl, by cases Option.some.inj e; exact h⟩
  | _, _, i + 1, _, .cons _ t, e => t.get (i := i) e
/-- a thing that is handed in as rows -/
inductive Tgg (K : PySem.W.Frag) (C : Addr) (H : Hp) : V → Option (List (Option (List V))) → Prop
  | tup {a : Addr} {xs : List V} {os : List (Option (List V))} (h : SqT K H a xs) (g : TgAll K C H xs os) (hz : xs.length ≤ 100000) : Tgg K C H (.ref a) (some os)
  | no {x : V} {t : Value} (ty : TyX K H x t) (hk : PySem.W.kitOne K t (.type "tuple") = some false) : Tgg K C H x none
end
section
variable {P : Program} {w : World} {K : PySem.W.Frag} {mg : Str → Option Value} {base : Heap} {C : Addr}
def spSizes (K : PySem.W.Frag) (C : Addr) : Sp := fun vs H Q _ => ∃ (b : Int) (x : V) (o : Option (List V)), vs = [.int b, x] ∧ Tg K C H x o ∧ ∀ H', Same H H' → Q (.bl (sizesO b o)) H'
theorem ok_are_sizes {tk tk2 : Tok} (A : At K mg "_are_sizes" s_are_sizes ["least", "thing"]) (T : Tx mg) (hMK : mg "MOST_KINDS" = some (.int 8 tk)) (hMA : mg "MOST_OF_A_KIND" = some (.int 1000000000000000000000000000000 tk2)) (G_is_integer : Dfn P w K mg base "is_integer" ["thing"] 1 (spInteger K C)) : Dfn P w K mg base "_are_sizes" ["least", "thing"] 2 (spSizes K C) := by
  refine A.ok sc_are_sizes (fun vs H Q E h => ?_) (fun f cdv A outer s H vs Q E hr h => ?_)
  · obtain ⟨b, x, o, rfl, _⟩ := h
    rfl
  · obtain ⟨b, x, o, rfl, hx, k⟩ := h
    refine ⟨_, (pss_cons (ps_if (PW.pt (pw_or (pt_not (pt_val (pe_callB call_isi (by rfl) T.isinstance (by decide +kernel) (pa_cons (pv 1) (pa_cons (pe_bltn (v := V.ty "tuple") (by rfl) T.tuple (by decide +kernel) rfl) pa_nil))))) (pw_or1 (pt_not (pt_chain op_le op_le pe_int (pe_callB c_len (by rfl) T.len (by decide +kernel) (pa_cons (pv 1) pa_nil)) (pe_glob (v := V.int 8) (by rfl) hMK ⟨_, rfl⟩)))))) (pss_one (ps_ret pe_bl)) pss_nil)
      (pss_one (ps_ret (pe_callB (cr_all rfl) (by rfl) T.all (by decide +kernel) (pa_cons (pe_lc (own := [("one", 2)]) (g := (gName 2)) (tt := tYes) (te := (tAndV (tCall _ [] E0 (tCons (tVar 2) tNil)) (tChain (rI0 fun i j => V.bl (decide (i ≤ j))) (rI0 fun i j => V.bl (decide (i ≤ j))) (tVar 0) (tVar 2) (tC (V.int 1000000000000000000000000000000))))) (by rfl) sc_are_sizes.nd (pi_tup (pv 1)) (blkOk_by (own := [("one", 2)]) (N := n_are_sizes) (sc := (defScope s_are_sizes)) (by decide +kernel)) (fun _ _ _ _ _ => (pg_name (i := 2) sc_are_sizes.nd rfl (Or.inl rfl))) (fun _ _ _ _ _ => pts_nil) (fun _ _ _ _ _ => (pe_and (pe_d G_is_integer (hr.mono (by decide)) (pa_cons (pv 2) pa_nil)) (pe_one (pe_chain op_le op_le (pv 0) (pv 2) (pe_glob (v := V.int 1000000000000000000000000000000) (by rfl) hMA ⟨_, rfl⟩)))))) pa_nil))))), ?_⟩
    cases hx with
    | no ty hk => exact ⟨_, rfl, x, .ty "tuple", _, .type "tuple", false, rfl, .ty "tuple", ty, hk, false, rfl, k H (Same.refl H)⟩
    | @tup a xs hq hi hz =>
      refine ⟨_, rfl, .ref a, .ty "tuple", _, .type "tuple", true, rfl, .ty "tuple", tyX_sqT hq, kit_ty (by decide +kernel), true, rfl, _, rfl, ?_⟩
      refine ⟨a, _, rfl, .inr hq, 1, ((xs.length : Nat) : Int), rfl, rfl, _, rfl, ?_⟩
      have bad : (decide (1 ≤ xs.length) && decide (xs.length ≤ 8)) = false → Q (.bl false) H := fun z => by
        have e : sizesO b (some xs) = false := by
          show (decide (1 ≤ xs.length) && decide (xs.length ≤ 8) && xs.all (cntV b)) = false
          rw [z, Bool.false_and]
        have := k H (Same.refl H)
        rw [e] at this
        exact this
      refine ite2 (fun h1 => ?_) (fun h1 => ?_)
      · have h1 : (1 : Int) ≤ ((xs.length : Nat) : Int) := of_decide_eq_true h1
        refine ⟨((xs.length : Nat) : Int), 8, rfl, rfl, _, rfl, ?_⟩
        by_cases h8 : xs.length ≤ 8
        · rw [show decide (((xs.length : Nat) : Int) ≤ 8) = true from decide_eq_true (by omega)]
          refine ite2 (fun n => by cases n) (fun _ => ?_)
          refine ⟨_, rfl, a, rfl, ⟨xs, hq⟩, fun D hD => lc_tup (xs := xs) (fun i H' => H' D = some (.lst ((xs.take i).map fun x => V.bl (cntV b x))) ∧ Same H H') ⟨by rw [upd_same]; rfl, same_new hD⟩ (fun i H' _ p => sqT_same p.2 hq) (fun i y H' hy p => ?_) (fun H' p => ?_)⟩
          · refine ⟨rfl, _, rfl, y, rfl, (hi y (List.mem_of_getElem? hy)).same p.2, _, rfl, ?_⟩
            have put : ∀ c : Bool, c = cntV b y → ∃ acc, H' D = some (.lst acc) ∧ acc.length < sizeLine ∧ upd H' D (.lst (acc ++ [V.bl c])) D = some (.lst ((xs.take (i + 1)).map fun x => V.bl (cntV b x))) ∧ Same H (upd H' D (.lst (acc ++ [V.bl c]))) := fun c e => by
              refine ⟨_, p.1, by rw [List.length_map]; exact small_lt (Nat.le_trans (List.length_take_le _ _) (by have := (List.getElem?_eq_some_iff.mp hy).1; omega)), ?_, same_mut p.2 hD⟩
              rw [upd_same, List.take_add_one, hy, List.map_append, e]
              rfl
            cases y with
            | int i =>
              refine ⟨_, rfl, _, rfl, b, i, rfl, rfl, _, rfl, ?_⟩
              refine ite2 (fun h1 => ?_) (fun h1 => ?_)
              · exact ⟨i, mostK, rfl, rfl, put _ (by show decide (i ≤ mostK) = (decide (b ≤ i) && decide (i ≤ mostK)); rw [h1, Bool.true_and])⟩
              · exact put _ (by show _ = (decide (b ≤ i) && decide (i ≤ mostK)); rw [show decide (b ≤ i) = false from Bool.eq_false_iff.mpr h1, Bool.false_and])
            | _ => exact put false rfl
          · obtain ⟨p1, p2⟩ := p
            rw [List.take_length] at p1
            refine ⟨D, xs.map (cntV b), rfl, SqL.of (by rw [p1, List.map_map]; rfl), ?_⟩
            have e : (xs.map (cntV b)).all id = sizesO b (some xs) := by
              show _ = (decide (1 ≤ xs.length) && decide (xs.length ≤ 8) && xs.all (cntV b))
              rw [decide_eq_true (by omega : 1 ≤ xs.length), decide_eq_true h8, List.all_map]
              rfl
            rw [e]
            exact k H' p2
        · rw [show decide (((xs.length : Nat) : Int) ≤ 8) = false from decide_eq_false (by omega)]
          refine ite2 (fun _ => ?_) (fun n => absurd rfl n)
          exact bad (by rw [decide_eq_false h8, Bool.and_false])
      · have h1 : ¬ (1 : Int) ≤ ((xs.length : Nat) : Int) := fun z => h1 (decide_eq_true z)
        refine ⟨_, rfl, ?_⟩
        refine ite2 (fun _ => ?_) (fun n => absurd rfl n)
        exact bad (by rw [decide_eq_false (by omega : ¬ 1 ≤ xs.length), Bool.false_and])
theorem Tgg.same {K : PySem.W.Frag} {C : Addr} {H H' : Hp} (e : Same H H') {v : V} {oo : Option (List (Option (List V)))} (h : Tgg K C H v oo) : Tgg K C H' v oo := by
  cases h with
  | tup h g hz => exact .tup (sqT_same e h) (g.same e) hz
  | no ty hk => exact .no (tyX_same e ty) hk
def spCheckK (K : PySem.W.Frag) (C D : Addr) : Sp := fun vs H Q E => ∃ (x y v : V) (ox oy : Option (List V)) (oo : Option (List (Option (List V)))), vs = [x, y, v] ∧ Tg K C H x ox ∧ Tg K C H y oy ∧ Tgg K C H v oo ∧ (dueK ox oy oo = none → ∀ H', Same H H' → Q .non H') ∧ ∀ u, dueK ox oy oo = some u → ∀ d H', Same H H' → H d = none → H' d = some (.xd [("part", .str u)]) → E (.ref D) (some d) H'
theorem ok_check_kinds {D_BadKinds : Addr} (A : At K mg "_check_kinds" s_check_kinds ["people", "things", "allowed"]) (T : Tx mg) (Tsum : mg "sum" = none) (er_BadKinds : Er1 P w K mg base "BadKinds" "part" D_BadKinds) (G_are_sizes : Dfn P w K mg base "_are_sizes" ["least", "thing"] 2 (spSizes K C)) (G_is_ascending : Dfn P w K mg base "is_ascending" ["bound", "thing"] 4 (spAsc K C)) : DfnX P w K mg base "_check_kinds" ["people", "things", "allowed"] 5 (spCheckK K C D_BadKinds) := by
  refine A.okX sc_check_kinds (fun vs H Q E h => ?_) (fun f cdv A outer s H vs Q E hr h => ?_)
  · obtain ⟨_, _, _, _, _, _, rfl, _⟩ := h
    rfl
  · obtain ⟨x, y, v, ox, oy, oo, rfl, hx, hy, hv, k1, k2⟩ := h
    refine ⟨_, (pss_cons (ps_if (pt_not (pt_val (pe_d G_are_sizes (hr.mono (by decide)) (pa_cons pe_int (pa_cons (pv 0) pa_nil))))) (pss_one (ps_raise rfl (takes_of rfl rfl rfl rfl) (pmk_er1 er_BadKinds (hr.mono (by decide)) rfl (pa_cons pe_str pa_nil) (fun _ _ _ _ f h => f _ _ h)))) pss_nil)
      (pss_cons (ps_if (pt_not (pt_val (pe_d G_are_sizes (hr.mono (by decide)) (pa_cons pe_int (pa_cons (pv 1) pa_nil))))) (pss_one (ps_raise rfl (takes_of rfl rfl rfl rfl) (pmk_er1 er_BadKinds (hr.mono (by decide)) rfl (pa_cons pe_str pa_nil) (fun _ _ _ _ f h => f _ _ h)))) pss_nil)
      (pss_cons (ps_if (PW.pt (pw_or (pt_not (pt_val (pe_callB call_isi (by rfl) T.isinstance (by decide +kernel) (pa_cons (pv 2) (pa_cons (pe_bltn (v := V.ty "tuple") (by rfl) T.tuple (by decide +kernel) rfl) pa_nil))))) (pw_or1 (pt_cmpR op_ne (pe_callB c_len (by rfl) T.len (by decide +kernel) (pa_cons (pv 2) pa_nil)) (pe_callB c_len (by rfl) T.len (by decide +kernel) (pa_cons (pv 0) pa_nil)) (nomark _))))) (pss_one (ps_raise rfl (takes_of rfl rfl rfl rfl) (pmk_er1 er_BadKinds (hr.mono (by decide)) rfl (pa_cons pe_str pa_nil) (fun _ _ _ _ f h => f _ _ h)))) pss_nil)
      (pss_cons (ps_if (pt_not (pt_val (pe_callB (cr_all rfl) (by rfl) T.all (by decide +kernel) (pa_cons (pe_lc (own := [("row", 3)]) (g := (gName 3)) (tt := tYes) (te := (tCall _ [] E0 (tCons (tCB (rLenS K) (tCons (tVar 1) tNil)) (tCons (tVar 3) tNil)))) (by rfl) sc_check_kinds.nd (pi_tup (pv 2)) (blkOk_by (own := [("row", 3)]) (N := n_check_kinds) (sc := (defScope s_check_kinds)) (by decide +kernel)) (fun _ _ _ _ _ => (pg_name (i := 3) sc_check_kinds.nd rfl (Or.inl rfl))) (fun _ _ _ _ _ => pts_nil) (fun _ _ _ _ _ => (pe_d G_is_ascending (hr.mono (by decide)) (pa_cons (pe_callB c_len (by rfl) T.len (by decide +kernel) (pa_cons (pv 1) pa_nil)) (pa_cons (pv 3) pa_nil))))) pa_nil)))) (pss_one (ps_raise rfl (takes_of rfl rfl rfl rfl) (pmk_er1 er_BadKinds (hr.mono (by decide)) rfl (pa_cons pe_str pa_nil) (fun _ _ _ _ f h => f _ _ h)))) pss_nil)
      (pss_one (ps_if (pt_cmpR op_ne (pe_callB (cr_sumT rfl) (by rfl) Tsum (by decide +kernel) (pa_cons (pv 0) pa_nil)) (pe_callB (cr_sumT rfl) (by rfl) Tsum (by decide +kernel) (pa_cons (pv 1) pa_nil)) (nomark _)) (pss_one (ps_raise rfl (takes_of rfl rfl rfl rfl) (pmk_er1 er_BadKinds (hr.mono (by decide)) rfl (pa_cons pe_str pa_nil) (fun _ _ _ _ f h => f _ _ h)))) pss_nil)))))), ?_⟩
    have bad : ∀ (u : Str) (H1 : Hp), dueK ox oy oo = some u → Same H H1 → ∃ u', [V.str u] = [u'] ∧ ∀ (d : Addr) (H' : Hp), Same H1 H' → H1 d = none → H' d = some (.xd [(("part" : Str), u')]) → E (.ref D_BadKinds) (some d) H' := fun u H1 e s1 => ⟨_, rfl, fun d H' s2 hd h => k2 u e d H' (s1.trans s2) (s1.free hd) h⟩
    refine ⟨_, rfl, 0, x, ox, rfl, hx, fun H1 s1 => ⟨_, rfl, ?_⟩⟩
    refine ite2 (fun c => ?_) (fun c => ?_)
    · have c : (!sizesO 0 ox) = true := c
      rw [Bool.not_eq_true'] at c
      exact bad "people" H1 (by unfold dueK; rw [c]; rfl) s1
    have c : ¬ (!sizesO 0 ox) = true := c
    rw [Bool.not_eq_true', Bool.not_eq_false] at c
    refine ⟨_, rfl, 0, y, oy, rfl, hy.same s1, fun H2 s2' => ⟨_, rfl, ?_⟩⟩
    have s2 := s1.trans s2'
    refine ite2 (fun c2 => ?_) (fun c2 => ?_)
    · have c2 : (!sizesO 0 oy) = true := c2
      rw [Bool.not_eq_true'] at c2
      exact bad "things" H2 (by unfold dueK; rw [c, c2]; rfl) s2
    have c2 : ¬ (!sizesO 0 oy) = true := c2
    rw [Bool.not_eq_true', Bool.not_eq_false] at c2
    obtain ⟨ns, en, n1, n8, nr⟩ := sizes_ints c
    obtain ⟨ms, em, m1, m8, mr⟩ := sizes_ints c2
    subst en
    subst em
    obtain ⟨ax, hxq⟩ : ∃ ax, x = .ref ax ∧ SqT K H ax (ns.map V.int) := by
      cases hx with
      | tup h hi hz => exact ⟨_, rfl, h⟩
    obtain ⟨rfl, hxq⟩ := hxq
    obtain ⟨ay, hyq⟩ : ∃ ay, y = .ref ay ∧ SqT K H ay (ms.map V.int) := by
      cases hy with
      | tup h hi hz => exact ⟨_, rfl, h⟩
    obtain ⟨rfl, hyq⟩ := hyq
    cases hv with
    | no ty hk =>
      refine ⟨_, rfl, v, .ty "tuple", _, .type "tuple", false, rfl, .ty "tuple", tyX_same s2 ty, hk, false, rfl, ?_⟩
      exact bad "allowed" H2 (dueK_some c c2) s2
    | tup h g hz =>
      rename_i a xs os
      have gl := g.len
      have due := dueK_some (oo := some os) c c2
      refine ⟨_, rfl, .ref a, .ty "tuple", _, .type "tuple", true, rfl, .ty "tuple", tyX_sqT (sqT_same s2 h), kit_ty (by decide +kernel), true, rfl, ?_⟩
      refine ite2 (fun n => by cases n) (fun _ => ?_)
      refine ⟨_, rfl, a, _, rfl, .inr (sqT_same s2 h), _, rfl, ax, _, rfl, .inr (sqT_same s2 hxq), rfl, _, rfl, ?_⟩
      rw [List.length_map, gl]
      refine ite2 (fun c3 => ?_) (fun c3 => ?_)
      · have c3 : (!decide (V.int ((os.length : Nat) : Int) = V.int ((ns.length : Nat) : Int))) = true := c3
        rw [Bool.not_eq_true'] at c3
        have c3 := of_decide_eq_false c3
        exact bad "allowed" H2 (by rw [due]; exact dueA_len fun z => c3 (by rw [z, List.length_map])) s2
      have c3 : ¬ (!decide (V.int ((os.length : Nat) : Int) = V.int ((ns.length : Nat) : Int))) = true := c3
      rw [Bool.not_eq_true', Bool.not_eq_false, decide_eq_true_iff] at c3
      have c3 : os.length = ns.length := by injection c3 with c3; omega
      have c3' : os.length = (ns.map V.int).length := by rw [List.length_map]; exact c3
      have due2 := fun (h2 : os.all (ascOf (((ms.map V.int).length : Nat) : Int)) = true) => due.trans (dueA_sum (xs := ns.map V.int) (ys := ms.map V.int) c3' h2)
      have s2h := sqT_same s2 h
      refine ⟨_, rfl, a, rfl, ⟨xs, s2h⟩, fun D hD => lc_tup (xs := xs) (fun i H' => H' D = some (.lst ((os.take i).map fun o => V.bl (ascOf (((ms.map V.int).length : Nat) : Int) o))) ∧ Same H2 H') ⟨by rw [upd_same]; rfl, same_new hD⟩ (fun i H' _ p => sqT_same p.2 s2h) (fun i y H' hy p => ?_) (fun H' p => ?_)⟩
      · obtain ⟨o, ho, hto⟩ := g.get hy
        refine ⟨rfl, _, rfl, ay, _, rfl, .inr (sqT_same (s2.trans p.2) hyq), _, rfl, (((ms.map V.int).length : Nat) : Int), y, o, rfl, hto.same (s2.trans p.2), fun H3 s3 => ?_⟩
        refine ⟨_, s3 _ _ p.1, by rw [List.length_map]; exact small_lt (Nat.le_trans (List.length_take_le _ _) (by have := (List.getElem?_eq_some_iff.mp hy).1; omega)), ?_, same_mut (p.2.trans s3) hD⟩
        rw [upd_same, List.take_add_one, ho, List.map_append]
        rfl
      · obtain ⟨p1, p2⟩ := p
        rw [gl, List.take_length] at p1
        have s3 := s2.trans p2
        refine ⟨D, os.map (ascOf (((ms.map V.int).length : Nat) : Int)), rfl, SqL.of (by rw [p1, List.map_map]; rfl), ?_⟩
        have e : (os.map (ascOf (((ms.map V.int).length : Nat) : Int))).all id = os.all (ascOf (((ms.map V.int).length : Nat) : Int)) := by
          rw [List.all_map]
          rfl
        rw [e]
        refine ⟨_, rfl, ?_⟩
        refine ite2 (fun c4 => ?_) (fun c4 => ?_)
        · have c4 : (!os.all (ascOf (((ms.map V.int).length : Nat) : Int))) = true := c4
          rw [Bool.not_eq_true'] at c4
          exact bad "allowed" H' (by rw [due]; exact dueA_row c4) s3
        have c4 : ¬ (!os.all (ascOf (((ms.map V.int).length : Nat) : Int))) = true := c4
        rw [Bool.not_eq_true', Bool.not_eq_false] at c4
        have due3 := due2 c4
        rw [sumV_ints, sumV_ints] at due3
        refine ⟨_, rfl, ax, ns, rfl, sqT_same s3 hxq, _, rfl, ay, ms, rfl, sqT_same s3 hyq, rfl, _, rfl, ?_⟩
        refine ite2 (fun c5 => ?_) (fun c5 => ?_)
        · have c5 : (!decide (V.int ns.sum = V.int ms.sum)) = true := c5
          rw [Bool.not_eq_true'] at c5
          have c5 := of_decide_eq_false c5
          exact bad "sums" H' (by rw [due3, if_neg fun z => c5 (by rw [z])]) s3
        · have c5 : ¬ (!decide (V.int ns.sum = V.int ms.sum)) = true := c5
          rw [Bool.not_eq_true', Bool.not_eq_false, decide_eq_true_iff] at c5
          have c5 : ns.sum = ms.sum := by injection c5
          exact k1 (by rw [due3, if_pos c5]) H' s3
end
end Fo
namespace Mt
section
variable {κ : Type} [DecidableEq κ]
/-- v at k -/
def setN : List (κ × Nat) → κ → Nat → List (κ × Nat)
  | [], k, v => [(k, v)]
  | (s, w) :: r, k, v => if s = k then (s, v) :: r else (s, w) :: setN r k v
theorem wt_setN {F : κ → Nat} (k : κ) (v : Nat) : ∀ st : List (κ × Nat), wt F (setN st k v) + getN st k * F k = wt F st + v * F k
  | [] => by
    show (v * F k + 0) + 0 * F k = 0 + v * F k
    omega
  | (s, w) :: r => by
    have ih := wt_setN (F := F) k v r
    unfold setN getN
    by_cases h : s = k
    · rw [if_pos h, if_pos h, h]
      show (v * F k + wt F r) + w * F k = (w * F k + wt F r) + v * F k
      omega
    · rw [if_neg h, if_neg h]
      show (w * F s + wt F (setN r k v)) + getN r k * F k = (w * F s + wt F r) + v * F k
      omega
theorem keys_setN (k : κ) (v : Nat) : ∀ st : List (κ × Nat), ∀ q ∈ (setN st k v).map (·.1), q ∈ st.map (·.1) ∨ q = k
  | [], q, h => .inr (List.mem_singleton.mp h)
  | (s, w) :: r, q, h => by
    unfold setN at h
    by_cases e : s = k
    · rw [if_pos e] at h
      exact .inl h
    · rw [if_neg e] at h
      rcases List.mem_cons.mp h with h | h
      · exact .inl (by rw [h]; exact List.mem_cons_self)
      · exact (keys_setN k v r q h).imp (fun z => List.mem_cons_of_mem _ z) id
theorem nd_setN (k : κ) (v : Nat) : ∀ {st : List (κ × Nat)}, (st.map (·.1)).Nodup → ((setN st k v).map (·.1)).Nodup
  | [], _ => by
    show [k].Nodup
    simp
  | (s, w) :: r, h => by
    have h' := List.nodup_cons.mp h
    unfold setN
    by_cases e : s = k
    · rw [if_pos e]
      exact h
    · rw [if_neg e]
      refine List.nodup_cons.mpr ⟨fun z => ?_, nd_setN k v h'.2⟩
      rcases keys_setN k v r _ z with z | z
      · exact h'.1 z
      · exact e z
theorem vals_setN {P : Nat → Prop} (k : κ) (v : Nat) (hv : P v) : ∀ {st : List (κ × Nat)}, (∀ q ∈ st, P q.2) → ∀ q ∈ setN st k v, P q.2
  | [], _, q, h => by
    rw [List.mem_singleton.mp h]
    exact hv
  | (s, w) :: r, hs, q, h => by
    unfold setN at h
    by_cases e : s = k
    · rw [if_pos e] at h
      rcases List.mem_cons.mp h with h | h
      · rw [h]; exact hv
      · exact hs q (List.mem_cons_of_mem _ h)
    · rw [if_neg e] at h
      rcases List.mem_cons.mp h with h | h
      · rw [h]; exact hs _ List.mem_cons_self
      · exact vals_setN k v hv (fun z hz => hs z (List.mem_cons_of_mem _ hz)) q h
end
/-- the same modulo m -/
def Cg (m a b : Nat) : Prop := (m : Int) ∣ (a : Int) - (b : Int)
theorem Cg.refl {m : Nat} (a : Nat) : Cg m a a := by
  unfold Cg
  rw [Int.sub_self]
  exact Int.dvd_zero _
theorem Cg.trans {m a b c : Nat} (h : Cg m a b) (g : Cg m b c) : Cg m a c := by
  unfold Cg at *
  have := Int.dvd_add h g
  rwa [show ((a : Int) - b) + (b - c) = a - c from by omega] at this
theorem Cg.symm {m a b : Nat} (h : Cg m a b) : Cg m b a := by
  unfold Cg at *
  have := (Int.dvd_neg).mpr h
  rwa [show -((a : Int) - b) = b - a from by omega] at this
theorem Cg.add {m a b c d : Nat} (h : Cg m a b) (g : Cg m c d) : Cg m (a + c) (b + d) := by
  unfold Cg at *
  have := Int.dvd_add h g
  rwa [show ((a : Int) - b) + (c - d) = ((a + c : Nat) : Int) - ((b + d : Nat) : Int) from by omega] at this
theorem Cg.mul {m a b : Nat} (h : Cg m a b) (c : Nat) : Cg m (a * c) (b * c) := by
  unfold Cg at *
  have : (m : Int) ∣ ((a : Int) - b) * (c : Int) := Int.dvd_mul_of_dvd_left h
  rwa [Int.sub_mul, ← Int.natCast_mul, ← Int.natCast_mul] at this
theorem Cg.cancel {m a b c : Nat} (h : Cg m (a + c) (b + c)) : Cg m a b := by
  unfold Cg at *
  rwa [show ((a + c : Nat) : Int) - ((b + c : Nat) : Int) = (a : Int) - b from by omega] at h
theorem Cg.mod {m a : Nat} : Cg m (a % m) a := by
  unfold Cg
  refine ⟨-((a / m : Nat) : Int), ?_⟩
  have := Nat.div_add_mod a m
  have e : ((a : Nat) : Int) = (m : Int) * ((a / m : Nat) : Int) + ((a % m : Nat) : Int) := by
    rw [← Int.natCast_mul, ← Int.natCast_add, this]
  rw [e, Int.mul_neg]
  omega
theorem Cg.eq {m a b : Nat} (h : Cg m a b) : a % m = b % m := by
  unfold Cg at h
  have := Int.emod_emod_of_dvd
  have e : (a : Int) % (m : Int) = (b : Int) % (m : Int) := Int.emod_eq_emod_iff_emod_sub_eq_zero.mpr (Int.emod_eq_zero_of_dvd h)
  rw [← Int.natCast_emod, ← Int.natCast_emod] at e
  exact Int.ofNat.inj e
/-- one thing less of a kind -/
def dec (L : List Nat) (t : Nat) : List Nat := L.set t (L.getD t 0 - 1)
/-- the ways to deal, of as many things of each kind, to people each of whom may get some kinds -/
def ways : List Nat → List (List Nat) → Nat
  | _, [] => 1
  | L, r :: rs => (r.map fun t => L.getD t 0 * ways (dec L t) rs).sum
/-- one person more, from one heap of what is left -/
def stepK (m : Nat) (acc : List (List Nat × Nat)) (L : List Nat) (w : Nat) (row : List Nat) : List (List Nat × Nat) :=
  row.foldl (fun acc t => if 0 < L.getD t 0 then setN acc (dec L t) ((getN acc (dec L t) + w * L.getD t 0) % m) else acc) acc
theorem stepK_snoc {m : Nat} {acc : List (List Nat × Nat)} {L : List Nat} {w : Nat} {row : List Nat} {t : Nat} : stepK m acc L w (row ++ [t]) = if 0 < L.getD t 0 then setN (stepK m acc L w row) (dec L t) ((getN (stepK m acc L w row) (dec L t) + w * L.getD t 0) % m) else stepK m acc L w row := by
  unfold stepK
  rw [List.foldl_append]
  rfl
def stepKs (m : Nat) (acc : List (List Nat × Nat)) (row : List Nat) (st : List (List Nat × Nat)) : List (List Nat × Nat) := st.foldl (fun acc q => stepK m acc q.1 q.2 row) acc
theorem stepKs_snoc {m : Nat} {acc : List (List Nat × Nat)} {row : List Nat} {st : List (List Nat × Nat)} {q : List Nat × Nat} : stepKs m acc row (st ++ [q]) = stepK m (stepKs m acc row st) q.1 q.2 row := by
  unfold stepKs
  rw [List.foldl_append]
  rfl
theorem cg_set {m : Nat} {F : List Nat → Nat} {acc : List (List Nat × Nat)} {k : List Nat} {v : Nat} : Cg m (wt F (setN acc k ((getN acc k + v) % m))) (wt F acc + v * F k) := by
  have h := wt_setN (F := F) k ((getN acc k + v) % m) acc
  have g : Cg m ((getN acc k + v) % m * F k) ((getN acc k + v) * F k) := Cg.mod.mul _
  refine Cg.cancel (c := getN acc k * F k) ?_
  rw [h]
  have e : wt F acc + v * F k + getN acc k * F k = wt F acc + (getN acc k + v) * F k := by
    rw [Nat.add_mul]
    omega
  rw [e]
  exact (Cg.refl _).add g
theorem cg_stepK {m : Nat} {F : List Nat → Nat} (L : List Nat) (w : Nat) : ∀ (row : List Nat) (acc : List (List Nat × Nat)), Cg m (wt F (stepK m acc L w row)) (wt F acc + w * (row.map fun t => L.getD t 0 * F (dec L t)).sum)
  | [], acc => by
    show Cg m (wt F acc) (wt F acc + w * 0)
    rw [Nat.mul_zero, Nat.add_zero]
    exact Cg.refl _
  | t :: row, acc => by
    rw [List.map_cons, List.sum_cons, Nat.mul_add, ← Nat.add_assoc]
    by_cases h : 0 < L.getD t 0
    · have ih := cg_stepK (m := m) (F := F) L w row (setN acc (dec L t) ((getN acc (dec L t) + w * L.getD t 0) % m))
      have e : stepK m acc L w (t :: row) = stepK m (setN acc (dec L t) ((getN acc (dec L t) + w * L.getD t 0) % m)) L w row := by
        show stepK m (if 0 < L.getD t 0 then _ else _) L w row = _
        rw [if_pos h]
      rw [e]
      refine ih.trans (Cg.add ?_ (Cg.refl _))
      have := cg_set (m := m) (F := F) (acc := acc) (k := dec L t) (v := w * L.getD t 0)
      rwa [Nat.mul_assoc] at this
    · have ih := cg_stepK (m := m) (F := F) L w row acc
      have e : stepK m acc L w (t :: row) = stepK m acc L w row := by
        show stepK m (if 0 < L.getD t 0 then _ else _) L w row = _
        rw [if_neg h]
      have z : L.getD t 0 = 0 := by omega
      rw [e, z, Nat.zero_mul, Nat.mul_zero, Nat.add_zero]
      exact ih
theorem cg_stepKs {m : Nat} {F : List Nat → Nat} (row : List Nat) : ∀ (st acc : List (List Nat × Nat)), Cg m (wt F (stepKs m acc row st)) (wt F acc + wt (fun L => (row.map fun t => L.getD t 0 * F (dec L t)).sum) st)
  | [], acc => by
    show Cg m (wt F acc) (wt F acc + 0)
    exact Cg.refl _
  | (L, w) :: st, acc => by
    show Cg m (wt F (stepKs m (stepK m acc L w row) row st)) (wt F acc + (w * (row.map fun t => L.getD t 0 * F (dec L t)).sum + wt (fun L => (row.map fun t => L.getD t 0 * F (dec L t)).sum) st))
    rw [← Nat.add_assoc]
    exact (cg_stepKs row st _).trans ((cg_stepK L w row acc).add (Cg.refl _))
/-- behind all people -/
def stKm (m : Nat) (L : List Nat) (rows : List (List Nat)) : List (List Nat × Nat) := rows.foldl (fun st r => stepKs m [] r st) [(L, 1)]
theorem stKm_snoc {m : Nat} {L : List Nat} {rows : List (List Nat)} {r : List Nat} : stKm m L (rows ++ [r]) = stepKs m [] r (stKm m L rows) := by
  unfold stKm
  rw [List.foldl_append]
  rfl
theorem cg_fold {m : Nat} : ∀ (rs : List (List Nat)) (st : List (List Nat × Nat)), Cg m (wt (fun _ => 1) (rs.foldl (fun st r => stepKs m [] r st) st)) (wt (fun L => ways L rs) st)
  | [], st => Cg.refl _
  | r :: rs, st => by
    refine (cg_fold rs _).trans ?_
    have := cg_stepKs (m := m) (F := fun L => ways L rs) r st []
    refine this.trans ?_
    show Cg m (0 + _) _
    rw [Nat.zero_add]
    exact Cg.refl _
theorem wt_stKm {m : Nat} {L : List Nat} {rows : List (List Nat)} : wt (fun _ => 1) (stKm m L rows) % m = ways L rows % m := by
  have h := (cg_fold (m := m) rows [(L, 1)]).eq
  have e : wt (fun L => ways L rows) [(L, 1)] = ways L rows := by
    show 1 * ways L rows + 0 = _
    omega
  rw [e] at h
  exact h
def boxL : List Nat → List (List Nat)
  | [] => [[]]
  | s :: r => (List.range (s + 1)).flatMap fun i => (boxL r).map (i :: ·)
def prod1 : List Nat → Nat
  | [] => 1
  | s :: r => (s + 1) * prod1 r
theorem boxL_len : ∀ S : List Nat, (boxL S).length = prod1 S
  | [] => rfl
  | s :: r => by
    have : ∀ n : Nat, ((List.range n).flatMap fun i => (boxL r).map (i :: ·)).length = n * prod1 r := fun n => by
      induction n with
      | zero => simp
      | succ n ih =>
        rw [List.range_succ, List.flatMap_append, List.length_append, ih]
        have e : (List.flatMap (fun i => (boxL r).map (i :: ·)) [n]).length = prod1 r := by
          rw [List.flatMap_singleton, List.length_map, boxL_len r]
        rw [e, Nat.succ_mul]
    exact this (s + 1)
inductive Box : List Nat → List Nat → Prop
  | nil : Box [] []
  | cons {x s : Nat} {L S : List Nat} (h : x ≤ s) (t : Box L S) : Box (x :: L) (s :: S)
theorem Box.mem : ∀ {L S : List Nat}, Box L S → L ∈ boxL S
  | _, _, .nil => List.mem_singleton.mpr rfl
  | _, _, .cons (x := x) h t => List.mem_flatMap.mpr ⟨x, List.mem_range.mpr (by omega), List.mem_map.mpr ⟨_, t.mem, rfl⟩⟩
theorem Box.refl : ∀ S : List Nat, Box S S
  | [] => .nil
  | _ :: r => .cons (Nat.le_refl _) (Box.refl r)
theorem Box.len : ∀ {L S : List Nat}, Box L S → L.length = S.length
  | _, _, .nil => rfl
  | _, _, .cons _ t => congrArg (· + 1) t.len
theorem Box.le : ∀ {L S : List Nat}, Box L S → ∀ i, L.getD i 0 ≤ S.getD i 0
  | _, _, .nil, i => Nat.le_refl _
  | _, _, .cons h t, 0 => h
  | _, _, .cons h t, i + 1 => t.le i
theorem Box.put : ∀ {L S : List Nat} (t y : Nat), Box L S → y ≤ L.getD t 0 → Box (L.set t y) S
  | _, _, _, _, .nil, _ => .nil
  | _, _, 0, y, .cons h t, e => .cons (Nat.le_trans e h) t
  | _, _, i + 1, y, .cons h t, e => .cons h (t.put i y e)
theorem Box.dec {L S : List Nat} (t : Nat) (h : Box L S) : Box (dec L t) S := h.put t _ (Nat.sub_le _ _)
structure StK (S : List Nat) (B : Nat) (st : List (List Nat × Nat)) : Prop where
  nd : (st.map (·.1)).Nodup
  box : ∀ q ∈ st.map (·.1), Box q S
  low : ∀ q ∈ st, q.2 ≤ B
theorem StK.num {S : List Nat} {B : Nat} {st : List (List Nat × Nat)} (h : StK S B st) : st.length ≤ prod1 S := by
  have := len_le h.nd fun q hq => (h.box q hq).mem
  rwa [List.length_map, boxL_len] at this
theorem StK.nil {S : List Nat} {B : Nat} : StK S B [] := ⟨List.nodup_nil, (fun q h => nomatch h), (fun q h => nomatch h)⟩
theorem StK.set {S : List Nat} {B : Nat} {st : List (List Nat × Nat)} (h : StK S B st) {k : List Nat} {v : Nat} (hk : Box k S) (hv : v ≤ B) : StK S B (setN st k v) where
  nd := nd_setN k v h.nd
  box q hq := (keys_setN k v st q hq).elim (h.box q) fun e => by rw [e]; exact hk
  low := vals_setN (P := (· ≤ B)) k v hv h.low
theorem StK.stepK {S : List Nat} {B m : Nat} (hm : m ≤ B + 1) (m1 : 1 ≤ m) {L : List Nat} {w : Nat} (hL : Box L S) : ∀ (row : List Nat) {acc : List (List Nat × Nat)}, StK S B acc → StK S B (Mt.stepK m acc L w row)
  | [], _, h => h
  | t :: row, acc, h => by
    show StK S B (Mt.stepK m (if 0 < L.getD t 0 then _ else _) L w row)
    by_cases c : 0 < L.getD t 0
    · rw [if_pos c]
      exact StK.stepK hm m1 hL row (h.set (hL.dec t) (by have := Nat.mod_lt (getN acc (Mt.dec L t) + w * L.getD t 0) m1; omega))
    · rw [if_neg c]
      exact StK.stepK hm m1 hL row h
theorem StK.stepKs {S : List Nat} {B m : Nat} (hm : m ≤ B + 1) (m1 : 1 ≤ m) (row : List Nat) : ∀ {st acc : List (List Nat × Nat)}, (∀ q ∈ st, Box q.1 S) → StK S B acc → StK S B (Mt.stepKs m acc row st)
  | [], _, _, h => h
  | q :: st, acc, hs, h => StK.stepKs (st := st) hm m1 row (fun z hz => hs z (List.mem_cons_of_mem _ hz)) (h.stepK hm m1 (hs q List.mem_cons_self) row)
theorem StK.bx {S : List Nat} {B : Nat} {st : List (List Nat × Nat)} (h : StK S B st) : ∀ q ∈ st, Box q.1 S := fun q hq => h.box _ (List.mem_map.mpr ⟨q, hq, rfl⟩)
theorem stK_all {S : List Nat} {B m : Nat} (hm : m ≤ B + 1) (m1 : 1 ≤ m) (b1 : 1 ≤ B) (rows : List (List Nat)) : StK S B (stKm m S rows) := by
  unfold stKm
  have go : ∀ (rows : List (List Nat)) (st : List (List Nat × Nat)), StK S B st → StK S B (rows.foldl (fun st r => Mt.stepKs m [] r st) st) := fun rows => by
    induction rows with
    | nil => exact fun st h => h
    | cons r rs ih => exact fun st h => ih _ (StK.stepKs hm m1 r h.bx .nil)
  refine go rows _ ⟨by show [S].Nodup; simp, fun q hq => ?_, fun q hq => ?_⟩
  · rw [List.mem_singleton.mp hq]
    exact Box.refl S
  · rw [List.mem_singleton.mp hq]
    exact b1
end Mt
set_option maxRecDepth 100000
set_option maxHeartbeats 4000000
namespace Fo
open PySem PySem.Spec PyProof.Rows L2
section
variable {X : Cx}
def tDict1T (tk : TE) (j : Int) : TE := fun σ H Q => ∀ p, H p = none → tk σ (upd H p (.dT [])) fun x H2 => ∃ (b : Addr) (ks : List Key), x = .ref b ∧ H2 p = some (.dT []) ∧ H2 b = some (.tup (ks.map kV)) ∧ Q (.ref p) (upd H2 p (.dT [(ks, .int j)]))
theorem pe_dict1T {k : Expr} {tk : TE} {j : Int} {b : Nat} {p2 pos : Pos} (hu : X.A.units + 1 < cLine) (hk : PE X k tk) : PE X (.Dict [some k] [.Constant (.int j) b p2] pos) (tDict1T tk j) := ⟨fun pins s σ H Q I h => by
  have hf := I.hok.fresh (Nat.le_refl s.heap.objs.size)
  have I1 := I.laid (a := s.heap.objs.size) (o := .dT []) (h' := s.heap.push { cls := .type "dict", data := .dict #[] }) (t' := s.toks) (fun _ _ q => Heap.get?_push_of_some _ q) (Nat.le_refl _) (dt_empty s.heap I.big)
  have rm : (tupleKind (mixKind X.prog X.w)).room X.A := Nat.lt_of_le_of_lt (Nat.le_add_right _ 1) hu
  rw [arm_eval_Dict]
  show wpAny _ _ (do standAt pos; dictDisplay [(some (eval k X.env), do let x ← eval (.Constant (.int j) b p2) X.env; standAt pos; pure x)]) _ _ _
  have e0 := dictDisplay_pairs (pairs := [(eval k X.env, do let x ← eval (.Constant (.int j) b p2) X.env; standAt pos; pure x)]) (by simp) (by simp)
  rw [List.map_cons, List.map_nil] at e0
  rw [e0]
  refine wpAny_bind (wpAny_standAt (wpAny_bind ?_))
  refine wpAny_subDictH (knd := tupleKind (mixKind X.prog X.w)) rm (by simp) ?_
  refine evalPairs_cons (thn (hk.run pins _ σ _ _ I1 (h _ hf)) fun u s1 ⟨x, H1, I2, rx, bb, ks, ex, hp, hb, q⟩ => wpAny_bind (wpAny_Constant_int (wpAny_bind (wpAny_standAt (wpAny_pure (evalPairs_nil ?_))))))
  subst ex
  obtain rfl : u = Value.ref bb := rx
  obtain ⟨z, hd, xs, rel, dd⟩ := dt_of I2.hok hp
  cases rel
  refine ⟨[(ks, bb, _)], ⟨rfl, rfl, key_of I2.hok hb, trivial⟩, dd, fun h' tk hm hs => wpAny_pure ⟨.ref s.heap.objs.size, _, ?_, rfl, q⟩⟩
  obtain ⟨o, es, ep, ho, h2, h3, h4, _, h5⟩ := hm
  have rk : KT H1 (putK [] ks (.int j)) _ := (show KT H1 [] [] from .nil).put ks hb ⟨s1.toks, rfl⟩
  refine d_write (I2.tok _) (by rw [hp]; exact True.intro) hs ⟨o, ho⟩ ⟨by show 1 ≤ sizeLine; decide, hd, _, rk.keeps fun c ys ec => ?_, o, es, ep, ho, h2, h3, h4, h5⟩
  rw [upd_ne (ne_of ec hp (fun z => nomatch z))]
  exact ec⟩
end
end Fo
set_option maxRecDepth 100000
set_option maxHeartbeats 4000000
set_option maxRecDepth 100000
set_option maxHeartbeats 4000000
namespace Fo
open PySem PySem.Spec PyProof.Rows L2
section
variable {P : Program} {w : World} {K : PySem.W.Frag} {mg : Str → Option Value} {base : Heap} {C : Addr}
theorem catA {a b : Addr} {xs ys : List V} {H : Hp} {Q : VK} (ha : SqT K H a xs) (hb : SqT K H b ys) (hz : xs.length + ys.length ≤ 100000) (k : ∀ p H', Same H H' → SqT K H' p (xs ++ ys) → Q (.ref p) H') : rCatA K (.ref a) (.ref b) H Q := by
  refine ⟨a, b, xs, ys, rfl, rfl, ha, hb, small_le hz, fun h => ?_, fun _ h => ?_, fun _ _ p hp => k p _ (same_new hp) (SqT.of upd_same)⟩
  · subst h
    exact k b H (Same.refl H) hb
  · subst h
    exact k a H (Same.refl H) (by rw [List.append_nil]; exact ha)
theorem slA {a : Addr} {xs : List V} {lo hi : Option Int} {H : Hp} {Q : VK} (ha : SqT K H a xs) (k : ∀ p H', Same H H' → SqT K H' p (cutV xs lo hi) → Q (.ref p) H') : rSlA K (.ref a) lo hi H Q := by
  refine ⟨a, xs, rfl, ha, fun hw => k a H (Same.refl H) ?_, fun _ p hp => k p _ (same_new hp) (SqT.of upd_same)⟩
  have e : cutV xs lo hi = xs := by
    unfold cutV
    rw [hw.1, hw.2]
    simp
  rw [e]
  exact ha
theorem cut_to {xs : List V} {n : Nat} (h : n ≤ xs.length) : cutV xs none (some (n : Int)) = xs.take n := by
  unfold cutV
  rw [HT.sIx_none, HT.sIx_nat, show min n xs.length = n by omega]
  rfl
theorem cut_from {xs : List V} {n : Nat} (h : n ≤ xs.length) : cutV xs (some (n : Int)) none = xs.drop n := by
  unfold cutV
  rw [HT.sIx_none, HT.sIx_nat, show min n xs.length = n by omega]
  rw [List.take_of_length_le]
  rw [List.length_drop]
  omega
theorem RowsT.app {H : Hp} : ∀ {vs ws : List V} {rs ss : List (List Int)}, RowsT K H vs rs → RowsT K H ws ss → RowsT K H (vs ++ ws) (rs ++ ss)
  | _, _, _, _, .nil, s => s
  | _, _, _, _, .cons h r, s => .cons h (r.app s)
end
end Fo
set_option maxRecDepth 100000
set_option maxHeartbeats 4000000
namespace Fo
open PySem PySem.Spec PyProof.Rows L2
section
variable {K : PySem.W.Frag} {C : Addr} {t l : Addr} {m : Nat}
def Ng (K : PySem.W.Frag) (C t : Addr) (m : Nat) : Nat → Hp → V → Prop
  | 0, H, x => ∀ H', Gr t H H' → Th K C H' x
  | n + 1, H, x => (∀ H', Gr t H H' → ∃ ty, TyX K H' x ty ∧ (∀ c, ty = .ref c → c = C) ∧ PySem.W.kitOne K ty (.type "tuple") = some false) ∨ ∃ a xs, x = .ref a ∧ SqT K H a xs ∧ xs.length ≤ m ∧ ∀ y ∈ xs, Ng K C t m n H y
theorem Ng.le {m' : Nat} (hm : m ≤ m') : ∀ {n : Nat} {H : Hp} {x : V}, Ng K C t m n H x → Ng K C t m' n H x
  | 0, _, _, h => h
  | n + 1, _, _, h => by
    rcases h with h | ⟨a, xs, e, hs, hl, hy⟩
    · exact .inl h
    · exact .inr ⟨a, xs, e, hs, Nat.le_trans hl hm, fun y hy' => (hy y hy').le hm⟩
theorem th_sqT {H : Hp} {a : Addr} {xs : List V} (h : SqT K H a xs) : Th K C H (.ref a) := ⟨_, tyX_sqT h, fun c e => by cases e⟩
theorem Ng.tup {n : Nat} {H : Hp} {a : Addr} {xs : List V} (T : Tape H t l) (hs : SqT K H a xs) (hl : xs.length ≤ m) (h : ∀ y ∈ xs, Ng K C t m n H y) : Ng K C t m (n + 1) H (.ref a) := .inr ⟨a, xs, rfl, hs, hl, h⟩
theorem Ng.no {H : Hp} {x : V} {s : String} (ty : ∀ H', Gr t H H' → TyX K H' x (.type s)) (hk : kitB s "tuple" = some false) : ∀ n, Ng K C t m n H x
  | 0 => fun H' g => ⟨_, ty H' g, fun c e => by cases e⟩
  | n + 1 => .inl fun H' g => ⟨_, ty H' g, fun c e => (by cases e), kit_ty hk⟩
theorem Ng.int {n : Nat} {H : Hp} {i : Int} : Ng K C t m n H (.int i) := Ng.no (fun _ _ => .base (.int i)) (by decide +kernel) n
theorem Ng.bl {n : Nat} {H : Hp} {i : Bool} : Ng K C t m n H (.bl i) := Ng.no (fun _ _ => .base (.bl i)) (by decide +kernel) n
theorem Ng.str {n : Nat} {H : Hp} {i : Str} : Ng K C t m n H (.str i) := Ng.no (fun _ _ => .base (.str i)) (by decide +kernel) n
theorem Ng.non {n : Nat} {H : Hp} : Ng K C t m n H .non := Ng.no (fun _ _ => .base .non) (by decide +kernel) n
theorem Ng.lst {n : Nat} {H : Hp} {a : Addr} {xs : List V} (h : H a = some (.lst xs)) (ne : a ≠ t) : Ng K C t m n H (.ref a) := Ng.no (fun H' g => .base (.lst (g _ _ ne h))) (by decide +kernel) n
theorem Ng.dK {n : Nat} {H : Hp} {a : Addr} (h : H a = some (.dK [])) (ne : a ≠ t) : Ng K C t m n H (.ref a) := Ng.no (fun H' g => .base (.dK (g _ _ ne h))) (by decide +kernel) n
theorem Ng.row {n : Nat} {H : Hp} {a : Addr} {ns : List Int} (T : Tape H t l) (h : SqT K H a (ns.map V.int)) (hl : ns.length ≤ m) : Ng K C t m n H (.ref a) := by
  cases n with
  | zero => exact fun H' g => th_sqT (gr_T g T h)
  | succ n => exact .inr ⟨a, _, rfl, h, by rw [List.length_map]; exact hl, fun y hy => by
      obtain ⟨i, _, rfl⟩ := List.mem_map.mp hy
      exact .int⟩
/-- tuples within tuples, one or none in each -/
def Tn (K : PySem.W.Frag) : Nat → Hp → V → Prop
  | 0, H, x => ∃ a xs, x = .ref a ∧ SqT K H a xs
  | n + 1, H, x => ∃ a xs, x = .ref a ∧ SqT K H a xs ∧ xs.length ≤ 1 ∧ ∀ y ∈ xs, Tn K n H y
theorem Tn.same : ∀ {n : Nat} {H H' : Hp} {x : V}, Same H H' → Tn K n H x → Tn K n H' x
  | 0, _, _, _, s, ⟨a, xs, e, h⟩ => ⟨a, xs, e, sqT_same s h⟩
  | n + 1, _, _, _, s, ⟨a, xs, e, h, hl, hy⟩ => ⟨a, xs, e, sqT_same s h, hl, fun y q => (hy y q).same s⟩
theorem cut_from' {xs : List V} {n : Nat} : cutV xs (some (n : Int)) none = xs.drop n := by
  by_cases h : n ≤ xs.length
  · exact cut_from h
  · unfold cutV
    rw [HT.sIx_none, HT.sIx_nat, show min n xs.length = xs.length by omega, List.drop_of_length_le (Nat.le_refl _), List.drop_of_length_le (by omega), List.take_nil]
end
end Fo
set_option maxRecDepth 100000
set_option maxHeartbeats 2000000
namespace Fo
open PySem PySem.Spec PyProof.Rows L2
/-- xs + ys where ys is a plain tuple that is not empty -/
theorem catB {K : PySem.W.Frag} {a b : Addr} {xs ys : List V} {H : Hp} {Q : VK} (ha : SqT K H a xs) (hb : H b = some (.tup ys)) (ny : ys ≠ []) (hz : xs.length + ys.length ≤ sizeLine) (k : ∀ p H', Same H H' → H' p = some (.tup (xs ++ ys)) → Q (.ref p) H') : rCatA K (.ref a) (.ref b) H Q :=
  ⟨a, b, xs, ys, rfl, rfl, ha, SqT.of hb, hz, fun e => k b H (Same.refl H) (by rw [e]; exact hb), fun _ e => absurd e ny, fun _ _ p hp => k p _ (same_new hp) upd_same⟩
/-- xs + ys where xs is a plain tuple that is not empty -/
theorem catC {K : PySem.W.Frag} {a b : Addr} {xs ys : List V} {H : Hp} {Q : VK} (ha : H a = some (.tup xs)) (hb : SqT K H b ys) (nx : xs ≠ []) (hz : xs.length + ys.length ≤ sizeLine) (k : ∀ p H', Same H H' → H' p = some (.tup (xs ++ ys)) → Q (.ref p) H') : rCatA K (.ref a) (.ref b) H Q :=
  ⟨a, b, xs, ys, rfl, rfl, SqT.of ha, hb, hz, fun e => absurd e nx, fun _ e => k a H (Same.refl H) (by rw [e, List.append_nil]; exact ha), fun _ _ p hp => k p _ (same_new hp) upd_same⟩
theorem cat3T {K : PySem.W.Frag} {σ : L2.St} {H : Hp} {Q : VK} {a : Addr} {xs : List V} {v u i j : Nat} {Y D : TE} {Pr : V → Hp → Prop} (e1 : σ[v]? = some (some (.ref a))) (e2 : σ[u]? = some (some (.int (i : Nat)))) (hs : SqT K H a xs) (hl : xs.length ≤ 1000) (hi : i ≤ xs.length)
    (hD : ∀ (H2 : Hp) (Q' : VK), Q' (.int (j : Nat)) H2 → D σ H2 Q')
    (hY : ∀ (H1 : Hp) (Q' : VK), Same H H1 → (∀ y H2, Same H1 H2 → Pr y H2 → Q' y H2) → Y σ H1 Q')
    (k : ∀ y H2 p H3, Same H H2 → Pr y H2 → Same H2 H3 → H3 p = some (.tup (xs.take i ++ [y] ++ xs.drop j)) → Q (.ref p) H3) :
    tOp (rCatA K) (tOp (rCatA K) (tSl (rSlA K) (tVar v) tNoPart (tPart (tVar u))) (tTup (tCons Y tNil))) (tSl (rSlA K) (tVar v) (tPart D) tNoPart) σ H Q := by
  have big : 3000 ≤ sizeLine := by rw [sizeLine_eq]; decide
  refine ⟨_, e1, _, e2, _, rfl, slA hs fun d H1 s1 hd => ?_⟩
  rw [cut_to hi] at hd
  refine hY H1 _ s1 fun y H2 s2 hy => ⟨by show 1 ≤ sizeLine; decide, fun o ho => ?_⟩
  have so := same_new (o := .tup [y]) ho
  refine catB (sqT_same (s2.trans so) hd) upd_same (fun z => nomatch z) (by rw [List.length_take]; show _ + 1 ≤ sizeLine; omega) fun p H4 s4 hp => ?_
  refine ⟨_, e1, hD H4 _ ⟨_, rfl, ?_⟩⟩
  delta tNoPart
  have s24 := so.trans s4
  refine slA (sqT_same ((s1.trans s2).trans s24) hs) fun q H5 s5 hq => ?_
  rw [cut_from'] at hq
  refine catC (s5 _ _ hp) hq (by simp) (by rw [List.length_append, List.length_take, List.length_drop]; show _ + 1 + _ ≤ sizeLine; omega) fun r H6 s6 hr => ?_
  exact k y H2 r H6 (s1.trans s2) hy ((s24.trans s5).trans s6) hr
end Fo
set_option maxRecDepth 100000
set_option maxHeartbeats 4000000
namespace Fo
open PySem PySem.Spec PyProof.Rows L2
abbrev s_ways_behind : Stmt := top 24
abbrev n_ways_behind : List Str := ["ways", "row", "modulus", "behind", "left", "many", "thing", "after"]
theorem sc_ways_behind : FnScope n_ways_behind ["ways", "row", "modulus"] (defScope s_ways_behind) := ⟨rfl, rfl, rfl, by decide +kernel, rfl, by decide +kernel, by decide +kernel⟩
/-- numbers as a key -/
def kn (L : List Nat) : List Key := L.map fun (x : Nat) => (.inl ((x : Nat) : Int) : Key)
theorem kn_inj : ∀ (a b : List Nat), kn a = kn b → a = b
  | [], [], _ => rfl
  | [], _ :: _, h => by cases h
  | _ :: _, [], h => by cases h
  | x :: a, y :: b, h => by
    have h1 := (List.cons.inj h).1
    have h2 := (List.cons.inj h).2
    injection h1 with h1
    rw [kn_inj a b h2, Int.ofNat.inj h1]
theorem kn_v (L : List Nat) : (kn L).map kV = L.map nV := by
  unfold kn
  rw [List.map_map]
  rfl
theorem enc_set {κ κ' : Type} [DecidableEq κ] [DecidableEq κ'] {e : κ → κ'} (inj : ∀ a b, e a = e b → a = b) (k : κ) (v : Nat) : ∀ st : List (κ × Nat), (st.map (·.1)).Nodup → putK (encG e st) (e k) (V.int ((v : Nat) : Int)) = encG e (Mt.setN st k v)
  | [], _ => rfl
  | (s, w) :: r, nd => by
    have hn := List.nodup_cons.mp nd
    have ih := enc_set inj k v r hn.2
    show putK ((e s, V.int (w : Int)) :: encG e r) (e k) (V.int ((v : Nat) : Int)) = encG e (if s = k then (s, v) :: r else (s, w) :: Mt.setN r k v)
    by_cases h : s = k
    · rw [if_pos h]
      unfold putK
      rw [if_pos (by rw [List.any_cons, show decide (e s = e k) = true from decide_eq_true (by rw [h]), Bool.true_or])]
      rw [List.map_cons]
      show (if e s = e k then (e s, _) else (e s, V.int (w : Int))) :: _ = (e s, V.int ((v : Nat) : Int)) :: encG e r
      rw [if_pos (by rw [h])]
      congr 1
      refine (List.map_congr_left fun kv hkv => ?_).trans (List.map_id _)
      obtain ⟨q, hq, rfl⟩ := List.mem_map.mp hkv
      show (if e q.1 = e k then _ else _) = _
      rw [if_neg fun z => hn.1 (by rw [h, ← inj _ _ z]; exact List.mem_map.mpr ⟨q, hq, rfl⟩)]
      rfl
    · rw [if_neg h]
      have ne : ¬ e s = e k := fun z => h (inj _ _ z)
      show _ = (e s, V.int (w : Int)) :: encG e (Mt.setN r k v)
      rw [← ih]
      unfold putK
      rw [List.any_cons, show decide (e s = e k) = false from decide_eq_false ne, Bool.false_or]
      by_cases a : ((encG e r).any fun kv => decide (kv.1 = e k)) = true
      · rw [if_pos a, if_pos a, List.map_cons]
        show (if e s = e k then _ else (e s, V.int (w : Int))) :: _ = _
        rw [if_neg ne]
      · rw [if_neg a, if_neg a]
        rfl
/-- all but one place stay -/
theorem Gs.put1 {D : Addr} {H : Hp} {o : HO} : Gs D D H (upd H D o) := fun b u n _ h => by rw [upd_ne n]; exact h
theorem gs1_T {K : PySem.W.Frag} {D : Addr} {H H' : Hp} (g : Gs D D H H') {kvs : List (List Key × V)} (hD : H D = some (.dT kvs)) {a : Addr} {xs : List V} (h : SqT K H a xs) : SqT K H' a xs := by
  have ne : ∀ {o : HO}, H a = some o → (∀ k, o ≠ .dT k) → a ≠ D := fun e n z => by
    rw [z, hD] at e
    exact n _ (Option.some.inj e).symm
  rcases h with (h | ⟨o, h⟩) | h
  · exact .inl (.inl (g _ _ (ne h fun _ z => by cases z) (ne h fun _ z => by cases z) h))
  · exact .inl (.inr ⟨o, g _ _ (ne h fun _ z => by cases z) (ne h fun _ z => by cases z) h⟩)
  · exact .inr h
section
variable {P : Program} {w : World} {K : PySem.W.Frag} {mg : Str → Option Value} {base : Heap} {C : Addr}
def spWaysK (K : PySem.W.Frag) : Sp := fun vs H Q _ => ∃ (D p : Addr) (m B : Nat) (S r : List Nat) (st : List (List Nat × Nat)), vs = [.ref D, .ref p, nV m] ∧ H D = some (.dT (encG kn st)) ∧ SqT K H p (r.map nV) ∧ Mt.StK S B st ∧ Mt.prod1 S ≤ 5000 ∧ S.length ≤ 8 ∧ (∀ s ∈ S, s ≤ 60) ∧ r.length ≤ 8 ∧ (∀ t ∈ r, t < S.length) ∧ m ≤ B + 1 ∧ 1 ≤ m ∧ ∀ E H', Same H H' → H E = none → H' E = some (.dT (encG kn (Mt.stepKs m [] r st))) → Q (.ref E) H'
theorem ok_waysK (A : At K mg "_ways_behind" s_ways_behind ["ways", "row", "modulus"]) (T : Tx mg) : Dfn P w K mg base "_ways_behind" ["ways", "row", "modulus"] 1 (spWaysK K) := by
  refine A.ok sc_ways_behind (fun vs H Q E h => ?_) (fun f cdv A outer s H vs Q E hr h => ?_)
  · obtain ⟨_, _, _, _, _, _, _, rfl, _⟩ := h
    rfl
  · obtain ⟨D, p, m, B, S, r, st, rfl, hD, hp, ky, p5, s8, s60, r8, rS, mB, m1, k⟩ := h
    have stn := ky.num
    refine ⟨_, (pss_cons (ps_set (i := 3) sc_ways_behind.nd rfl (Or.inl rfl) pe_dnewT)
      (pss_cons (ps_lock (ps_for PassesOwn.never rfl (pi_itemsT (pv 0)) (pg_tup rfl (pgs_cons (pg_name (i := 4) sc_ways_behind.nd rfl (Or.inl rfl)) (pgs_cons (pg_name (i := 5) sc_ways_behind.nd rfl (Or.inl rfl)) pgs_nil)))
      (pss_one (ps_for PassesOwn.never rfl (pi_tup (pv 1)) (pg_name (i := 6) sc_ways_behind.nd rfl (Or.inl rfl))
      (pss_one (ps_if (pt_cmpR op_gt (pe_ix ix_tup (pv 4) (pv 6) (fun _ _ => rfl)) pe_int (nomark _)) (pss_cons (ps_set (i := 7) sc_ways_behind.nd rfl (Or.inl rfl) (pe_op op_catA (pe_op op_catA (pe_slice sl_tupA (pv 4) po_none (po_some (pv 6))) (pe_tup (pa_cons (pe_op op_sub (pe_ix ix_tup (pv 4) (pv 6) (fun _ _ => rfl)) pe_int) pa_nil))) (pe_slice sl_tupA (pv 4) (po_some (pe_op op_add (pv 6) pe_int)) po_none)))
      (pss_one (ps_dput (hu_of hr) (pv 3) (pv 7) (pe_op op_mod (pe_op op_add (pe_dget2 (hu_of hr) (pv 3) (pv 7) pe_int ⟨rfl, rfl, rfl, rfl⟩) (pe_op op_mul (pv 5) (pe_ix ix_tup (pv 4) (pv 6) (fun _ _ => rfl)))) (pv 2)) rfl))) pss_nil))))))
      (pss_one (ps_ret (pv 3))))), ?_⟩
    refine fun E0 hE0 => ?_
    have nDE : D ≠ E0 := ne_of_none hD hE0
    obtain ⟨H3, e3⟩ : ∃ H3, H3 = upd H E0 (.dT []) := ⟨_, rfl⟩
    have h3 : H3 D = some (.dT (encG kn st)) := by rw [e3, upd_ne nDE]; exact hD
    have h3E : H3 E0 = some (.dT (encG kn [])) := by rw [e3]; exact upd_same
    have s3 : Same H H3 := by rw [e3]; exact same_new hE0
    rw [← e3]
    refine ⟨D, .dT (encG kn st), h3, True.intro, fun od => ?_⟩
    obtain ⟨H4, e4⟩ : ∃ H4, H4 = upd H3 D (.frz od (.dT (encG kn st))) := ⟨_, rfl⟩
    have h4 : H4 D = some (.frz od (.dT (encG kn st))) := by rw [e4]; exact upd_same
    have h4E : H4 E0 = some (.dT (encG kn [])) := by rw [e4, upd_ne nDE.symm]; exact h3E
    have g4 : Gs D D H H4 := by rw [e4]; exact (Gs.of s3).trans Gs.put1
    rw [← e4]
    refine ⟨_, rfl, D, od, encG kn st, rfl, h4, for_it walk_itemsT (fun i σ' H' => ∃ x4 x5 x6 x7, σ' = [some (.ref D), some (.ref p), some (nV m), some (.ref E0), x4, x5, x6, x7] ∧ H' E0 = some (.dT (encG kn (Mt.stepKs m [] r (st.take i)))) ∧ H' D = some (.frz od (.dT (encG kn st))) ∧ Gs D D H H') ⟨_, _, _, _, rfl, h4E, h4, g4⟩ (fun i σ' H' _ hp => by obtain ⟨_, _, _, _, _, _, h, _⟩ := hp; exact h) ?_ ?_⟩
    · rintro i x σ' H5 H6 il ⟨x4, x5, x6, x7, rfl, h5E, h5D, g5⟩ ⟨T', kk, v, q, hkv, rfl, hT, hq, rfl⟩
      rw [enc_len] at il
      have hg := List.getElem?_eq_getElem il
      obtain ⟨g, eg⟩ : ∃ g, g = st[i] := ⟨_, rfl⟩
      rw [← eg] at hg
      obtain ⟨L, wt⟩ := g
      have hkv2 : some (kn L, nV wt) = some (kk, v) := by
        rw [← hkv]
        unfold encG
        rw [List.getElem?_map, hg]
        rfl
      cases hkv2
      rw [kn_v] at hq
      have Lb : Mt.Box L S := ky.bx (L, wt) (List.mem_of_getElem? hg)
      have wB : wt ≤ B := ky.low (L, wt) (List.mem_of_getElem? hg)
      have sT : Same H5 (upd H5 T' (.tup [.ref q, nV wt])) := same_new hT
      refine ⟨T', _, rfl, SqT.of upd_same, rfl, _, _, rfl, _, _, rfl, rfl, ?_⟩
      obtain ⟨acc, eacc⟩ : ∃ acc, acc = Mt.stepKs m [] r (st.take i) := ⟨_, rfl⟩
      have ack : Mt.StK S B acc := by rw [eacc]; exact Mt.StK.stepKs mB m1 r (fun z hz => ky.bx z (List.mem_of_mem_take hz)) .nil
      rw [← eacc] at h5E
      refine ⟨_, rfl, p, rfl, ⟨_, gs1_T (g5.trans (.of sT)) hD hp⟩, for_tup (K := K) (a := p) (xs := r.map nV) (fun j σ' H' => ∃ x6 x7, σ' = [some (.ref D), some (.ref p), some (nV m), some (.ref E0), some (.ref q), some (nV wt), x6, x7] ∧ H' E0 = some (.dT (encG kn (Mt.stepK m acc L wt (r.take j)))) ∧ H' D = some (.frz od (.dT (encG kn st))) ∧ Gs D D H H' ∧ H' q = some (.tup (L.map nV))) ⟨_, _, rfl, sT _ _ h5E, sT _ _ h5D, g5.trans (.of sT), sT _ _ hq⟩ (fun j σ' H' _ hp' => by obtain ⟨_, _, _, _, _, g, _⟩ := hp'; exact gs1_T g hD hp) ?_ ?_⟩
      · rintro j y σ' H7 hy ⟨x6, x7, rfl, h7E, h7D, g7, hq7⟩
        obtain ⟨t, ht, rfl⟩ : ∃ t, r[j]? = some t ∧ y = nV t := by
          rw [List.getElem?_map] at hy
          cases e : r[j]? with
          | none => rw [e] at hy; cases hy
          | some u => rw [e] at hy; exact ⟨u, rfl, (Option.some.inj hy).symm⟩
        have et : r.take (j + 1) = r.take j ++ [t] := by rw [List.take_add_one, ht]; rfl
        have tS := rS t (List.mem_of_getElem? ht)
        have tL : t < L.length := by rw [Lb.len]; exact tS
        have at0 : atI (L.map nV) (t : Int) = some (nV (L.getD t 0)) := atI_nat (j := t) (by rw [List.getElem?_map, List.getD_eq_getElem?_getD, List.getElem?_eq_getElem tL]; rfl)
        have nqE : q ≠ E0 := ne_of hq7 h7E (by intro z; cases z)
        refine ⟨_, rfl, _, rfl, q, _, _, nV (L.getD t 0), rfl, rfl, SqT.of hq7, at0, ?_⟩
        refine ⟨_, _, rfl, rfl, _, rfl, ?_⟩
        refine ite2 (fun hc => ?_) (fun hc => ?_)
        · have hc : (0 : Int) < ((L.getD t 0 : Nat) : Int) := of_decide_eq_true hc
          have l60 : L.getD t 0 ≤ 60 := by
            refine Nat.le_trans (Lb.le t) ?_
            rw [List.getD_eq_getElem?_getD, List.getElem?_eq_getElem tS]
            exact s60 _ (List.getElem_mem tS)
          have Ll : L.length ≤ 8 := by rw [Lb.len]; exact s8
          refine cat3T (i := t) (j := t + 1) (Pr := fun y _ => y = nV (L.getD t 0 - 1)) rfl rfl (SqT.of hq7) (by rw [List.length_map]; omega) (by rw [List.length_map]; omega) (fun H2 Q' z => ⟨_, rfl, _, _, rfl, rfl, z⟩) (fun H1 Q' s1 z => ?_) fun yv H8 c H9 s8' hy' s9 hc9 => ?_
          · refine ⟨_, rfl, _, rfl, q, _, _, nV (L.getD t 0), rfl, rfl, SqT.of (s1 _ _ hq7), at0, ?_⟩
            refine ⟨_, _, rfl, rfl, z _ H1 (Same.refl H1) ?_⟩
            show V.int (((L.getD t 0 : Nat) : Int) - 1) = V.int (((L.getD t 0 - 1 : Nat)) : Int)
            congr 1
            omega
          · rw [hy'] at hc9
            have ed : (L.map nV).take t ++ [nV (L.getD t 0 - 1)] ++ (L.map nV).drop (t + 1) = (Mt.dec L t).map nV := by
              unfold Mt.dec
              rw [List.set_eq_take_append_cons_drop, if_pos tL, List.map_append, List.map_cons, List.map_take, List.map_drop, List.append_assoc]
              rfl
            rw [ed] at hc9
            have s79 := s8'.trans s9
            have h9E := s79 _ _ h7E
            have hq9 := s79 _ _ hq7
            have hk : H9 c = some (.tup ((kn (Mt.dec L t)).map kV)) := by rw [kn_v]; exact hc9
            obtain ⟨ac2, ea2⟩ : ∃ ac2, ac2 = Mt.stepK m acc L wt (r.take j) := ⟨_, rfl⟩
            have ak2 : Mt.StK S B ac2 := by rw [ea2]; exact ack.stepK mB m1 Lb _
            rw [← ea2] at h9E
            have a2n := ak2.num
            refine ⟨_, rfl, E0, rfl, .inr ⟨_, .of h9E⟩, _, rfl, _, .inr ⟨_, kn (Mt.dec L t), c, .of h9E, rfl, hk, rfl⟩, ?_⟩
            rw [enc_get kn_inj]
            refine ⟨_, rfl, _, rfl, _, rfl, q, _, _, nV (L.getD t 0), rfl, rfl, SqT.of hq9, at0, ?_⟩
            refine ⟨_, _, rfl, rfl, .inr ⟨by omega, by omega⟩, _, _, rfl, rfl, _, rfl, _, _, rfl, rfl, by omega, ?_⟩
            have ev : V.int ((((Mt.getN ac2 (Mt.dec L t) : Nat) : Int) + ((wt : Nat) : Int) * ((L.getD t 0 : Nat) : Int)) % ((m : Nat) : Int)) = V.int (((Mt.getN ac2 (Mt.dec L t) + wt * L.getD t 0) % m : Nat) : Int) := by
              rw [Int.natCast_emod, Int.natCast_add, Int.natCast_mul]
            refine ⟨_, rfl, _, rfl, E0, _, rfl, .inr ⟨_, kn (Mt.dec L t), c, h9E, rfl, hk, by rw [enc_len]; exact small_lt (by omega), rfl⟩, ?_⟩
            refine ⟨_, _, rfl, ?_, ?_, ?_, ?_⟩
            · rw [upd_same, et, Mt.stepK_snoc, if_pos (by omega), ← ea2]
              refine (congrArg (fun v => some (HO.dT (putK (encG kn ac2) (kn (Mt.dec L t)) v))) ev).trans ?_
              exact congrArg (fun z => some (HO.dT z)) (enc_set kn_inj _ _ ac2 ak2.nd)
            · rw [upd_ne nDE]
              exact s79 _ _ h7D
            · exact (g7.trans (.of s79)).mut hE0
            · rw [upd_ne nqE]
              exact hq9
        · refine ⟨_, _, rfl, ?_, h7D, g7, hq7⟩
          rw [et, Mt.stepK_snoc, if_neg (fun z => hc (decide_eq_true (by omega)))]
          exact h7E
      · rintro σ' H7 ⟨x6, x7, rfl, h7E, h7D, g7, hq7⟩
        rw [List.length_map, List.take_length] at h7E
        refine ⟨_, _, _, _, rfl, ?_, h7D, g7⟩
        rw [List.take_add_one, hg]
        show _ = some (HO.dT (encG kn (Mt.stepKs m [] r (st.take i ++ [(L, wt)]))))
        rw [Mt.stepKs_snoc, ← eacc]
        exact h7E
    · rintro σ' H5 ⟨x4, x5, x6, x7, rfl, h5E, h5D, g5⟩
      rw [enc_len, List.take_length] at h5E
      refine ⟨h5D, ?_⟩
      refine ⟨_, rfl, k E0 _ (fun b o h => ?_) hE0 ?_⟩
      · by_cases e : b = D
        · rw [e] at h ⊢
          rw [hD] at h
          cases h
          exact upd_same
        · rw [upd_ne e]
          exact g5 _ _ e e h
      · rw [upd_ne nDE.symm]
        exact h5E
end
end Fo
set_option maxRecDepth 100000
set_option maxHeartbeats 4000000
namespace Fo
open PySem PySem.Spec PyProof.Rows L2
abbrev s_Kinds___init : Stmt := inClass (top 19) 0
abbrev n_Kinds___init : List Str := ["self", "people", "things", "allowed"]
theorem sc_Kinds___init : FnScope n_Kinds___init ["self", "people", "things", "allowed"] (defScope s_Kinds___init) := ⟨rfl, rfl, rfl, by decide +kernel, rfl, by decide +kernel, by decide +kernel⟩
abbrev s_Kinds___eq : Stmt := inClass (top 19) 1
abbrev n_Kinds___eq : List Str := ["self", "other"]
theorem sc_Kinds___eq : FnScope n_Kinds___eq ["self", "other"] (defScope s_Kinds___eq) := ⟨rfl, rfl, rfl, by decide +kernel, rfl, by decide +kernel, by decide +kernel⟩
abbrev s_BadKinds___init : Stmt := inClass (top 5) 0
abbrev n_BadKinds___init : List Str := ["self", "part"]
theorem sc_BadKinds___init : FnScope n_BadKinds___init ["self", "part"] (defScope s_BadKinds___init) := ⟨rfl, rfl, rfl, by decide +kernel, rfl, by decide +kernel, by decide +kernel⟩
/-- the class of kinds -/
structure KC (K : PySem.W.Frag) (C : Addr) : Prop where
  tc : TC K C
  nP : NoAttr K C "people"
  nT : NoAttr K C "things"
  nA : NoAttr K C "allowed"
def kf (a b c : V) : List (Str × V) := putF "allowed" c (putF "things" b (putF "people" a []))
theorem kf_people (a b c : V) : (kf a b c).lookup ("people" : Str) = some a := by
  unfold kf
  rw [lookup_putF, if_neg (by decide +kernel), lookup_putF, if_neg (by decide +kernel), lookup_putF, if_pos rfl]
theorem kf_things (a b c : V) : (kf a b c).lookup ("things" : Str) = some b := by
  unfold kf
  rw [lookup_putF, if_neg (by decide +kernel), lookup_putF, if_pos rfl]
theorem kf_allowed (a b c : V) : (kf a b c).lookup ("allowed" : Str) = some c := by
  unfold kf
  rw [lookup_putF, if_pos rfl]
/-- an object of Kinds with these fields -/
def KindAt (C : Addr) (H : Hp) (x a b c : V) : Prop := ∃ p dx, x = .ref p ∧ H p = some (.ins C dx (kf a b c))
theorem KindAt.same {C : Addr} {H H' : Hp} {x a b c : V} (e : Same H H') (h : KindAt C H x a b c) : KindAt C H' x a b c := by
  obtain ⟨p, dx, rfl, h⟩ := h
  exact ⟨p, dx, rfl, e _ _ h⟩
theorem KindAt.tyx {K : PySem.W.Frag} {C : Addr} (c : TC K C) {H : Hp} {x u v y : V} (h : KindAt C H x u v y) : TyX K H x (.ref C) := by
  obtain ⟨p, dx, rfl, hp⟩ := h
  exact c.ty hp
/-- where nothing is raised, a promise of both ways is one of the plain way -/
theorem fn_calm0 {P : Program} {w : World} {K : PySem.W.Frag} {mg : Str → Option Value} {base : Heap} {k : Nat} {f : Addr} {fd : FuncData} {ps : List Str} {sp : Sp} (F : FnOk P w K mg base (CX P w) k f fd ps sp) : FnOk P w K mg base CX0 k f fd ps (fun vs H Q _ => sp vs H Q E0) :=
  ⟨fun vs H Q E h => F.len _ _ _ _ h, fun A outer s H args us vs Q E hr he hb hv hs => codeAny_mono (F.run A outer s H args us vs Q E0 hr he hb hv hs) fun r s' h => by
    cases r with
    | ok c =>
      cases c with
      | ret u => exact h
      | next => exact h
      | brk => exact h
      | cont => exact h
    | error e =>
      obtain ⟨a, B, H', cls, d, h1, h2, h3, h4, h5, h6, h7, h8⟩ := h
      exact h8.elim⟩
section
variable {P : Program} {w : World} {K : PySem.W.Frag} {mg : Str → Option Value} {base : Heap}
theorem fld_BadKinds {f D : Addr} {fd : FuncData} (F : Fun K "__init__" "BadKinds.__init__" s_BadKinds___init f fd) (X : OexC K D) (nM : PySem.W.findIn K (.ref D) "part" = some none) : FnOk P w K mg base CX0 1 f fd ["self", "part"] (spFld1 D "part") := by
  refine F.ok sc_BadKinds___init (fun vs H Q E h => ?_) (fun cdv A outer s H vs Q E hr h => ?_)
  · obtain ⟨a, u, rfl, _⟩ := h
    rfl
  · obtain ⟨a, u, rfl, ha, k⟩ := h
    refine ⟨_, pss_one (ps_ost (pv 0) (pv 1)), ?_⟩
    refine ⟨_, rfl, _, rfl, a, D, rfl, X, nM, .inl ⟨ha, fun d hd hne => ?_⟩⟩
    refine k d _ (fun b o n e => ?_) hd hne upd_same (Eq.trans (upd_ne hne) upd_same)
    have nbd : b ≠ d := ne_of_none e hd
    rw [upd_ne n, upd_ne nbd]
    exact e
end
section
variable {P : Program} {w : World} {K : PySem.W.Frag} {mg : Str → Option Value} {base : Heap} {C D_BadKinds : Addr}
def spInitK (K : PySem.W.Frag) (C D : Addr) : Sp := fun vs H Q E => ∃ (p dx : Addr) (x y v : V) (ox oy : Option (List V)) (oo : Option (List (Option (List V)))), vs = [.ref p, x, y, v] ∧ H p = some (.ins C dx []) ∧ Tg K C H x ox ∧ Tg K C H y oy ∧ Tgg K C H v oo ∧
  (dueK ox oy oo = none → ∀ H' : Hp, (∀ b o, b ≠ p → H b = some o → H' b = some o) → H' p = some (.ins C dx (kf x y v)) → Q .non H') ∧ ∀ u, dueK ox oy oo = some u → ∀ d H', Same H H' → H d = none → H' d = some (.xd [("part", .str u)]) → E (.ref D) (some d) H'
theorem ok_initK {f : Addr} {fd : FuncData} (F : Fun K "__init__" "Kinds.__init__" s_Kinds___init f fd) (T : Tx mg) (kc : KC K C) (G_check_kinds : DfnX P w K mg base "_check_kinds" ["people", "things", "allowed"] 5 (spCheckK K C D_BadKinds)) : FnOk P w K mg base (CX P w) 6 f fd ["self", "people", "things", "allowed"] (spInitK K C D_BadKinds) := by
  refine F.okX sc_Kinds___init (fun vs H Q E h => ?_) (fun cdv A outer s H vs Q E hr h => ?_)
  · obtain ⟨_, _, _, _, _, _, _, _, rfl, _⟩ := h
    rfl
  · obtain ⟨p, dx, x, y, v, ox, oy, oo, rfl, hp, hx, hy, hv, k1, k2⟩ := h
    refine ⟨_, (pss_cons (ps_expr (pe_dX G_check_kinds (hr.mono (by decide)) (fun pins σ H s e s' I h => passAt (takes_of rfl rfl rfl rfl) σ pins H s e s' I h) (pa_cons (pv 1) (pa_cons (pv 2) (pa_cons (pv 3) pa_nil)))))
      (pss_cons (ps_fld (pv 0) (pv 1) rfl)
      (pss_cons (ps_fld (pv 0) (pv 2) rfl)
      (pss_one (ps_fld (pv 0) (pv 3) rfl))))), ?_⟩
    refine ⟨_, rfl, _, rfl, _, rfl, x, y, v, ox, oy, oo, rfl, hx, hy, hv, fun h0 H1 s1 => ?_, fun u hu d H' s1 hd h1 => k2 u hu d H' s1 hd h1⟩
    have hp1 := s1 _ _ hp
    refine ⟨_, rfl, _, rfl, p, C, dx, [], rfl, hp1, kc.tc.cl, kc.nP, by decide, ?_⟩
    refine ⟨_, rfl, _, rfl, p, C, dx, _, rfl, upd_same, kc.tc.cl, kc.nT, by show 1 < 1000; decide, ?_⟩
    refine ⟨_, rfl, _, rfl, p, C, dx, _, rfl, upd_same, kc.tc.cl, kc.nA, by show 2 < 1000; decide, ?_⟩
    refine k1 h0 _ (fun b o n e => ?_) ?_
    · rw [upd_ne n, upd_ne n, upd_ne n]
      exact s1 _ _ e
    · rw [upd_same]
      rfl
/-- what is compared with kinds: other kinds with these data, or a thing of another class -/
def OthK (K : PySem.W.Frag) (C : Addr) (H : Hp) (y : V) : Option (PyData × PyData × PyData) → Prop
  | some (a, b, c) => ∃ u v z, KindAt C H y u v z ∧ Dp K H u a ∧ Dp K H v b ∧ Dp K H z c ∧ SeqAt.shaped a = true ∧ SeqAt.shaped b = true ∧ SeqAt.shaped c = true
  | none => ∃ t, TyX K H y t ∧ PySem.W.kitOne K t (.ref C) = some false
def eqK (a b c : PyData) : Option (PyData × PyData × PyData) → Bool
  | some (a', b', c') => PyData.eqv a a' && (PyData.eqv b b' && PyData.eqv c c')
  | none => false
def spEqK (K : PySem.W.Frag) (C : Addr) : Sp := fun vs H Q _ => ∃ (x y : V) (a b c : PyData) (o : Option (PyData × PyData × PyData)), vs = [x, y] ∧ OthK K C H x (some (a, b, c)) ∧ OthK K C H y o ∧ ∀ H', Same H H' → Q (.bl (eqK a b c o)) H'
theorem ok_eqK {f : Addr} {fd : FuncData} (F : Fun K "__eq__" "Kinds.__eq__" s_Kinds___eq f fd) (T : Tx mg) (kc : KC K C) (hKi : mg "Kinds" = some (.ref C)) : FnOk P w K mg base CX0 1 f fd ["self", "other"] (spEqK K C) := by
  refine F.ok sc_Kinds___eq (fun vs H Q E h => ?_) (fun cdv A outer s H vs Q E hr h => ?_)
  · obtain ⟨_, _, _, _, _, _, rfl, _⟩ := h
    rfl
  · obtain ⟨x, y, a, b, c, o, rfl, hx, hy, k⟩ := h
    refine ⟨_, (pss_cons (ps_if (pt_not (pt_val (pe_callB call_isi (by rfl) T.isinstance (by decide +kernel) (pa_cons (pv 1) (pa_cons (pe_glob (v := V.ref C) (by rfl) hKi rfl) pa_nil))))) (pss_one (ps_ret pe_bl)) pss_nil)
      (pss_one (ps_ret (pe_and (pe_cmpR (op_eqD hr.units) (pe_fld (pv 0) rfl) (pe_fld (pv 1) rfl) (nomark _)) (pe_and (pe_cmpR (op_eqD hr.units) (pe_fld (pv 0) rfl) (pe_fld (pv 1) rfl) (nomark _)) (pe_one (pe_cmpR (op_eqD hr.units) (pe_fld (pv 0) rfl) (pe_fld (pv 1) rfl) (nomark _)))))))), ?_⟩
    have k := k H (Same.refl H)
    obtain ⟨u, v, z, hk, da, db, dc, sa, sb, sc⟩ := hx
    obtain ⟨p, dx, rfl, hp⟩ := hk
    cases o with
    | none =>
      obtain ⟨t, ty, hk⟩ := hy
      exact ⟨_, rfl, y, .ref C, t, .ref C, false, rfl, .own C, ty, hk, false, rfl, k⟩
    | some q =>
      obtain ⟨a', b', c'⟩ := q
      obtain ⟨u', v', z', hk', da', db', dc', sa', sb', sc'⟩ := hy
      have ty := hk'.tyx kc.tc
      obtain ⟨p', dx', rfl, hp'⟩ := hk'
      have k : Q (.bl (PyData.eqv a a' && (PyData.eqv b b' && PyData.eqv c c'))) H := k
      refine ⟨_, rfl, _, .ref C, .ref C, .ref C, true, rfl, .own C, ty, by simp [PySem.W.kitOne], true, rfl, ?_⟩
      refine ⟨_, rfl, p, C, dx, _, u, rfl, hp, kc.tc.cl, kc.nP, kf_people _ _ _, _, rfl, p', C, dx', _, u', rfl, hp', kc.tc.cl, kc.nP, kf_people _ _ _, a, a', da, da', sa, sa', ?_⟩
      refine ⟨_, rfl, ?_⟩
      refine ite2 (fun h1 => ?_) (fun h1 => ?_)
      · rw [h1, Bool.true_and] at k
        refine ⟨_, rfl, p, C, dx, _, v, rfl, hp, kc.tc.cl, kc.nT, kf_things _ _ _, _, rfl, p', C, dx', _, v', rfl, hp', kc.tc.cl, kc.nT, kf_things _ _ _, b, b', db, db', sb, sb', ?_⟩
        refine ⟨_, rfl, ?_⟩
        refine ite2 (fun h2 => ?_) (fun h2 => ?_)
        · rw [h2, Bool.true_and] at k
          exact ⟨_, rfl, p, C, dx, _, z, rfl, hp, kc.tc.cl, kc.nA, kf_allowed _ _ _, _, rfl, p', C, dx', _, z', rfl, hp', kc.tc.cl, kc.nA, kf_allowed _ _ _, c, c', dc, dc', sc, sc', k⟩
        · rw [Bool.eq_false_iff.mpr h2, Bool.false_and] at k
          exact k
      · rw [Bool.eq_false_iff.mpr h1, Bool.false_and] at k
        exact k
/-- the class of kinds, ready to be called and compared -/
structure MkK (P : Program) (w : World) (K : PySem.W.Frag) (mg : Str → Option Value) (base : Heap) (C D : Addr) : Prop where
  mgC : mg "Kinds" = some (.ref C)
  kc : KC K C
  ini : ∃ f fd, Mk K C f ∧ FnOk P w K mg base (CX P w) 6 f fd ["self", "people", "things", "allowed"] (spInitK K C D) ∧ Binds K fd ["self", "people", "things", "allowed"] []
  eqm : ∃ f fd, FnOk P w K mg base CX0 1 f fd ["self", "other"] (spEqK K C) ∧ Binds K fd ["self", "other"] [] ∧ PySem.W.findIn K (.ref C) "__eq__" = some (some (.ref f)) ∧ PySem.W.isFn K (.ref f) = true
/-- kinds that are made of three things -/
def tKinds (K : PySem.W.Frag) (C : Addr) (t1 t2 t3 : TE) : TE := fun σ H Q => t1 σ H fun x H1 => t2 σ H1 fun y H2 => t3 σ H2 fun v H3 => ∃ (ox oy : Option (List V)) (oo : Option (List (Option (List V)))), Tg K C H3 x ox ∧ Tg K C H3 y oy ∧ Tgg K C H3 v oo ∧ dueK ox oy oo = none ∧ ∀ p dx H', Same H3 H' → H3 p = none → H' p = some (.ins C dx (kf x y v)) → Q (.ref p) H'
theorem pe_makeKinds {X : Cx} {D : Addr} {e1 e2 e3 : Expr} {t1 t2 t3 : TE} {p pos : Pos} (G : MkK X.prog X.w X.K X.mg X.base C D) (hr : Room 7 X.A) (h1 : PE X e1 t1) (h2 : PE X e2 t2) (h3 : PE X e3 t3) (hg : Gl X "Kinds" := by rfl)
    (he : starEach [e1, e2, e3] X.env = (false, eval e1 X.env) :: starEach [e2, e3] X.env := by rfl) (he2 : starEach [e2, e3] X.env = (false, eval e2 X.env) :: starEach [e3] X.env := by rfl) (he3 : starEach [e3] X.env = (false, eval e3 X.env) :: starEach [] X.env := by rfl) (hpl : (backTo pos (starEach [e2, e3] X.env)).any (·.1) = false := by rfl) : PE X (.Call (.Name "Kinds" p) [e1, e2, e3] [] pos) (tKinds X.K C t1 t2 t3) := by
  obtain ⟨f, fd, M, F, b⟩ := G.ini
  have base := pe_make (X := X) (x := "Kinds") (p := p) (pos := pos) M (fn_calm0 F) hr hg G.mgC b .nil (pass0 (X := X)) (pa_cons (pe_up h1) (pa_cons (pe_up h2) (pa_cons (pe_up h3) pa_nil he3) he2) he) (by decide) he hpl
  refine PE.imp base fun σ H Q h => ⟨_, h, fun x H1 g1 => ⟨_, g1, fun y H2 g2 => ⟨_, g2, fun v H3 g3 q dx nq ndx ne => ?_⟩⟩⟩
  obtain ⟨ox, oy, oo, hx, hy, hv, h0, k⟩ := g3
  have s1 : Same H3 (upd (upd H3 dx (.own q)) q (.ins C dx [])) := (same_new ndx).trans (same_new (by rw [upd_ne ne.symm]; exact nq))
  refine ⟨q, dx, x, y, v, ox, oy, oo, rfl, upd_same, hx.same s1, hy.same s1, hv.same s1, fun _ H' k1 k2 => ⟨rfl, k q dx H' (fun b o e => ?_) nq k2⟩, fun u hu => by rw [h0] at hu; cases hu⟩
  have nb : b ≠ q := ne_of_none e nq
  exact k1 _ _ nb (s1 _ _ e)
end
end Fo
set_option maxRecDepth 100000
set_option maxHeartbeats 4000000
namespace Fo
open PySem PySem.Spec PyProof.Rows L2 LamX
abbrev s_TooMany___init : Stmt := inClass (top 4) 0
abbrev n_TooMany___init : List Str := ["self", "most"]
theorem sc_TooMany___init : FnScope n_TooMany___init ["self", "most"] (defScope s_TooMany___init) := ⟨rfl, rfl, rfl, by decide +kernel, rfl, by decide +kernel, by decide +kernel⟩
section
variable {P : Program} {w : World} {K : PySem.W.Frag} {mg : Str → Option Value} {base : Heap} {C D_TooMany : Addr}
theorem ok_tminit {f D : Addr} {fd : FuncData} (F : Fun K "__init__" "TooMany.__init__" s_TooMany___init f fd) (X : OexC K D) (nM : PySem.W.findIn K (.ref D) "most" = some none) : FnOk P w K mg base CX0 1 f fd ["self", "most"] (spFld1 D "most") := by
  refine F.ok sc_TooMany___init (fun vs H Q E h => ?_) (fun cdv A outer s H vs Q E hr h => ?_)
  · obtain ⟨a, u, rfl, _⟩ := h
    rfl
  · obtain ⟨a, u, rfl, ha, k⟩ := h
    refine ⟨_, pss_one (ps_ost (pv 0) (pv 1)), ?_⟩
    refine ⟨_, rfl, _, rfl, a, D, rfl, X, nM, .inl ⟨ha, fun d hd hne => ?_⟩⟩
    refine k d _ (fun b o n e => ?_) hd hne upd_same (Eq.trans (upd_ne hne) upd_same)
    have nbd : b ≠ d := ne_of_none e hd
    rw [upd_ne n, upd_ne nbd]
    exact e
end
end Fo
set_option maxRecDepth 100000
set_option maxHeartbeats 2000000
namespace Fo
open PySem PySem.Spec PyProof.Rows L2
section
variable {X : Cx} {pins : List (Addr × Obj)} {σ : L2.St} {H : Hp} {s : Shared} {d : Addr}
theorem dT_raw {kvs : List (List Key × V)} (I : Inv X pins σ H s) (h : H d = some (.dT kvs)) :
    kvs.length ≤ sizeLine ∧ (d == sysModules) = false ∧ ∃ (es : Array DictEntry) (ep : Nat), s.heap.DictRaw d es ep ∧ es.size = kvs.length ∧
      ∀ (i : Nat) (k : List Key) (v : V), kvs[i]? = some (k, v) → ∃ (en : DictEntry), es[i]? = some en ∧ RelV v en.val := by
  obtain ⟨z, hs, xs, pr, o', es, ep, ho, hx, hdt, he, _⟩ := I.hok d _ h
  refine ⟨z, hs, es, ep, ⟨o', ho, hx, hdt⟩, ?_, fun i k v e => ?_⟩
  · have l1 : es.size = xs.length := size_of_entries he
    have l2 : kvs.length = xs.length := Paired.length pr
    omega
  · obtain ⟨b, hb, e1, e2, e3⟩ := paired_get pr e
    have q := entry_at he i
    rw [hb] at q
    exact ⟨_, q, e3⟩
end
section
variable {X : Cx}
def rValsT : V → Hp → VK → Prop := fun x H Q => ∃ (d : Addr) (kvs : List (List Key × V)), x = .ref d ∧ H d = some (.dT kvs) ∧ ∀ v, H v = none → Q (.ref v) (upd H v (ValsO v d))
def tValsT (td : TE) : TE := fun σ H Q => td σ H fun x H1 => rValsT x H1 Q
theorem pe_valuesT {e : Expr} {td : TE} {apos cpos : Pos} (he : PE X e td) (hbase : attributeBase e "values" X.env (eval e X.env) = eval e X.env := by rfl) (hline : (apos.endLine == cpos.line) = true := by rfl) : PE X (.Call (.Attribute e "values" apos) [] [] cpos) (tValsT td) := by
  refine ⟨fun pins s σ H Q I h => ?_⟩
  refine wpAny_Call_method (T := "dict") (id := "dict.values") hbase rfl hline PySem.F.plainAttrs_dict PySem.F.slot_dict_values PySem.F.type_dict_values (thn (he.run pins s σ H _ I h) fun u s1 ⟨x, H1, I1, rx, d, kvs, ex, hd, q⟩ => ?_)
  subst ex
  obtain rfl : u = Value.ref d := rx
  obtain ⟨z, hs, es, ep, raw, hsz, ent⟩ := dT_raw I1 hd
  have nd : ∀ a, Value.ref d = Value.ref a → ∃ ob, s1.heap.get? a = some ob ∧ ob.dict = none := fun a ea => by
    cases ea
    obtain ⟨o, ho, hc, _⟩ := raw
    exact ⟨o, ho, hc.2.1⟩
  refine ⟨raw.typeIs, nd, ?_⟩
  have hf := I1.hok.fresh (Nat.le_refl s1.heap.objs.size)
  have hget : (s1.heap.push { cls := .type "dict_values", data := .fields #[.ref d] }).get? s1.heap.objs.size = some ({ cls := .type "dict_values", data := .fields #[.ref d] } : Obj) := Heap.get?_push_size _ rfl
  have I2 : Inv X pins σ (upd H1 s1.heap.objs.size (ValsO s1.heap.objs.size d)) { s1 with heap := s1.heap.push { cls := .type "dict_values", data := .fields #[.ref d] } } :=
    I1.laid (t' := s1.toks) (fun b ob q => Heap.get?_push_of_some _ q) (Nat.le_refl _) ⟨hget, ⟨_, hget⟩, fun h1 h2 a k => k _ a⟩
  show wpAny _ _ (callWith cpos (.builtin "dict.values") [.ref d] [] []) _ X.xe s1
  exact method_meetsIn PySem.F.slot_dict_values PySem.F.entry_dict_values rfl (PySem.evalArgs_none ⟨rfl, raw.typeIs, PySem.F.args_dict_values_1 _, _, PySem.meets_dict_values_raw d hs, ⟨⟨es, ep, raw⟩, ⟨.ref s1.heap.objs.size, _, I2, rfl, q _ hf⟩⟩⟩)
def rListValsT : List V → Hp → VK → Prop := fun xs H Q => ∃ (v d : Addr) (kvs : List (List Key × V)), xs = [.ref v] ∧ H v = some (ValsO v d) ∧ H d = some (.dT kvs) ∧ ∀ p, H p = none → Q (.ref p) (upd H p (.lst (kvs.map fun q => q.2)))
theorem call_list_valsT (hc : X.calm = true) : CallR X (.type "list") rListValsT := by
  intro pins s σ H xs us Q I r h
  obtain ⟨v, d, kvs, rfl, hv, hd, q⟩ := h
  obtain ⟨u, rfl, rx⟩ := r.one
  obtain rfl : u = Value.ref v := rx
  have hv' : s.heap.get? v = some ({ cls := .type "dict_values", data := .fields #[.ref d] } : Obj) := (show ObjOk X.prog X.w H s.heap v (.ext fun h => h.get? v = some ({ cls := .type "dict_values", data := .fields #[.ref d] } : Obj)) from I.hok v _ hv).1
  obtain ⟨z, hs, es, ep, hr, hsz, hent⟩ := dT_raw I hd
  have hview : s.heap.IsValuesView v d := ⟨_, hv', rfl, rfl⟩
  refine PySem.W.kdl_call (PySem.KdlSrc.rawValues (prog := X.prog) (w := X.w) (r := v) (d := d) (es := es) (ep := ep)) (I.ok.hd hc) ⟨hview, hr⟩ (by omega) fun h' tk acc' c' kp e it => ?_
  have hl : acc'.toList.length = kvs.length := by rw [Array.length_toList, it.1]; omega
  have rv : Vals (kvs.map fun q => q.2) acc'.toList := by
    refine vals_get (by rw [List.length_map, hl]) fun j x u hx hu => ?_
    rw [List.getElem?_map] at hx
    cases hk : kvs[j]? with
    | none => rw [hk] at hx; cases hx
    | some p =>
      rw [hk] at hx
      cases hx
      obtain ⟨k0, v0⟩ := p
      obtain ⟨en, hen, ru0⟩ := hent j k0 v0 hk
      obtain ⟨hi, hv0⟩ := it.2 j u (by rw [← Array.getElem?_toList]; exact hu)
      obtain ⟨_, een⟩ := Array.getElem?_eq_some_iff.mp hen
      rw [hv0, een]
      exact ru0
  refine ⟨.ref s.heap.objs.size, _, I.laid (t' := tk) (o := .lst (kvs.map fun q => q.2)) kp (Nat.le_refl _) ⟨by rw [List.length_map]; exact z, acc'.toList, c', rv, by rw [Array.toArray_toList]; exact e⟩, rfl, q _ (I.hok.fresh (Nat.le_refl _))⟩
end
end Fo
set_option maxRecDepth 100000
set_option maxHeartbeats 4000000
namespace Fo
open PySem PySem.Spec PyProof.Rows L2
abbrev s_check_modulus : Stmt := top 23
abbrev n_check_modulus : List Str := ["modulus"]
theorem sc_check_modulus : FnScope n_check_modulus ["modulus"] (defScope s_check_modulus) := ⟨rfl, rfl, rfl, by decide +kernel, rfl, by decide +kernel, by decide +kernel⟩
abbrev s_kinds_many : Stmt := top 22
abbrev n_kinds_many : List Str := ["kinds", "modulus", "states", "size", "ways", "kind", "_"]
theorem sc_kinds_many : FnScope n_kinds_many ["kinds", "modulus"] (defScope s_kinds_many) := ⟨rfl, rfl, rfl, by decide +kernel, rfl, by decide +kernel, by decide +kernel⟩
abbrev s_NoNumber___init : Stmt := inClass (top 3) 0
abbrev n_NoNumber___init : List Str := ["self"]
theorem sc_NoNumber___init : FnScope n_NoNumber___init ["self"] (defScope s_NoNumber___init) := ⟨rfl, rfl, rfl, by decide +kernel, rfl, by decide +kernel, by decide +kernel⟩
theorem pass_NoNumber {P : Program} {w : World} {K : PySem.W.Frag} {mg : Str → Option Value} {base : Heap} {f : Addr} {fd : FuncData} (F : Fun K "__init__" "NoNumber.__init__" s_NoNumber___init f fd) : FnOk P w K mg base CX0 1 f fd ["self"] spPass := by
  refine F.ok sc_NoNumber___init (fun vs H Q E h => ?_) (fun cdv A outer s H vs Q E hr h => ?_)
  · obtain ⟨a, rfl, _⟩ := h
    rfl
  · obtain ⟨a, rfl, k⟩ := h
    exact ⟨_, pss_one ps_pass, k⟩
/-- the kinds that each person may get, person by person -/
def pplK : List Nat → List (List Nat) → List (List Nat)
  | n :: ns, r :: rows => List.replicate n r ++ pplK ns rows
  | _, _ => []
theorem pplK_snoc : ∀ {ns : List Nat} {rows : List (List Nat)} {i n : Nat} {r : List Nat}, ns[i]? = some n → rows[i]? = some r → pplK (ns.take (i + 1)) (rows.take (i + 1)) = pplK (ns.take i) (rows.take i) ++ List.replicate n r
  | [], _, _, _, _, h, _ => by simp at h
  | _ :: _, [], _, _, _, _, h => by simp at h
  | n :: ns, r :: rows, 0, _, _, h1, h2 => by
    cases Option.some.inj h1
    cases Option.some.inj h2
    show List.replicate n r ++ pplK (ns.take 0) (rows.take 0) = [] ++ List.replicate n r
    rw [List.take_zero, List.take_zero]
    show List.replicate n r ++ [] = [] ++ List.replicate n r
    rw [List.append_nil, List.nil_append]
  | n :: ns, r :: rows, i + 1, _, _, h1, h2 => by
    have ih := pplK_snoc (ns := ns) (rows := rows) (i := i) h1 h2
    show List.replicate n r ++ pplK (ns.take (i + 1)) (rows.take (i + 1)) = (List.replicate n r ++ pplK (ns.take i) (rows.take i)) ++ _
    rw [ih, List.append_assoc]
theorem prod_snoc : ∀ {l : List Nat} {x : Nat}, Mt.prod1 (l ++ [x]) = Mt.prod1 l * (x + 1)
  | [], x => by
    show (x + 1) * 1 = 1 * (x + 1)
    omega
  | y :: l, x => by
    show (y + 1) * Mt.prod1 (l ++ [x]) = (y + 1) * Mt.prod1 l * (x + 1)
    rw [prod_snoc, Nat.mul_assoc]
theorem mem_le_sum : ∀ {l : List Nat} {x : Nat}, x ∈ l → x ≤ l.sum
  | y :: l, x, h => by
    rw [List.sum_cons]
    rcases List.mem_cons.mp h with e | e
    · omega
    · have := mem_le_sum e
      omega
theorem sum_nI (l : List Nat) : (l.map fun (x : Nat) => (x : Int)).sum = ((l.sum : Nat) : Int) := by
  induction l with
  | nil => rfl
  | cons x l ih =>
    rw [List.map_cons, List.sum_cons, List.sum_cons, ih]
    omega
def rowsN (rows : List (List Nat)) : List (List Int) := rows.map fun r => r.map fun (t : Nat) => (t : Int)
theorem nV_map (l : List Nat) : (l.map fun (x : Nat) => (x : Int)).map V.int = l.map nV := by rw [List.map_map]; rfl
/-- kinds with these numbers -/
structure KK (K : PySem.W.Frag) (C : Addr) (H : Hp) (x : V) (ns ms : List Nat) (rows : List (List Nat)) : Prop where
  at_ : ∃ pa pb pc vs, KindAt C H x (.ref pa) (.ref pb) (.ref pc) ∧ SqT K H pa (ns.map nV) ∧ H pb = some (.tup (ms.map nV)) ∧ SqT K H pc vs ∧ RowsT K H vs (rowsN rows)
  n8 : ns.length ≤ 8
  m8 : ms.length ≤ 8
  rl : rows.length = ns.length
  rng : ∀ r ∈ rows, ∀ t ∈ r, t < ms.length
  r8 : ∀ r ∈ rows, r.length ≤ 8
  sums : ns.sum = ms.sum
theorem KK.same {K : PySem.W.Frag} {C : Addr} {H H' : Hp} {x : V} {ns ms : List Nat} {rows : List (List Nat)} (h : KK K C H x ns ms rows) (e : Same H H') : KK K C H' x ns ms rows := by
  obtain ⟨⟨pa, pb, pc, vs, h1, h2, h3, h4, h5⟩, a, b, c, d, f, g⟩ := h
  exact ⟨⟨pa, pb, pc, vs, h1.same e, sqT_same e h2, e _ _ h3, sqT_same e h4, h5.same e⟩, a, b, c, d, f, g⟩
section
variable {P : Program} {w : World} {K : PySem.W.Frag} {mg : Str → Option Value} {base : Heap} {C D_NoNumber D_TooMany : Addr}
def spModX (K : PySem.W.Frag) (C D : Addr) : Sp := fun vs H Q E => ∃ y, vs = [y] ∧ Th K C H y ∧ (cntV 1 y = true → ∀ H', Same H H' → Q .non H') ∧ (cntV 1 y = false → ∀ H', Same H H' → E (.ref D) none H')
theorem ok_modX {tk : Tok} (A : At K mg "_check_modulus" s_check_modulus ["modulus"]) (hMM : mg "MOST_MODULUS" = some (.int 1000000000000000000000000000000 tk)) (er_NoNumber : Er0 P w K mg base "NoNumber" D_NoNumber) (G_is_integer : Dfn P w K mg base "is_integer" ["thing"] 1 (spInteger K C)) : DfnX P w K mg base "_check_modulus" ["modulus"] 3 (spModX K C D_NoNumber) := by
  refine A.okX sc_check_modulus (fun vs H Q E h => ?_) (fun f cdv A outer s H vs Q E hr h => ?_)
  · obtain ⟨_, rfl, _⟩ := h
    rfl
  · obtain ⟨y, rfl, hy, k1, k2⟩ := h
    refine ⟨_, (pss_one (ps_if (PW.pt (pw_or (pt_not (pt_val (pe_d G_is_integer (hr.mono (by decide)) (pa_cons (pv 0) pa_nil)))) (pw_or1 (pt_not (pt_chain op_le op_le pe_int (pv 0) (pe_glob (v := V.int 1000000000000000000000000000000) (by rfl) hMM ⟨_, rfl⟩)))))) (pss_one (ps_raise rfl (takes_of rfl rfl rfl rfl) (pmk_er0 er_NoNumber (hr.mono (by decide)) rfl))) pss_nil)), ?_⟩
    refine ⟨_, rfl, y, rfl, hy, _, rfl, ?_⟩
    cases y with
    | int i =>
      have e : cntV 1 (.int i) = (decide (1 ≤ i) && decide (i ≤ mostK)) := rfl
      refine ite2 (fun n => by cases n) (fun _ => ?_)
      refine ⟨_, rfl, 1, i, rfl, rfl, _, rfl, ?_⟩
      by_cases c : 1 ≤ i
      · rw [decide_eq_true c] at e ⊢
        refine ⟨i, 1000000000000000000000000000000, rfl, rfl, _, rfl, ?_⟩
        by_cases c2 : i ≤ 1000000000000000000000000000000
        · rw [decide_eq_true c2]
          exact k1 (by rw [e, decide_eq_true (show i ≤ mostK from c2)]; rfl) H (Same.refl H)
        · rw [decide_eq_false c2]
          exact k2 (by rw [e, decide_eq_false (show ¬ i ≤ mostK from c2)]; rfl) H (Same.refl H)
      · rw [decide_eq_false c] at e ⊢
        refine ite2 (fun n => by cases n) (fun _ => ?_)
        exact ⟨_, rfl, k2 (by rw [e]; rfl) H (Same.refl H)⟩
    | _ => exact k2 rfl H (Same.refl H)
def spManyX (K : PySem.W.Frag) (C DN DT : Addr) : Sp := fun vs H Q E => ∃ (x y : V) (ns ms : List Nat) (rows : List (List Nat)), vs = [x, y] ∧ KK K C H x ns ms rows ∧ Th K C H y ∧
  ((cntV 1 y = false ∧ ∀ H', Same H H' → E (.ref DN) none H') ∨ ∃ m : Nat, y = nV m ∧ cntV 1 y = true ∧ ((60 < ns.sum ∧ ∀ d H', Same H H' → H d = none → H' d = some (.xd [("most", .int 60)]) → E (.ref DT) (some d) H') ∨ (ns.sum ≤ 60 ∧ 5000 < Mt.prod1 ms ∧ ∀ d H', Same H H' → H d = none → H' d = some (.xd [("most", .int 5000)]) → E (.ref DT) (some d) H') ∨
    (ns.sum ≤ 60 ∧ Mt.prod1 ms ≤ 5000 ∧ ∀ H', Same H H' → Q (nV (Mt.ways ms (pplK ns rows) % m)) H')))
theorem ok_manyX {tk tk2 : Tok} (A : At K mg "kinds_many" s_kinds_many ["kinds", "modulus"]) (T : Tx mg) (kc : KC K C) (Tsum : mg "sum" = none) (hMC : mg "MOST_COUNTED" = some (.int 60 tk)) (hMS : mg "MOST_STATES" = some (.int 5000 tk2)) (er_TooMany : Er1 P w K mg base "TooMany" "most" D_TooMany) (G_check_modulus : DfnX P w K mg base "_check_modulus" ["modulus"] 3 (spModX K C D_NoNumber)) (G_ways_behind : Dfn P w K mg base "_ways_behind" ["ways", "row", "modulus"] 1 (spWaysK K)) : DfnX P w K mg base "kinds_many" ["kinds", "modulus"] 4 (spManyX K C D_NoNumber D_TooMany) := by
  refine A.okX sc_kinds_many (fun vs H Q E h => ?_) (fun f cdv A outer s H vs Q E hr h => ?_)
  · obtain ⟨_, _, _, _, _, rfl, _⟩ := h
    rfl
  · obtain ⟨x, y, ns, ms, rows, rfl, hk, hy, kk⟩ := h
    refine ⟨_, (pss_cons (ps_expr (pe_dX G_check_modulus (hr.mono (by decide)) (fun pins σ H s e s' I h => passAt (takes_of rfl rfl rfl rfl) σ pins H s e s' I h) (pa_cons (pv 1) pa_nil)))
      (pss_cons (ps_if (pt_cmpR op_gt (pe_callB (cr_sumT rfl) (by rfl) Tsum (by decide +kernel) (pa_cons (pe_fld (pv 0) rfl) pa_nil)) (pe_glob (v := V.int 60) (by rfl) hMC ⟨_, rfl⟩) (nomark _)) (pss_one (ps_raise rfl (takes_of rfl rfl rfl rfl) (pmk_er1 er_TooMany (hr.mono (by decide)) rfl (pa_cons (pe_glob (v := V.int 60) (by rfl) hMC ⟨_, rfl⟩) pa_nil) (fun _ _ _ _ f h => f _ _ h)))) pss_nil)
      (pss_cons (ps_set (i := 2) sc_kinds_many.nd rfl (Or.inl rfl) pe_int)
      (pss_cons (ps_for PassesOwn.leaving rfl (pi_tup (pe_fld (pv 0) rfl)) (pg_name (i := 3) sc_kinds_many.nd rfl (Or.inl rfl))
      (pss_one (ps_aug (i := 2) sc_kinds_many.nd rfl (Or.inl rfl) (pe_op op_add (pv 3) pe_int) (pip_of iop_mul))))
      (pss_cons (ps_if (pt_cmpR op_gt (pv 2) (pe_glob (v := V.int 5000) (by rfl) hMS ⟨_, rfl⟩) (nomark _)) (pss_one (ps_raise rfl (takes_of rfl rfl rfl rfl) (pmk_er1 er_TooMany (hr.mono (by decide)) rfl (pa_cons (pe_glob (v := V.int 5000) (by rfl) hMS ⟨_, rfl⟩) pa_nil) (fun _ _ _ _ f h => f _ _ h)))) pss_nil)
      (pss_cons (ps_set (i := 4) sc_kinds_many.nd rfl (Or.inl rfl) (pe_dict1T (hu_of hr) (pe_fld (pv 0) rfl)))
      (pss_cons (ps_for PassesOwn.leaving rfl (pi_enumT (by rfl) T.enumerate (pa_cons (pe_fld (pv 0) rfl) pa_nil)) (pg_tup rfl (pgs_cons (pg_name (i := 5) sc_kinds_many.nd rfl (Or.inl rfl)) (pgs_cons (pg_name (i := 3) sc_kinds_many.nd rfl (Or.inl rfl)) pgs_nil)))
      (pss_one (ps_for PassesOwn.leaving rfl (pi_range1 rfl T.range (pa_cons (pv 3) pa_nil)) (pg_name (i := 6) sc_kinds_many.nd rfl (Or.inl rfl))
      (pss_one (ps_set (i := 4) sc_kinds_many.nd rfl (Or.inl rfl) (pe_d G_ways_behind (hr.mono (by decide)) (pa_cons (pv 4) (pa_cons (pe_ix ix_tup (pe_fld (pv 0) rfl) (pv 5) (fun _ _ => rfl)) (pa_cons (pv 1) pa_nil)))))))))
      (pss_one (ps_ret (pe_op op_mod (pe_callB (cr_sum rfl) (by rfl) Tsum (by decide +kernel) (pa_cons (pe_callTy (call_list_valsT rfl) (by rfl) T.list (by decide +kernel) (pa_cons (pe_valuesT (pv 4)) pa_nil)) pa_nil)) (pv 1))))))))))), ?_⟩
    refine ⟨_, rfl, y, rfl, hy, fun hc H1 s1 => ?_, fun hc H1 s1 => ?_⟩
    rotate_left
    · rcases kk with ⟨_, k⟩ | ⟨m, rfl, h1, _⟩
      · exact k H1 s1
      · rw [hc] at h1
        cases h1
    obtain ⟨m, rfl, h1, kk⟩ : ∃ m : Nat, y = nV m ∧ cntV 1 y = true ∧ ((60 < ns.sum ∧ ∀ d H', Same H H' → H d = none → H' d = some (.xd [("most", .int 60)]) → E (.ref D_TooMany) (some d) H') ∨ (ns.sum ≤ 60 ∧ 5000 < Mt.prod1 ms ∧ ∀ d H', Same H H' → H d = none → H' d = some (.xd [("most", .int 5000)]) → E (.ref D_TooMany) (some d) H') ∨
    (ns.sum ≤ 60 ∧ Mt.prod1 ms ≤ 5000 ∧ ∀ H', Same H H' → Q (nV (Mt.ways ms (pplK ns rows) % m)) H')) := by
      rcases kk with ⟨h1, _⟩ | h
      · rw [hc] at h1
        cases h1
      · exact h
    have mr : 1 ≤ m ∧ m ≤ 1000000000000000000000000000000 := by
      have h1 : (decide (1 ≤ ((m : Nat) : Int)) && decide (((m : Nat) : Int) ≤ mostK)) = true := h1
      rw [Bool.and_eq_true, decide_eq_true_iff, decide_eq_true_iff] at h1
      have h2 : ((m : Nat) : Int) ≤ 1000000000000000000000000000000 := h1.2
      omega
    obtain ⟨⟨pa, pb, pc, vs, hkx, hpa, hpb, hpc, hrw⟩, n8, m8, rl, rng, r8, sums⟩ := hk
    obtain ⟨p, dx, rfl, hp⟩ := hkx
    have hp1 := s1 _ _ hp
    have sumI : SqT K H1 pa ((ns.map fun (x : Nat) => (x : Int)).map V.int) := by rw [nV_map]; exact sqT_same s1 hpa
    refine ⟨_, rfl, p, C, dx, _, .ref pa, rfl, hp1, kc.tc.cl, kc.nP, kf_people _ _ _, pa, _, rfl, sumI, _, _, rfl, rfl, _, rfl, ?_⟩
    rw [sum_nI]
    refine ite2 (fun c => ?_) (fun c => ?_)
    · have c : (60 : Int) < ((ns.sum : Nat) : Int) := of_decide_eq_true c
      rcases kk with ⟨_, k⟩ | ⟨h, _⟩ | ⟨h, _⟩
      · exact ⟨_, rfl, fun d H' s hd h => k d H' (s1.trans s) (s1.free hd) h⟩
      · omega
      · omega
    have c : ¬ (60 : Int) < ((ns.sum : Nat) : Int) := fun z => c (decide_eq_true z)
    have s60 : ∀ s ∈ ms, s ≤ 60 := fun s hs => by
      have := mem_le_sum hs
      omega
    have n60 : ∀ s ∈ ns, s ≤ 60 := fun s hs => by
      have := mem_le_sum hs
      omega
    refine ⟨_, rfl, p, C, dx, _, .ref pb, rfl, hp1, kc.tc.cl, kc.nT, kf_things _ _ _, pb, rfl, ⟨_, SqT.of (s1 _ _ hpb)⟩, for_tup (xs := ms.map nV) (fun i σ' H' => (∃ x3, σ' = [some (.ref p), some (nV m), some (nV (Mt.prod1 (ms.take i))), x3, none, none, none]) ∧ Same H H') ⟨⟨_, rfl⟩, s1⟩ (fun i H' _ _ hp' => SqT.of (hp'.2 _ _ hpb)) ?_ ?_⟩
    · rintro i y σ' H2 hyi ⟨⟨x3, rfl⟩, s2⟩
      obtain ⟨u, hu, rfl⟩ : ∃ u, ms[i]? = some u ∧ y = nV u := by
        rw [List.getElem?_map] at hyi
        cases e : ms[i]? with
        | none => rw [e] at hyi; cases hyi
        | some u => rw [e] at hyi; exact ⟨u, rfl, (Option.some.inj hyi).symm⟩
      have u60 := s60 u (List.mem_of_getElem? hu)
      refine ⟨_, rfl, _, rfl, _, _, rfl, rfl, _, _, rfl, rfl, .inr ⟨by omega, by omega⟩, ⟨some (nV u), ?_⟩, s2⟩
      have e : V.int (((Mt.prod1 (ms.take i) : Nat) : Int) * (((u : Nat) : Int) + 1)) = nV (Mt.prod1 (ms.take (i + 1))) := by
        rw [show ms.take (i + 1) = ms.take i ++ [u] from by rw [List.take_add_one, hu]; rfl, prod_snoc]
        show _ = V.int ((Mt.prod1 (ms.take i) * (u + 1) : Nat) : Int)
        rw [Int.natCast_mul]
        rfl
      exact congrArg (fun z => [some (V.ref p), some (nV m), some z, some (nV u), none, none, none]) e
    rintro σ' H2 ⟨⟨x3, rfl⟩, s2⟩
    rw [List.length_map, List.take_length]
    refine ⟨_, rfl, _, _, rfl, rfl, _, rfl, ?_⟩
    refine ite2 (fun c => ?_) (fun c => ?_)
    · have c : (5000 : Int) < ((Mt.prod1 ms : Nat) : Int) := of_decide_eq_true c
      rcases kk with ⟨h, _⟩ | ⟨_, _, k⟩ | ⟨_, h, _⟩
      · omega
      · exact ⟨_, rfl, fun d H' s hd h => k d H' (s2.trans s) (s2.free hd) h⟩
      · omega
    have c2 : ¬ (5000 : Int) < ((Mt.prod1 ms : Nat) : Int) := fun z => c (decide_eq_true z)
    have p5 : Mt.prod1 ms ≤ 5000 := by omega
    have k : ∀ H', Same H H' → Q (nV (Mt.ways ms (pplK ns rows) % m)) H' := by
      rcases kk with ⟨h, _⟩ | ⟨_, h, _⟩ | ⟨_, _, k⟩
      · omega
      · omega
      · exact k
    clear kk c c2
    refine fun D0 hD0 => ?_
    have s0 : Same H (upd H2 D0 (.dT [])) := s2.trans (same_new hD0)
    have hkb : upd H2 D0 (.dT []) pb = some (.tup ((kn ms).map kV)) := by rw [kn_v]; exact s0 _ _ hpb
    refine ⟨_, rfl, p, C, dx, _, .ref pb, rfl, s0 _ _ hp, kc.tc.cl, kc.nT, kf_things _ _ _, pb, kn ms, rfl, upd_same, hkb, ?_⟩
    obtain ⟨H3, e3⟩ : ∃ H3, H3 = upd (upd H2 D0 (.dT [])) D0 (.dT [(kn ms, .int 1)]) := ⟨_, rfl⟩
    have h3 : H3 D0 = some (.dT (encG kn (Mt.stKm m ms (pplK (ns.take 0) (rows.take 0))))) := by
      rw [e3, upd_same, List.take_zero, List.take_zero]
      rfl
    have s3 : Same H H3 := by rw [e3]; exact same_mut s0 (s2.free hD0)
    rw [← e3]
    refine ⟨_, rfl, p, C, dx, _, .ref pa, rfl, s3 _ _ hp, kc.tc.cl, kc.nP, kf_people _ _ _, pa, _, rfl, sqT_same s3 hpa, for_enumT (xs := ns.map nV) (fun i σ' H' => (∃ D x3 x5 x6, σ' = [some (.ref p), some (nV m), some (nV (Mt.prod1 ms)), x3, some (.ref D), x5, x6] ∧ H' D = some (.dT (encG kn (Mt.stKm m ms (pplK (ns.take i) (rows.take i)))))) ∧ Same H H') ⟨⟨D0, _, _, _, rfl, h3⟩, s3⟩ (fun i σ' H' _ hp' => sqT_same hp'.2 hpa) ?_ ?_⟩
    · rintro i y σ' H4 T' hyi ⟨⟨D, y3, y5, y6, rfl, h4⟩, s4⟩ hT
      obtain ⟨n, hn, rfl⟩ : ∃ n, ns[i]? = some n ∧ y = nV n := by
        rw [List.getElem?_map] at hyi
        cases e : ns[i]? with
        | none => rw [e] at hyi; cases hyi
        | some u => rw [e] at hyi; exact ⟨u, rfl, (Option.some.inj hyi).symm⟩
      have il : i < rows.length := by rw [rl]; exact (List.getElem?_eq_some_iff.mp hn).1
      obtain ⟨r, hr⟩ : ∃ r, rows[i]? = some r := ⟨_, List.getElem?_eq_getElem il⟩
      have u60 := n60 n (List.mem_of_getElem? hn)
      have rm := List.mem_of_getElem? hr
      have sT : Same H4 (upd H4 T' (.tup [.int (i : Nat), nV n])) := same_new hT
      have s5 := s4.trans sT
      refine ⟨T', _, rfl, SqT.of upd_same, rfl, _, _, rfl, _, _, rfl, rfl, ?_⟩
      obtain ⟨q, hq1, hq2⟩ : ∃ q, vs[i]? = some (V.ref q) ∧ SqT K H q (r.map nV) := by
        have e : (rowsN rows)[i]? = some (r.map fun (t : Nat) => (t : Int)) := by
          unfold rowsN
          rw [List.getElem?_map, hr]
          rfl
        obtain ⟨q, a1, a2⟩ := hrw.get e
        rw [nV_map] at a2
        exact ⟨q, a1, a2⟩
      refine ⟨_, rfl, _, rfl, by omega, by omega, for_range (lo := 0) (n := ((n : Nat) : Int).toNat) (fun j σ' H' => (∃ D x6, σ' = [some (.ref p), some (nV m), some (nV (Mt.prod1 ms)), some (nV n), some (.ref D), some (nV i), x6] ∧ H' D = some (.dT (encG kn (Mt.stKm m ms (pplK (ns.take i) (rows.take i) ++ List.replicate j r))))) ∧ Same H H') ⟨⟨D, _, rfl, by rw [List.replicate_zero, List.append_nil]; exact sT _ _ h4⟩, s5⟩ ?_ ?_⟩
      · rintro j σ' H6 hj ⟨⟨D, y6, rfl, h6⟩, s6⟩
        refine ⟨_, rfl, _, rfl, p, C, dx, _, .ref pc, rfl, s6 _ _ hp, kc.tc.cl, kc.nA, kf_allowed _ _ _, _, rfl, pc, _, (i : Int), .ref q, rfl, rfl, sqT_same s6 hpc, atI_nat (j := i) hq1, _, rfl, ?_⟩
        refine ⟨D, q, m, 1000000000000000000000000000000, ms, r, _, rfl, h6, sqT_same s6 hq2, Mt.stK_all (by omega) mr.1 (by decide) _, p5, m8, s60, r8 r rm, rng r rm, by omega, mr.1, fun E' H7 s7 fE hE => ?_⟩
        refine ⟨⟨E', _, rfl, ?_⟩, s6.trans s7⟩
        rw [List.replicate_succ', ← List.append_assoc, Mt.stKm_snoc]
        exact hE
      · rintro σ' H6 ⟨⟨D, y6, rfl, h6⟩, s6⟩
        rw [Int.toNat_natCast] at h6
        refine ⟨⟨D, _, _, _, rfl, ?_⟩, s6⟩
        rw [pplK_snoc hn hr]
        exact h6
    · rintro σ' H4 ⟨⟨D, y3, y5, y6, rfl, h4⟩, s4⟩
      rw [List.length_map, List.take_length, ← rl, List.take_length] at h4
      refine ⟨_, rfl, D, _, rfl, h4, fun v hv => ?_⟩
      have nDv : D ≠ v := ne_of_none h4 hv
      have h5 : upd H4 v (ValsO v D) D = some (.dT (encG kn (Mt.stKm m ms (pplK ns rows)))) := by rw [upd_ne nDv]; exact h4
      refine ⟨v, D, _, rfl, upd_same, h5, fun pl hpl => ?_⟩
      obtain ⟨st, est⟩ : ∃ st, st = Mt.stKm m ms (pplK ns rows) := ⟨_, rfl⟩
      rw [← est]
      have el : (encG kn st).map (fun q => q.2) = (st.map fun q => ((q.2 : Nat) : Int)).map V.int := by
        unfold encG
        rw [List.map_map, List.map_map]
        rfl
      rw [el]
      have es : (st.map fun q => ((q.2 : Nat) : Int)).sum = ((Mt.wt (fun _ => 1) st : Nat) : Int) := by
        have : ∀ l : List (List Nat × Nat), (l.map fun q => ((q.2 : Nat) : Int)).sum = ((Mt.wt (fun _ => 1) l : Nat) : Int) := fun l => by
          induction l with
          | nil => rfl
          | cons a l ih =>
            rw [List.map_cons, List.sum_cons, ih]
            show _ = ((a.2 * 1 + Mt.wt (fun _ => 1) l : Nat) : Int)
            omega
        exact this st
      refine ⟨pl, st.map (fun q => ((q.2 : Nat) : Int)), rfl, SqL.of upd_same, ?_⟩
      rw [es]
      refine ⟨_, rfl, _, _, rfl, rfl, by omega, ?_⟩
      have ev : V.int (((Mt.wt (fun _ => 1) st : Nat) : Int) % ((m : Nat) : Int)) = nV (Mt.ways ms (pplK ns rows) % m) := by
        rw [← Mt.wt_stKm, ← est, ← Int.natCast_emod]
      have s5 : Same H (upd (upd H4 v (ValsO v D)) pl (.lst ((st.map (fun q => ((q.2 : Nat) : Int))).map V.int))) := (s4.trans (same_new hv)).trans (same_new hpl)
      exact (congrArg (fun z => Q z _) ev).mpr (k _ s5)
end
end Fo
set_option maxRecDepth 100000
set_option maxHeartbeats 1000000
namespace Fo
open PySem PySem.Spec PyProof.Rows L2
theorem row_mem {rows : List (List Int)} {p : Nat} {t : Int} (h : t ∈ Mt.row rows p) : ∃ r ∈ rows, t ∈ r := by
  unfold Mt.row at h
  cases e : rows[p]? with
  | none => rw [e] at h; cases h
  | some r => rw [e] at h; exact ⟨r, List.mem_of_getElem? e, h⟩
theorem Good.row_rng {rows : List (List Int)} (G : Good rows) {p : Nat} {t : Int} (h : t ∈ Mt.row rows p) : 0 ≤ t ∧ t < (rows.length : Int) := by
  obtain ⟨r, hr, ht⟩ := row_mem h
  exact G.rng r hr t ht
theorem Good.few {rows : List (List Int)} (G : Good rows) : Mt.Few rows :=
  ⟨rangeI rows.length, by rw [rangeI_len]; exact Nat.le_refl _, fun p t h => mem_rangeI.mpr (G.row_rng h)⟩
theorem asc_len {r : List Int} {n : Nat} (h : r.Pairwise (· < ·)) (hr : ∀ x ∈ r, 0 ≤ x ∧ x < (n : Int)) : r.length ≤ n := by
  have nd : r.Nodup := h.imp fun {a b} h => by omega
  have := Mt.len_le (l2 := rangeI n) nd fun x hx => mem_rangeI.mpr (hr x hx)
  rw [rangeI_len] at this
  exact this
theorem Good.row_len {rows : List (List Int)} (G : Good rows) : ∀ r ∈ rows, r.length ≤ rows.length := fun r hr => asc_len (G.asc r hr) (G.rng r hr)
theorem mapIdx_get {α β : Type} {f : Nat → α → β} {l : List α} {y : β} (h : y ∈ l.mapIdx f) : ∃ (i : Nat) (x : α), l[i]? = some x ∧ y = f i x := by
  obtain ⟨i, hi⟩ := List.getElem?_of_mem h
  rw [List.getElem?_mapIdx] at hi
  cases e : l[i]? with
  | none => rw [e] at hi; cases hi
  | some x => rw [e] at hi; exact ⟨i, x, e, (Option.some.inj hi).symm⟩
theorem Good.live {rows : List (List Int)} (G : Good rows) : Good (Mt.liveR rows) where
  pos := by rw [Mt.liveR_len]; exact G.pos
  asc := fun r hr => by
    obtain ⟨i, x, e, rfl⟩ := mapIdx_get hr
    exact List.Pairwise.filter _ (G.asc x (List.mem_of_getElem? e))
  rng := fun r hr t ht => by
    rw [Mt.liveR_len]
    obtain ⟨i, x, e, rfl⟩ := mapIdx_get hr
    exact G.rng x (List.mem_of_getElem? e) t (List.mem_filter.mp ht).1
end Fo
namespace Mt
theorem lx_irr {a : List Int} (h : Lx a a) : False := by
  obtain ⟨q, x, y, _, h1, h2, h3⟩ := h
  rw [h1] at h2
  cases h2
  exact Int.lt_irrefl _ h3
theorem deals_nd {rows : Rows} (asc : ∀ r ∈ rows, r.Pairwise (· < ·)) : (deals rows).Nodup := (deals_lx asc).imp fun {a b} h e => by subst e; exact lx_irr h
theorem sub_flat0 {a b : List (List Nat)} (h : a.Sublist b) : a.flatten.length ≤ b.flatten.length := by
  induction h with
  | slnil => exact Nat.le_refl _
  | cons x _ ih => rw [List.flatten_cons, List.length_append]; omega
  | cons_cons x _ ih => rw [List.flatten_cons, List.flatten_cons, List.length_append, List.length_append]; omega
theorem Groups.len {rows : Rows} {G : List (List Nat)} (h : Groups rows G) {g : List Nat} (hg : g ∈ G) : g.length ≤ rows.length := by
  have h1 : [g].Sublist G := List.singleton_sublist.mpr hg
  have h2 := sub_flat0 h1
  rw [List.flatten_singleton, h.perm.length_eq, List.length_range] at h2
  exact h2
theorem Groups.num {rows : Rows} {G : List (List Nat)} (h : Groups rows G) : G.length ≤ rows.length := by
  have h2 := h.perm.length_eq
  rw [List.length_range] at h2
  rw [← h2]
  have : ∀ F : List (List Nat), (∀ g ∈ F, g ≠ []) → F.length ≤ F.flatten.length := fun F => by
    induction F with
    | nil => exact fun _ => Nat.le_refl _
    | cons g F ih =>
      intro hF
      rw [List.flatten_cons, List.length_append, List.length_cons]
      have h1 := ih fun c hc => hF c (List.mem_cons_of_mem _ hc)
      have h2 : 0 < g.length := List.length_pos_iff.mpr (hF g List.mem_cons_self)
      omega
  exact this G h.ne
end Mt
namespace Mt
theorem cnt_pred {rows R : Rows} {p : List Int → Bool} (a1 : ∀ r ∈ rows, r.Pairwise (· < ·)) (a2 : ∀ r ∈ R, r.Pairwise (· < ·)) (h : ∀ D, Ds R D ↔ Ds rows D ∧ p D = true) : cnt [] R = ((deals rows).filter p).length := by
  rw [← deals_cnt]
  exact ((List.perm_ext_iff_of_nodup (deals_nd a2) ((deals_nd a1).filter _)).mpr fun x => by
    rw [mem_deals, h, List.mem_filter, mem_deals]).length_eq
theorem lx_asym {a b : List Int} (h : Lx a b) (h2 : Lx b a) : False := by
  obtain ⟨q, x, y, e1, e2, e3, e4⟩ := h
  obtain ⟨r, u, v, f1, f2, f3, f4⟩ := h2
  rcases Nat.lt_trichotomy q r with c | c | c
  · have := f1 q c
    rw [e2, e3] at this
    have := Option.some.inj this
    omega
  · subst c
    rw [e2] at f3
    rw [e3] at f2
    have := Option.some.inj f2
    have := Option.some.inj f3
    omega
  · have := e1 r c
    rw [f2, f3] at this
    have := Option.some.inj this
    omega
/-- a dealing begins so -/
def preB (pre D : List Int) : Bool := decide (D.take pre.length = pre)
theorem preB_snoc {pre D : List Int} {t : Int} : preB (pre ++ [t]) D = true ↔ preB pre D = true ∧ D[pre.length]? = some t := by
  unfold preB
  rw [decide_eq_true_eq, decide_eq_true_eq, List.length_append, List.length_singleton, List.take_add_one]
  constructor
  · intro h
    cases e : D[pre.length]? with
    | none =>
      rw [e] at h
      have h1 : (D.take pre.length).length = (pre ++ [t]).length := by rw [← h]; simp
      rw [List.length_append, List.length_take] at h1
      simp at h1
      omega
    | some u =>
      rw [e] at h
      have h' : D.take pre.length ++ [u] = pre ++ [t] := h
      have h2 := List.append_inj' h' rfl
      refine ⟨h2.1, ?_⟩
      have := (List.cons.inj h2.2).1
      rw [this]
  · rintro ⟨h1, h2⟩
    rw [h1, h2]
    rfl
theorem pre_get {pre D : List Int} (h : preB pre D = true) {i : Nat} (hi : i < pre.length) : D[i]? = pre[i]? := by
  have := of_decide_eq_true h
  have e : (D.take pre.length)[i]? = D[i]? := by rw [List.getElem?_take, if_pos hi]
  rw [← e, this]
theorem pre_lx {pre a b : List Int} {t u : Int} (ha : preB (pre ++ [t]) a = true) (hb : preB (pre ++ [u]) b = true) (h : t < u) : Lx a b := by
  obtain ⟨a1, a2⟩ := preB_snoc.mp ha
  obtain ⟨b1, b2⟩ := preB_snoc.mp hb
  exact ⟨pre.length, t, u, fun j hj => by rw [pre_get a1 hj, pre_get b1 hj], a2, b2, h⟩
/-- the dealings that begin so, by the next thing -/
theorem pre_split {L : List (List Int)} (hL : L.Pairwise Lx) {pre r : List Int} (hr : r.Pairwise (· < ·)) (h : ∀ D ∈ L, preB pre D = true → ∃ t ∈ r, D[pre.length]? = some t) :
    L.filter (preB pre) = r.flatMap fun t => L.filter (preB (pre ++ [t])) := by
  have nd : ∀ {l : List (List Int)}, l.Pairwise Lx → l.Nodup := fun p => p.imp fun {a b} z e => by subst e; exact lx_irr z
  have p1 := hL.filter (preB pre)
  have p2 : (r.flatMap fun t => L.filter (preB (pre ++ [t]))).Pairwise Lx := by
    rw [List.pairwise_flatMap]
    refine ⟨fun t _ => hL.filter _, hr.imp fun {t u} z x hx y hy => ?_⟩
    exact pre_lx (List.mem_filter.mp hx).2 (List.mem_filter.mp hy).2 z
  refine ((List.perm_ext_iff_of_nodup (nd p1) (nd p2)).mpr fun x => ?_).eq_of_pairwise (fun a b _ _ h1 h2 => (lx_asym h1 h2).elim) p1 p2
  rw [List.mem_filter, List.mem_flatMap]
  constructor
  · rintro ⟨h1, h2⟩
    obtain ⟨t, ht, e⟩ := h x h1 h2
    exact ⟨t, ht, List.mem_filter.mpr ⟨h1, preB_snoc.mpr ⟨h2, e⟩⟩⟩
  · rintro ⟨t, ht, hx⟩
    obtain ⟨h1, h2⟩ := List.mem_filter.mp hx
    exact ⟨h1, (preB_snoc.mp h2).1⟩
/-- rows behind the first ones' things -/
structure Blk (rows R : Rows) (pre : List Int) : Prop where
  len : R.length = rows.length
  asc : ∀ r ∈ R, r.Pairwise (· < ·)
  ds : ∀ D, Ds R D ↔ Ds rows D ∧ preB pre D = true
theorem Blk.step {rows R : Rows} {pre : List Int} (b : Blk rows R pre) (hp : pre.length < rows.length) {t : Int} (ht : t ∈ row R pre.length) (asc : ∀ r ∈ narrow R pre.length t, r.Pairwise (· < ·)) : Blk rows (narrow R pre.length t) (pre ++ [t]) where
  len := by rw [narrow_len, b.len]
  asc := asc
  ds := fun D => by
    rw [ds_narrow (by rw [b.len]; exact hp) ht, b.ds, preB_snoc]
    exact and_assoc
theorem Blk.cnt {rows R : Rows} {pre : List Int} (b : Blk rows R pre) (asc : ∀ r ∈ rows, r.Pairwise (· < ·)) : cnt [] R = ((deals rows).filter (preB pre)).length := cnt_pred asc b.asc b.ds
theorem Blk.split {rows R : Rows} {pre : List Int} (b : Blk rows R pre) (asc : ∀ r ∈ rows, r.Pairwise (· < ·)) (hp : pre.length < rows.length) : (deals rows).filter (preB pre) = (row R pre.length).flatMap fun t => (deals rows).filter (preB (pre ++ [t])) := by
  refine pre_split (deals_lx asc) ?_ fun D hD hpre => ?_
  · have : row R pre.length = R[pre.length]'(by rw [b.len]; exact hp) := row_get (List.getElem?_eq_getElem (by rw [b.len]; exact hp))
    rw [this]
    exact b.asc _ (List.getElem_mem _)
  · have d := (b.ds D).mpr ⟨(mem_deals D).mp hD, hpre⟩
    obtain ⟨t, h1, h2⟩ := d.get (p := pre.length) (by rw [b.len]; exact hp)
    exact ⟨t, h2, h1⟩
/-- where a list stands in another, as a block from a place on -/
def At (L B : List (List Int)) (n : Nat) : Prop := ∃ A C, L = A ++ B ++ C ∧ A.length = n
theorem At.part {L B1 B2 B3 : List (List Int)} {n : Nat} (h : At L (B1 ++ B2 ++ B3) n) : At L B2 (n + B1.length) := by
  obtain ⟨A, C, e, l⟩ := h
  refine ⟨A ++ B1, B3 ++ C, ?_, by rw [List.length_append, l]⟩
  rw [e]
  simp
theorem At.get {L B : List (List Int)} {n i : Nat} (h : At L B n) (hi : i < B.length) : L[n + i]? = B[i]? := by
  obtain ⟨A, C, e, l⟩ := h
  rw [e, List.append_assoc, List.getElem?_append_right (by omega), l, Nat.add_sub_cancel_left, List.getElem?_append_left hi]
theorem Blk.part {rows R : Rows} {pre : List Int} (b : Blk rows R pre) (asc : ∀ r ∈ rows, r.Pairwise (· < ·)) (hp : pre.length < rows.length) (ascN : ∀ t ∈ row R pre.length, ∀ r ∈ narrow R pre.length t, r.Pairwise (· < ·)) {l : List Int} (hl : ∀ t ∈ l, t ∈ row R pre.length) :
    (l.flatMap fun t => (deals rows).filter (preB (pre ++ [t]))).length = (l.map fun t => Mt.cnt [] (narrow R pre.length t)).sum := by
  rw [List.length_flatMap]
  exact sum_congr fun t ht => ((b.step hp (hl t ht) (ascN t (hl t ht))).cnt asc).symm
theorem Blk.sum {rows R : Rows} {pre : List Int} (b : Blk rows R pre) (asc : ∀ r ∈ rows, r.Pairwise (· < ·)) (hp : pre.length < rows.length) (ascN : ∀ t ∈ row R pre.length, ∀ r ∈ narrow R pre.length t, r.Pairwise (· < ·)) : ((deals rows).filter (preB pre)).length = ((row R pre.length).map fun t => Mt.cnt [] (narrow R pre.length t)).sum := by
  rw [b.split asc hp]
  exact b.part asc hp ascN fun t ht => ht
end Mt
namespace Mt
/-- in how many orders so many stand -/
def fac : Nat → Nat
  | 0 => 1
  | n + 1 => (n + 1) * fac n
theorem heads_le : ∀ (S : List Int) (L : List (List Int)), (∀ D ∈ L, ∃ s ∈ S, D.head? = some s) → L.length ≤ (S.map fun s => (L.filter fun D => decide (D.head? = some s)).length).sum
  | [], [], _ => Nat.le_refl _
  | [], D :: L, h => by
    obtain ⟨s, hs, _⟩ := h D List.mem_cons_self
    cases hs
  | s :: S, L, h => by
    have ih := heads_le S (L.filter fun D => !decide (D.head? = some s)) fun D hD => by
      obtain ⟨h1, h2⟩ := List.mem_filter.mp hD
      obtain ⟨u, hu, e⟩ := h D h1
      rcases List.mem_cons.mp hu with q | q
      · rw [e, q, decide_eq_true rfl] at h2
        cases h2
      · exact ⟨u, q, e⟩
    have le : (S.map fun u => ((L.filter fun D => !decide (D.head? = some s)).filter fun D => decide (D.head? = some u)).length).sum ≤ (S.map fun u => (L.filter fun D => decide (D.head? = some u)).length).sum := by
      clear ih h
      induction S with
      | nil => exact Nat.le_refl _
      | cons u S ih =>
        rw [List.map_cons, List.map_cons, List.sum_cons, List.sum_cons]
        exact Nat.add_le_add (((List.filter_sublist).filter _).length_le) ih
    have sp : (L.filter fun D => decide (D.head? = some s)).length + (L.filter fun D => !decide (D.head? = some s)).length = L.length := by
      clear ih le h
      induction L with
      | nil => rfl
      | cons D L ih =>
        by_cases e : D.head? = some s
        · rw [List.filter_cons_of_pos (by rw [decide_eq_true e]), List.filter_cons_of_neg (by rw [decide_eq_true e]; decide), List.length_cons, List.length_cons]
          omega
        · rw [List.filter_cons_of_neg (by rw [decide_eq_false e]; decide), List.filter_cons_of_pos (by rw [decide_eq_false e]; rfl), List.length_cons, List.length_cons]
          omega
    rw [List.map_cons, List.sum_cons]
    omega
theorem orders_le : ∀ (k : Nat) (S : List Int) (L : List (List Int)), S.Nodup → S.length = k → L.Nodup → (∀ D ∈ L, D.Nodup ∧ D.length = k ∧ ∀ x ∈ D, x ∈ S) → L.length ≤ fac k
  | 0, S, L, hS, hk, hL, h => by
    match L, hL, h with
    | [], _, _ => exact Nat.zero_le _
    | [D], _, _ => exact Nat.le_refl _
    | D :: E :: L, hL, h =>
      have h1 := List.length_eq_zero_iff.mp (h D List.mem_cons_self).2.1
      have h2 := List.length_eq_zero_iff.mp (h E (List.mem_cons_of_mem _ List.mem_cons_self)).2.1
      have := (List.nodup_cons.mp hL).1
      rw [h1, h2] at this
      exact absurd List.mem_cons_self this
  | k + 1, S, L, hS, hk, hL, h => by
    refine Nat.le_trans (heads_le S L fun D hD => ?_) ?_
    · obtain ⟨_, h2, h3⟩ := h D hD
      cases D with
      | nil => cases h2
      | cons x D => exact ⟨x, h3 x List.mem_cons_self, rfl⟩
    · have each : ∀ s ∈ S, (L.filter fun D => decide (D.head? = some s)).length ≤ fac k := fun s hs => by
        have e := orders_le k (S.erase s) ((L.filter fun D => decide (D.head? = some s)).map List.tail) (hS.erase s) (by rw [List.length_erase_of_mem hs, hk]; rfl) ?_ ?_
        · rwa [List.length_map] at e
        · refine Mt.nodup_map (hL.filter _) fun a ha b hb e => ?_
          have h1 := of_decide_eq_true (List.mem_filter.mp ha).2
          have h2 := of_decide_eq_true (List.mem_filter.mp hb).2
          cases a with
          | nil => cases h1
          | cons x a =>
            cases b with
            | nil => cases h2
            | cons y b =>
              have e1 := Option.some.inj h1
              have e2 := Option.some.inj h2
              rw [e1, e2]
              exact congrArg _ e
        · intro D hD
          obtain ⟨E, hE, rfl⟩ := List.mem_map.mp hD
          obtain ⟨g1, g2⟩ := List.mem_filter.mp hE
          obtain ⟨h1, h2, h3⟩ := h E g1
          have g2 := of_decide_eq_true g2
          cases E with
          | nil => cases g2
          | cons x E =>
            have ex : x = s := Option.some.inj g2
            obtain ⟨n1, n2⟩ := List.nodup_cons.mp h1
            refine ⟨n2, Nat.succ.inj h2, fun y hy => (List.mem_erase_of_ne fun z => n1 (by rw [ex, ← z]; exact hy)).mpr (h3 y (List.mem_cons_of_mem _ hy))⟩
      have all : ∀ S' : List Int, (∀ s ∈ S', s ∈ S) → (S'.map fun s => (L.filter fun D => decide (D.head? = some s)).length).sum ≤ S'.length * fac k := fun S' hS' => by
        induction S' with
        | nil => exact Nat.zero_le _
        | cons s S' ih =>
          have h1 := each s (hS' s List.mem_cons_self)
          have h2 := ih fun u hu => hS' u (List.mem_cons_of_mem _ hu)
          rw [List.map_cons, List.sum_cons, List.length_cons, Nat.succ_mul]
          omega
      have := all S fun s hs => hs
      rw [hk] at this
      exact this
end Mt
namespace Mt
/-- for each of all there are the kind, kind by kind -/
def wideF (k : Nat) : List Nat → List Nat
  | [] => []
  | n :: r => List.replicate n k ++ wideF (k + 1) r
/-- the things that may be got, of these kinds -/
def rowK (W r : List Nat) : List Int := ((List.range W.length).filter fun k => decide (W.getD k 0 ∈ r)).map fun (k : Nat) => (k : Int)
/-- how many of each kind are not used -/
def freeK (W : List Nat) (U : List Int) (n : Nat) : List Nat := (List.range n).map fun i => ((List.range W.length).filter fun (k : Nat) => decide (W.getD k 0 = i) && decide ((k : Int) ∉ U)).length
theorem freeK_get {W : List Nat} {U : List Int} {n i : Nat} (h : i < n) : (freeK W U n).getD i 0 = ((List.range W.length).filter fun (k : Nat) => decide (W.getD k 0 = i) && decide ((k : Int) ∉ U)).length := by
  unfold freeK
  rw [List.getD_eq_getElem?_getD, List.getElem?_map, List.getElem?_range h]
  rfl
theorem sum_kinds (f : Nat → Nat) (G : Nat → Nat) {r : List Nat} (nd : r.Nodup) : ∀ L : List Nat, ((L.filter fun k => decide (f k ∈ r)).map fun k => G (f k)).sum = (r.map fun i => (L.filter fun k => decide (f k = i)).length * G i).sum
  | [] => by
    have : ∀ r : List Nat, (r.map fun i => (([] : List Nat).filter fun k => decide (f k = i)).length * G i).sum = 0 := fun r => by
      induction r with
      | nil => rfl
      | cons i r ih => rw [List.map_cons, List.sum_cons, ih]; simp
    exact (this r).symm
  | k :: L => by
    have ih := sum_kinds f G nd L
    have one : ∀ r : List Nat, r.Nodup → (r.map fun i => ((k :: L).filter fun k => decide (f k = i)).length * G i).sum = (if f k ∈ r then G (f k) else 0) + (r.map fun i => (L.filter fun k => decide (f k = i)).length * G i).sum := fun r nd => by
      induction r with
      | nil => rfl
      | cons i r ih2 =>
        have nd' := List.nodup_cons.mp nd
        rw [List.map_cons, List.sum_cons, List.map_cons, List.sum_cons, ih2 nd'.2]
        by_cases e : f k = i
        · have e2 : ¬ f k ∈ r := by rw [e]; exact nd'.1
          rw [if_neg e2, if_pos (show f k ∈ i :: r by rw [e]; exact List.mem_cons_self), List.filter_cons_of_pos (by rw [decide_eq_true e]), List.length_cons, Nat.add_mul, Nat.one_mul, e]
          omega
        · rw [List.filter_cons_of_neg (by rw [decide_eq_false e]; decide)]
          by_cases e2 : f k ∈ r
          · rw [if_pos e2, if_pos (List.mem_cons_of_mem _ e2)]
            omega
          · rw [if_neg e2, if_neg fun z => (List.mem_cons.mp z).elim e e2]
            omega
    rw [one r nd, ← ih]
    by_cases e : f k ∈ r
    · rw [if_pos e, List.filter_cons_of_pos (by rw [decide_eq_true e]), List.map_cons, List.sum_cons]
    · rw [if_neg e, List.filter_cons_of_neg (by rw [decide_eq_false e]; decide), Nat.zero_add]
theorem len_drop1 {p : Nat → Bool} {k : Nat} : ∀ {L : List Nat}, L.Nodup → k ∈ L → p k = true → (L.filter fun x => p x && decide (x ≠ k)).length + 1 = (L.filter p).length
  | x :: L, nd, hk, hp => by
    have nd' := List.nodup_cons.mp nd
    rcases List.mem_cons.mp hk with e | e
    · subst e
      rw [List.filter_cons_of_neg (by simp), List.filter_cons_of_pos hp, List.length_cons]
      congr 2
      refine List.filter_congr fun y hy => ?_
      have : y ≠ k := fun z => nd'.1 (z ▸ hy)
      rw [decide_eq_true this, Bool.and_true]
    · have ih := len_drop1 (p := p) nd'.2 e hp
      have ne : x ≠ k := fun z => nd'.1 (z ▸ e)
      by_cases c : p x = true
      · rw [List.filter_cons_of_pos (by rw [c, decide_eq_true ne]; rfl), List.filter_cons_of_pos c, List.length_cons, List.length_cons, ih]
      · rw [List.filter_cons_of_neg (by rw [Bool.eq_false_iff.mpr c]; simp), List.filter_cons_of_neg c, ih]
theorem freeK_cons {W : List Nat} {U : List Int} {n k : Nat} (hk : k < W.length) (hn : W.getD k 0 < n) (hU : (k : Int) ∉ U) : freeK W ((k : Int) :: U) n = dec (freeK W U n) (W.getD k 0) := by
  refine List.ext_getElem? fun i => ?_
  by_cases hi : i < n
  · have l1 : (freeK W U n).length = n := by unfold freeK; rw [List.length_map, List.length_range]
    have key : ∀ j : Nat, ((List.range W.length).filter fun x => decide (W.getD x 0 = j) && decide ((x : Int) ∉ (k : Int) :: U)).length = if W.getD k 0 = j then ((List.range W.length).filter fun x => decide (W.getD x 0 = j) && decide ((x : Int) ∉ U)).length - 1 else ((List.range W.length).filter fun x => decide (W.getD x 0 = j) && decide ((x : Int) ∉ U)).length := fun j => by
      have e1 : ∀ x : Nat, (decide (W.getD x 0 = j) && decide ((x : Int) ∉ (k : Int) :: U)) = ((decide (W.getD x 0 = j) && decide ((x : Int) ∉ U)) && decide (x ≠ k)) := fun x => by
        rw [Bool.and_assoc]
        congr 1
        rw [Bool.eq_iff_iff, Bool.and_eq_true, decide_eq_true_iff, decide_eq_true_iff, decide_eq_true_iff, List.mem_cons, not_or]
        constructor
        · rintro ⟨a, b⟩
          exact ⟨b, fun z => a (by rw [z])⟩
        · rintro ⟨a, b⟩
          exact ⟨fun z => b (by omega), a⟩
      rw [List.filter_congr fun x _ => e1 x]
      by_cases c : W.getD k 0 = j
      · rw [if_pos c]
        have := len_drop1 (p := fun x => decide (W.getD x 0 = j) && decide ((x : Int) ∉ U)) (k := k) (L := List.range W.length) List.nodup_range (List.mem_range.mpr hk) (by show (decide (W.getD k 0 = j) && decide ((k : Int) ∉ U)) = true; rw [decide_eq_true c, decide_eq_true hU]; rfl)
        omega
      · rw [if_neg c]
        congr 1
        refine List.filter_congr fun x _ => ?_
        by_cases d : x = k
        · rw [d, decide_eq_false c]
          rfl
        · rw [decide_eq_true d, Bool.and_true]
    unfold dec
    rw [List.getElem?_set, freeK_get hn]
    have g : ∀ U : List Int, (freeK W U n)[i]? = some ((List.range W.length).filter fun x => decide (W.getD x 0 = i) && decide ((x : Int) ∉ U)).length := fun U => by
      unfold freeK
      rw [List.getElem?_map, List.getElem?_range hi]
      rfl
    rw [g, g, key i, l1]
    by_cases c : W.getD k 0 = i
    · rw [if_pos c, if_pos c, if_pos (by omega), c]
    · rw [if_neg c, if_neg c]
  · have l1 : ∀ U, (freeK W U n).length = n := fun U => by unfold freeK; rw [List.length_map, List.length_range]
    rw [List.getElem?_eq_none (by rw [l1]; omega), List.getElem?_eq_none (by unfold dec; rw [List.length_set, l1]; omega)]
theorem cnt_kinds {W : List Nat} {n : Nat} (hW : ∀ k < W.length, W.getD k 0 < n) : ∀ (rs : List (List Nat)) (U : List Int), (∀ r ∈ rs, r.Nodup ∧ ∀ t ∈ r, t < n) → cnt U (rs.map (rowK W)) = ways (freeK W U n) rs
  | [], _, _ => rfl
  | r :: rs, U, h => by
    have hr := h r List.mem_cons_self
    have ih := fun U => cnt_kinds hW rs U fun q hq => h q (List.mem_cons_of_mem _ hq)
    show (((rowK W r).filter fun t => decide (t ∉ U)).map fun t => cnt (t :: U) (rs.map (rowK W))).sum = (r.map fun t => (freeK W U n).getD t 0 * ways (dec (freeK W U n) t) rs).sum
    have e1 : ((rowK W r).filter fun t => decide (t ∉ U)) = (((List.range W.length).filter fun (k : Nat) => decide ((k : Int) ∉ U)).filter fun k => decide (W.getD k 0 ∈ r)).map fun (k : Nat) => (k : Int) := by
      unfold rowK
      rw [List.filter_map]
      congr 1
      rw [List.filter_filter, List.filter_filter]
      refine List.filter_congr fun x _ => ?_
      exact Bool.and_comm _ _
    rw [e1, List.map_map]
    have e2 : ((((List.range W.length).filter fun (k : Nat) => decide ((k : Int) ∉ U)).filter fun k => decide (W.getD k 0 ∈ r)).map ((fun t => cnt (t :: U) (rs.map (rowK W))) ∘ fun (k : Nat) => (k : Int))) = ((((List.range W.length).filter fun (k : Nat) => decide ((k : Int) ∉ U)).filter fun k => decide (W.getD k 0 ∈ r)).map fun k => ways (dec (freeK W U n) (W.getD k 0)) rs) := by
      refine List.map_congr_left fun k hk => ?_
      have hk1 := List.mem_filter.mp (List.mem_filter.mp hk).1
      have kl := List.mem_range.mp hk1.1
      show cnt ((k : Int) :: U) (rs.map (rowK W)) = _
      rw [ih, freeK_cons kl (hW k kl) (of_decide_eq_true hk1.2)]
    rw [e2, sum_kinds (fun k => W.getD k 0) (fun i => ways (dec (freeK W U n) i) rs) hr.1]
    refine congrArg List.sum (List.map_congr_left fun i hi => ?_)
    rw [freeK_get (hr.2 i hi), List.filter_filter]
theorem wide_len : ∀ (k : Nat) (ms : List Nat), (wideF k ms).length = ms.sum
  | _, [] => rfl
  | k, n :: r => by
    unfold wideF
    rw [List.length_append, List.length_replicate, wide_len (k + 1) r, List.sum_cons]
theorem wide_mem : ∀ {k : Nat} {ms : List Nat} {x : Nat}, x ∈ wideF k ms → k ≤ x ∧ x < k + ms.length
  | _, [], _, h => nomatch h
  | k, n :: r, x, h => by
    unfold wideF at h
    rw [List.length_cons]
    rcases List.mem_append.mp h with h | h
    · have := (List.mem_replicate.mp h).2
      omega
    · have := wide_mem h
      omega
theorem wide_count : ∀ {k : Nat} {ms : List Nat} {i : Nat}, (wideF k ms).count (k + i) = ms.getD i 0
  | _, [], i => rfl
  | k, n :: r, 0 => by
    unfold wideF
    rw [List.count_append, Nat.add_zero, List.count_replicate_self]
    have : (wideF (k + 1) r).count k = 0 := List.count_eq_zero.mpr fun h => by
      have := wide_mem h
      omega
    rw [this]
    rfl
  | k, n :: r, i + 1 => by
    unfold wideF
    have ih := wide_count (k := k + 1) (ms := r) (i := i)
    rw [List.count_append, List.count_replicate, if_neg (by simp), Nat.zero_add]
    show _ = r.getD i 0
    rw [← ih]
    congr 1
    omega
theorem range_get (W : List Nat) : (List.range W.length).map (fun k => W.getD k 0) = W := by
  refine List.ext_getElem? fun i => ?_
  rw [List.getElem?_map]
  by_cases h : i < W.length
  · rw [List.getElem?_range h, List.getElem?_eq_getElem h]
    show some (W.getD i 0) = _
    rw [List.getD_eq_getElem?_getD, List.getElem?_eq_getElem h]
    rfl
  · rw [List.getElem?_eq_none (by rw [List.length_range]; omega), List.getElem?_eq_none (by omega)]
    rfl
theorem free_nil (ms : List Nat) : freeK (wideF 0 ms) [] ms.length = ms := by
  refine List.ext_getElem? fun i => ?_
  by_cases h : i < ms.length
  · have e : (freeK (wideF 0 ms) [] ms.length)[i]? = some ((freeK (wideF 0 ms) [] ms.length).getD i 0) := by
      have l1 : (freeK (wideF 0 ms) [] ms.length).length = ms.length := by unfold freeK; rw [List.length_map, List.length_range]
      rw [List.getD_eq_getElem?_getD, List.getElem?_eq_getElem (by omega)]
      rfl
    rw [e, freeK_get h, List.getElem?_eq_getElem h]
    have c := wide_count (k := 0) (ms := ms) (i := i)
    rw [Nat.zero_add, List.getD_eq_getElem?_getD, List.getElem?_eq_getElem h] at c
    have c : (wideF 0 ms).count i = ms[i] := c
    rw [← c]
    congr 1
    have g := range_get (wideF 0 ms)
    obtain ⟨W, eW⟩ : ∃ W, W = wideF 0 ms := ⟨_, rfl⟩
    rw [← eW] at g ⊢
    have : W.count i = ((List.range W.length).map fun k => W.getD k 0).count i := by rw [g]
    rw [this, List.count, List.countP_map, List.countP_eq_length_filter]
    congr 1
    refine List.filter_congr fun x _ => ?_
    show (decide (W.getD x 0 = i) && decide ((x : Int) ∉ ([] : List Int))) = (W.getD x 0 == i)
    rw [show decide ((x : Int) ∉ ([] : List Int)) = true from decide_eq_true (by simp), Bool.and_true]
    rfl
  · have l1 : (freeK (wideF 0 ms) [] ms.length).length = ms.length := by unfold freeK; rw [List.length_map, List.length_range]
    rw [List.getElem?_eq_none (by omega), List.getElem?_eq_none (by omega)]
/-- the dealings of the table of kinds -/
theorem cnt_table {ms : List Nat} {rs : List (List Nat)} (h : ∀ r ∈ rs, r.Nodup ∧ ∀ t ∈ r, t < ms.length) : cnt [] (rs.map (rowK (wideF 0 ms))) = ways ms rs := by
  have e := cnt_kinds (W := wideF 0 ms) (n := ms.length) (fun k hk => by
    have : (wideF 0 ms).getD k 0 ∈ wideF 0 ms := by
      rw [List.getD_eq_getElem?_getD, List.getElem?_eq_getElem hk]
      exact List.getElem_mem hk
    have := wide_mem this
    omega) rs [] h
  rw [e, free_nil]
theorem sum_set : ∀ {L : List Nat} {t : Nat}, 0 < L.getD t 0 → (dec L t).sum + 1 = L.sum
  | [], t, h => by
    have : ([] : List Nat).getD t 0 = 0 := rfl
    omega
  | x :: L, 0, h => by
    have h : 0 < x := h
    show ((x - 1) :: L).sum + 1 = (x :: L).sum
    rw [List.sum_cons, List.sum_cons]
    omega
  | x :: L, t + 1, h => by
    have ih := sum_set (L := L) (t := t) h
    show (x :: dec L t).sum + 1 = (x :: L).sum
    rw [List.sum_cons, List.sum_cons]
    omega
theorem dec_len (L : List Nat) (t : Nat) : (dec L t).length = L.length := by unfold dec; exact List.length_set
theorem fac_pos : ∀ n : Nat, 0 < fac n
  | 0 => Nat.one_pos
  | n + 1 => Nat.mul_pos (Nat.succ_pos n) (fac_pos n)
end Mt
set_option maxRecDepth 100000
set_option maxHeartbeats 4000000
set_option maxRecDepth 100000
set_option maxHeartbeats 2000000
set_option maxRecDepth 100000
set_option maxHeartbeats 4000000
namespace Fo
open PySem PySem.Spec PyProof.Rows L2
section
variable {X : Cx}
def rSortedTT (K : PySem.W.Frag) : List V → Hp → VK → Prop := fun vs H Q => ∃ (a : Addr) (bs : List (Addr × List Int)), vs = [V.ref a] ∧ SqL K H a (bs.map fun b => V.ref b.1) ∧ (∀ b ∈ bs, SqT K H b.1 (b.2.map V.int) ∧ b.2 ≠ []) ∧
  ∀ (os : List (Addr × List Int)) p, os.Perm bs → (os.map fun b => b.2).Pairwise (· ≤ ·) → H p = none → Q (.ref p) (upd H p (.lst (os.map fun b => V.ref b.1)))
theorem cr_sortedTT (hu : X.A.units + 64 < cLine) : CallR X (.builtin "sorted") (rSortedTT X.K) := by
  intro pins s σ H vs us Q I r h
  obtain ⟨a, bs, rfl, hs, hb, q⟩ := h
  obtain ⟨its, rv, hl, hz⟩ := I.list hs
  obtain ⟨u, rfl, ru⟩ := r.one
  obtain rfl : u = Value.ref a := ru
  have ei := refs_of rv
  subst ei
  have bl : bs.length ≤ sizeLine := by
    have := hz
    simpa using this
  refine PySem.W.sorted_data (R := fun v (b : Addr × List Int) => v = Value.ref b.1) (enc := fun b => .tuple (b.2.map .int)) hl.isList (each_refs bs) (each_of fun b hm => ?_) (PySem.W.AllAlike.of fun b b' => ?_) (.inl fun d hd => ?_) bl (fun b _ => ?_) fun out ho eo => ?_
  · exact Dp.reads I (.tuple (b.2.map .int)) (V.ref b.1) (Value.ref b.1) (.tup (hb b hm).1 (dpAll_ints _)) rfl
  · exact PySem.W.alike_ints _ _
  · obtain ⟨b, hm, rfl⟩ := List.mem_map.mp hd
    have ne := (hb b hm).2
    cases e : b.2 with
    | nil => exact absurd e ne
    | cons y r => exact ⟨_, _, rfl⟩
  · show X.A.units + 2 + (PyData.tuple (b.2.map .int)).depth < cLine
    rw [PyData.depth, PySem.W.depth_ints]
    omega
  · obtain ⟨n, hn⟩ := sortedAll_at s.heap (bs.map fun b => Value.ref b.1) out.toArray
    have el : PySem.W.dataLe false (fun b : Addr × List Int => PyData.tuple (b.2.map .int)) = PySem.W.dataLe false (fun b : Addr × List Int => PyData.list (b.2.map .int)) := rfl
    rw [el, PySem.W.dataLe_rows] at eo
    have eo' := each_back eo
    have pm := List.mergeSort_perm bs fun p q => decide (p.2 ≤ q.2)
    have hf := I.hok.fresh (Nat.le_succ s.heap.objs.size)
    refine ⟨.ref (s.heap.objs.size + 1), _, I.laid (t' := s.toks) (o := .lst ((bs.mergeSort fun p q => decide (p.2 ≤ q.2)).map fun b => V.ref b.1)) (fun b o e => sortedAll_old e) (Nat.le_succ _) ⟨?_, out, n, ?_, hn⟩, rfl, q (bs.mergeSort fun p q => decide (p.2 ≤ q.2)) _ pm ?_ hf⟩
    · rw [List.length_map, pm.length_eq]; exact bl
    · rw [eo']
      exact refs_to _
    · rw [List.pairwise_map]
      refine (List.pairwise_mergeSort (fun a b c h1 h2 => ?_) (fun a b => ?_) bs).imp fun h => of_decide_eq_true h
      · exact decide_eq_true (List.le_trans (of_decide_eq_true h1) (of_decide_eq_true h2))
      · by_cases h : a.2 ≤ b.2
        · rw [decide_eq_true h]; rfl
        · rw [decide_eq_true (List.le_of_lt (List.not_le.mp h)), Bool.or_true]
end
/-- an environment of a scope alone -/
def envA (sc : Scope) : Env := { scope := sc, locals := 0, globals := 0, cells := [], qual := "", func := none, code := .none, frame := none, builtins := 0 }
/-- the scopes of the list comprehensions of an expression, the outer ones -/
def exLcs : Nat → Expr → List Scope
  | 0, _ => []
  | n + 1, e => match e with
    | .ListComp _ _ sc _ => [sc]
    | .DictComp _ _ _ sc _ => [sc]
    | .Call _ as _ _ => as.flatMap (exLcs n)
    | .Compare l _ rs _ => exLcs n l ++ rs.flatMap (exLcs n)
    | .BoolOp _ vs _ => vs.flatMap (exLcs n)
    | .BinOp l _ r _ => exLcs n l ++ exLcs n r
    | .UnaryOp _ x _ => exLcs n x
    | .IfExp t a b _ => exLcs n t ++ exLcs n a ++ exLcs n b
    | .Subscript o x _ => exLcs n o ++ exLcs n x
    | .List es _ => es.flatMap (exLcs n)
    | .Tuple es _ _ => es.flatMap (exLcs n)
    | _ => []
def stLcs (s : Stmt) : List Scope := match s with
  | .Assign _ e .. => exLcs 12 e
  | .Return (some e) _ => exLcs 12 e
  | .If t _ _ _ => exLcs 12 t
  | .Expr e _ => exLcs 12 e
  | .AugAssign _ _ e _ => exLcs 12 e
  | .For _ e _ _ _ => exLcs 12 e
  | _ => []
/-- the statement at a path; of an if: 2 k in the body, 2 k + 1 in the else -/
def stAt : Stmt → List Nat → Stmt
  | s, [] => s
  | s, k :: r => match s with
    | .For _ _ b _ _ => stAt (b[k]?.getD s) r
    | .While _ b _ _ => stAt (b[k]?.getD s) r
    | .If _ b e _ => stAt (((if k % 2 = 0 then b else e)[k / 2]?).getD s) r
    | .FunctionDef _ _ b .. => stAt (b[k]?.getD s) r
    | _ => s
/-- the scope of the j-th comprehension of the statement at a path -/
def lcIn (s : Stmt) (p : List Nat) (j : Nat) : Scope := ((stLcs (stAt s p))[j]?).getD (defScope s)
end Fo
set_option maxRecDepth 100000
set_option maxHeartbeats 4000000
namespace Fo
open PySem PySem.Spec PyProof.Rows L2
abbrev s_law_wide : Stmt := top 35
abbrev n_law_wide : List Str := ["numbers", "found", "kind"]
theorem sc_law_wide : FnScope n_law_wide ["numbers"] (defScope s_law_wide) := ⟨rfl, rfl, rfl, by decide +kernel, rfl, by decide +kernel, by decide +kernel⟩
abbrev s_law_kind_rows : Stmt := top 36
abbrev n_law_kind_rows : List Str := ["people", "things", "allowed", "wide", "kind", "k"]
theorem sc_law_kind_rows : FnScope n_law_kind_rows ["people", "things", "allowed"] (defScope s_law_kind_rows) := ⟨rfl, rfl, rfl, by decide +kernel, rfl, by decide +kernel, by decide +kernel⟩
theorem wide_snoc : ∀ {k : Nat} {ns : List Nat} {n : Nat}, Mt.wideF k (ns ++ [n]) = Mt.wideF k ns ++ List.replicate n (k + ns.length)
  | k, [], n => by
    show List.replicate n k ++ [] = [] ++ List.replicate n (k + 0)
    rw [List.append_nil, List.nil_append, Nat.add_zero]
  | k, x :: ns, n => by
    show List.replicate x k ++ Mt.wideF (k + 1) (ns ++ [n]) = (List.replicate x k ++ Mt.wideF (k + 1) ns) ++ List.replicate n (k + (ns.length + 1))
    rw [wide_snoc, List.append_assoc, show k + 1 + ns.length = k + (ns.length + 1) from by omega]
theorem wide_rows (f : List Nat → List Int) : ∀ {k : Nat} {ns : List Nat} {rows all : List (List Nat)}, rows.length = ns.length → (∀ i, all.getD (k + i) [] = rows.getD i []) → (Mt.wideF k ns).map (fun j => f (all.getD j [])) = (pplK ns rows).map f
  | _, [], [], _, _, _ => rfl
  | k, n :: ns, r :: rows, all, hl, h => by
    have h0 : all.getD k [] = r := h 0
    show (List.replicate n k ++ Mt.wideF (k + 1) ns).map _ = (List.replicate n r ++ pplK ns rows).map f
    rw [List.map_append, List.map_append, List.map_replicate, List.map_replicate, h0, wide_rows f (k := k + 1) (ns := ns) (rows := rows) (all := all) (Nat.succ.inj hl) fun i => by
      have := h (i + 1)
      rw [show k + (i + 1) = k + 1 + i from by omega] at this
      exact this]
theorem flat_one (v : V) : ∀ n : Nat, (List.replicate n [v]).flatten = List.replicate n v
  | 0 => rfl
  | n + 1 => by rw [List.replicate_succ, List.flatten_cons, flat_one v n]; rfl
section
variable {P : Program} {w : World} {K : PySem.W.Frag} {mg : Str → Option Value} {base : Heap} {C : Addr}
def spWideK (K : PySem.W.Frag) : Sp := fun vs H Q _ => ∃ (a : Addr) (ns : List Nat), vs = [.ref a] ∧ SqT K H a (ns.map nV) ∧ ns.length ≤ 8 ∧ ns.sum ≤ 100 ∧ ∀ l H', Same H H' → H l = none → H' l = some (.lst ((Mt.wideF 0 ns).map nV)) → Q (.ref l) H'
theorem ok_wideK (A : At K mg "_law_wide" s_law_wide ["numbers"]) (T : Tx mg) : Dfn P w K mg base "_law_wide" ["numbers"] 1 (spWideK K) := by
  refine A.ok sc_law_wide (fun vs H Q E h => ?_) (fun f cdv A outer s H vs Q E hr h => ?_)
  · obtain ⟨_, _, rfl, _⟩ := h
    rfl
  · obtain ⟨a, ns, rfl, ha, n8, s100, k⟩ := h
    refine ⟨_, (pss_cons (ps_set (i := 1) sc_law_wide.nd rfl (Or.inl rfl) (pe_lst pa_nil))
      (pss_cons (ps_for PassesOwn.never rfl (pi_range1 rfl T.range (pa_cons (pe_callB c_len (by rfl) T.len (by decide +kernel) (pa_cons (pv 0) pa_nil)) pa_nil)) (pg_name (i := 2) sc_law_wide.nd rfl (Or.inl rfl))
      (pss_one (ps_set (i := 1) sc_law_wide.nd rfl (Or.inl rfl) (pe_op op_cat (pv 1) (pe_op op_rep (pe_lst (pa_cons (pv 2) pa_nil)) (pe_ix ix_tup (pv 0) (pv 2) (fun _ _ => rfl)))))))
      (pss_one (ps_ret (pv 1))))), ?_⟩
    refine ⟨by show 0 ≤ sizeLine; decide, fun l0 hl0 => ?_⟩
    have s0 := same_new (o := .lst []) hl0
    refine ⟨_, rfl, a, _, rfl, .inr (sqT_same s0 ha), _, rfl, by rw [List.length_map]; omega, by rw [List.length_map]; omega, ?_⟩
    rw [List.length_map]
    refine for_range (lo := 0) (n := ((ns.length : Nat) : Int).toNat) (fun i σ' H' => (∃ l x2, σ' = [some (.ref a), some (.ref l), x2] ∧ H' l = some (.lst ((Mt.wideF 0 (ns.take i)).map nV)) ∧ H l = none) ∧ Same H H') ⟨⟨l0, _, rfl, upd_same, hl0⟩, s0⟩ ?_ ?_
    · rintro i σ' H1 hi ⟨⟨l, x2, rfl, hl, fl⟩, s1⟩
      rw [Int.toNat_natCast] at hi
      obtain ⟨n, hn⟩ : ∃ n, ns[i]? = some n := ⟨_, List.getElem?_eq_getElem hi⟩
      have n100 : n ≤ 100 := Nat.le_trans (mem_le_sum (List.mem_of_getElem? hn)) s100
      have wl : ((Mt.wideF 0 (ns.take i)).map nV).length ≤ 100 := by
        rw [List.length_map, Mt.wide_len]
        refine Nat.le_trans ?_ s100
        have : ns.sum = (ns.take i).sum + (ns.drop i).sum := by rw [← List.sum_append, List.take_append_drop]
        omega
      refine ⟨_, rfl, _, rfl, by show 1 ≤ sizeLine; decide, fun b hb => ?_⟩
      have s2 := same_new (o := .lst [V.int (0 + (i : Int))]) hb
      refine ⟨_, rfl, _, rfl, a, _, ((i : Nat) : Int), nV n, rfl, congrArg V.int (Int.zero_add _), sqT_same (s1.trans s2) ha, atI_nat (j := i) (by rw [List.getElem?_map, hn]; rfl), ?_⟩
      refine ⟨b, _, _, rfl, rfl, upd_same, by omega, by omega, by show 1 * _ ≤ sizeLine; rw [Int.toNat_natCast, Nat.one_mul]; exact Nat.le_trans n100 (by rw [sizeLine_eq]; decide), fun c hc => ?_⟩
      have s3 := same_new (o := .lst (List.replicate (((n : Nat) : Int)).toNat [V.int (0 + (i : Int))]).flatten) hc
      refine ⟨l, c, _, _, rfl, rfl, s3 _ _ (s2 _ _ hl), upd_same, ?_, fun d hd => ?_⟩
      · rw [Int.toNat_natCast, flat_one, List.length_replicate, sizeLine_eq]
        omega
      have s4 := same_new (o := .lst ((Mt.wideF 0 (ns.take i)).map nV ++ (List.replicate (((n : Nat) : Int)).toNat [V.int (0 + (i : Int))]).flatten)) hd
      refine ⟨⟨d, _, rfl, ?_, ?_⟩, ((s1.trans s2).trans s3).trans s4⟩
      · rw [upd_same, Int.toNat_natCast, flat_one, List.take_add_one, hn]
        show _ = some (HO.lst ((Mt.wideF 0 (ns.take i ++ [n])).map nV))
        rw [wide_snoc, List.map_append, List.map_replicate, List.length_take, Nat.min_eq_left (Nat.le_of_lt hi)]
        show some (HO.lst (_ ++ List.replicate n (V.int (0 + (i : Int))))) = some (HO.lst (_ ++ List.replicate n (V.int (((0 + i : Nat)) : Int))))
        rw [Nat.zero_add, Int.zero_add]
      · exact ((s1.trans s2).trans s3).free hd
    · rintro σ' H1 ⟨⟨l, x2, rfl, hl, fl⟩, s1⟩
      rw [Int.toNat_natCast, List.take_length] at hl
      exact ⟨_, rfl, k l H1 s1 fl hl⟩
def spKRows (K : PySem.W.Frag) : Sp := fun vs H Q _ => ∃ (a b c : Addr) (ns ms : List Nat) (us : List V) (rows : List (List Nat)), vs = [.ref a, .ref b, .ref c] ∧ SqT K H a (ns.map nV) ∧ SqT K H b (ms.map nV) ∧ SqT K H c us ∧ RowsT K H us (rowsN rows) ∧ rows.length = ns.length ∧ ns.length ≤ 8 ∧ ms.length ≤ 8 ∧ ns.sum ≤ 100 ∧ ms.sum ≤ 100 ∧ ∀ v H', Same H H' → RowsAt K H' v ((pplK ns rows).map (Mt.rowK (Mt.wideF 0 ms))) → Q v H'
theorem ok_krows (A : At K mg "_law_kind_rows" s_law_kind_rows ["people", "things", "allowed"]) (T : Tx mg) (G_law_wide : Dfn P w K mg base "_law_wide" ["numbers"] 1 (spWideK K)) : Dfn P w K mg base "_law_kind_rows" ["people", "things", "allowed"] 2 (spKRows K) := by
  refine A.ok sc_law_kind_rows (fun vs H Q E h => ?_) (fun f cdv A outer s H vs Q E hr h => ?_)
  · obtain ⟨_, _, _, _, _, _, _, rfl, _⟩ := h
    rfl
  · obtain ⟨a, b, c, ns, ms, us, rows, rfl, ha, hb, hc, hu, rl, n8, m8, ns1, ms1, k⟩ := h
    refine ⟨_, (pss_cons (ps_set (i := 3) sc_law_kind_rows.nd rfl (Or.inr rfl) (pe_d G_law_wide (hr.mono (by decide)) (pa_cons (pv 1) pa_nil)))
      (pss_one (ps_ret (pe_callTy c_tuple (by rfl) T.tuple (by decide +kernel) (pa_cons (pe_lc (own := [("kind", 4)]) (g := (gName 4)) (tt := tYes) (te := (tCB (rTupOf K) (tCons (tLc (iRng1 (tCons (tCB (rLenS K) (tCons (tVar 3) tNil)) tNil)) (gName 5) (tTest (tOp (rIn K false) (tOp (rIxL K) (tVar 3) (tVar 5)) (tOp (rIxT K) (tVar 2) (tVar 4)))) (tVar 5) [5]) tNil))) (by rfl) sc_law_kind_rows.nd (pi_list (pe_d G_law_wide (hr.mono (by decide)) (pa_cons (pv 0) pa_nil))) (blkOk_by (own := [("kind", 4)]) (N := n_law_kind_rows) (sc := (defScope s_law_kind_rows)) (by decide +kernel)) (fun _ _ _ _ _ => (pg_name (i := 4) sc_law_kind_rows.nd rfl (Or.inr rfl))) (fun _ _ _ _ _ => pts_nil) (fun _ _ _ _ _ => (pe_callTy c_tuple (by rfl) T.tuple (by decide +kernel) (pa_cons (pe_lc (own := [("k", 5)]) (g := (gName 5)) (tt := (tTest (tOp (rIn K false) (tOp (rIxL K) (tVar 3) (tVar 5)) (tOp (rIxT K) (tVar 2) (tVar 4))))) (te := (tVar 5)) (by rfl) sc_law_kind_rows.nd (pi_range1 rfl T.range (pa_cons (pe_callB c_len (by rfl) T.len (by decide +kernel) (pa_cons (pv 3) pa_nil)) pa_nil)) (blkOk_by (own := [("k", 5)]) (N := n_law_kind_rows) (sc := (relabel (lcIn s_law_kind_rows [1] 0) (envA (defScope s_law_kind_rows)))) (by decide +kernel)) (fun _ _ _ _ _ => (pg_name (i := 5) sc_law_kind_rows.nd rfl (Or.inl rfl))) (fun _ _ _ _ _ => (pts_one (pt_cmpR op_in_seq (pe_ix ix_list (pv 3) (pv 5) (fun _ _ => rfl)) (pe_ix ix_tup (pv 2) (pv 4) (fun _ _ => rfl)) rfl))) (fun _ _ _ _ _ => (pv 5))) pa_nil)))) pa_nil))))), ?_⟩
    refine ⟨_, rfl, b, ms, rfl, hb, m8, ms1, fun l H1 s1 fl hl => ?_⟩
    refine ⟨_, rfl, a, ns, rfl, sqT_same s1 ha, n8, ns1, fun l2 H2 s2 fl2 hl2 => ?_⟩
    have s12 := s1.trans s2
    obtain ⟨W, eW⟩ : ∃ W, W = Mt.wideF 0 ms := ⟨_, rfl⟩
    rw [← eW] at hl
    have Wl : W.length ≤ 100 := by rw [eW, Mt.wide_len]; exact ms1
    obtain ⟨Z, eZ⟩ : ∃ Z, Z = Mt.wideF 0 ns := ⟨_, rfl⟩
    rw [← eZ] at hl2
    have Zl : Z.length ≤ 100 := by rw [eZ, Mt.wide_len]; exact ns1
    refine ⟨l2, rfl, ⟨_, SqL.of hl2⟩, fun D hD => ?_⟩
    refine lc_list (xs := Z.map nV) (fun i H' => ∃ vs, H' D = some (.lst vs) ∧ RowsT K H' vs ((Z.take i).map fun j => Mt.rowK W (rows.getD j [])) ∧ Same H2 H') ⟨[], upd_same, by rw [List.take_zero]; exact .nil, same_new hD⟩ (fun i H' _ hp => by obtain ⟨_, _, _, s3⟩ := hp; exact SqL.of (s3 _ _ hl2)) ?_ ?_
    · rintro i y H3 hy ⟨vs, h3, hv3, s3⟩
      obtain ⟨κ, hκ, rfl⟩ : ∃ κ, Z[i]? = some κ ∧ y = nV κ := by
        rw [List.getElem?_map] at hy
        cases e : Z[i]? with
        | none => rw [e] at hy; cases hy
        | some u => rw [e] at hy; exact ⟨u, rfl, (Option.some.inj hy).symm⟩
      have kl : κ < rows.length := by
        have := Mt.wide_mem (k := 0) (ms := ns) (x := κ) (by rw [← eZ]; exact List.mem_of_getElem? hκ)
        omega
      have il : i < Z.length := (List.getElem?_eq_some_iff.mp hκ).1
      have s13 := s12.trans s3
      obtain ⟨r, er⟩ : ∃ r, r = rows.getD κ [] := ⟨_, rfl⟩
      have hrk : rows[κ]? = some r := by rw [er, List.getD_eq_getElem?_getD, List.getElem?_eq_getElem kl]; rfl
      obtain ⟨q, hq1, hq2⟩ : ∃ q, us[κ]? = some (V.ref q) ∧ SqT K H q ((r.map fun (t : Nat) => (t : Int)).map V.int) := by
        have e : (rowsN rows)[κ]? = some (r.map fun (t : Nat) => (t : Int)) := by
          unfold rowsN
          rw [List.getElem?_map, hrk]
          rfl
        exact hu.get e
      have hl3 := s3 _ _ (s2 _ _ hl)
      refine ⟨rfl, ?_⟩
      refine ⟨_, rfl, l, _, rfl, .inl (SqL.of hl3), _, rfl, by rw [List.length_map]; omega, by rw [List.length_map]; omega, fun B hB => ?_⟩
      rw [List.length_map]
      have nDB : D ≠ B := ne_of_none h3 hB
      refine lc_range (lo := 0) (n := ((W.length : Nat) : Int).toNat) (fun j H' => H' B = some (.lst (((List.range j).filter fun x => decide (W.getD x 0 ∈ r)).map nV)) ∧ Same H3 H') ⟨upd_same, same_new hB⟩ ?_ ?_
      · rintro j H4 hj ⟨h4, s4⟩
        rw [Int.toNat_natCast] at hj
        have s14 := s13.trans s4
        refine ⟨rfl, ?_⟩
        refine ⟨_, rfl, _, rfl, l, _, ((j : Nat) : Int), nV (W.getD j 0), rfl, congrArg V.int (Int.zero_add _), SqL.of (s4 _ _ hl3), atI_nat (j := j) (by rw [List.getElem?_map, List.getD_eq_getElem?_getD, List.getElem?_eq_getElem hj]; rfl), ?_⟩
        refine ⟨_, rfl, _, rfl, c, _, ((κ : Nat) : Int), .ref q, rfl, rfl, sqT_same s14 hc, atI_nat (j := κ) hq1, ?_⟩
        refine ⟨q, _, rfl, .inr (sqT_same s14 hq2), rfl, all_flat_ints _, _, rfl, ?_⟩
        show if (inV (V.int ((W.getD j 0 : Nat) : Int)) ((r.map fun (t : Nat) => (t : Int)).map V.int)) = true then _ else _
        rw [inV_ints]
        have em : decide (((W.getD j 0 : Nat) : Int) ∈ r.map fun (t : Nat) => (t : Int)) = decide (W.getD j 0 ∈ r) := by
          refine decide_eq_decide.mpr ⟨fun h => ?_, fun h => List.mem_map.mpr ⟨_, h, rfl⟩⟩
          obtain ⟨t, ht, e⟩ := List.mem_map.mp h
          have : t = W.getD j 0 := by omega
          rw [← this]
          exact ht
        rw [em]
        refine ite2 (fun hm => ?_) (fun hm => ?_)
        · refine ⟨_, rfl, _, h4, by rw [List.length_map]; exact small_lt (Nat.le_trans (List.length_filter_le _ _) (by rw [List.length_range]; omega)), ?_, same_mut s4 hB⟩
          rw [upd_same, List.range_succ, List.filter_append, List.filter_cons_of_pos (p := fun x => decide (W.getD x 0 ∈ r)) hm, List.map_append, Int.zero_add]
          rfl
        · refine ⟨?_, s4⟩
          rw [List.range_succ, List.filter_append, List.filter_cons_of_neg (p := fun x => decide (W.getD x 0 ∈ r)) hm, List.filter_nil, List.append_nil]
          exact h4
      · rintro H4 ⟨h4, s4⟩
        rw [Int.toNat_natCast] at h4
        refine ⟨B, _, rfl, .inl ⟨SqL.of h4, fun p hp => ?_⟩⟩
        have s5 := same_new (o := .tup (((List.range W.length).filter fun x => decide (W.getD x 0 ∈ r)).map nV)) hp
        have nDp : D ≠ p := ne_of_none (s4 _ _ h3) hp
        have s45 := s4.trans s5
        refine ⟨vs, s45 _ _ h3, small_lt (by have := hv3.len; rw [List.length_map, List.length_take] at this; omega), vs ++ [.ref p], upd_same, ?_, same_mut (s3.trans s45) hD⟩
        rw [List.take_add_one, hκ, List.map_append]
        have eK : Mt.rowK W (rows.getD κ []) = ((List.range W.length).filter fun x => decide (W.getD x 0 ∈ r)).map fun (k : Nat) => (k : Int) := by rw [← er]; rfl
        refine RowsT.put (s45 _ _ h3) (RowsT.snoc ?_ (hv3.same s45))
        show SqT K _ p ((Mt.rowK W (rows.getD κ [])).map V.int)
        rw [eK, nV_map]
        exact SqT.of upd_same
    · rintro H3 ⟨vs, h3, hv3, s3⟩
      rw [List.length_map, List.take_length] at hv3
      refine ⟨D, _, rfl, .inl ⟨SqL.of h3, fun p hp => ?_⟩⟩
      have s4 := same_new (o := .tup vs) hp
      refine k _ _ ((s12.trans s3).trans s4) ⟨p, vs, rfl, SqT.of upd_same, ?_⟩
      have e := wide_rows (Mt.rowK W) (k := 0) (ns := ns) (rows := rows) (all := rows) rl fun i => by rw [Nat.zero_add]
      rw [← eW, ← e, ← eZ]
      exact hv3.same s4
end
end Fo
set_option maxRecDepth 100000
set_option maxHeartbeats 4000000
namespace Fo
open PySem PySem.Spec PyProof.Rows HT
/-- every second one, from the place a on -/
def evr {α : Type} (a : Nat) (xs : List α) : List α := (List.range ((xs.length - a + 1) / 2)).filterMap fun m => xs[a + m * 2]?
section
variable {prog : Program} {w : World} {A : Around} {E : Value → Shared → Prop} {s : Shared}
def loO (a : Nat) : Option Int → Prop := fun o => o = some (a : Int) ∨ (o = none ∧ a = 0)
theorem evr_len {α : Type} (a : Nat) (xs : List α) : (evr a xs).length ≤ xs.length := by
  unfold evr
  refine Nat.le_trans (List.length_filterMap_le _ _) ?_
  rw [List.length_range]
  omega
end
end Fo
namespace Fo
open PySem PySem.Spec PyProof.Rows L2
theorem vals_evr {a : Nat} {xs : List V} {its : List Value} (r : Vals xs its) : Vals (evr a xs) (evr a its) := by
  have rl : xs.length = its.length := r.length
  have at_ : ∀ (l : List Nat), Vals (l.filterMap fun m => xs[a + m * 2]?) (l.filterMap fun m => its[a + m * 2]?) := by
    have get : ∀ {xs : List V} {its : List Value}, Vals xs its → ∀ i : Nat, (∃ (x : V) (v : Value), xs[i]? = some x ∧ its[i]? = some v ∧ RelV x v) ∨ (xs[i]? = none ∧ its[i]? = none) := by
      intro xs its r
      induction r with
      | nil => intro i; exact .inr ⟨rfl, rfl⟩
      | cons h t ih =>
        intro i
        cases i with
        | zero => exact .inl ⟨_, _, rfl, rfl, h⟩
        | succ i => exact ih i
    intro l
    induction l with
    | nil => exact .nil
    | cons m l ih =>
      rcases get r (a + m * 2) with ⟨x, v, e1, e2, rv⟩ | ⟨e1, e2⟩
      · rw [List.filterMap_cons, List.filterMap_cons, e1, e2]
        exact .cons rv ih
      · rw [List.filterMap_cons, List.filterMap_cons, e1, e2]
        exact ih
  unfold evr
  rw [rl]
  exact at_ _
end Fo
namespace Mt
/-- how many lots of so many out of so many -/
def ch : Nat → Nat → Nat
  | _, 0 => 1
  | 0, _ + 1 => 0
  | n + 1, k + 1 => ch n k + ch n (k + 1)
theorem ch_zero : ∀ n : Nat, ch n 0 = 1
  | 0 => rfl
  | _ + 1 => rfl
theorem ch_above : ∀ {n k : Nat}, n < k → ch n k = 0
  | 0, k + 1, _ => rfl
  | n + 1, k + 1, h => by
    show ch n k + ch n (k + 1) = 0
    rw [ch_above (by omega), ch_above (by omega)]
theorem ch_step : ∀ (n k : Nat), ch n (k + 1) * (k + 1) + ch n k * k = ch n k * n
  | 0, 0 => rfl
  | 0, k + 1 => by
    show 0 * (k + 1 + 1) + 0 * (k + 1) = 0 * 0
    omega
  | n + 1, 0 => by
    have ih := ch_step n 0
    rw [ch_zero] at ih
    show (ch n 0 + ch n 1) * (0 + 1) + ch (n + 1) 0 * 0 = ch (n + 1) 0 * (n + 1)
    rw [ch_zero, ch_zero]
    show (1 + ch n 1) * 1 + 1 * 0 = 1 * (n + 1)
    have ih : ch n 1 * 1 + 1 * 0 = 1 * n := ih
    omega
  | n + 1, k + 1 => by
    have i1 := ch_step n k
    have i2 := ch_step n (k + 1)
    show (ch n (k + 1) + ch n (k + 1 + 1)) * (k + 1 + 1) + (ch n k + ch n (k + 1)) * (k + 1) = (ch n k + ch n (k + 1)) * (n + 1)
    grind
theorem ch_le : ∀ (n k : Nat), ch n k ≤ 2 ^ n
  | n, 0 => by rw [ch_zero]; exact Nat.one_le_two_pow
  | 0, k + 1 => Nat.zero_le _
  | n + 1, k + 1 => by
    show ch n k + ch n (k + 1) ≤ _
    have := ch_le n k
    have := ch_le n (k + 1)
    rw [Nat.pow_succ]
    omega
/-- so many of s and so many of l set on each other -/
def cof (s l j : Nat) : Int := (ch s j : Int) * (ch l j : Int) * (fac j : Int)
theorem cof_zero (s l : Nat) : cof s l 0 = 1 := by
  unfold cof
  rw [ch_zero, ch_zero]
  rfl
theorem cof_above {s l j : Nat} (h : s < j) : cof s l j = 0 := by
  unfold cof
  rw [ch_above h]
  simp
theorem fac_I (j : Nat) : (fac (j + 1) : Int) = ((j : Int) + 1) * (fac j : Int) := by
  show (((j + 1) * fac j : Nat) : Int) = _
  rw [Int.natCast_mul]
  rfl
theorem ch_stepI (n k : Nat) : (ch n (k + 1) : Int) * ((k : Int) + 1) + (ch n k : Int) * (k : Int) = (ch n k : Int) * (n : Int) := by
  have h := ch_step n k
  have e := congrArg (fun x : Nat => (x : Int)) h
  simp only [Int.natCast_add, Int.natCast_mul] at e
  exact e
theorem ch_succI (n k : Nat) : (ch (n + 1) (k + 1) : Int) = (ch n k : Int) + (ch n (k + 1) : Int) := by
  show ((ch n k + ch n (k + 1) : Nat) : Int) = _
  omega
/-- one less, by how many are set -/
theorem cof_less (s : Nat) : ∀ (l j : Nat), (l : Int) * cof s (l - 1) j + (j : Int) * cof s l j = (l : Int) * cof s l j
  | 0, 0 => by simp
  | 0, j + 1 => by
    unfold cof
    rw [show ch 0 (j + 1) = 0 from rfl]
    simp
  | l + 1, 0 => by
    rw [cof_zero, cof_zero]
    simp
  | l + 1, j + 1 => by
    rw [Nat.add_sub_cancel]
    unfold cof
    have h := ch_stepI l j
    rw [ch_succI, Int.natCast_add, Int.natCast_add]
    grind
/-- one more: it stays, or is set on one of them -/
theorem cof_more (s : Nat) : ∀ (l j : Nat), cof (s + 1) l (j + 1) = cof s l (j + 1) + (l : Int) * cof s (l - 1) j
  | 0, j => by
    unfold cof
    rw [show ch 0 (j + 1) = 0 from rfl]
    simp
  | l + 1, j => by
    rw [Nat.add_sub_cancel]
    unfold cof
    have h := ch_stepI l j
    rw [ch_succI, ch_succI, fac_I, Int.natCast_add]
    grind
def sI (f : Nat → Int) : Nat → Int
  | 0 => 0
  | n + 1 => sI f n + f n
theorem sI_congr {f g : Nat → Int} : ∀ {n : Nat}, (∀ i, i < n → f i = g i) → sI f n = sI g n
  | 0, _ => rfl
  | n + 1, h => by
    show sI f n + f n = sI g n + g n
    rw [sI_congr fun i hi => h i (by omega), h n (by omega)]
theorem sI_add (f g : Nat → Int) : ∀ n : Nat, sI (fun i => f i + g i) n = sI f n + sI g n
  | 0 => rfl
  | n + 1 => by
    show sI (fun i => f i + g i) n + (f n + g n) = sI f n + f n + (sI g n + g n)
    rw [sI_add f g n]
    omega
theorem sI_mul (c : Int) (f : Nat → Int) : ∀ n : Nat, sI (fun i => c * f i) n = c * sI f n
  | 0 => (Int.mul_zero c).symm
  | n + 1 => by
    show sI (fun i => c * f i) n + c * f n = c * (sI f n + f n)
    rw [sI_mul c f n, Int.mul_add]
theorem sI_mulR (c : Int) (f : Nat → Int) (n : Nat) : sI (fun i => f i * c) n = sI f n * c := by
  rw [Int.mul_comm, ← sI_mul]
  exact sI_congr fun i _ => Int.mul_comm _ _
theorem sI_zero {f : Nat → Int} : ∀ {n : Nat}, (∀ i, i < n → f i = 0) → sI f n = 0
  | 0, _ => rfl
  | n + 1, h => by
    show sI f n + f n = 0
    rw [sI_zero fun i hi => h i (by omega), h n (by omega)]
    rfl
theorem sI_head (f : Nat → Int) : ∀ n : Nat, sI f (n + 1) = f 0 + sI (fun i => f (i + 1)) n
  | 0 => by
    show 0 + f 0 = f 0 + 0
    omega
  | n + 1 => by
    show sI f (n + 1) + f (n + 1) = f 0 + (sI (fun i => f (i + 1)) n + f (n + 1))
    rw [sI_head f n]
    omega
theorem sI_rev (f : Nat → Int) : ∀ n : Nat, sI f (n + 1) = sI (fun i => f (n - i)) (n + 1)
  | 0 => rfl
  | n + 1 => by
    show sI f (n + 1) + f (n + 1) = _
    rw [sI_head (fun i => f (n + 1 - i)) (n + 1), sI_rev f n]
    show _ = f (n + 1) + sI (fun i => f (n + 1 - (i + 1))) (n + 1)
    rw [sI_congr (f := fun i => f (n + 1 - (i + 1))) (g := fun i => f (n - i)) fun i _ => by show f (n + 1 - (i + 1)) = f (n - i); congr 1; omega]
    omega
theorem sI_swap (F : Nat → Nat → Int) (m : Nat) : ∀ n : Nat, sI (fun i => sI (fun j => F i j) m) n = sI (fun j => sI (fun i => F i j) n) m
  | 0 => (sI_zero fun i _ => rfl).symm
  | n + 1 => by
    show sI (fun i => sI (fun j => F i j) m) n + sI (fun j => F n j) m = sI (fun j => sI (fun i => F i j) n + F n j) m
    rw [sI_add, sI_swap F m n]
/-- over a triangle, by its lines and by its slants -/
theorem sI_tri (F : Nat → Nat → Int) : ∀ n : Nat, sI (fun k => sI (fun j => F (k - j) j) (k + 1)) (n + 1) = sI (fun i => sI (fun j => F i j) (n + 1 - i)) (n + 1)
  | 0 => rfl
  | n + 1 => by
    show sI (fun k => sI (fun j => F (k - j) j) (k + 1)) (n + 1) + sI (fun j => F (n + 1 - j) j) (n + 2) = sI (fun i => sI (fun j => F i j) (n + 2 - i)) (n + 1) + sI (fun j => F (n + 1) j) (n + 2 - (n + 1))
    rw [sI_tri F n]
    have e1 : sI (fun i => sI (fun j => F i j) (n + 2 - i)) (n + 1) = sI (fun i => sI (fun j => F i j) (n + 1 - i)) (n + 1) + sI (fun i => F i (n + 1 - i)) (n + 1) := by
      rw [← sI_add]
      refine sI_congr fun i hi => ?_
      rw [show n + 2 - i = (n + 1 - i) + 1 from by omega]
      rfl
    have e2 : sI (fun j => F (n + 1 - j) j) (n + 2) = sI (fun i => F i (n + 1 - i)) (n + 1) + F (n + 1) 0 := by
      rw [sI_rev _ (n + 1)]
      show sI (fun i => F (n + 1 - (n + 1 - i)) (n + 1 - i)) (n + 1) + F (n + 1 - (n + 1 - (n + 1))) (n + 1 - (n + 1)) = _
      rw [Nat.sub_self, Nat.sub_zero]
      congr 1
      exact sI_congr fun i hi => by rw [show n + 1 - (n + 1 - i) = i from by omega]
    rw [e1, e2, show n + 2 - (n + 1) = 1 from by omega]
    show _ = _ + (0 + F (n + 1) 0)
    omega
def cv (f g : Nat → Int) (k : Nat) : Int := sI (fun j => f (k - j) * g j) (k + 1)
def dl (k : Nat) : Int := if k = 0 then 1 else 0
theorem cv_swap (f g h : Nat → Int) : cv (cv f g) h = cv (cv f h) g := by
  funext k
  have one : ∀ g h : Nat → Int, cv (cv f g) h k = sI (fun j => sI (fun i => if i + j ≤ k then f (k - j - i) * g i * h j else 0) (k + 1)) (k + 1) := by
    intro g h
    refine sI_congr fun j hj => ?_
    show sI (fun i => f (k - j - i) * g i) (k - j + 1) * h j = _
    rw [← sI_mulR]
    have ext : ∀ (m : Nat) {F : Nat → Int} {n : Nat}, (∀ i, n ≤ i → F i = 0) → sI F (n + m) = sI F n := by
      intro m
      induction m with
      | zero => intro F n _; rfl
      | succ m ih =>
        intro F n h0
        show sI F (n + m) + F (n + m) = _
        rw [ih h0, h0 _ (by omega)]
        omega
    have e := ext j (F := fun i => if i + j ≤ k then f (k - j - i) * g i * h j else 0) (n := k - j + 1) fun i hi => if_neg (by omega)
    rw [show k + 1 = k - j + 1 + j from by omega, e]
    exact sI_congr fun i hi => (if_pos (by omega)).symm
  rw [one g h, one h g, sI_swap]
  refine sI_congr fun i hi => sI_congr fun j hj => ?_
  show (if i + j ≤ k then f (k - j - i) * g i * h j else 0) = if j + i ≤ k then f (k - i - j) * h j * g i else 0
  by_cases c : i + j ≤ k
  · rw [if_pos c, if_pos (by omega), show k - j - i = k - i - j from by omega, Int.mul_assoc, Int.mul_assoc, Int.mul_comm (g i)]
  · rw [if_neg c, if_neg (by omega)]
/-- rooks on squares: of so many people and things kind by kind -/
def RK : List Nat → List Nat → Nat → Int
  | s :: S, l :: L => cv (RK S L) (cof s l)
  | _, _ => dl
theorem RK_perm {S S' : List Nat} (h : S.Perm S') : RK S S = RK S' S' := by
  induction h with
  | nil => rfl
  | cons x _ ih =>
    show cv (RK _ _) _ = cv (RK _ _) _
    rw [ih]
  | swap x y l => exact cv_swap _ _ _
  | trans _ _ h1 h2 => exact h1.trans h2
theorem cv_zero (f g : Nat → Int) : cv f g 0 = f 0 * g 0 := by
  show 0 + f 0 * g 0 = _
  omega
theorem RK_zero : ∀ (S L : List Nat), RK S L 0 = 1
  | [], _ => rfl
  | _ :: _, [] => rfl
  | s :: S, l :: L => by
    show cv (RK S L) (cof s l) 0 = 1
    rw [cv_zero, RK_zero S L, cof_zero]
    rfl
theorem RK_above : ∀ {S L : List Nat} {k : Nat}, S.sum < k → RK S L k = 0
  | [], _, k + 1, _ => rfl
  | _ :: _, [], k + 1, _ => rfl
  | s :: S, l :: L, k, h => by
    refine sI_zero fun j hj => ?_
    rw [List.sum_cons] at h
    by_cases c : s < j
    · rw [cof_above c, Int.mul_zero]
    · rw [RK_above (by omega), Int.zero_mul]
/-- one thing less of each kind in turn -/
theorem RK_less : ∀ (S L : List Nat), S.length = L.length → ∀ k : Nat, sI (fun t => (L.getD t 0 : Int) * RK S (dec L t) k) L.length + (k : Int) * RK S L k = (L.sum : Int) * RK S L k
  | [], [], _, 0 => rfl
  | [], [], _, k + 1 => by
    show (0 : Int) + ((k + 1 : Nat) : Int) * 0 = ((0 : Nat) : Int) * 0
    simp
  | s :: S, l :: L, hl, k => by
    have ih := RK_less S L (Nat.succ.inj hl)
    rw [List.length_cons, sI_head]
    have e1 : sI (fun t => (((l :: L).getD (t + 1) 0 : Nat) : Int) * RK (s :: S) (dec (l :: L) (t + 1)) k) L.length = sI (fun j => sI (fun t => (L.getD t 0 : Int) * RK S (dec L t) (k - j)) L.length * cof s l j) (k + 1) := by
      rw [show (fun t => (((l :: L).getD (t + 1) 0 : Nat) : Int) * RK (s :: S) (dec (l :: L) (t + 1)) k) = fun t => sI (fun j => (L.getD t 0 : Int) * RK S (dec L t) (k - j) * cof s l j) (k + 1) from ?_]
      · rw [sI_swap]
        exact sI_congr fun j _ => sI_mulR _ _ _
      · funext t
        show ((L.getD t 0 : Nat) : Int) * cv (RK S (dec L t)) (cof s l) k = _
        unfold cv
        rw [← sI_mul]
        exact sI_congr fun j _ => (Int.mul_assoc _ _ _).symm
    have e0 : (((l :: L).getD 0 0 : Nat) : Int) * RK (s :: S) (dec (l :: L) 0) k = sI (fun j => (l : Int) * (RK S L (k - j) * cof s (l - 1) j)) (k + 1) := by
      show (l : Int) * cv (RK S L) (cof s (l - 1)) k = _
      unfold cv
      rw [← sI_mul]
    rw [e1, e0]
    show _ + _ + (k : Int) * sI (fun j => RK S L (k - j) * cof s l j) (k + 1) = _ * sI (fun j => RK S L (k - j) * cof s l j) (k + 1)
    rw [← sI_mul, ← sI_mul, ← sI_add, ← sI_add]
    refine sI_congr fun j hj => ?_
    have h1 := cof_less s l j
    have h2 := ih (k - j)
    have h3 : ((k - j : Nat) : Int) = (k : Int) - (j : Int) := by omega
    have h4 : (((l :: L).sum : Nat) : Int) = (l : Int) + (L.sum : Int) := by rw [List.sum_cons]; omega
    rw [h3] at h2
    rw [h4]
    grind
def inc (S : List Nat) (p : Nat) : List Nat := S.set p (S.getD p 0 + 1)
/-- one person more -/
theorem RK_inc : ∀ (S L : List Nat), S.length = L.length → ∀ (p : Nat), p < L.length → ∀ k : Nat, RK (inc S p) L (k + 1) = RK S L (k + 1) + (L.getD p 0 : Int) * RK S (dec L p) k
  | [], [], _, _, h, _ => absurd h (Nat.not_lt_zero _)
  | s :: S, l :: L, hl, 0, _, k => by
    show cv (RK S L) (cof (s + 1) l) (k + 1) = cv (RK S L) (cof s l) (k + 1) + (l : Int) * cv (RK S L) (cof s (l - 1)) k
    unfold cv
    rw [sI_head, sI_head (fun j => RK S L (k + 1 - j) * cof s l j), cof_zero, cof_zero, ← sI_mul, Int.add_assoc, ← sI_add]
    congr 1
    refine sI_congr fun j hj => ?_
    show RK S L (k + 1 - (j + 1)) * cof (s + 1) l (j + 1) = RK S L (k + 1 - (j + 1)) * cof s l (j + 1) + _
    rw [show k + 1 - (j + 1) = k - j from by omega, cof_more]
    grind
  | s :: S, l :: L, hl, p + 1, hp, k => by
    have ih := RK_inc S L (Nat.succ.inj hl) p (Nat.lt_of_succ_lt_succ hp)
    show cv (RK (inc S p) L) (cof s l) (k + 1) = cv (RK S L) (cof s l) (k + 1) + (L.getD p 0 : Int) * cv (RK S (dec L p)) (cof s l) k
    unfold cv
    show sI (fun j => RK (inc S p) L (k + 1 - j) * cof s l j) (k + 1) + RK (inc S p) L (k + 1 - (k + 1)) * cof s l (k + 1) = sI (fun j => RK S L (k + 1 - j) * cof s l j) (k + 1) + RK S L (k + 1 - (k + 1)) * cof s l (k + 1) + _
    rw [Nat.sub_self, RK_zero, RK_zero, ← sI_mul]
    rw [show ∀ a b c d : Int, (a = b + c) → a + d = b + d + c from fun a b c d h => by omega]
    rw [← sI_add]
    refine sI_congr fun j hj => ?_
    show RK (inc S p) L (k + 1 - j) * cof s l j = RK S L (k + 1 - j) * cof s l j + _
    rw [show k + 1 - j = k - j + 1 from by omega, ih]
    grind
/-- by signs -/
def sg (k : Nat) : Int := if k % 2 = 0 then 1 else -1
theorem sg_succ (k : Nat) : sg (k + 1) = - sg k := by
  unfold sg
  by_cases h : k % 2 = 0
  · rw [if_pos h, if_neg (by omega)]
  · rw [if_neg h, if_pos (by omega)]
    rfl
theorem sg_add (i j : Nat) : sg (i + j) = sg i * sg j := by
  induction j with
  | zero => show sg i = sg i * 1; omega
  | succ j ih => rw [← Nat.add_assoc, sg_succ, sg_succ, ih, Int.mul_neg]
def Lp (n : Nat) (R : Nat → Int) : Int := sI (fun k => sg k * R k * (fac (n - k) : Int)) (n + 1)
theorem Lp_cv (n : Nat) (R q : Nat → Int) : Lp n (cv R q) = sI (fun i => sg i * R i * Lp (n - i) q) (n + 1) := by
  have e1 : Lp n (cv R q) = sI (fun k => sI (fun j => (fun i j => sg i * R i * (sg j * q j * (fac (n - i - j) : Int))) (k - j) j) (k + 1)) (n + 1) := by
    refine sI_congr fun k hk => ?_
    show sg k * sI (fun j => R (k - j) * q j) (k + 1) * (fac (n - k) : Int) = _
    rw [← sI_mul, ← sI_mulR]
    refine sI_congr fun j hj => ?_
    show sg k * (R (k - j) * q j) * (fac (n - k) : Int) = sg (k - j) * R (k - j) * (sg j * q j * (fac (n - (k - j) - j) : Int))
    rw [show n - (k - j) - j = n - k from by omega, show sg k = sg (k - j) * sg j from by rw [← sg_add]; congr 1; omega]
    grind
  refine e1.trans ((sI_tri (fun i j => sg i * R i * (sg j * q j * (fac (n - i - j) : Int))) n).trans ?_)
  refine sI_congr fun i hi => ?_
  show sI (fun j => sg i * R i * (sg j * q j * (fac (n - i - j) : Int))) (n + 1 - i) = _
  rw [sI_mul, show n + 1 - i = n - i + 1 from by omega]
  rfl
def ff (x : Int) : Nat → Int
  | 0 => 1
  | s + 1 => ff x s * (x - (s : Int))
theorem Lp_dl (n : Nat) : Lp n dl = (fac n : Int) := by
  unfold Lp
  rw [sI_head, sI_zero (f := fun i => sg (i + 1) * dl (i + 1) * (fac (n - (i + 1)) : Int)) fun i _ => ?_]
  · show sg 0 * dl 0 * (fac (n - 0) : Int) + 0 = _
    rw [Nat.sub_zero]
    show 1 * 1 * _ + 0 = _
    omega
  · show sg (i + 1) * 0 * _ = 0
    simp
/-- one square alone -/
theorem Lp_cof : ∀ (s l n : Nat), s ≤ n → Lp n (cof s l) = ff ((n : Int) - (l : Int)) s * (fac (n - s) : Int)
  | 0, l, n, _ => by
    have e : cof 0 l = dl := by
      funext j
      cases j with
      | zero => exact cof_zero 0 l
      | succ j => exact cof_above (Nat.succ_pos j)
    rw [e, Lp_dl]
    show _ = 1 * _
    rw [Nat.sub_zero, Int.one_mul]
  | s + 1, l, n + 1, h => by
    have i1 := Lp_cof s l (n + 1) (by omega)
    have e : Lp (n + 1) (cof (s + 1) l) = Lp (n + 1) (cof s l) - (l : Int) * Lp n (cof s (l - 1)) := by
      unfold Lp
      rw [sI_head, sI_head (fun k => sg k * cof s l k * (fac (n + 1 - k) : Int)), cof_zero, cof_zero, ← sI_mul]
      rw [show ∀ a b c d : Int, (b = c + -1 * d) → a + b = a + c - d from fun a b c d h => by omega]
      rw [← sI_mul, ← sI_add]
      refine sI_congr fun j hj => ?_
      show sg (j + 1) * cof (s + 1) l (j + 1) * (fac (n + 1 - (j + 1)) : Int) = sg (j + 1) * cof s l (j + 1) * (fac (n + 1 - (j + 1)) : Int) + -1 * ((l : Int) * (sg j * cof s (l - 1) j * (fac (n - j) : Int)))
      rw [cof_more, sg_succ, show n + 1 - (j + 1) = n - j from by omega]
      grind
    rw [e, i1]
    have f1 : (fac (n + 1 - s) : Int) = ((n : Int) + 1 - (s : Int)) * (fac (n - s) : Int) := by
      rw [show n + 1 - s = (n - s) + 1 from by omega, fac_I, show ((n - s : Nat) : Int) = (n : Int) - (s : Int) from by omega]
      congr 1
      omega
    rw [show n + 1 - (s + 1) = n - s from by omega, f1]
    show _ = ff _ s * (_ - (s : Int)) * _
    cases l with
    | zero =>
      rw [Int.natCast_add]
      simp
      grind
    | succ l =>
      rw [Nat.add_sub_cancel, Lp_cof s l n (by omega), Int.natCast_add, Int.natCast_add]
      rw [show (n : Int) + ((1 : Nat) : Int) - ((l : Int) + ((1 : Nat) : Int)) = (n : Int) - (l : Int) from by omega]
      grind
theorem ff_low : ∀ (s x : Nat), x < s → ff (x : Int) s = 0
  | s + 1, x, h => by
    show ff _ s * ((x : Int) - (s : Int)) = 0
    by_cases c : x = s
    · rw [c, Int.sub_self, Int.mul_zero]
    · rw [ff_low s x (by omega), Int.zero_mul]
theorem ff_self : ∀ s : Nat, ff (s : Int) s = (fac s : Int)
  | 0 => rfl
  | s + 1 => by
    have gen : ∀ (t x : Nat), ff ((x + 1 : Nat) : Int) (t + 1) = ((x : Int) + 1) * ff (x : Int) t := by
      intro t
      induction t with
      | zero => intro x; show 1 * (((x + 1 : Nat) : Int) - ((0 : Nat) : Int)) = ((x : Int) + 1) * 1; omega
      | succ t ih =>
        intro x
        show ff ((x + 1 : Nat) : Int) (t + 1) * (((x + 1 : Nat) : Int) - ((t + 1 : Nat) : Int)) = _ * (ff (x : Int) t * ((x : Int) - (t : Int)))
        rw [ih, Int.mul_assoc]
        congr 2
        omega
    rw [gen, ff_self s, fac_I]
/-- half of all are of one kind -/
theorem Lp_half {S : List Nat} {m : Nat} (h : S.sum = m) : Lp (m + m) (RK (m :: S) (m :: S)) = (fac m : Int) * (fac m : Int) := by
  show Lp (m + m) (cv (RK S S) (cof m m)) = _
  rw [Lp_cv, sI_head, sI_zero (f := fun i => sg (i + 1) * RK S S (i + 1) * Lp (m + m - (i + 1)) (cof m m)) fun i hi => ?_]
  · rw [RK_zero, Nat.sub_zero, Lp_cof m m (m + m) (by omega), Nat.add_sub_cancel, show ((m + m : Nat) : Int) - (m : Int) = (m : Int) from by omega, ff_self]
    show 1 * 1 * _ + 0 = _
    omega
  · show sg (i + 1) * RK S S (i + 1) * Lp (m + m - (i + 1)) (cof m m) = 0
    by_cases c : m < i + 1
    · rw [RK_above (by omega)]
      simp
    · rw [Lp_cof m m _ (by omega), show ((m + m - (i + 1) : Nat) : Int) - (m : Int) = ((m - (i + 1) : Nat) : Int) from by omega, ff_low m (m - (i + 1)) (by omega)]
      simp
/-- more than half are of one kind -/
theorem Lp_most {S : List Nat} {m : Nat} (h : S.sum < m) : Lp (m + S.sum) (RK (m :: S) (m :: S)) = 0 := by
  show Lp (m + S.sum) (cv (RK S S) (cof m m)) = _
  rw [Lp_cv]
  refine sI_zero fun i hi => ?_
  by_cases c : S.sum < i
  · rw [RK_above c]
    simp
  · rw [Lp_cof m m _ (by omega), show ((m + S.sum - i : Nat) : Int) - (m : Int) = ((S.sum - i : Nat) : Int) from by omega, ff_low m (S.sum - i) (by omega)]
    simp
def own (m p : Nat) : List Nat := (List.range m).filter fun t => decide (t ≠ p)
theorem sum_own (f : Nat → Nat) (p : Nat) : ∀ m : Nat, (((own m p).map f).sum : Int) + (if p < m then (f p : Int) else 0) = sI (fun t => (f t : Int)) m
  | 0 => rfl
  | m + 1 => by
    have ih := sum_own f p m
    show _ = sI (fun t => (f t : Int)) m + (f m : Int)
    rw [← ih]
    unfold own
    rw [List.range_succ, List.filter_append, List.map_append, List.sum_append]
    by_cases c : m = p
    · subst c
      rw [show [m].filter (fun t => decide (t ≠ m)) = [] from by simp, if_neg (Nat.lt_irrefl m), if_pos (Nat.lt_succ_self m), List.map_nil, List.sum_nil]
      omega
    · rw [show [m].filter (fun t => decide (t ≠ p)) = [m] from by simp [c]]
      by_cases d : p < m
      · rw [if_pos d, if_pos (by omega), List.map_cons, List.map_nil, List.sum_cons, List.sum_nil]
        omega
      · rw [if_neg d, if_neg (by omega), List.map_cons, List.map_nil, List.sum_cons, List.sum_nil]
        omega
def cntS (m : Nat) : List Nat → List Nat
  | [] => List.replicate m 0
  | p :: ks => inc (cntS m ks) p
theorem cntS_len (m : Nat) : ∀ ks : List Nat, (cntS m ks).length = m
  | [] => List.length_replicate
  | p :: ks => by
    show (inc _ _).length = m
    unfold inc
    rw [List.length_set, cntS_len m ks]
theorem inc_sum : ∀ {S : List Nat} {p : Nat}, p < S.length → (inc S p).sum = S.sum + 1
  | s :: S, 0, _ => by
    show ((s + 1) :: S).sum = (s :: S).sum + 1
    rw [List.sum_cons, List.sum_cons]
    omega
  | s :: S, p + 1, h => by
    show (s :: inc S p).sum = (s :: S).sum + 1
    rw [List.sum_cons, List.sum_cons, inc_sum (Nat.lt_of_succ_lt_succ h)]
    omega
theorem cntS_sum {m : Nat} : ∀ {ks : List Nat}, (∀ p ∈ ks, p < m) → (cntS m ks).sum = ks.length
  | [], _ => by
    show (List.replicate m 0).sum = 0
    simp
  | p :: ks, h => by
    show (inc _ _).sum = _
    rw [inc_sum (by rw [cntS_len]; exact h p List.mem_cons_self), cntS_sum fun q hq => h q (List.mem_cons_of_mem _ hq), List.length_cons]
theorem RK_none : ∀ (L : List Nat) (m : Nat), RK (List.replicate m 0) L = dl
  | [], m => by cases m <;> rfl
  | l :: L, 0 => rfl
  | l :: L, m + 1 => by
    show cv (RK (List.replicate m 0) L) (cof 0 l) = dl
    rw [RK_none L m]
    have e : cof 0 l = dl := by
      funext j
      cases j with
      | zero => exact cof_zero 0 l
      | succ j => exact cof_above (Nat.succ_pos j)
    rw [e]
    funext k
    unfold cv
    rw [sI_head, sI_zero (f := fun j => dl (k - (j + 1)) * dl (j + 1)) fun j _ => ?_]
    · show dl (k - 0) * 1 + 0 = dl k
      rw [Nat.sub_zero]
      omega
    · show _ * 0 = _
      simp
/-- the ways are what the signs leave -/
theorem ways_own {m : Nat} : ∀ (ks L : List Nat), (∀ p ∈ ks, p < m) → L.length = m → L.sum = ks.length → (ways L (ks.map (own m)) : Int) = Lp ks.length (RK (cntS m ks) L)
  | [], L, _, hm, hs => by
    show ((1 : Nat) : Int) = Lp 0 (RK (List.replicate m 0) L)
    rw [RK_none, Lp_dl]
    rfl
  | p :: ks, L, hk, hm, hs => by
    have hp := hk p List.mem_cons_self
    have ihs := fun L' => ways_own ks L' fun q hq => hk q (List.mem_cons_of_mem _ hq)
    obtain ⟨S, eS⟩ : ∃ S, S = cntS m ks := ⟨_, rfl⟩
    have Sl : S.length = L.length := by rw [eS, cntS_len, hm]
    have Ss : S.sum = ks.length := by rw [eS]; exact cntS_sum fun q hq => hk q (List.mem_cons_of_mem _ hq)
    rw [List.length_cons] at hs
    have each : ∀ t, t < m → ((L.getD t 0 * ways (dec L t) (ks.map (own m)) : Nat) : Int) = (L.getD t 0 : Int) * Lp ks.length (RK S (dec L t)) := by
      intro t _
      rw [Int.natCast_mul]
      by_cases z : L.getD t 0 = 0
      · rw [z]
        simp
      · have h0 := sum_set (L := L) (t := t) (by omega)
        rw [ihs (dec L t) (by rw [dec_len, hm]) (by omega), eS]
    show (((own m p).map fun t => L.getD t 0 * ways (dec L t) (ks.map (own m))).sum : Int) = Lp (ks.length + 1) (RK (inc (cntS m ks) p) L)
    have e1 := sum_own (fun t => L.getD t 0 * ways (dec L t) (ks.map (own m))) p m
    rw [if_pos hp, each p hp, sI_congr each] at e1
    rw [← eS]
    -- all kinds together
    have e2 : sI (fun t => (L.getD t 0 : Int) * Lp ks.length (RK S (dec L t))) m = Lp (ks.length + 1) (RK S L) := by
      unfold Lp
      rw [show (fun t => (L.getD t 0 : Int) * sI (fun k => sg k * RK S (dec L t) k * (fac (ks.length - k) : Int)) (ks.length + 1)) = fun t => sI (fun k => sg k * ((L.getD t 0 : Int) * RK S (dec L t) k) * (fac (ks.length - k) : Int)) (ks.length + 1) from by
        funext t
        rw [← sI_mul]
        exact sI_congr fun k _ => by grind]
      rw [sI_swap]
      show _ = sI (fun k => sg k * RK S L k * (fac (ks.length + 1 - k) : Int)) (ks.length + 1) + sg (ks.length + 1) * RK S L (ks.length + 1) * (fac (ks.length + 1 - (ks.length + 1)) : Int)
      rw [RK_above (k := ks.length + 1) (by omega), Int.mul_zero, Int.zero_mul, Int.add_zero]
      refine sI_congr fun k hk2 => ?_
      show sI (fun t => sg k * ((L.getD t 0 : Int) * RK S (dec L t) k) * (fac (ks.length - k) : Int)) m = sg k * RK S L k * (fac (ks.length + 1 - k) : Int)
      rw [sI_mulR, sI_mul]
      have h := RK_less S L Sl k
      rw [hs, hm] at h
      rw [show ks.length + 1 - k = ks.length - k + 1 from by omega, fac_I, show ((ks.length - k : Nat) : Int) = (ks.length : Int) - (k : Int) from by omega]
      rw [Int.natCast_add] at h
      grind
    have e3 : Lp (ks.length + 1) (RK (inc S p) L) = Lp (ks.length + 1) (RK S L) - (L.getD p 0 : Int) * Lp ks.length (RK S (dec L p)) := by
      unfold Lp
      rw [sI_head, sI_head (fun k => sg k * RK S L k * (fac (ks.length + 1 - k) : Int)), RK_zero, RK_zero, ← sI_mul]
      rw [show ∀ a b c d : Int, (b = c + -1 * d) → a + b = a + c - d from fun a b c d h => by omega]
      rw [← sI_mul, ← sI_add]
      refine sI_congr fun j hj => ?_
      show sg (j + 1) * RK (inc S p) L (j + 1) * (fac (ks.length + 1 - (j + 1)) : Int) = sg (j + 1) * RK S L (j + 1) * (fac (ks.length + 1 - (j + 1)) : Int) + -1 * ((L.getD p 0 : Int) * (sg j * RK S (dec L p) j * (fac (ks.length - j) : Int)))
      rw [RK_inc S L Sl p (by omega), sg_succ, show ks.length + 1 - (j + 1) = ks.length - j from by omega]
      grind
    rw [e3, ← e2]
    omega
end Mt
namespace Mt
theorem ch_ff (n : Nat) : ∀ k : Nat, (ch n k : Int) * (fac k : Int) = ff (n : Int) k
  | 0 => by
    rw [ch_zero]
    rfl
  | k + 1 => by
    have ih := ch_ff n k
    have h := ch_stepI n k
    rw [fac_I]
    show _ = ff (n : Int) k * ((n : Int) - (k : Int))
    rw [← ih]
    grind
theorem ff_fac : ∀ (n k : Nat), k ≤ n → ff (n : Int) k * (fac (n - k) : Int) = (fac n : Int)
  | n, 0, _ => by
    show 1 * _ = _
    rw [Nat.sub_zero, Int.one_mul]
  | n, k + 1, h => by
    have ih := ff_fac n k (by omega)
    rw [← ih, show n - k = (n - (k + 1)) + 1 from by omega, fac_I]
    show ff (n : Int) k * ((n : Int) - (k : Int)) * _ = _
    rw [show ((n - (k + 1) : Nat) : Int) + 1 = (n : Int) - (k : Int) from by omega, Int.mul_assoc]
theorem ch_other {n k : Nat} (h : k ≤ n) : ch n (n - k) = ch n k := by
  have e1 : (ch n k : Int) * (fac k : Int) * (fac (n - k) : Int) = (fac n : Int) := by rw [ch_ff, ff_fac n k h]
  have e2 : (ch n (n - k) : Int) * (fac (n - k) : Int) * (fac k : Int) = (fac n : Int) := by
    have := ff_fac n (n - k) (by omega)
    rw [show n - (n - k) = k from by omega] at this
    rw [ch_ff, this]
  have f1 : (0 : Int) < (fac k : Int) := Int.ofNat_lt.mpr (fac_pos k)
  have f2 : (0 : Int) < (fac (n - k) : Int) := Int.ofNat_lt.mpr (fac_pos (n - k))
  have e3 : (ch n (n - k) : Int) * ((fac (n - k) : Int) * (fac k : Int)) = (ch n k : Int) * ((fac (n - k) : Int) * (fac k : Int)) := by grind
  have := Int.eq_of_mul_eq_mul_right (Int.ne_of_gt (Int.mul_pos f2 f1)) e3
  omega
theorem cntS_get {m : Nat} : ∀ {ks : List Nat} {i : Nat}, i < m → (cntS m ks).getD i 0 = ks.count i
  | [], i, h => by
    show (List.replicate m 0).getD i 0 = 0
    rw [List.getD_eq_getElem?_getD, List.getElem?_replicate]
    split <;> rfl
  | p :: ks, i, h => by
    have ih := cntS_get (ks := ks) h
    show (inc (cntS m ks) p).getD i 0 = _
    unfold inc
    rw [List.count_cons, List.getD_eq_getElem?_getD, List.getElem?_set]
    by_cases c : p = i
    · subst c
      rw [if_pos rfl, cntS_len, if_pos h, if_pos (beq_self_eq_true p), ← ih]
      rfl
    · rw [if_neg c, if_neg (by simpa using c), ← ih, List.getD_eq_getElem?_getD]
      rfl
theorem cntS_wide (S : List Nat) : cntS S.length (wideF 0 S) = S := by
  refine List.ext_getElem (cntS_len _ _) fun i h1 h2 => ?_
  have h := cntS_get (m := S.length) (ks := wideF 0 S) h2
  have h3 := wide_count (k := 0) (ms := S) (i := i)
  rw [Nat.zero_add] at h3
  rw [h3, List.getD_eq_getElem?_getD, List.getD_eq_getElem?_getD, List.getElem?_eq_getElem h1, List.getElem?_eq_getElem h2] at h
  exact h
theorem ways_fam (S : List Nat) : (ways S ((wideF 0 S).map (own S.length)) : Int) = Lp S.sum (RK S S) := by
  have h := ways_own (m := S.length) (wideF 0 S) S (fun p hp => by have := wide_mem hp; omega) rfl (wide_len 0 S).symm
  rw [h, cntS_wide, wide_len]
theorem fac_two : ∀ n : Nat, n ≤ 511 → fac n ≤ 2 ^ (9 * n)
  | 0, _ => Nat.le_refl _
  | n + 1, h => by
    have ih := fac_two n (by omega)
    show (n + 1) * fac n ≤ _
    rw [show 9 * (n + 1) = 9 + 9 * n from by omega, Nat.pow_add]
    exact Nat.mul_le_mul (by show n + 1 ≤ 512; omega) ih
theorem pow_le {a b : Nat} (h : a ≤ b) : 2 ^ a ≤ 2 ^ b := Nat.pow_le_pow_right (by decide) h
theorem cof_abs {s l j : Nat} (hs : s ≤ 400) (hl : l ≤ 400) (hj : j ≤ 400) : (cof s l j).natAbs ≤ 2 ^ 4400 := by
  unfold cof
  rw [Int.natAbs_mul, Int.natAbs_mul, Int.natAbs_natCast, Int.natAbs_natCast, Int.natAbs_natCast]
  have h1 := Nat.le_trans (ch_le s j) (pow_le hs)
  have h2 := Nat.le_trans (ch_le l j) (pow_le hl)
  have h3 := Nat.le_trans (fac_two j (by omega)) (pow_le (show 9 * j ≤ 3600 by omega))
  refine Nat.le_trans (Nat.mul_le_mul (Nat.mul_le_mul h1 h2) h3) ?_
  rw [← Nat.pow_add, ← Nat.pow_add]
  exact pow_le (by omega)
theorem sI_abs {f : Nat → Int} {C : Nat} : ∀ {n : Nat}, (∀ i, i < n → (f i).natAbs ≤ C) → (sI f n).natAbs ≤ n * C
  | 0, _ => by show (0 : Int).natAbs ≤ _; exact Nat.zero_le _
  | n + 1, h => by
    show (sI f n + f n).natAbs ≤ _
    refine Nat.le_trans (Int.natAbs_add_le _ _) ?_
    rw [Nat.succ_mul]
    exact Nat.add_le_add (sI_abs fun i hi => h i (by omega)) (h n (by omega))
set_option exponentiation.threshold 5000
theorem RK_abs : ∀ {S L : List Nat} {k : Nat}, (∀ s ∈ S, s ≤ 400) → (∀ l ∈ L, l ≤ 400) → k ≤ 400 → (RK S L k).natAbs ≤ 2 ^ (4409 * S.length)
  | [], _, k, _, _, _ => by
    show (if k = 0 then (1 : Int) else 0).natAbs ≤ _
    split
    · exact Nat.one_le_two_pow
    · exact Nat.zero_le _
  | _ :: _, [], k, _, _, _ => by
    show (if k = 0 then (1 : Int) else 0).natAbs ≤ _
    split
    · exact Nat.one_le_two_pow
    · exact Nat.zero_le _
  | s :: S, l :: L, k, hs, hl, hk => by
    have e : ∀ i, i < k + 1 → (RK S L (k - i) * cof s l i).natAbs ≤ 2 ^ (4409 * S.length + 4400) := by
      intro i hi
      rw [Int.natAbs_mul, Nat.pow_add]
      exact Nat.mul_le_mul (RK_abs (fun x hx => hs x (List.mem_cons_of_mem _ hx)) (fun x hx => hl x (List.mem_cons_of_mem _ hx)) (by omega)) (cof_abs (hs s List.mem_cons_self) (hl l List.mem_cons_self) (by omega))
    refine Nat.le_trans (sI_abs e) ?_
    have h9 : k + 1 ≤ 2 ^ 9 := by
      clear e
      omega
    rw [List.length_cons, show 4409 * (S.length + 1) = 9 + (4409 * S.length + 4400) from by omega, Nat.pow_add 2 9]
    generalize 2 ^ (4409 * S.length + 4400) = C
    exact Nat.mul_le_mul_right C h9
end Mt
set_option maxRecDepth 100000
set_option maxHeartbeats 4000000
namespace Fo
open PySem PySem.Spec PyProof.Rows L2
theorem range_two {a n : Nat} (h : a ≤ n) : sliceRange (a : Int) (n : Int) 2 = (List.range ((n - a + 1) / 2)).map fun m => a + m * 2 := by
  unfold sliceRange
  have h1 : ((2 : Int) > 0) := by decide
  by_cases c : (a : Int) < (n : Int)
  · have e : (((n : Int) - (a : Int) + 2 - 1) / 2).toNat = (n - a + 1) / 2 := by omega
    simp only [h1, if_true, c, e]
    refine List.map_congr_left fun m _ => ?_
    omega
  · have e : n = a := by omega
    subst e
    simp
theorem pick_twoL {a : Nat} {items : Array Value} (h : a ≤ items.size) {o : Option Int} (ho : loO a o) : slicePick items o none (some 2) = (evr a items.toList).toArray := by
  unfold slicePick
  have e : sliceBounds o none (some 2) items.size = ((a : Int), (items.size : Int), 2) := by
    rcases ho with rfl | ⟨rfl, rfl⟩
    · show ((if (2 : Int) > 0 then max 0 (min (if (a : Int) < 0 then (a : Int) + (items.size : Int) else (a : Int)) (items.size : Int)) else _), _, _) = _
      rw [if_pos (by decide), if_neg (by omega)]
      show _ = ((a : Int), (items.size : Int), (2 : Int))
      rw [show max (0 : Int) (min (a : Int) (items.size : Int)) = (a : Int) from by omega]
      rfl
    · rfl
  rw [e]
  show ((sliceRange (a : Int) (items.size : Int) 2).filterMap (items[·]?)).toArray = _
  rw [range_two h, List.filterMap_map]
  unfold evr
  rw [Array.length_toList]
  refine congrArg List.toArray ?_
  have aux : ∀ (l : List Nat) (f g : Nat → Option Value), (∀ x ∈ l, f x = g x) → l.filterMap f = l.filterMap g := by
    intro l f g hfg
    induction l with
    | nil => rfl
    | cons x l ih => rw [List.filterMap_cons, List.filterMap_cons, hfg x List.mem_cons_self, ih fun y hy => hfg y (List.mem_cons_of_mem _ hy)]
  refine aux _ _ _ fun m _ => ?_
  show items[a + m * 2]? = _
  rw [Array.getElem?_toList]
/-- xs[::2], xs[1::2] of a list -/
def tStepL (K : PySem.W.Frag) (te : TE) (tl : TO) : TE := fun σ H Q => te σ H fun x H1 => tl σ H1 fun o H2 => ∃ a xs n, x = .ref a ∧ SqL K H2 a xs ∧ loO n o ∧ n ≤ xs.length ∧ ∀ p, H2 p = none → Q (.ref p) (upd H2 p (.lst (evr n xs)))
theorem pe_stepL {X : Cx} {e : Expr} {te : TE} {lo : Option Expr} {tl : TO} {k : Nat} {p1 p3 pos : Pos} (he : PE X e te) (hl : PO X lo tl) : PE X (.Subscript e (.Slice lo none (some (.Constant (.int 2) k p1)) p3) pos) (tStepL X.K te tl) := by
  refine ⟨fun pins s σ H Q I h => ?_⟩
  refine Subscript_ (thn (he.run pins s σ H _ I h) fun v s1 ⟨x, H1, I1, r1, q1⟩ => ?_)
  have hst : PO X (some (.Constant (.int 2) k p1)) (tPart (tC (.int 2))) := po_some pe_int
  refine wpAny_Slice (thn (hl.run pins s1 σ H1 _ I1 q1) fun vl s2 ⟨l, H2, I2, pl, q2⟩ => ?_)
  obtain ⟨a, xs, n, ex, hx, ho, hn, q⟩ := q2
  subst ex
  cases r1
  refine thn (po_none.run pins s2 σ H2 (fun o H3 => o = none ∧ H3 = H2) I2 ⟨rfl, rfl⟩) fun vu s3 ⟨u, H3, I3, pu, eu, e3⟩ => ?_
  subst eu e3
  refine thn (hst.run pins s3 σ H3 (fun o H4 => o = some 2 ∧ H4 = H3) I3 ⟨2, rfl, rfl, rfl⟩) fun vs s4 ⟨o, H4, I4, ps, eo, e4⟩ => ?_
  subst eo e4
  have I5 : Inv X pins σ H4 { s4 with heap := s4.heap.push { cls := .type "slice", data := .fields #[vl, vu, vs] } } := I4.kept (t' := s4.toks) fun b ob q => Heap.get?_push_of_some _ q
  obtain ⟨its, r, ht, hz⟩ := I5.list hx
  have hlen := r.length
  show wpAny (model X.prog X.w) X.A (subscriptTail e (.Slice lo none (some (.Constant (.int 2) k p1)) p3) (.ref a) (.ref s4.heap.objs.size)) (EP X pins σ Q) X.xe { s4 with heap := s4.heap.push { cls := .type "slice", data := .fields #[vl, vu, vs] } }
  refine tail_any (ops := [.ref a, .ref s4.heap.objs.size]) ht.isList.typeIs (PySem.slot_list_getitem.lookup) ?_ (by with_unfolding_all rfl)
  refine wpAny_getItem_list_slice ht.isList (Heap.IsSliceOf.new _ vl vu vs) pl pu ps (by decide) ?_ (by rw [List.size_toArray]; omega)
  rw [pick_twoL (a := n) (by rw [List.size_toArray]; omega) ho]
  refine ⟨.ref _, _, I5.laid (t' := s4.toks) (o := .lst (evr n xs)) (fun b ob q => Heap.get?_push_of_some _ q) (Nat.le_refl _) ?_, rfl, q _ (I5.hok.fresh (Nat.le_refl _))⟩
  exact ⟨Nat.le_trans (evr_len _ _) hz, _, 0, vals_evr r, Heap.get?_push_size _ rfl⟩
theorem fp_ff (n : Int) : ∀ k : Nat, Builtin.Math.fallingProduct n k = Mt.ff n k
  | 0 => PySem.W.mc_fp_zero n
  | k + 1 => by
    rw [PySem.W.mc_fp_succ, fp_ff n k]
    rfl
theorem comb_ch {a b : Nat} : PySem.W.mcComb (a : Int) (b : Int) = (Mt.ch a b : Int) := by
  by_cases h : b ≤ a
  · have at_ : ∀ m : Nat, Mt.ch a m = Mt.ch a b → Builtin.Math.fallingProduct (a : Int) m / Builtin.Math.fallingProduct (m : Int) m = (Mt.ch a b : Int) := by
      intro m e
      rw [fp_ff, fp_ff, Mt.ff_self, ← Mt.ch_ff, ← e]
      exact Int.mul_ediv_cancel _ (Int.ne_of_gt (Int.ofNat_lt.mpr (Mt.fac_pos m)))
    by_cases c : b ≤ a - b
    · rw [PySem.W.mcComb_at (by omega) (by omega) (show min (b : Int) ((a : Int) - (b : Int)) = ((b : Nat) : Int) from by omega)]
      exact at_ b rfl
    · rw [PySem.W.mcComb_at (by omega) (by omega) (show min (b : Int) ((a : Int) - (b : Int)) = ((a - b : Nat) : Int) from by omega)]
      exact at_ (a - b) (Mt.ch_other h)
  · rw [PySem.W.mcComb_above (by omega), Mt.ch_above (by omega)]
    rfl
theorem facN : ∀ n : Nat, Builtin.Math.factorialNat n = Mt.fac n
  | 0 => rfl
  | n + 1 => by
    rw [PySem.W.mc_fac_succ, facN n, Nat.mul_comm]
    rfl
section
variable {X : Cx}
def rComb : List V → Hp → VK → Prop := fun vs H Q => ∃ a b : Nat, vs = [nV a, nV b] ∧ a ≤ 9000 ∧ b ≤ 9000 ∧ Q (nV (Mt.ch a b)) H
theorem cr_comb : CallR X (.builtin "math.comb") rComb := by
  intro pins s σ H vs us Q I r h
  obtain ⟨a, b, rfl, ha, hb, q⟩ := h
  obtain ⟨t, u, rfl⟩ := Vals.int2 r
  exact PySem.W.mc_comb_v (Int.natCast_nonneg a) (Int.natCast_nonneg b) (by omega) (.inl (by omega)) comb_ch ⟨nV (Mt.ch a b), H, I.tok _, ⟨_, rfl⟩, q⟩
def rFacN : List V → Hp → VK → Prop := fun vs H Q => ∃ a : Nat, vs = [nV a] ∧ a ≤ 20000 ∧ Q (nV (Mt.fac a)) H
theorem cr_facN : CallR X (.builtin "math.factorial") rFacN := by
  intro pins s σ H vs us Q I r h
  obtain ⟨a, rfl, ha, q⟩ := h
  cases r with
  | cons r1 r2 =>
    cases r2
    obtain ⟨t, rfl⟩ := r1
    refine PySem.W.mc_factorial (Int.natCast_nonneg a) (by omega) fun _ => ?_
    rw [Int.toNat_natCast, facN]
    exact ⟨nV (Mt.fac a), H, I.tok _, ⟨_, rfl⟩, q⟩
def CPowW (i j : Int) : Prop := j = 2 ∧ i.natAbs < 2 ^ 100000
theorem op_powW : OpR X (binaryOp .Pow) (rI CPowW fun i j => .int (i ^ j.toNat)) := opI fun i j _ _ _ _ _ hc q => by
  obtain ⟨rfl, h⟩ := hc
  refine PyProof.Rows.pow_int (by decide) ?_ q
  have h2 := PySem.Flt.log2_lt_of (by decide : 0 < 100000) h
  have b : Builtin.Int.intBits i ≤ i.natAbs.log2 + 1 := by
    unfold Builtin.Int.intBits
    split <;> omega
  have : ((Builtin.Int.intBits i : Nat) : Int) ≤ 100000 := by omega
  have e : (2 : Int) ^ 27 = 134217728 := by decide
  omega
end
end Fo
set_option maxRecDepth 100000
set_option maxHeartbeats 2000000
set_option maxRecDepth 100000
set_option maxHeartbeats 4000000
namespace Fo
open PySem PySem.Spec PyProof.Rows L2
abbrev s_ways_to_fix : Stmt := top 28
abbrev n_ways_to_fix : List Str := ["sizes", "ways", "size", "longer", "fixed", "many", "more"]
theorem sc_ways_to_fix : FnScope n_ways_to_fix ["sizes"] (defScope s_ways_to_fix) := ⟨rfl, rfl, rfl, by decide +kernel, rfl, by decide +kernel, by decide +kernel⟩
/-- a list of numbers, by places -/
def lI (n : Nat) (F : Nat → Int) : List V := (List.range n).map fun k => V.int (F k)
theorem lI_len (n : Nat) (F : Nat → Int) : (lI n F).length = n := by unfold lI; rw [List.length_map, List.length_range]
theorem lI_get {n k : Nat} {F : Nat → Int} (h : k < n) : (lI n F)[k]? = some (V.int (F k)) := by
  unfold lI
  rw [List.getElem?_map, List.getElem?_range h]
  rfl
theorem lI_congr {n : Nat} {F G : Nat → Int} (h : ∀ k, k < n → F k = G k) : lI n F = lI n G := by
  unfold lI
  exact List.map_congr_left fun k hk => congrArg V.int (h k (List.mem_range.mp hk))
theorem lI_set {n j : Nat} {F G : Nat → Int} {v : Int} (h : ∀ k, k < n → G k = if k = j then v else F k) : (lI n F).set j (V.int v) = lI n G := by
  refine List.ext_getElem? fun k => ?_
  rw [List.getElem?_set, lI_len]
  by_cases c : k < n
  · rw [lI_get c, lI_get c, h k c]
    by_cases e : j = k
    · subst e
      rw [if_pos rfl, if_pos c, if_pos rfl]
    · rw [if_neg e, if_neg fun z => e z.symm]
  · have n1 : (lI n G)[k]? = none := List.getElem?_eq_none (by rw [lI_len]; omega)
    have n2 : (lI n F)[k]? = none := List.getElem?_eq_none (by rw [lI_len]; omega)
    rw [n1, n2]
    split
    · rw [if_neg (by omega)]
    · rfl
/-- the product, as far as it is made -/
def PP (f : Nat → Int) (s I J k : Nat) : Int := Mt.sI (fun i => if i ≤ k then f i * Mt.cof s s (k - i) else 0) I + (if I ≤ k ∧ k < I + J then f I * Mt.cof s s (k - I) else 0)
theorem PP_step {f : Nat → Int} {s I J k : Nat} : PP f s I (J + 1) k = if k = I + J then PP f s I J k + f I * Mt.cof s s J else PP f s I J k := by
  unfold PP
  by_cases c : k = I + J
  · subst c
    rw [if_pos rfl, if_pos ⟨by omega, by omega⟩, if_neg fun z => by omega, Nat.add_sub_cancel_left, Int.add_zero]
  · rw [if_neg c]
    congr 1
    by_cases d : I ≤ k ∧ k < I + J
    · rw [if_pos d, if_pos ⟨d.1, by omega⟩]
    · rw [if_neg d, if_neg fun z => d ⟨z.1, by omega⟩]
theorem PP_row {f : Nat → Int} {s I k : Nat} : PP f s I (s + 1) k = PP f s (I + 1) 0 k := by
  unfold PP
  rw [if_neg (c := I + 1 ≤ k ∧ k < I + 1 + 0) fun z => by omega]
  show _ = Mt.sI _ I + (if I ≤ k then f I * Mt.cof s s (k - I) else 0) + 0
  rw [Int.add_zero]
  congr 1
  by_cases d : I ≤ k ∧ k < I + (s + 1)
  · rw [if_pos d, if_pos d.1]
  · rw [if_neg d]
    by_cases e : I ≤ k
    · rw [if_pos e, Mt.cof_above (by omega), Int.mul_zero]
    · rw [if_neg e]
theorem PP_end {f : Nat → Int} {s n k : Nat} (h : ∀ i, n < i → f i = 0) : PP f s (n + 1) 0 k = Mt.cv f (Mt.cof s s) k := by
  unfold PP Mt.cv
  rw [if_neg fun z => by omega, Int.add_zero, Mt.sI_rev (fun j => f (k - j) * Mt.cof s s j) k]
  have ext : ∀ (m : Nat) {F : Nat → Int} {n : Nat}, (∀ i, n ≤ i → F i = 0) → Mt.sI F (n + m) = Mt.sI F n := by
    intro m
    induction m with
    | zero => intro F n _; rfl
    | succ m ih =>
      intro F n h0
      show Mt.sI F (n + m) + F (n + m) = _
      rw [ih h0, h0 _ (by omega)]
      omega
  have e1 := ext (k + 1) (F := fun i => if i ≤ k then f i * Mt.cof s s (k - i) else 0) (n := n + 1) fun i hi => by
    show (if i ≤ k then f i * Mt.cof s s (k - i) else 0) = 0
    rw [h i (by omega), Int.zero_mul]
    split <;> rfl
  have e2 := ext (n + 1) (F := fun i => if i ≤ k then f i * Mt.cof s s (k - i) else 0) (n := k + 1) fun i hi => if_neg (by omega)
  rw [← e1, Nat.add_comm (n + 1) (k + 1), e2]
  refine Mt.sI_congr fun i hi => ?_
  rw [if_pos (by omega), show k - (k - i) = i from by omega]
theorem PP_zero {f : Nat → Int} {s k : Nat} : PP f s 0 0 k = 0 := by
  unfold PP
  rw [if_neg fun z => by omega]
  rfl
theorem lI_zero {n : Nat} {F : Nat → Int} (h : ∀ k, F k = 0) : (List.replicate n [V.int 0]).flatten = lI n F := by
  refine List.ext_getElem? fun k => ?_
  have e : ∀ m : Nat, (List.replicate m [V.int 0]).flatten = List.replicate m (V.int 0) := by
    intro m
    induction m with
    | zero => rfl
    | succ m ih => rw [List.replicate_succ, List.flatten_cons, ih, List.replicate_succ]; rfl
  rw [e]
  by_cases c : k < n
  · rw [lI_get c, h k, List.getElem?_replicate, if_pos c]
  · rw [List.getElem?_eq_none (by rw [List.length_replicate]; omega), List.getElem?_eq_none (by rw [lI_len]; omega)]
set_option exponentiation.threshold 100000
theorem pow_lt2 {a b : Nat} (h : a < b) : 2 ^ a < 2 ^ b := Nat.pow_lt_pow_right (by decide) h
theorem lt_pow1 {n a : Nat} (h : n ≤ 2 ^ a) : n < 2 ^ (a + 1) := by
  rw [Nat.pow_succ]
  have := Nat.two_pow_pos a
  generalize 2 ^ a = C at *
  omega
theorem ch_abs {s J : Nat} (hs : s ≤ 400) : (((Mt.ch s J : Nat) : Int) ^ ((2 : Int).toNat)).natAbs ≤ 2 ^ (400 + 400) := by
  rw [show ((2 : Int).toNat) = 2 from rfl, Int.pow_succ, Int.pow_succ, Int.pow_zero, Int.one_mul, Int.natAbs_mul, Int.natAbs_natCast, Nat.pow_add]
  have h := Nat.le_trans (Mt.ch_le s J) (Mt.pow_le hs)
  exact Nat.mul_le_mul h h
theorem fix_ok1 {F : Int} {s J : Nat} (hF : F.natAbs ≤ 2 ^ 36000) (hs : s ≤ 400) : CMulW F (((Mt.ch s J : Nat) : Int) ^ ((2 : Int).toNat)) := wide_mul (lt_pow1 hF) (lt_pow1 (ch_abs hs)) (by omega) (by omega) (by omega)
theorem fix_ok2 {F : Int} {s J : Nat} (hF : F.natAbs ≤ 2 ^ 36000) (hs : s ≤ 400) (hJ : J ≤ 400) : CMulW (F * ((Mt.ch s J : Nat) : Int) ^ ((2 : Int).toNat)) ((Mt.fac J : Nat) : Int) := by
  refine wide_mul (wide_lt (lt_pow1 hF) (lt_pow1 (ch_abs hs))) (lt_pow1 (a := 9 * J) ?_) (by omega) (by omega) (by omega)
  rw [Int.natAbs_natCast]
  exact Mt.fac_two J (by omega)
theorem fix_eq {F : Int} {s J : Nat} : F * ((Mt.ch s J : Nat) : Int) ^ ((2 : Int).toNat) * ((Mt.fac J : Nat) : Int) = F * Mt.cof s s J := by
  unfold Mt.cof
  rw [show ((2 : Int).toNat) = 2 from rfl, Int.pow_succ, Int.pow_succ, Int.pow_zero, Int.one_mul, Int.mul_assoc]
section
variable {P : Program} {w : World} {K : PySem.W.Frag} {mg : Str → Option Value} {base : Heap} {C : Addr}
def spFix (K : PySem.W.Frag) : Sp := fun vs H Q _ => ∃ (a : Addr) (ns : List Nat), vs = [.ref a] ∧ SqT K H a (ns.map nV) ∧ ns.length ≤ 8 ∧ ns.sum ≤ 400 ∧ (∀ l H', Same H H' → H l = none → H' l = some (.lst (lI (ns.sum + 1) (Mt.RK ns ns))) → Q (.ref l) H')
theorem ok_fix (A : At K mg "_ways_to_fix" s_ways_to_fix ["sizes"]) (T : Tx mg) (hcomb : mg "comb" = some (.builtin "math.comb")) (hfact : mg "factorial" = some (.builtin "math.factorial")) : Dfn P w K mg base "_ways_to_fix" ["sizes"] 1 (spFix K) := by
  refine A.ok sc_ways_to_fix (fun vs H Q E h => ?_) (fun f cdv A outer s H vs Q E hr h => ?_)
  · obtain ⟨_, _, rfl, _⟩ := h
    rfl
  · obtain ⟨a, ns, rfl, ha, n8, s4, k⟩ := h
    refine ⟨_, (pss_cons (ps_set (i := 1) sc_ways_to_fix.nd rfl (Or.inl rfl) (pe_lst (pa_cons pe_int pa_nil)))
      (pss_cons (ps_for PassesOwn.never rfl (pi_tup (pv 0)) (pg_name (i := 2) sc_ways_to_fix.nd rfl (Or.inl rfl))
      (pss_cons (ps_set (i := 3) sc_ways_to_fix.nd rfl (Or.inl rfl) (pe_op op_rep (pe_lst (pa_cons pe_int pa_nil)) (pe_op op_add (pe_callB c_len (by rfl) T.len (by decide +kernel) (pa_cons (pv 1) pa_nil)) (pv 2))))
      (pss_cons (ps_for PassesOwn.never rfl (pi_enum (by rfl) T.enumerate (pa_cons (pv 1) pa_nil)) (pg_tup rfl (pgs_cons (pg_name (i := 4) sc_ways_to_fix.nd rfl (Or.inl rfl)) (pgs_cons (pg_name (i := 5) sc_ways_to_fix.nd rfl (Or.inl rfl)) pgs_nil)))
      (pss_one (ps_for PassesOwn.never rfl (pi_range1 rfl T.range (pa_cons (pe_op op_add (pv 2) pe_int) pa_nil)) (pg_name (i := 6) sc_ways_to_fix.nd rfl (Or.inl rfl))
      (pss_one (ps_augS (pv 3) (pe_op op_add (pv 4) (pv 6)) get_list (pe_op op_mulW (pe_op op_mulW (pv 5) (pe_op op_powW (pe_callBfun cr_comb (by rfl) hcomb (pa_cons (pv 2) (pa_cons (pv 6) pa_nil))) pe_int)) (pe_callBfun cr_facN (by rfl) hfact (pa_cons (pv 6) pa_nil))) ip_add set_list)))))
      (pss_one (ps_set (i := 1) sc_ways_to_fix.nd rfl (Or.inl rfl) (pv 3))))))
      (pss_one (ps_ret (pv 1))))), ?_⟩
    refine ⟨by show 1 ≤ sizeLine; decide, fun l0 hl0 => ?_⟩
    have s0 := same_new (o := .lst [V.int 1]) hl0
    have le400 : ∀ x ∈ ns, x ≤ 400 := fun x hx => Nat.le_trans (mem_le_sum hx) s4
    refine ⟨_, rfl, a, rfl, ⟨_, sqT_same s0 ha⟩, for_tup (K := K) (a := a) (xs := ns.map nV) (fun i σ' H' => (∃ l x2 x3 x4 x5 x6, σ' = [some (.ref a), some (.ref l), x2, x3, x4, x5, x6] ∧ H' l = some (.lst (lI ((ns.take i).sum + 1) (Mt.RK (ns.take i).reverse (ns.take i).reverse))) ∧ H l = none) ∧ Same H H') ⟨⟨l0, _, _, _, _, _, rfl, upd_same, hl0⟩, s0⟩ (fun i σ' H' _ p => sqT_same p.2 ha) ?_ ?_⟩
    · rintro i x σ' H1 hx ⟨⟨l, x2, x3, x4, x5, x6, rfl, hl, fl⟩, s1⟩
      obtain ⟨s, hs, rfl⟩ : ∃ s, ns[i]? = some s ∧ x = nV s := by
        rw [List.getElem?_map] at hx
        cases e : ns[i]? with
        | none => rw [e] at hx; cases hx
        | some u => rw [e] at hx; exact ⟨u, rfl, (Option.some.inj hx).symm⟩
      have sm := le400 s (List.mem_of_getElem? hs)
      have et : ns.take (i + 1) = ns.take i ++ [s] := by rw [List.take_add_one, hs]; rfl
      obtain ⟨R, eR⟩ : ∃ R, R = ns.take i := ⟨_, rfl⟩
      have Rm : ∀ x ∈ R.reverse, x ≤ 400 := fun x hx => le400 x (List.mem_of_mem_take (by rw [← eR]; exact List.mem_reverse.mp hx))
      have Rs : R.sum + s ≤ 400 := by
        refine Nat.le_trans ?_ s4
        have : ns.sum = (ns.take (i + 1)).sum + (ns.drop (i + 1)).sum := by rw [← List.sum_append, List.take_append_drop]
        rw [et, List.sum_append, ← eR] at this
        simp at this
        omega
      have Rl : R.length ≤ 8 := by rw [eR, List.length_take]; omega
      rw [← eR] at hl
      obtain ⟨F, eF⟩ : ∃ F, F = Mt.RK R.reverse R.reverse := ⟨_, rfl⟩
      rw [← eF] at hl
      have F0 : ∀ i, R.sum < i → F i = 0 := fun i hi => by rw [eF]; exact Mt.RK_above (by rw [List.sum_reverse]; exact hi)
      have Fb : ∀ i, i ≤ 400 → (F i).natAbs ≤ 2 ^ 36000 := fun i hi => by
        rw [eF]
        refine Nat.le_trans (Mt.RK_abs Rm Rm hi) (Mt.pow_le ?_)
        rw [List.length_reverse]
        omega
      refine ⟨by show 1 ≤ sizeLine; decide, fun b hb => ?_⟩
      have s2 := same_new (o := .lst [V.int 0]) hb
      refine ⟨_, rfl, l, _, rfl, .inl (SqL.of (s2 _ _ hl)), _, rfl, _, _, rfl, rfl, ?_⟩
      rw [lI_len]
      refine ⟨b, _, _, rfl, rfl, upd_same, by omega, by omega, by show 1 * _ ≤ sizeLine; rw [sizeLine_eq]; omega, fun c hc => ?_⟩
      rw [show ((((R.sum + 1 : Nat) : Int) + ((s : Nat) : Int))).toNat = R.sum + s + 1 from by omega, lI_zero (F := PP F s 0 0) fun k => PP_zero]
      obtain ⟨H2, e2⟩ : ∃ H2, H2 = upd H1 b (.lst [V.int 0]) := ⟨_, rfl⟩
      rw [← e2] at hc s2 ⊢
      have hl2 := s2 _ _ hl
      have s3 := same_new (o := .lst (lI (R.sum + s + 1) (PP F s 0 0))) hc
      refine ⟨_, rfl, l, _, rfl, SqL.of (s3 _ _ hl2), for_enumL (a := l) (xs := lI (R.sum + 1) F) (fun i σ' H' => ∃ x4 x5 x6, σ' = [some (.ref a), some (.ref l), some (nV s), some (.ref c), x4, x5, x6] ∧ H' c = some (.lst (lI (R.sum + s + 1) (PP F s i 0))) ∧ Same H2 H') ⟨_, _, _, rfl, upd_same, s3⟩ (fun i σ' H' _ p => by obtain ⟨_, _, _, _, _, s⟩ := p; exact SqL.of (s _ _ hl2)) ?_ ?_⟩
      · rintro j x σ' H3 T hj ⟨x4, x5, x6, rfl, h3, s4'⟩ hT
        have jl : j < R.sum + 1 := by
          have := (List.getElem?_eq_some_iff.mp hj).1
          rwa [lI_len] at this
        rw [lI_get jl] at hj
        cases Option.some.inj hj
        have sT := same_new (o := .tup [.int (j : Nat), V.int (F j)]) hT
        refine ⟨T, _, rfl, SqT.of upd_same, rfl, _, _, rfl, _, _, rfl, rfl, ?_⟩
        refine ⟨_, rfl, _, _, rfl, rfl, _, rfl, by omega, by omega, for_range (lo := 0) (n := (((s : Nat) : Int) + 1).toNat) (fun J σ' H' => ∃ x6, σ' = [some (.ref a), some (.ref l), some (nV s), some (.ref c), some (.int (j : Nat)), some (V.int (F j)), x6] ∧ H' c = some (.lst (lI (R.sum + s + 1) (PP F s j J))) ∧ Same H2 H') ⟨_, rfl, sT _ _ h3, s4'.trans sT⟩ ?_ ?_⟩
        · rintro J σ' H5 hJ ⟨x6, rfl, h5, s5⟩
          have hJ : J ≤ s := by omega
          rw [Int.zero_add (J : Int)]
          have jJ : j + J < R.sum + s + 1 := by omega
          have eJ : ((j : Nat) : Int) + ((J : Nat) : Int) = ((j + J : Nat) : Int) := by omega
          refine ⟨_, rfl, _, rfl, _, rfl, _, _, rfl, rfl, ?_⟩
          refine ⟨c, _, ((j + J : Nat) : Int), _, rfl, congrArg V.int eJ, by omega, SqL.of h5, atI_nat (j := j + J) (lI_get jJ), ?_⟩
          refine ⟨_, rfl, _, rfl, _, rfl, s, J, rfl, by omega, by omega, _, _, rfl, rfl, ⟨rfl, Nat.lt_of_le_of_lt (Nat.le_trans (Int.natAbs_natCast _ ▸ Mt.ch_le s J) (Mt.pow_le (show s ≤ 400 from sm))) (pow_lt2 (by omega))⟩, ?_⟩
          refine ⟨_, _, rfl, rfl, fix_ok1 (Fb j (by omega)) sm, _, rfl, J, rfl, by omega, _, _, rfl, rfl, fix_ok2 (Fb j (by omega)) sm (by omega), ?_⟩
          refine ⟨_, _, rfl, rfl, c, _, ((j + J : Nat) : Int), j + J, rfl, congrArg V.int eJ, h5, Evl.ixN_nat (j := j + J) (by rw [lI_len]; exact jJ), ?_⟩
          refine ⟨_, rfl, ?_, same_mut s5 ((s2.free hc) ▸ hc)⟩
          rw [upd_same]
          refine congrArg (fun z => some (HO.lst z)) (lI_set fun k _ => ?_)
          rw [PP_step, ← fix_eq (F := F j)]
          by_cases e : k = j + J
          · rw [if_pos e, if_pos e, e]
          · rw [if_neg e, if_neg e]
        · rintro σ' H5 ⟨x6, rfl, h5, s5⟩
          refine ⟨_, _, _, rfl, ?_, s5⟩
          rw [show (((s : Nat) : Int) + 1).toNat = s + 1 from by omega] at h5
          rw [h5]
          exact congrArg (fun z => some (HO.lst z)) (lI_congr fun k _ => PP_row)
      · rintro σ' H3 ⟨x4, x5, x6, rfl, h3, s4'⟩
        rw [lI_len] at h3
        refine ⟨_, rfl, ⟨c, _, _, _, _, _, rfl, ?_, (s1.trans s2).free hc⟩, (s1.trans s2).trans s4'⟩
        rw [h3, et, List.reverse_append, List.sum_append, ← eR, show R.sum + [s].sum + 1 = R.sum + s + 1 from by simp]
        refine congrArg (fun z => some (HO.lst z)) (lI_congr fun k _ => (PP_end F0).trans ?_)
        rw [eF]
        rfl
    · rintro σ' H1 ⟨⟨l, x2, x3, x4, x5, x6, rfl, hl, fl⟩, s1⟩
      rw [List.length_map, List.take_length, Mt.RK_perm (List.reverse_perm ns)] at hl
      exact ⟨_, rfl, k l H1 s1 fl hl⟩
end
end Fo
set_option maxRecDepth 100000
set_option maxHeartbeats 4000000
set_option exponentiation.threshold 100000
namespace Fo
open PySem PySem.Spec PyProof.Rows L2
abbrev s_check_sizes : Stmt := top 26
abbrev n_check_sizes : List Str := ["sizes"]
theorem sc_check_sizes : FnScope n_check_sizes ["sizes"] (defScope s_check_sizes) := ⟨rfl, rfl, rfl, by decide +kernel, rfl, by decide +kernel, by decide +kernel⟩
abbrev s_families_many : Stmt := top 27
abbrev n_families_many : List Str := ["sizes", "modulus", "many", "found", "fixed", "ways"]
theorem sc_families_many : FnScope n_families_many ["sizes", "modulus"] (defScope s_families_many) := ⟨rfl, rfl, rfl, by decide +kernel, rfl, by decide +kernel, by decide +kernel⟩
theorem evr_lI {a N : Nat} {G : Nat → Int} (h : a ≤ N) : evr a (lI N G) = ((List.range ((N - a + 1) / 2)).map fun m => G (a + m * 2)).map V.int := by
  unfold evr
  rw [lI_len, List.map_map]
  have aux : ∀ (l : List Nat), (∀ m ∈ l, a + m * 2 < N) → (l.filterMap fun m => (lI N G)[a + m * 2]?) = l.map (V.int ∘ fun m => G (a + m * 2)) := by
    intro l hl
    induction l with
    | nil => rfl
    | cons m l ih =>
      rw [List.filterMap_cons, lI_get (hl m List.mem_cons_self), ih fun x hx => hl x (List.mem_cons_of_mem _ hx)]
      rfl
  exact aux _ fun m hm => by
    have := List.mem_range.mp hm
    omega
theorem sum_sI (f : Nat → Int) : ∀ n : Nat, ((List.range n).map f).sum = Mt.sI f n
  | 0 => rfl
  | n + 1 => by
    rw [List.range_succ, List.map_append, List.sum_append, sum_sI f n]
    show _ + (f n + 0) = _ + f n
    omega
theorem two_signs (G : Nat → Int) : ∀ N : Nat, Mt.sI (fun m => G (0 + m * 2)) ((N + 1) / 2) - Mt.sI (fun m => G (1 + m * 2)) (N / 2) = Mt.sI (fun k => Mt.sg k * G k) N
  | 0 => rfl
  | N + 1 => by
    have ih := two_signs G N
    show _ = Mt.sI (fun k => Mt.sg k * G k) N + Mt.sg N * G N
    rw [← ih]
    unfold Mt.sg
    by_cases c : N % 2 = 0
    · rw [if_pos c, show (N + 1 + 1) / 2 = (N + 1) / 2 + 1 from by omega, show (N + 1) / 2 = N / 2 from by omega]
      show Mt.sI (fun m => G (0 + m * 2)) (N / 2) + G (0 + N / 2 * 2) - _ = _
      rw [show 0 + N / 2 * 2 = N from by omega]
      omega
    · rw [if_neg c, show (N + 1 + 1) / 2 = (N + 1) / 2 from by omega, show (N + 1) / 2 = N / 2 + 1 from by omega]
      show _ - (Mt.sI (fun m => G (1 + m * 2)) (N / 2) + G (1 + N / 2 * 2)) = _
      rw [show 1 + N / 2 * 2 = N from by omega]
      omega
/-- the two sums of every second one -/
theorem sum_two {n : Nat} {R : Nat → Int} : ((List.range ((n + 1 - 0 + 1) / 2)).map fun m => (fun k => R k * (Mt.fac (n - k) : Int)) (0 + m * 2)).sum - ((List.range ((n + 1 - 1 + 1) / 2)).map fun m => (fun k => R k * (Mt.fac (n - k) : Int)) (1 + m * 2)).sum = Mt.Lp n R := by
  rw [sum_sI, sum_sI, Nat.sub_zero, Nat.add_sub_cancel]
  refine (two_signs (fun k => R k * (Mt.fac (n - k) : Int)) (n + 1)).trans ?_
  exact Mt.sI_congr fun k _ => (Int.mul_assoc _ _ _).symm
theorem sizes_one {ns : List Nat} (h : sizesO 1 (some (ns.map nV)) = true) : 1 ≤ ns.length ∧ ns.length ≤ 8 ∧ ∀ n ∈ ns, 1 ≤ n := by
  have h : (decide (1 ≤ (ns.map nV).length) && decide ((ns.map nV).length ≤ 8) && (ns.map nV).all (cntV 1)) = true := h
  rw [Bool.and_eq_true, Bool.and_eq_true, decide_eq_true_iff, decide_eq_true_iff, List.length_map] at h
  refine ⟨h.1.1, h.1.2, fun n hn => ?_⟩
  have h2 := List.all_eq_true.mp h.2 (nV n) (List.mem_map.mpr ⟨n, hn, rfl⟩)
  have h2 : (decide ((1 : Int) ≤ ((n : Nat) : Int)) && decide (((n : Nat) : Int) ≤ mostK)) = true := h2
  rw [Bool.and_eq_true, decide_eq_true_iff] at h2
  omega
section
variable {P : Program} {w : World} {K : PySem.W.Frag} {mg : Str → Option Value} {base : Heap} {C D_NoNumber D_TooMany D_NoSizes : Addr}
def spCkSz (K : PySem.W.Frag) (C D : Addr) : Sp := fun vs H Q E => ∃ (x : V) (o : Option (List V)), vs = [x] ∧ Tg K C H x o ∧ (sizesO 1 o = true → ∀ H', Same H H' → Q .non H') ∧ (sizesO 1 o = false → ∀ H', Same H H' → E (.ref D) none H')
theorem ok_cksz (A : At K mg "_check_sizes" s_check_sizes ["sizes"]) (er_NoSizes : Er0 P w K mg base "NoSizes" D_NoSizes) (G_are_sizes : Dfn P w K mg base "_are_sizes" ["least", "thing"] 2 (spSizes K C)) : DfnX P w K mg base "_check_sizes" ["sizes"] 3 (spCkSz K C D_NoSizes) := by
  refine A.okX sc_check_sizes (fun vs H Q E h => ?_) (fun f cdv A outer s H vs Q E hr h => ?_)
  · obtain ⟨_, _, rfl, _⟩ := h
    rfl
  · obtain ⟨x, o, rfl, hx, k1, k2⟩ := h
    refine ⟨_, (pss_one (ps_if (pt_not (pt_val (pe_d G_are_sizes (hr.mono (by decide)) (pa_cons pe_int (pa_cons (pv 0) pa_nil))))) (pss_one (ps_raise rfl (takes_of rfl rfl rfl rfl) (pmk_er0 er_NoSizes (hr.mono (by decide)) rfl))) pss_nil)), ?_⟩
    refine ⟨_, rfl, 1, x, o, rfl, hx, fun H1 s1 => ⟨_, rfl, ?_⟩⟩
    cases c : sizesO 1 o with
    | true => exact ite2 (fun n => by cases n) fun _ => k1 c H1 s1
    | false => exact k2 c H1 s1
def spFamX (K : PySem.W.Frag) (C DS DN DT : Addr) : Sp := fun vs H Q E => ∃ (x y : V) (o : Option (List V)), vs = [x, y] ∧ Tg K C H x o ∧ Th K C H y ∧
  ((sizesO 1 o = false ∧ ∀ H', Same H H' → E (.ref DS) none H') ∨ ∃ (a : Addr) (ns : List Nat), x = .ref a ∧ SqT K H a (ns.map nV) ∧ o = some (ns.map nV) ∧ sizesO 1 o = true ∧
    ((cntV 1 y = false ∧ ∀ H', Same H H' → E (.ref DN) none H') ∨ ∃ m : Nat, y = nV m ∧ cntV 1 y = true ∧ ((400 < ns.sum ∧ ∀ d H', Same H H' → H d = none → H' d = some (.xd [("most", .int 400)]) → E (.ref DT) (some d) H') ∨
      (ns.sum ≤ 400 ∧ ∀ H', Same H H' → Q (.int (Mt.Lp ns.sum (Mt.RK ns ns) % (m : Int))) H'))))
theorem ok_famX {tk : Tok} (A : At K mg "families_many" s_families_many ["sizes", "modulus"]) (T : Tx mg) (Tsum : mg "sum" = none) (hfact : mg "factorial" = some (.builtin "math.factorial")) (hMF : mg "MOST_IN_FAMILIES" = some (.int 400 tk)) (er_TooMany : Er1 P w K mg base "TooMany" "most" D_TooMany) (G_check_sizes : DfnX P w K mg base "_check_sizes" ["sizes"] 3 (spCkSz K C D_NoSizes)) (G_check_modulus : DfnX P w K mg base "_check_modulus" ["modulus"] 3 (spModX K C D_NoNumber)) (G_ways_to_fix : Dfn P w K mg base "_ways_to_fix" ["sizes"] 1 (spFix K)) : DfnX P w K mg base "families_many" ["sizes", "modulus"] 4 (spFamX K C D_NoSizes D_NoNumber D_TooMany) := by
  refine A.okX sc_families_many (fun vs H Q E h => ?_) (fun f cdv A outer s H vs Q E hr h => ?_)
  · obtain ⟨_, _, _, rfl, _⟩ := h
    rfl
  · obtain ⟨x, y, o, rfl, hx, hy, kk⟩ := h
    refine ⟨_, (pss_cons (ps_expr (pe_dX G_check_sizes (hr.mono (by decide)) (fun pins σ H s e s' I h => passAt (takes_of rfl rfl rfl rfl) σ pins H s e s' I h) (pa_cons (pv 0) pa_nil)))
      (pss_cons (ps_expr (pe_dX G_check_modulus (hr.mono (by decide)) (fun pins σ H s e s' I h => passAt (takes_of rfl rfl rfl rfl) σ pins H s e s' I h) (pa_cons (pv 1) pa_nil)))
      (pss_cons (ps_set (i := 2) sc_families_many.nd rfl (Or.inr rfl) (pe_callB (cr_sumT rfl) (by rfl) Tsum (by decide +kernel) (pa_cons (pv 0) pa_nil)))
      (pss_cons (ps_if (pt_cmpR op_gt (pv 2) (pe_glob (v := V.int 400) (by rfl) hMF ⟨_, rfl⟩) (nomark _)) (pss_one (ps_raise rfl (takes_of rfl rfl rfl rfl) (pmk_er1 er_TooMany (hr.mono (by decide)) rfl (pa_cons (pe_glob (v := V.int 400) (by rfl) hMF ⟨_, rfl⟩) pa_nil) (fun _ _ _ _ f h => f _ _ h)))) pss_nil)
      (pss_cons (ps_setLc (i := 3) (own := [("fixed", 4), ("ways", 5)]) (g := (gTup K 2 (gCons (gName 4) (gCons (gName 5) gNil)))) (tt := tYes) (te := (tOp (rI CMulW fun i j => V.int (i * j)) (tVar 5) (tCB rFacN (tCons (tOp (rI0 fun i j => V.int (i - j)) (tVar 2) (tVar 4)) tNil)))) (by rfl) sc_families_many.nd rfl rfl (sw_true rfl rfl rfl (by decide +kernel)) (pi_enum (by rfl) T.enumerate (pa_cons (pe_d G_ways_to_fix (hr.mono (by decide)) (pa_cons (pv 0) pa_nil)) pa_nil)) (blkOk_by (own := [("fixed", 4), ("ways", 5)]) (N := n_families_many) (sc := (defScope s_families_many)) (by decide +kernel)) (fun _ _ _ _ _ => (pg_tup rfl (pgs_cons (pg_name (i := 4) sc_families_many.nd rfl (Or.inl rfl)) (pgs_cons (pg_name (i := 5) sc_families_many.nd rfl (Or.inl rfl)) pgs_nil)))) (fun _ _ _ _ _ => pts_nil) (fun _ _ _ _ _ => (pe_op op_mulW (pv 5) (pe_callBfun cr_facN (by rfl) hfact (pa_cons (pe_op op_sub (pv 2) (pv 4)) pa_nil)))))
      (pss_one (ps_ret (pe_op op_mod (pe_op op_sub (pe_callB (cr_sum rfl) (by rfl) Tsum (by decide +kernel) (pa_cons (pe_stepL (pv 3) po_none) pa_nil)) (pe_callB (cr_sum rfl) (by rfl) Tsum (by decide +kernel) (pa_cons (pe_stepL (pv 3) (po_some pe_int)) pa_nil))) (pv 1))))))))), ?_⟩
    rcases kk with ⟨c, k⟩ | ⟨a, ns, rfl, ha, eo, c, kk⟩
    · exact ⟨_, rfl, x, o, rfl, hx, (fun z => by rw [c] at z; cases z), fun _ H1 s1 => k H1 s1⟩
    refine ⟨_, rfl, .ref a, o, rfl, hx, fun _ H1 s1 => ?_, fun z => by rw [c] at z; cases z⟩
    rcases kk with ⟨c2, k⟩ | ⟨m, rfl, c2, kk⟩
    · exact ⟨_, rfl, y, rfl, hy.same s1, (fun z => by rw [c2] at z; cases z), fun _ H2 s2 => k H2 (s1.trans s2)⟩
    refine ⟨_, rfl, nV m, rfl, hy.same s1, fun _ H2 s2 => ?_, fun z => by rw [c2] at z; cases z⟩
    rw [eo] at c
    obtain ⟨n1, n8, np⟩ := sizes_one c
    have s12 := s1.trans s2
    have ha2 := sqT_same s12 ha
    have sumI : SqT K H2 a ((ns.map fun (x : Nat) => (x : Int)).map V.int) := by rw [nV_map]; exact ha2
    refine ⟨_, rfl, a, _, rfl, sumI, ?_⟩
    rw [sum_nI]
    refine ⟨_, rfl, _, _, rfl, rfl, _, rfl, ?_⟩
    refine ite2 (fun c => ?_) (fun c => ?_)
    · have c : (400 : Int) < ((ns.sum : Nat) : Int) := of_decide_eq_true c
      rcases kk with ⟨_, k⟩ | ⟨h, _⟩
      · exact ⟨_, rfl, fun d H' s hd h => k d H' (s12.trans s) (s12.free hd) h⟩
      · omega
    have c : ¬ (400 : Int) < ((ns.sum : Nat) : Int) := fun z => c (decide_eq_true z)
    obtain ⟨s4, k⟩ : ns.sum ≤ 400 ∧ ∀ H', Same H H' → Q (.int (Mt.Lp ns.sum (Mt.RK ns ns) % (m : Int))) H' := by
      rcases kk with ⟨h, _⟩ | h
      · omega
      · exact h
    have m1 : 1 ≤ m := by
      have h2 : (decide ((1 : Int) ≤ ((m : Nat) : Int)) && decide (((m : Nat) : Int) ≤ mostK)) = true := c2
      rw [Bool.and_eq_true, decide_eq_true_iff] at h2
      omega
    have le400 : ∀ x ∈ ns, x ≤ 400 := fun x hx => Nat.le_trans (mem_le_sum hx) s4
    have s1n : 1 ≤ ns.sum := by
      match ns, n1, np with
      | n :: r, _, np =>
        have := np n List.mem_cons_self
        rw [List.sum_cons]
        omega
    obtain ⟨G, eG⟩ : ∃ G : Nat → Int, G = fun k => Mt.RK ns ns k * (Mt.fac (ns.sum - k) : Int) := ⟨_, rfl⟩
    refine ⟨_, rfl, a, ns, rfl, ha2, n8, s4, fun l H3 s3 fl hl => ⟨l, _, rfl, SqL.of hl, fun D hD => ?_⟩⟩
    refine lc_enumL (a := l) (xs := lI (ns.sum + 1) (Mt.RK ns ns)) (fun j H' => H' D = some (.lst (lI j G)) ∧ Same H3 H') ⟨upd_same, same_new hD⟩ (fun j H' _ hp => SqL.of (hp.2 _ _ hl)) ?_ ?_
    · rintro j y H4 T' hy ⟨h4, s4'⟩ hT
      have jl : j < ns.sum + 1 := by
        have := (List.getElem?_eq_some_iff.mp hy).1
        rwa [lI_len] at this
      rw [lI_get jl] at hy
      cases Option.some.inj hy
      have sT := same_new (o := .tup [.int (j : Nat), V.int (Mt.RK ns ns j)]) hT
      refine ⟨T', _, rfl, SqT.of upd_same, rfl, _, _, rfl, _, _, rfl, rfl, ?_⟩
      refine ⟨rfl, ?_⟩
      have eJ : V.int (((ns.sum : Nat) : Int) - ((j : Nat) : Int)) = nV (ns.sum - j) := congrArg V.int (by omega)
      have RKb : (Mt.RK ns ns j).natAbs ≤ 2 ^ 36000 := Nat.le_trans (Mt.RK_abs le400 le400 (by omega)) (Mt.pow_le (by omega))
      have fcb : (((Mt.fac (ns.sum - j) : Nat) : Int)).natAbs ≤ 2 ^ 3600 := by
        rw [Int.natAbs_natCast]
        exact Nat.le_trans (Mt.fac_two _ (by omega)) (Mt.pow_le (by omega))
      refine ⟨_, rfl, _, rfl, _, rfl, _, _, rfl, rfl, ns.sum - j, congrArg (fun v => [v]) eJ, by omega, ?_⟩
      refine ⟨_, _, rfl, rfl, wide_mul (lt_pow1 RKb) (lt_pow1 fcb) (by omega) (by omega) (by omega), ?_⟩
      refine ⟨_, sT _ _ h4, by rw [lI_len, sizeLine_eq]; omega, ?_, same_mut (s4'.trans sT) hD⟩
      rw [upd_same]
      refine congrArg (fun z => some (HO.lst z)) ?_
      unfold lI
      rw [List.range_succ, List.map_append, eG]
      rfl
    · rintro H4 ⟨h4, s4'⟩
      rw [lI_len] at h4
      have sH : Same H H4 := (s12.trans s3).trans s4'
      have n0 : 0 ≤ (lI (ns.sum + 1) G).length := Nat.zero_le _
      refine ⟨_, rfl, ?_⟩
      delta tNoPart
      refine ⟨D, _, 0, rfl, SqL.of h4, .inr ⟨rfl, rfl⟩, n0, fun p1 hp1 => ?_⟩
      have t1 := same_new (o := .lst (evr 0 (lI (ns.sum + 1) G))) hp1
      refine ⟨p1, _, rfl, SqL.of (upd_same.trans (congrArg (fun z => some (HO.lst z)) (evr_lI (by omega)))), ?_⟩
      refine ⟨_, rfl, 1, rfl, D, _, 1, rfl, SqL.of (t1 _ _ h4), .inl rfl, by rw [lI_len]; omega, fun p2 hp2 => ?_⟩
      have t2 := same_new (o := .lst (evr 1 (lI (ns.sum + 1) G))) hp2
      refine ⟨p2, _, rfl, SqL.of (upd_same.trans (congrArg (fun z => some (HO.lst z)) (evr_lI (by omega)))), ?_⟩
      refine ⟨_, _, rfl, rfl, _, rfl, _, _, rfl, rfl, by omega, ?_⟩
      subst eG
      exact (congrArg (fun z : Int => Q (.int (z % (m : Int))) _) sum_two).mpr (k _ ((sH.trans t1).trans t2))
end
end Fo
set_option maxRecDepth 100000
set_option maxHeartbeats 4000000
namespace Fo
open PySem PySem.Spec PyProof.Rows L2
/-- what is known of the errors that a law asks of -/
structure ErK (K : PySem.W.Frag) (mg : Str → Option Value) (DE : Addr) (cs : List (Str × Addr)) : Prop where
  gDE : mg "DrawError" = some (.ref DE)
  gVE : mg "ValueError" = none
  g : ∀ c ∈ cs, mg c.1 = some (.ref c.2)
  xm : ∀ c ∈ cs, PySem.W.exmOne K (.ref c.2) (.ref DE) = some true
  xc : ∀ c ∈ cs, XcC K c.2
  kk : ∀ c ∈ cs, ∀ d ∈ cs, PySem.W.kitOne K (.ref c.2) (.ref d.2) = some (decide (c.1 = d.1))
  kv : ∀ c ∈ cs, PySem.W.kitOne K (.ref c.2) (.type "ValueError") = some true
theorem exm_own {K : PySem.W.Frag} {DE B : Addr} (h1 : PySem.W.subIn K (.ref DE) (.type "BaseException") = some true) (h2 : PySem.W.isClsIn K DE = true) (h3 : PySem.W.typeIn K (.ref DE) = some (.type "type")) (h4 : PySem.W.subIn K (.ref B) (.ref DE) = some true) : PySem.W.exmOne K (.ref B) (.ref DE) = some true := by
  have e1 : (PySem.W.subIn K (.ref DE) (.type "BaseException") == some true) = true := by rw [h1] <;> rfl
  have e2 : ((PySem.W.clsIn K DE).isSome && PySem.W.typeIn K (.ref DE) == some (.type "type")) = true := by
    have h2' : (PySem.W.clsIn K DE).isSome = true := h2
    rw [h2', h3] <;> rfl
  show (if (PySem.W.subIn K (.ref DE) (.type "BaseException") == some true) = true then (if ((PySem.W.clsIn K DE).isSome && PySem.W.typeIn K (.ref DE) == some (.type "type")) = true then PySem.W.subIn K (.ref B) (.ref DE) else none) else none) = some true
  rw [if_pos e1, if_pos e2]
  exact h4
theorem kit_self {K : PySem.W.Frag} {D : Addr} : PySem.W.kitOne K (.ref D) (.ref D) = some true := by
  show (if (Value.ref D == Value.ref D) = true then some true else _) = some true
  rw [if_pos (beq_self_eq_true _)]
theorem all_nil {α : Type} {p : α → Prop} : ∀ c ∈ ([] : List α), p c := fun c h => by cases h
theorem all_cons {α : Type} {p : α → Prop} {a : α} {l : List α} (h : p a) (t : ∀ c ∈ l, p c) : ∀ c ∈ a :: l, p c := fun c hc => by
  rcases List.mem_cons.mp hc with rfl | hc
  · exact h
  · exact t c hc
end Fo
set_option maxRecDepth 100000
set_option maxHeartbeats 4000000
namespace Fo
open PySem PySem.Spec PyProof.Rows L2
def Dxd (H : Hp) (d : Option Addr) : Prop := d = none ∨ ∃ dd fs, d = some dd ∧ H dd = some (.xd fs)
theorem Dxd.same {H H' : Hp} {d : Option Addr} (s : Same H H') (h : Dxd H d) : Dxd H' d := by
  rcases h with h | ⟨dd, fs, h1, h2⟩
  · exact .inl h
  · exact .inr ⟨dd, fs, h1, s _ _ h2⟩
end Fo
set_option maxRecDepth 100000
set_option maxHeartbeats 4000000
namespace Fo
open PySem PySem.Spec PyProof.Rows L2
theorem exm_gen {K : PySem.W.Frag} {D B : Addr} {b : Bool} (h1 : PySem.W.subIn K (.ref D) (.type "BaseException") = some true) (h2 : PySem.W.isClsIn K D = true) (h3 : PySem.W.typeIn K (.ref D) = some (.type "type")) (h4 : PySem.W.subIn K (.ref B) (.ref D) = some b) : PySem.W.exmOne K (.ref B) (.ref D) = some b := by
  have e1 : (PySem.W.subIn K (.ref D) (.type "BaseException") == some true) = true := by rw [h1] <;> rfl
  have e2 : ((PySem.W.clsIn K D).isSome && PySem.W.typeIn K (.ref D) == some (.type "type")) = true := by
    have h2' : (PySem.W.clsIn K D).isSome = true := h2
    rw [h2', h3] <;> rfl
  show (if (PySem.W.subIn K (.ref D) (.type "BaseException") == some true) = true then (if ((PySem.W.clsIn K D).isSome && PySem.W.typeIn K (.ref D) == some (.type "type")) = true then PySem.W.subIn K (.ref B) (.ref D) else none) else none) = some b
  rw [if_pos e1, if_pos e2, h4]
structure ErX (K : PySem.W.Frag) (cs : List (Str × Addr)) : Prop where
  xx : ∀ c ∈ cs, ∀ d ∈ cs, PySem.W.exmOne K (.ref c.2) (.ref d.2) = some (decide (c.1 = d.1))
end Fo
set_option maxRecDepth 100000
set_option maxHeartbeats 4000000
set_option maxRecDepth 100000
set_option maxHeartbeats 4000000
namespace Fo
open PySem PySem.Spec PyProof.Rows L2
/-- a clause: the class that it takes, the slot of its name, what its suite does -/
abbrev Cla := Value × Option Nat × (Addr → Value → Option Addr → TS)
/-- what the clauses wish, one of which takes all that comes -/
def wMix (K : PySem.W.Frag) (D : Ends) : List Cla → WX
  | [] => fun _ _ _ _ => False
  | (c, none, ts) :: r => fun cls d σ H => ∃ b, PySem.W.exmOne K cls c = some b ∧ (b = true → ∀ z, H z = none → ts z cls d D σ H) ∧ (b = false → wMix K D r cls d σ H)
  | (c, some i, ts) :: r => fun cls d σ H => ∃ b, PySem.W.exmOne K cls c = some b ∧ (b = true → ∀ z, H z = none → ts z cls d ⟨fun τ G => D.nx (τ.set i none) G, D.rt, fun τ G => D.bk (τ.set i none) G, fun τ G => D.ct (τ.set i none) G⟩ (σ.set i (some (.ref z))) H) ∧ (b = false → wMix K D r cls d σ H)
inductive HdsM (X : Cx) : List ExceptHandler → List Cla → Prop
  | nil {hds : List ExceptHandler} : HdsM X hds []
  | cons {x : Str} {c : Value} {ts : Addr → Value → Option Addr → TS} {b₀ : Stmt} {suite : List Stmt} {np pos' : Pos} {hds : List ExceptHandler} {l : List Cla} (hc : Names X x c)
      (hsu : ∀ (a : Addr) (oe : Obj) (cls : Value) (d : Option Addr) (pn : List (Addr × Obj)), Zc cls d oe → (∃ vs, oe.data = .fields vs) → PSs (X.suite a ((a, oe) :: pn)) (b₀ :: suite) (ts a cls d)) (r : HdsM X hds l) :
      HdsM X (.ExceptHandler (some (.Name x np)) none (b₀ :: suite) pos' :: hds) ((c, none, ts) :: l)
  | as {x n : Str} {i : Nat} {c : Value} {ts : Addr → Value → Option Addr → TS} {b₀ : Stmt} {suite : List Stmt} {np pos' : Pos} {hds : List ExceptHandler} {l : List Cla} (k4 : X.N[i]? = some n) (k5 : X.env.kindOf n = some .local) (hc : Names X x c)
      (hsu : ∀ (a : Addr) (oe : Obj) (cls : Value) (d : Option Addr) (pn : List (Addr × Obj)), Zc cls d oe → (∃ vs, oe.data = .fields vs) → PSs (X.suite a ((a, oe) :: pn)) (b₀ :: suite) (ts a cls d)) (r : HdsM X hds l) :
      HdsM X (.ExceptHandler (some (.Name x np)) (some n) (b₀ :: suite) pos' :: hds) ((c, some i, ts) :: l)
section
variable {X : Cx} {body : List Stmt} {h₀ : ExceptHandler} {hds : List ExceptHandler} {l : List Cla} {pos : Pos} {tb : WX → TS}
theorem ps_try_mix (k1 : X.stack = X.env :: X.outer) (k2 : X.env.frame = some X.env.locals) (k3 : X.N.Nodup)
    (kb : ∀ (W : WX) (pn : List (Addr × Obj)) (xe : Value → Shared → Prop), Takes (X.tr pn xe) W → PassesOwn (model X.prog X.w) X.A X.env xe → PSs (X.tr pn xe) body (tb W))
    (hh : HdsM X (h₀ :: hds) l) : PS X (.Try body (h₀ :: hds) [] [] pos) (fun D σ H => tb (wMix X.K D l) D σ H) := by
  refine ⟨fun pins s σ H D I hh' => ?_⟩
  have xok := I.ok
  have hst : X.A.frames = some (X.env :: X.outer) := by rw [xok.frames, k1]
  refine wpAny_Try_except (wpAny_mono ((kb (wMix X.K D l) (X.pn ++ pins) (fun e t1 => wpAny (model X.prog X.w) X.A (noteFrame e X.env) (fun _ t2 => wpAny (model X.prog X.w) X.A (setFlight e none) (fun _ t3 => wpAny (model X.prog X.w) X.A (handleBy e X.env (h₀ :: hds)) (SP X pins D) X.xe t3) X.xe t2) X.xe t1) (fun u t xx => ?_) PassesOwn.looking).run [] s σ H D (I.toTry _) hh') (fun f t1 hsp => ?_) (fun e t1 he => he))
  · obtain ⟨z, B, sI, pins', τ, G, cls, d, rfl, J', nb, up, sky, nz, os, ag, w⟩ := xx
    have J : Inv X pins τ G sI := J'.ofTry xok
    have sk : Sky B (X.env :: X.outer) z (Zc cls d) X.env.locals t.heap := by rw [← k1]; exact sky
    show wpAny (model X.prog X.w) X.A (noteFrame (.ref z) X.env) _ _ _
    refine Sky.land Zc.steady hst k2 sk fun m3 fl3 u3 => ?_
    have J3 : Inv X pins τ G { t with heap := m3 } := J.landed nb fl3.1 (up.trans u3) os ag
    obtain ⟨o3, v3, e3, z3, d3⟩ := fl3.there
    have apart : ∀ {m : Heap} {o : Obj} {vs : Array Value}, m.FunFrames B (X.env :: X.outer) → m.get? z = some o → o.data = .fields vs → z ∉ frs (X.env :: X.outer) := fun {m o vs} ff e dd hm => by
      obtain ⟨_, o', e', nd⟩ := ff.mem hm
      rw [e] at e'
      cases e'
      exact nd _ dd
    have nfr := apart fl3.2.2.1 e3 d3
    have nl : z ≠ X.env.locals := fun y => nfr (List.mem_filterMap.mpr ⟨X.env, List.mem_cons_self, by rw [k2, y]⟩)
    have nf : z ∉ X.fs := fun hm => by
      obtain ⟨e, he, q⟩ := List.mem_filterMap.mp hm
      exact nfr (List.mem_filterMap.mpr ⟨e, List.mem_cons_of_mem _ he, q⟩)
    have S3 := J3.suite e3 d3 nz nl nf
    have look : PySem.W.Looks (model X.prog X.w) m3 (typeOf (.ref z)) cls := fun A Q E s k q => wpAny_typeOf_ref (k _ _ e3) (by rw [z3.1]; exact q)
    have nam : ∀ {x : Str} {c : Value} {np : Pos} {Q : Value → Shared → Prop} {E : Value → Shared → Prop}, Names X x c → Q c { t with heap := m3 } → wpAny (model X.prog X.w) (X.A.mark (some (.ref z))) (eval (.Name x np) X.env) Q E { t with heap := m3 } := fun {x c np Q E} k6 q => by
      obtain ⟨hg, hdbg, hm | ⟨hm, hv, hnn⟩⟩ := k6
      · exact ld_glob (X := X.suite z ((z, o3) :: (X.pn ++ pins))) S3 hg hm q hdbg
      · exact ld_blt (X := X.suite z ((z, o3) :: (X.pn ++ pins))) S3 hg hm hv q hnn hdbg
    have go : ∀ {hds' : List ExceptHandler} {l' : List Cla}, HdsM X hds' l' → wMix X.K D l' cls d τ G → wpAny (model X.prog X.w) X.A (handleBy (.ref z) X.env hds') (SP X pins D) X.xe { t with heap := m3 } := by
      intro hds' l' hk
      induction hk with
      | nil => intro w; exact False.elim w
      | @cons x c ts b₀ suite np pos' hds2 l2 hc hsu r ih =>
        intro w
        obtain ⟨b, hb1, hyes, hno⟩ := w
        refine wpAny_handleBy_cons (codeAny_handlers_test ?_) (by intro q; cases q)
        have LM := PySem.W.exm_one (M := model X.prog X.w) (J3.kIn) look hb1
        refine nam hc (LM.here ?_)
        cases b with
        | true =>
          refine codeAny_handlers_suite ?_
          refine HandSPX.lands_againZ fl3 fun h4 fl4 up4 => ?_
          have J4 : Inv X pins τ G { t with heap := h4 } := J.landed nb fl4.1 ((up.trans u3).trans up4) os ag
          obtain ⟨oe4, vs4, he4, hz4, hd4⟩ := fl4.there
          have S4 := J4.suite he4 hd4 nz nl nf
          refine wpAny_mono ((hsu z oe4 cls d (X.pn ++ pins) hz4 ⟨_, hd4⟩).run [] _ _ G _ S4 (hyes rfl z nz)) (fun f s6 hsp => ?_) (fun _ _ y => False.elim y)
          cases f with
          | next => obtain ⟨σ6, H6, S6, q6⟩ := hsp; exact ⟨_, _, S6.unsuite xok, q6⟩
          | brk => obtain ⟨σ6, H6, S6, q6⟩ := hsp; exact ⟨_, _, S6.unsuite xok, q6⟩
          | cont => obtain ⟨σ6, H6, S6, q6⟩ := hsp; exact ⟨_, _, S6.unsuite xok, q6⟩
          | ret u => obtain ⟨v6, σ6, H6, S6, r6, q6⟩ := hsp; exact ⟨_, _, _, S6.unsuite xok, r6, q6⟩
        | false =>
          show wpAny _ X.A (handleBy (.ref z) X.env hds2) _ _ _
          exact ih (hno rfl)
      | @as x n i c ts b₀ suite np pos' hds2 l2 k4 k5 hc hsu r ih =>
        intro w
        obtain ⟨b, hb1, hyes, hno⟩ := w
        refine wpAny_handleBy_cons (codeAny_handlers_test ?_) (by intro q; cases q)
        have LM := PySem.W.exm_one (M := model X.prog X.w) (J3.kIn) look hb1
        refine nam hc (LM.here ?_)
        cases b with
        | true =>
          refine codeAny_handlers_suite_as (HandSPX.lands_againZ fl3 fun m4 fl4 u4 => ?_)
          have J4 : Inv X pins τ G { t with heap := m4 } := J.landed nb fl4.1 ((up.trans u3).trans u4) os ag
          obtain ⟨o4, v4, e4, z4, d4⟩ := fl4.there
          have S4 := J4.suite e4 d4 nz nl nf
          refine store_ok (X := X.suite z ((z, o4) :: (X.pn ++ pins))) (v := .ref z) S4 k3 k4 (.inl k5) rfl (fun s5 S5 => ?_) (.inr k5)
          refine wpAny_mono ((hsu z o4 cls d (X.pn ++ pins) z4 ⟨_, d4⟩).run [] s5 _ G _ S5 (hyes rfl z nz)) (fun f s6 hsp => ?_) (fun _ _ y => False.elim y)
          have fin : ∀ {τ6 : L2.St} {G6 : Hp} {Q : Shared → Prop}, Inv (X.suite z ((z, o4) :: (X.pn ++ pins))) [] τ6 G6 s6 → (∀ s7, Inv X pins (τ6.set i none) G6 s7 → Q s7) → wpAny (model X.prog X.w) X.A (do bindName X.env n .none; unbindBehindTheSuite X.env n pos') (fun _ s7 => Q s7) X.xe s6 := fun {τ6 G6 Q} S6 hq => gone_ok (S6.unsuite xok) k3 k4 k5 hq
          cases f with
          | next => obtain ⟨τ6, G6, S6, q6⟩ := hsp; exact fin S6 fun s7 J7 => ⟨_, _, J7, q6⟩
          | brk => obtain ⟨τ6, G6, S6, q6⟩ := hsp; exact fin S6 fun s7 J7 => ⟨_, _, J7, q6⟩
          | cont => obtain ⟨τ6, G6, S6, q6⟩ := hsp; exact fin S6 fun s7 J7 => ⟨_, _, J7, q6⟩
          | ret u => obtain ⟨v6, τ6, G6, S6, r6, q6⟩ := hsp; exact fin S6 fun s7 J7 => ⟨_, _, _, J7, r6, q6⟩
        | false =>
          show wpAny _ X.A (handleBy (.ref z) X.env hds2) _ _ _
          exact ih (hno rfl)
    exact go hh w
  · cases f with
    | next => obtain ⟨τ, G, J', q⟩ := hsp; exact wpAny_execs_nil ⟨τ, G, J'.ofTry xok, q⟩
    | brk => obtain ⟨τ, G, J', q⟩ := hsp; exact ⟨τ, G, J'.ofTry xok, q⟩
    | cont => obtain ⟨τ, G, J', q⟩ := hsp; exact ⟨τ, G, J'.ofTry xok, q⟩
    | ret u => obtain ⟨v, τ, G, J', r, q⟩ := hsp; exact ⟨v, τ, G, J'.ofTry xok, r, q⟩
end
end Fo
set_option maxRecDepth 100000
set_option maxHeartbeats 4000000
set_option exponentiation.threshold 100000
namespace Fo
open PySem PySem.Spec PyProof.Rows L2 LamX
abbrev s_law_said : Stmt := top 38
abbrev n_law_said : List Str := ["sizes", "modulus", "told", "e"]
theorem sc_law_said : FnScope n_law_said ["sizes", "modulus"] (defScope s_law_said) := ⟨rfl, rfl, rfl, by decide +kernel, rfl, by decide +kernel, by decide +kernel⟩
abbrev s_law_orders : Stmt := top 37
abbrev n_law_orders : List Str := ["many", "modulus", "found", "k"]
theorem sc_law_orders : FnScope n_law_orders ["many", "modulus"] (defScope s_law_orders) := ⟨rfl, rfl, rfl, by decide +kernel, rfl, by decide +kernel, by decide +kernel⟩
def facM (m : Nat) (n : Nat) : Nat := Mt.fac n % m
section
variable {P : Program} {w : World} {K : PySem.W.Frag} {mg : Str → Option Value} {base : Heap} {C DE D_NoNumber D_TooMany D_NoSizes : Addr}
def spSaidF (K : PySem.W.Frag) (C : Addr) : Sp := fun vs H Q _ => ∃ (x y : V) (o : Option (List V)), vs = [x, y] ∧ Tg K C H x o ∧ Th K C H y ∧
  ((sizesO 1 o = false ∧ ∀ H', Same H H' → Q (.str "sizes") H') ∨ ∃ (a : Addr) (ns : List Nat), x = .ref a ∧ SqT K H a (ns.map nV) ∧ o = some (ns.map nV) ∧ sizesO 1 o = true ∧
    ((cntV 1 y = false ∧ ∀ H', Same H H' → Q (.str "number") H') ∨ ∃ m : Nat, y = nV m ∧ cntV 1 y = true ∧ ((400 < ns.sum ∧ ∀ p H', Same H H' → SqT K H' p [.str "many", .int 400] → Q (.ref p) H') ∨
      (ns.sum ≤ 400 ∧ ∀ H', Same H H' → Q (.int (Mt.Lp ns.sum (Mt.RK ns ns) % (m : Int))) H'))))
theorem ok_saidF (A : At K mg "_law_said" s_law_said ["sizes", "modulus"]) (T : Tx mg) (EK : ErK K mg DE [("NoSizes", D_NoSizes), ("NoNumber", D_NoNumber), ("TooMany", D_TooMany)]) (EX : ErX K [("NoSizes", D_NoSizes), ("NoNumber", D_NoNumber), ("TooMany", D_TooMany)]) (xf : XfC K D_TooMany) (nM : PySem.W.findIn K (.ref D_TooMany) "most" = some none) (G_families_many : DfnX P w K mg base "families_many" ["sizes", "modulus"] 4 (spFamX K C D_NoSizes D_NoNumber D_TooMany)) : Dfn P w K mg base "_law_said" ["sizes", "modulus"] 5 (spSaidF K C) := by
  have n0 : (("NoSizes", D_NoSizes) : Str × Addr) ∈ [(("NoSizes", D_NoSizes) : Str × Addr), ("NoNumber", D_NoNumber), ("TooMany", D_TooMany)] := List.mem_cons_self
  have n1 : (("NoNumber", D_NoNumber) : Str × Addr) ∈ [(("NoSizes", D_NoSizes) : Str × Addr), ("NoNumber", D_NoNumber), ("TooMany", D_TooMany)] := List.mem_cons_of_mem _ List.mem_cons_self
  have n2 : (("TooMany", D_TooMany) : Str × Addr) ∈ [(("NoSizes", D_NoSizes) : Str × Addr), ("NoNumber", D_NoNumber), ("TooMany", D_TooMany)] := List.mem_cons_of_mem _ (List.mem_cons_of_mem _ List.mem_cons_self)
  refine A.ok sc_law_said (fun vs H Q E h => ?_) (fun f cdv A outer s H vs Q E hr h => ?_)
  · obtain ⟨_, _, _, rfl, _⟩ := h
    rfl
  · obtain ⟨x, y, o, rfl, hx, hy, kk⟩ := h
    refine ⟨_, (pss_cons (ps_set (i := 2) sc_law_said.nd rfl (Or.inl rfl) pe_non)
      (pss_cons (ps_try_mix rfl rfl sc_law_said.nd
        (fun W pn xe tk po => pss_one (ps_set (i := 2) sc_law_said.nd rfl (Or.inl rfl) (pe_dX (E := fun cls d H => ∀ σ : L2.St, σ.length = 4 → W cls d σ H) G_families_many (hr.mono (by decide)) (fun pins σ H s e s' I h => passAt tk σ pins H s e s' I (cxMono h fun cls d H q => q σ I.len)) (pa_cons (pv 0) (pa_cons (pv 1) pa_nil)))))
        (.cons ⟨rfl, by decide, .inl (EK.g ("NoSizes", D_NoSizes) n0)⟩ (fun a oe cls d pn hz hf => pss_one (ps_set (i := 2) sc_law_said.nd rfl (Or.inl rfl) pe_str))
        (.cons ⟨rfl, by decide, .inl (EK.g ("NoNumber", D_NoNumber) n1)⟩ (fun a oe cls d pn hz hf => pss_one (ps_set (i := 2) sc_law_said.nd rfl (Or.inl rfl) pe_str))
        (.as (i := 3) rfl rfl ⟨rfl, by decide, .inl (EK.g ("TooMany", D_TooMany) n2)⟩ (fun a oe cls d pn hz hf => pss_one (ps_set (i := 2) sc_law_said.nd rfl (Or.inl rfl) (pe_tup (pa_cons pe_str (pa_cons (pe_xf xf nM hz hf (pv 3)) pa_nil)))))
        (.cons ⟨rfl, by decide, .inl EK.gDE⟩ (fun a oe cls d pn hz hf => pss_one (ps_set (i := 2) sc_law_said.nd rfl (Or.inl rfl) pe_str)) .nil)))))
      (pss_one (ps_ret (pv 2))))), ?_⟩
    have e00 := (EX.xx _ n0 _ n0).trans (congrArg some (decide_eq_true rfl))
    have e11 := (EX.xx _ n1 _ n1).trans (congrArg some (decide_eq_true rfl))
    have e22 := (EX.xx _ n2 _ n2).trans (congrArg some (decide_eq_true rfl))
    have e10 := (EX.xx _ n1 _ n0).trans (congrArg some (decide_eq_false (show ¬ (("NoNumber" : Str) = "NoSizes") by decide +kernel)))
    have e20 := (EX.xx _ n2 _ n0).trans (congrArg some (decide_eq_false (show ¬ (("TooMany" : Str) = "NoSizes") by decide +kernel)))
    have e21 := (EX.xx _ n2 _ n1).trans (congrArg some (decide_eq_false (show ¬ (("TooMany" : Str) = "NoNumber") by decide +kernel)))
    refine ⟨_, rfl, _, rfl, x, y, o, rfl, hx, hy, ?_⟩
    rcases kk with ⟨hc, k⟩ | ⟨a, ns, ex, ha, eo, hc, kk⟩
    · refine .inl ⟨hc, fun H1 s1 σ hσ => ⟨true, e00, fun _ z hz => ?_, fun n => by cases n⟩⟩
      match σ, hσ with
      | [y0, y1, y2, y3], _ => exact ⟨_, rfl, k H1 s1⟩
    refine .inr ⟨a, ns, ex, ha, eo, hc, ?_⟩
    rcases kk with ⟨hc, k⟩ | ⟨m, em, h1, kk⟩
    · refine .inl ⟨hc, fun H1 s1 σ hσ => ⟨false, e10, (fun n => by cases n), fun _ => ⟨true, e11, fun _ z hz => ?_, fun n => by cases n⟩⟩⟩
      match σ, hσ with
      | [y0, y1, y2, y3], _ => exact ⟨_, rfl, k H1 s1⟩
    refine .inr ⟨m, em, h1, ?_⟩
    rcases kk with ⟨h2, k⟩ | ⟨h2, k⟩
    · refine .inl ⟨h2, fun d H1 s1 hd hx σ hσ => ⟨false, e20, fun n => (by cases n), fun _ => ⟨false, e21, fun n => (by cases n), fun _ => ⟨true, e22, fun _ z hz => ?_, fun n => by cases n⟩⟩⟩⟩
      match σ, hσ with
      | [y0, y1, y2, y3], _ => exact ⟨_, rfl, rfl, rfl, d, _, _, rfl, hx, rfl, by show 2 ≤ sizeLine; decide, fun q hq => ⟨_, rfl, k q _ (s1.trans (same_new hq)) (SqT.of upd_same)⟩⟩
    · exact .inr ⟨h2, fun H1 s1 => ⟨_, rfl, k H1 s1⟩⟩
def spOrdM : Sp := fun vs H Q _ => ∃ n m : Nat, vs = [nV n, nV m] ∧ 1 ≤ m ∧ n ≤ 1000 ∧ Q (nV (facM m n)) H
theorem ok_ordM (A : At K mg "_law_orders" s_law_orders ["many", "modulus"]) (T : Tx mg) : Dfn P w K mg base "_law_orders" ["many", "modulus"] 1 spOrdM := by
  refine A.ok sc_law_orders (fun vs H Q E h => ?_) (fun f cdv A outer s H vs Q E hr h => ?_)
  · obtain ⟨_, _, rfl, _⟩ := h
    rfl
  · obtain ⟨n, m, rfl, m1, n1, k⟩ := h
    refine ⟨_, (pss_cons (ps_set (i := 2) sc_law_orders.nd rfl (Or.inl rfl) (pe_op op_mod (pe_callTy c_int (by rfl) T.int (by decide +kernel) (pa_cons pe_int pa_nil)) (pv 1)))
      (pss_cons (ps_for PassesOwn.never rfl (pi_range2 rfl T.range (pa_cons pe_int (pa_cons (pe_op op_add (pv 0) pe_int) pa_nil))) (pg_name (i := 3) sc_law_orders.nd rfl (Or.inl rfl))
      (pss_one (ps_set (i := 2) sc_law_orders.nd rfl (Or.inl rfl) (pe_op op_mod (pe_callTy c_int (by rfl) T.int (by decide +kernel) (pa_cons (pe_op op_mul (pv 2) (pv 3)) pa_nil)) (pv 1)))))
      (pss_one (ps_ret (pv 2))))), ?_⟩
    refine .inl ⟨1, rfl, _, rfl, _, _, rfl, rfl, by omega, ?_⟩
    have e1 : V.int ((1 : Int) % ((m : Nat) : Int)) = nV (facM m 1) := congrArg V.int (Int.natCast_emod 1 m).symm
    show gName 2 (V.int ((1 : Int) % ((m : Nat) : Int))) _ H _
    rw [e1]
    refine ⟨_, rfl, _, _, rfl, rfl, ?_⟩
    refine ⟨_, _, rfl, ⟨by omega, by omega, by omega, by omega⟩, for_range (lo := 2) (n := (((n : Nat) : Int) + 1 - 2).toNat) (fun i σ' H' => (∃ x3, σ' = [some (nV n), some (nV m), some (nV (facM m (i + 1))), x3]) ∧ H' = H) ⟨⟨_, rfl⟩, rfl⟩ ?_ ?_⟩
    · rintro i σ' H1 hi ⟨⟨x3, rfl⟩, rfl⟩
      refine ⟨_, rfl, _, rfl, _, _, rfl, rfl, .inr ⟨by omega, by omega⟩, .inl ⟨_, rfl, _, rfl, _, _, rfl, rfl, by omega, ⟨some (.int (2 + (i : Int))), ?_⟩, rfl⟩⟩
      have e : (((facM m (i + 1) : Nat) : Int) * (2 + (i : Int))) % ((m : Nat) : Int) = ((facM m (i + 1 + 1) : Nat) : Int) := by
        unfold facM
        rw [show (2 + (i : Int)) = ((i + 2 : Nat) : Int) from by omega, ← Int.natCast_mul, ← Int.natCast_emod]
        congr 1
        rw [Nat.mul_mod, Nat.mod_mod, ← Nat.mul_mod, Nat.mul_comm]
        rfl
      show [some (nV n), some (nV m), some (V.int ((((facM m (i + 1) : Nat) : Int) * (2 + (i : Int))) % ((m : Nat) : Int))), some (V.int (2 + (i : Int)))] = _
      rw [e]
    · rintro σ' H1 ⟨⟨x3, rfl⟩, rfl⟩
      refine ⟨_, rfl, ?_⟩
      have e : facM m ((((n : Nat) : Int) + 1 - 2).toNat + 1) = facM m n := by
        match n with
        | 0 => rfl
        | n + 1 =>
          congr 1
          omega
      rw [e]
      exact k
end
end Fo
set_option maxRecDepth 100000
set_option maxHeartbeats 4000000
set_option exponentiation.threshold 100000
namespace Fo
open PySem PySem.Spec PyProof.Rows L2 LamX
abbrev s_law_half_right : Stmt := top 39
abbrev n_law_half_right : List Str := ["pool", "modulus", "parts", "sizes", "orders", "k"]
theorem sc_law_half_right : FnScope n_law_half_right ["pool", "modulus"] (defScope s_law_half_right) := ⟨rfl, rfl, rfl, by decide +kernel, rfl, by decide +kernel, by decide +kernel⟩
theorem eqv_self {d : PyData} (h : SeqAt.shaped d = true) : PyData.eqv d d = true := SeqAt.eqv_refl d (SeqAt.canLay_of_shaped h)
theorem sizes_n1 {ns : List Nat} (h1 : 1 ≤ ns.length) (h8 : ns.length ≤ 8) (hr : ∀ n ∈ ns, 1 ≤ n ∧ n ≤ 1000) : sizesO 1 (some (ns.map nV)) = true := by
  show (decide (1 ≤ (ns.map nV).length) && decide ((ns.map nV).length ≤ 8) && (ns.map nV).all (cntV 1)) = true
  rw [List.length_map, decide_eq_true h1, decide_eq_true h8, Bool.true_and, Bool.true_and, List.all_eq_true]
  intro x hx
  obtain ⟨u, hu, rfl⟩ := List.mem_map.mp hx
  have h := hr u hu
  show (decide (1 ≤ ((u : Nat) : Int)) && decide (((u : Nat) : Int) ≤ mostK)) = true
  have m : ((u : Nat) : Int) ≤ mostK := by
    show ((u : Nat) : Int) ≤ 1000000000000000000000000000000
    omega
  rw [decide_eq_true (by omega : (1 : Int) ≤ ((u : Nat) : Int)), decide_eq_true m]
  rfl
theorem cnt1_m {m : Nat} (h : 1 ≤ m) (h2 : m ≤ 1000000000000000000000000000000) : cntV 1 (nV m) = true := by
  show (decide (1 ≤ ((m : Nat) : Int)) && decide (((m : Nat) : Int) ≤ mostK)) = true
  rw [decide_eq_true (by omega : (1 : Int) ≤ ((m : Nat) : Int)), decide_eq_true (show ((m : Nat) : Int) ≤ mostK from by show ((m : Nat) : Int) ≤ 1000000000000000000000000000000; omega)]
  rfl
theorem tg_nats {K : PySem.W.Frag} {C : Addr} {H : Hp} {a : Addr} {ns : List Nat} (h : SqT K H a (ns.map nV)) (hz : ns.length ≤ 100000) : Tg K C H (.ref a) (some (ns.map nV)) := .tup h (fun y hy => by
  obtain ⟨n, _, rfl⟩ := List.mem_map.mp hy
  exact th_int) (by rw [List.length_map]; exact hz)
/-- what is told of good sizes -/
theorem said_ok {K : PySem.W.Frag} {C a : Addr} {H : Hp} {ns : List Nat} {m : Nat} {Q : V → Hp → Prop} {E : Value → Option Addr → Hp → Prop} (ha : SqT K H a (ns.map nV)) (n1 : 1 ≤ ns.length) (n8 : ns.length ≤ 8) (hn : ∀ n ∈ ns, 1 ≤ n) (s4 : ns.sum ≤ 400) (m1 : 1 ≤ m) (m2 : m ≤ 1000000000000000000000000000000) (k : ∀ H', Same H H' → Q (.int (Mt.Lp ns.sum (Mt.RK ns ns) % (m : Int))) H') : spSaidF K C [.ref a, nV m] H Q E :=
  ⟨.ref a, nV m, some (ns.map nV), rfl, tg_nats ha (by omega), th_int, .inr ⟨a, ns, rfl, ha, rfl, sizes_n1 n1 n8 (fun n h => ⟨hn n h, by have := mem_le_sum h; omega⟩), .inr ⟨m, rfl, cnt1_m m1 m2, .inr ⟨s4, k⟩⟩⟩⟩
theorem perm_nat {xs : List Int} {L : List Nat} (h : xs.Perm (L.map fun (x : Nat) => (x : Int))) : ∃ S : List Nat, xs = S.map (fun (x : Nat) => (x : Int)) ∧ S.Perm L := by
  refine ⟨xs.map Int.toNat, ?_, ?_⟩
  · rw [List.map_map]
    refine ((List.map_congr_left fun x hx => ?_).trans (List.map_id xs)).symm
    obtain ⟨n, _, rfl⟩ := List.mem_map.mp (h.mem_iff.mp hx)
    rfl
  · have h2 := h.map Int.toNat
    rw [List.map_map] at h2
    rwa [show (Int.toNat ∘ fun (x : Nat) => (x : Int)) = id from by funext x; rfl, List.map_id] at h2
theorem sum_60 : ∀ {P : List Nat}, (∀ p ∈ P, 1 ≤ p ∧ p ≤ 60) → P.sum ≤ 60 * P.length
  | [], _ => Nat.le_refl _
  | x :: r, h => by
    have h1 := h x List.mem_cons_self
    have h2 := sum_60 fun y hy => h y (List.mem_cons_of_mem _ hy)
    rw [List.sum_cons, List.length_cons]
    omega
theorem perm_sum {S L : List Nat} (h : S.Perm L) : S.sum = L.sum := h.sum_nat
theorem sum_snocN (P : List Nat) (x : Nat) : (P ++ [x]).sum = P.sum + x := by
  rw [List.sum_append]
  show P.sum + (x + 0) = _
  omega
theorem half_eq {P S : List Nat} (h : S.Perm (P ++ [P.sum])) : Mt.Lp S.sum (Mt.RK S S) = (Mt.fac P.sum : Int) * (Mt.fac P.sum : Int) := by
  have e : S.Perm (P.sum :: P) := h.trans List.perm_append_comm
  rw [perm_sum h, Mt.RK_perm e, sum_snocN]
  exact Mt.Lp_half rfl
theorem most_eq {S : List Nat} {x : Nat} (h : S.sum < x) : Mt.Lp (S ++ [x]).sum (Mt.RK (S ++ [x]) (S ++ [x])) = 0 := by
  have e : (S ++ [x]).Perm (x :: S) := List.perm_append_comm
  rw [Mt.RK_perm e, sum_snocN, Nat.add_comm]
  exact Mt.Lp_most h
theorem mod_orders (m n : Nat) : (((facM m n : Nat) : Int) * ((facM m n : Nat) : Int)) % ((m : Nat) : Int) = ((Mt.fac n : Int) * (Mt.fac n : Int)) % ((m : Nat) : Int) := by
  unfold facM
  rw [← Int.natCast_mul, ← Int.natCast_mul, ← Int.natCast_emod, ← Int.natCast_emod, ← Nat.mul_mod]
theorem small_mulW {i j : Int} (hi : i.natAbs < 1267650600228229401496703205376) (hj : j.natAbs < 1267650600228229401496703205376) : CMulW i j := wide_mul (a := 100) (b := 100) (by omega) (by omega) (by omega) (by omega) (by omega)
section
variable {P : Program} {w : World} {K : PySem.W.Frag} {mg : Str → Option Value} {base : Heap} {C : Addr}
def spHalf : Sp := fun vs H Q _ => ∃ (t l : Addr) (m : Nat), vs = [.ref t, nV m] ∧ Po H t l ∧ 1 ≤ m ∧ m ≤ 1000000000000000000000000000000 ∧ ∀ H', Gs t l H H' → Po H' t l → Q (.bl true) H'
theorem ok_half (A : At K mg "_law_half_right" s_law_half_right ["pool", "modulus"]) (T : Tx mg) (Tsum : mg "sum" = none) (G_law_draw : Dfn P w K mg base "_law_draw" ["pool", "many"] 1 spDraw) (G_law_mixed : Dfn P w K mg base "_law_mixed" ["pool", "things"] 2 (spMixed K)) (G_law_orders : Dfn P w K mg base "_law_orders" ["many", "modulus"] 1 spOrdM) (G_law_said : Dfn P w K mg base "_law_said" ["sizes", "modulus"] 5 (spSaidF K C)) : Dfn P w K mg base "_law_half_right" ["pool", "modulus"] 6 spHalf := by
  refine A.ok sc_law_half_right (fun vs H Q E h => ?_) (fun f cdv A outer s H vs Q E hr h => ?_)
  · obtain ⟨_, _, _, rfl, _⟩ := h
    rfl
  · obtain ⟨t, l, m, rfl, T0, m1, m2, k⟩ := h
    refine ⟨_, (pss_cons (ps_setLc (i := 2) (own := [("k", 5)]) (g := (gName 5)) (tt := tYes) (te := (tOp (rI0 fun i j => V.int (i + j)) (tC (V.int 1)) (tCall spDraw [] E0 (tCons (tVar 0) (tCons (tC (V.int 60)) tNil))))) (by rfl) sc_law_half_right.nd rfl rfl (sw_true rfl rfl rfl (by decide +kernel)) (pi_range1 rfl T.range (pa_cons (pe_op op_add pe_int (pe_d G_law_draw (hr.mono (by decide)) (pa_cons (pv 0) (pa_cons pe_int pa_nil)))) pa_nil)) (blkOk_by (own := [("k", 5)]) (N := n_law_half_right) (sc := (defScope s_law_half_right)) (by decide +kernel)) (fun _ _ _ _ _ => (pg_name (i := 5) sc_law_half_right.nd rfl (Or.inl rfl))) (fun _ _ _ _ _ => pts_nil) (fun _ _ _ _ _ => (pe_op op_add pe_int (pe_d G_law_draw (hr.mono (by decide)) (pa_cons (pv 0) (pa_cons pe_int pa_nil))))))
      (pss_cons (ps_set (i := 3) sc_law_half_right.nd rfl (Or.inl rfl) (pe_callTy c_tuple (by rfl) T.tuple (by decide +kernel) (pa_cons (pe_d G_law_mixed (hr.mono (by decide)) (pa_cons (pv 0) (pa_cons (pe_op op_cat (pv 2) (pe_lst (pa_cons (pe_callB (cr_sum rfl) (by rfl) Tsum (by decide +kernel) (pa_cons (pv 2) pa_nil)) pa_nil))) pa_nil))) pa_nil)))
      (pss_cons (ps_set (i := 4) sc_law_half_right.nd rfl (Or.inl rfl) (pe_d G_law_orders (hr.mono (by decide)) (pa_cons (pe_callB (cr_sum rfl) (by rfl) Tsum (by decide +kernel) (pa_cons (pv 2) pa_nil)) (pa_cons (pv 1) pa_nil))))
      (pss_cons (ps_if (pt_cmpR (op_neD hr.units) (pe_d G_law_said (hr.mono (by decide)) (pa_cons (pv 3) (pa_cons (pv 1) pa_nil))) (pe_op op_mod (pe_callTy c_int (by rfl) T.int (by decide +kernel) (pa_cons (pe_op op_mulW (pv 4) (pv 4)) pa_nil)) (pv 1)) (nomark _)) (pss_one (ps_ret pe_bl)) pss_nil)
      (pss_one (ps_ret (pe_ifExp (pt_cmpR op_lt (pe_op op_mulW pe_int (pe_callB (cr_sum rfl) (by rfl) Tsum (by decide +kernel) (pa_cons (pv 2) pa_nil))) pe_int (nomark _)) (pe_cmpR (op_eqD hr.units) (pe_d G_law_said (hr.mono (by decide)) (pa_cons (pe_op op_catA (pv 3) (pe_tup (pa_cons (pe_op op_add pe_int (pe_op op_mulW pe_int (pe_callB (cr_sum rfl) (by rfl) Tsum (by decide +kernel) (pa_cons (pv 2) pa_nil)))) pa_nil))) (pa_cons (pv 1) pa_nil))) pe_int (nomark _)) pe_bl))))))), ?_⟩
    refine ⟨_, rfl, t, l, 3, rfl, T0, by decide, by decide, fun d H1 p0 p1 g1 T1 => ⟨_, _, rfl, rfl, _, rfl, by omega, by omega, fun D hD => ?_⟩⟩
    refine lc_range (lo := 0) (n := (1 + d).toNat) (fun j H' => ∃ P : List Nat, H' D = some (.lst (P.map nV)) ∧ P.length = j ∧ (∀ p ∈ P, 1 ≤ p ∧ p ≤ 60) ∧ Gs t l H1 H' ∧ Po H' t l) ⟨[], upd_same, rfl, fun _ h => (by cases h), .new hD, T1.new hD⟩ ?_ ?_
    · rintro j H2 hj ⟨P, hP, Pl, Pb, g2, T2⟩
      refine ⟨rfl, _, rfl, t, l, 60, rfl, T2, by decide, by decide, fun e H3 q0 q1 g3 T3 => ⟨_, _, rfl, rfl, ?_⟩⟩
      have nD := T1.free hD
      have nD2 : D ≠ t ∧ D ≠ l := nD
      have hP3 := g3 _ _ nD.1 nD.2 hP
      obtain ⟨en, rfl⟩ : ∃ n : Nat, e = (n : Int) := ⟨e.toNat, by omega⟩
      refine ⟨_, hP3, by rw [List.length_map, sizeLine_eq]; omega, P ++ [1 + en], ?_, by rw [List.length_append, Pl]; rfl, fun p hp => ?_, (g2.trans g3).mut hD, T3.mut nD2⟩
      · rw [upd_same, List.map_append]
        refine congrArg (fun v => some (HO.lst (P.map nV ++ [v]))) (congrArg V.int ?_)
        omega
      · rcases List.mem_append.mp hp with h | h
        · exact Pb p h
        · rw [List.mem_singleton.mp h]
          omega
    · rintro H2 ⟨P, hP, Pl, Pb, g2, T2⟩
      have Pl : P.length ≤ 3 := by omega
      have Pl1 : 1 ≤ P.length := by omega
      have Ps := sum_60 Pb
      have hPi : H2 D = some (.lst ((P.map fun (x : Nat) => (x : Int)).map V.int)) := by rw [nV_map]; exact hP
      refine ⟨_, rfl, _, rfl, _, rfl, D, _, rfl, SqL.of hPi, by show 1 ≤ sizeLine; decide, fun b hb => ?_⟩
      rw [sum_nI]
      have sb := same_new (o := .lst [V.int ((P.sum : Nat) : Int)]) hb
      refine ⟨D, b, _, _, rfl, rfl, sb _ _ hP, upd_same, by rw [List.length_map, sizeLine_eq]; show P.length + 1 ≤ _; omega, fun c hc => ?_⟩
      have sc := same_new (o := .lst (P.map nV ++ [V.int ((P.sum : Nat) : Int)])) hc
      have nD := T1.free hD
      have T3 := T2.keep (sb.trans sc)
      have ecat : (P.map nV ++ [V.int ((P.sum : Nat) : Int)]) = ((P ++ [P.sum]).map fun (x : Nat) => (x : Int)).map V.int := by rw [nV_map, List.map_append]; rfl
      refine ⟨t, l, c, _, rfl, T3, SqL.of (upd_same.trans (congrArg (fun z => some (HO.lst z)) ecat)), by rw [List.length_map, List.length_append]; show P.length + 1 ≤ _; omega, fun p xs H4 perm hp hx g4 T4 => ?_⟩
      obtain ⟨S, rfl, pS⟩ := perm_nat perm
      rw [nV_map] at hx
      have hP4 := g4 _ _ nD.1 nD.2 ((sb.trans sc) _ _ hP)
      refine ⟨p, _, rfl, .inl ⟨SqL.of hx, fun q hq => ?_⟩⟩
      have sq := same_new (o := .tup (S.map nV)) hq
      obtain ⟨H5, e5⟩ : ∃ H5, H5 = upd H4 q (.tup (S.map nV)) := ⟨_, rfl⟩
      have hS5 : SqT K H5 q (S.map nV) := by rw [e5]; exact SqT.of upd_same
      rw [← e5] at sq ⊢
      have T5 := T4.keep sq
      have hP5 : SqL K H5 D ((P.map fun (x : Nat) => (x : Int)).map V.int) := by rw [nV_map]; exact SqL.of (sq _ _ hP4)
      have g5 : Gs t l H H5 := (((g1.trans g2).trans (.of (sb.trans sc))).trans g4).trans (.of sq)
      refine ⟨_, rfl, D, _, rfl, hP5, _, rfl, P.sum, m, by rw [sum_nI]; rfl, m1, by omega, ?_⟩
      have Ssum : S.sum = P.sum + P.sum := (perm_sum pS).trans (sum_snocN _ _)
      have Slen : S.length = P.length + 1 := pS.length_eq.trans List.length_append
      have Spos : ∀ n ∈ S, 1 ≤ n := fun n hn => by
        rcases List.mem_append.mp (pS.mem_iff.mp hn) with h | h
        · exact (Pb n h).1
        · rw [List.mem_singleton.mp h]
          match P, Pl1, Pb with
          | x :: r, _, Pb =>
            have := (Pb x List.mem_cons_self).1
            rw [List.sum_cons]
            omega
      have fb : ((facM m P.sum : Nat) : Int).natAbs < 1267650600228229401496703205376 := by
        have : facM m P.sum < m := Nat.mod_lt _ (by omega)
        omega
      refine ⟨_, rfl, _, rfl, ?_⟩
      delta tNil
      refine said_ok (C := C) hS5 (by omega) (by omega) Spos (by omega) m1 m2 fun H6 s6 => ?_
      refine ⟨_, rfl, _, rfl, _, _, rfl, rfl, small_mulW fb fb, .inl ⟨_, rfl, _, rfl, _, _, rfl, rfl, by omega, .int _, .int _, .int _, .int _, rfl, rfl, _, rfl, ?_⟩⟩
      rw [half_eq pS, mod_orders, eqv_self rfl]
      refine ite2 (fun n => by cases n) (fun _ => ?_)
      have T6 := T5.keep s6
      have g6 := g5.trans (.of s6 (t := t) (l := l))
      have hP6 := s6.seq hP5
      have hS6 := sqT_same s6 hS5
      have d4 : CMulW 4 ((P.sum : Nat) : Int) := small_mulW (by omega) (by omega)
      have d2 : CMulW 2 ((P.sum : Nat) : Int) := small_mulW (by omega) (by omega)
      rw [← sum_nI] at d4 d2
      refine ⟨_, rfl, D, _, rfl, hP6, _, _, rfl, rfl, d4, _, _, rfl, rfl, _, rfl, ?_⟩
      refine ite2 (fun hc => ?_) (fun _ => k H6 g6 T6)
      have hc := of_decide_eq_true hc
      rw [sum_nI] at hc
      refine ⟨_, rfl, _, rfl, D, _, rfl, hP6, _, _, rfl, rfl, d2, _, _, rfl, rfl, by show 1 ≤ sizeLine; decide, fun p2 hp2 => ?_⟩
      have s7 := same_new (o := .tup [V.int (1 + 2 * (P.map fun (x : Nat) => (x : Int)).sum)]) hp2
      have e7 : V.int (1 + 2 * (P.map fun (x : Nat) => (x : Int)).sum) = nV (1 + 2 * P.sum) := by
        rw [sum_nI]
        exact congrArg V.int (by omega)
      have Sne : S.map nV ≠ [] := fun e => by
        have := congrArg List.length e
        rw [List.length_map] at this
        simp at this
        rw [this] at Slen
        simp at Slen
      refine ⟨q, p2, _, _, rfl, rfl, sqT_same s7 hS6, SqT.of upd_same, by rw [List.length_map, sizeLine_eq]; show S.length + 1 ≤ _; omega, fun e => absurd e Sne, fun _ e => (by cases e), fun _ _ p3 hp3 => ?_⟩
      have s8 := same_new (o := .tup (S.map nV ++ [V.int (1 + 2 * (P.map fun (x : Nat) => (x : Int)).sum)])) hp3
      have ecat2 : S.map nV ++ [V.int (1 + 2 * (P.map fun (x : Nat) => (x : Int)).sum)] = (S ++ [1 + 2 * P.sum]).map nV := by rw [e7, List.map_append]; rfl
      have T8 := T6.keep (s7.trans s8)
      have g8 := g6.trans (.of (s7.trans s8) (t := t) (l := l))
      refine ⟨_, rfl, ?_⟩
      refine said_ok (C := C) (ns := S ++ [1 + 2 * P.sum]) (SqT.of (upd_same.trans (congrArg (fun z => some (HO.tup z)) ecat2))) (by rw [List.length_append]; omega) (by rw [List.length_append]; show S.length + 1 ≤ 8; omega) (fun n hn => ?_) (by rw [sum_snocN]; omega) m1 m2 fun H9 s9 => ?_
      · rcases List.mem_append.mp hn with h | h
        · exact Spos n h
        · rw [List.mem_singleton.mp h]
          omega
      refine ⟨.int _, .int _, .int _, .int _, rfl, rfl, ?_⟩
      rw [most_eq (by omega), Int.zero_emod, eqv_self rfl]
      exact k _ (g8.trans (.of s9)) (T8.keep s9)
end
end Fo
set_option maxRecDepth 100000
set_option maxHeartbeats 4000000
set_option exponentiation.threshold 100000
namespace Fo
open PySem PySem.Spec PyProof.Rows L2 LamX
abbrev s_law_by_signs : Stmt := top 40
abbrev n_law_by_signs : List Str := ["sizes", "ways", "size", "own", "k", "longer", "j", "found", "orders", "left", "many"]
theorem sc_law_by_signs : FnScope n_law_by_signs ["sizes"] (defScope s_law_by_signs) := ⟨rfl, rfl, rfl, by decide +kernel, rfl, by decide +kernel, by decide +kernel⟩
theorem cof_next (s k : Nat) : Mt.cof s s k * ((s : Int) - (k : Int)) * ((s : Int) - (k : Int)) / (((k + 1 : Nat)) : Int) = Mt.cof s s (k + 1) := by
  have h := Mt.ch_stepI s k
  have e : Mt.cof s s k * ((s : Int) - (k : Int)) * ((s : Int) - (k : Int)) = Mt.cof s s (k + 1) * (((k + 1 : Nat)) : Int) := by
    unfold Mt.cof
    rw [Mt.fac_I, Int.natCast_add]
    grind
  rw [e]
  exact Int.mul_ediv_cancel _ (by omega)
theorem lI_snoc (n : Nat) (F : Nat → Int) : lI n F ++ [V.int (F n)] = lI (n + 1) F := by
  unfold lI
  rw [List.range_succ, List.map_append]
  rfl
theorem cof_lt {s j : Nat} (hs : s ≤ 400) (hj : j ≤ 400) : (Mt.cof s s j).natAbs < 2 ^ (4400 + 1) := lt_pow1 (Mt.cof_abs hs hs hj)
/-- from the end: the sum with signs, as far as it is made -/
def SS (n : Nat) (R : Nat → Int) (i : Nat) : Int := Mt.sI (fun l => Mt.sg (n - l) * R (n - l) * (Mt.fac l : Int)) i
theorem SS_end (n : Nat) (R : Nat → Int) : SS n R (n + 1) = Mt.Lp n R := by
  unfold SS Mt.Lp
  rw [Mt.sI_rev (fun k => Mt.sg k * R k * (Mt.fac (n - k) : Int)) n]
  refine Mt.sI_congr fun l hl => ?_
  show _ = Mt.sg (n - l) * R (n - l) * (Mt.fac (n - (n - l)) : Int)
  rw [show n - (n - l) = l from by omega]
theorem sg_abs (k : Nat) : (Mt.sg k).natAbs < 2 ^ 1 := by
  unfold Mt.sg
  split <;> decide
theorem sg_at (k : Nat) : atI [V.int 1, V.int (-1)] (((k : Nat) : Int) % 2) = some (V.int (Mt.sg k)) := by
  have e : ((k : Nat) : Int) % 2 = ((k % 2 : Nat) : Int) := by omega
  rw [e]
  refine atI_nat (j := k % 2) ?_
  unfold Mt.sg
  by_cases c : k % 2 = 0
  · rw [c, if_pos rfl]
    rfl
  · rw [show k % 2 = 1 from by omega, if_neg (by decide)]
    rfl
section
variable {P : Program} {w : World} {K : PySem.W.Frag} {mg : Str → Option Value} {base : Heap} {C : Addr}
def spSigns (K : PySem.W.Frag) : Sp := fun vs H Q _ => ∃ (a : Addr) (ns : List Nat), vs = [.ref a] ∧ SqT K H a (ns.map nV) ∧ ns.length ≤ 8 ∧ ns.sum ≤ 100 ∧ ∀ H', Same H H' → Q (.int (Mt.Lp ns.sum (Mt.RK ns ns))) H'
theorem ok_signs (A : At K mg "_law_by_signs" s_law_by_signs ["sizes"]) (T : Tx mg) : Dfn P w K mg base "_law_by_signs" ["sizes"] 1 (spSigns K) := by
  refine A.ok sc_law_by_signs (fun vs H Q E h => ?_) (fun f cdv A outer s H vs Q E hr h => ?_)
  · obtain ⟨_, _, rfl, _⟩ := h
    rfl
  · obtain ⟨a, ns, rfl, ha, n8, s4, k⟩ := h
    refine ⟨_, (pss_cons (ps_set (i := 1) sc_law_by_signs.nd rfl (Or.inl rfl) (pe_lst (pa_cons pe_int pa_nil)))
      (pss_cons (ps_for PassesOwn.never rfl (pi_tup (pv 0)) (pg_name (i := 2) sc_law_by_signs.nd rfl (Or.inl rfl))
      (pss_cons (ps_set (i := 3) sc_law_by_signs.nd rfl (Or.inl rfl) (pe_lst (pa_cons pe_int pa_nil)))
      (pss_cons (ps_for PassesOwn.never rfl (pi_range1 rfl T.range (pa_cons (pv 2) pa_nil)) (pg_name (i := 4) sc_law_by_signs.nd rfl (Or.inl rfl))
      (pss_one (ps_expr (pe_bm PySem.F.plainAttrs_list PySem.F.slot_list_append PySem.F.type_list_append mt_append (pv 3) (pa_cons (pe_op op_fdiv (pe_op op_mulW (pe_op op_mulW (pe_ix ix_list (pv 3) (pv 4) (fun _ _ => rfl)) (pe_op op_sub (pv 2) (pv 4))) (pe_op op_sub (pv 2) (pv 4))) (pe_op op_add (pv 4) pe_int)) pa_nil)))))
      (pss_cons (ps_set (i := 5) sc_law_by_signs.nd rfl (Or.inl rfl) (pe_op op_rep (pe_lst (pa_cons pe_int pa_nil)) (pe_op op_add (pe_callB c_len (by rfl) T.len (by decide +kernel) (pa_cons (pv 1) pa_nil)) (pv 2))))
      (pss_cons (ps_for PassesOwn.never rfl (pi_range1 rfl T.range (pa_cons (pe_callB c_len (by rfl) T.len (by decide +kernel) (pa_cons (pv 1) pa_nil)) pa_nil)) (pg_name (i := 4) sc_law_by_signs.nd rfl (Or.inl rfl))
      (pss_one (ps_for PassesOwn.never rfl (pi_range1 rfl T.range (pa_cons (pe_callB c_len (by rfl) T.len (by decide +kernel) (pa_cons (pv 3) pa_nil)) pa_nil)) (pg_name (i := 6) sc_law_by_signs.nd rfl (Or.inl rfl))
      (pss_one (ps_asg (pe_op op_add (pe_ix ix_list (pv 5) (pe_op op_add (pv 4) (pv 6)) (fun _ _ => rfl)) (pe_op op_mulW (pe_ix ix_list (pv 1) (pv 4) (fun _ _ => rfl)) (pe_ix ix_list (pv 3) (pv 6) (fun _ _ => rfl)))) (pg_sub (pv 5) (pe_op op_add (pv 4) (pv 6)) set_list))))))
      (pss_one (ps_set (i := 1) sc_law_by_signs.nd rfl (Or.inl rfl) (pv 5))))))))
      (pss_cons (ps_set (i := 7) sc_law_by_signs.nd rfl (Or.inl rfl) pe_int)
      (pss_cons (ps_set (i := 8) sc_law_by_signs.nd rfl (Or.inl rfl) pe_int)
      (pss_cons (ps_for PassesOwn.never rfl (pi_range1 rfl T.range (pa_cons (pe_callB c_len (by rfl) T.len (by decide +kernel) (pa_cons (pv 1) pa_nil)) pa_nil)) (pg_name (i := 9) sc_law_by_signs.nd rfl (Or.inl rfl))
      (pss_cons (ps_set (i := 10) sc_law_by_signs.nd rfl (Or.inl rfl) (pe_op op_sub (pe_op op_sub (pe_callB c_len (by rfl) T.len (by decide +kernel) (pa_cons (pv 1) pa_nil)) pe_int) (pv 9)))
      (pss_cons (ps_set (i := 7) sc_law_by_signs.nd rfl (Or.inl rfl) (pe_op op_add (pv 7) (pe_op op_mulW (pe_op op_mulW (pe_ix ix_list (pe_lst (pa_cons pe_int (pa_cons (pe_un un_neg pe_int) pa_nil))) (pe_op op_mod (pe_callTy c_int (by rfl) T.int (by decide +kernel) (pa_cons (pv 10) pa_nil)) pe_int) (fun _ _ => rfl)) (pe_ix ix_list (pv 1) (pv 10) (fun _ _ => rfl))) (pv 8))))
      (pss_one (ps_set (i := 8) sc_law_by_signs.nd rfl (Or.inl rfl) (pe_op op_mulW (pv 8) (pe_op op_add (pv 9) pe_int)))))))
      (pss_one (ps_ret (pv 7)))))))), ?_⟩
    refine ⟨by show 1 ≤ sizeLine; decide, fun l0 hl0 => ?_⟩
    have s0 := same_new (o := .lst [V.int 1]) hl0
    have le400 : ∀ x ∈ ns, x ≤ 400 := fun x hx => by have := mem_le_sum hx; omega
    refine ⟨_, rfl, a, rfl, ⟨_, sqT_same s0 ha⟩, for_tup (K := K) (a := a) (xs := ns.map nV) (fun i σ' H' => (∃ l x2 x3 x4 x5 x6, σ' = [some (.ref a), some (.ref l), x2, x3, x4, x5, x6, none, none, none, none] ∧ H' l = some (.lst (lI ((ns.take i).sum + 1) (Mt.RK (ns.take i).reverse (ns.take i).reverse))) ∧ H l = none) ∧ Same H H') ⟨⟨l0, _, _, _, _, _, rfl, upd_same, hl0⟩, s0⟩ (fun i σ' H' _ p => sqT_same p.2 ha) ?_ ?_⟩
    · rintro i x σ' H1 hx ⟨⟨l, x2, x3, x4, x5, x6, rfl, hl, fl⟩, s1⟩
      obtain ⟨s, hs, rfl⟩ : ∃ s, ns[i]? = some s ∧ x = nV s := by
        rw [List.getElem?_map] at hx
        cases e : ns[i]? with
        | none => rw [e] at hx; cases hx
        | some u => rw [e] at hx; exact ⟨u, rfl, (Option.some.inj hx).symm⟩
      have et : ns.take (i + 1) = ns.take i ++ [s] := by rw [List.take_add_one, hs]; rfl
      obtain ⟨R, eR⟩ : ∃ R, R = ns.take i := ⟨_, rfl⟩
      have Rm : ∀ x ∈ R.reverse, x ≤ 400 := fun x hx => le400 x (List.mem_of_mem_take (by rw [← eR]; exact List.mem_reverse.mp hx))
      have Rs : R.sum + s ≤ 100 := by
        refine Nat.le_trans ?_ s4
        have : ns.sum = (ns.take (i + 1)).sum + (ns.drop (i + 1)).sum := by rw [← List.sum_append, List.take_append_drop]
        rw [et, List.sum_append, ← eR] at this
        simp at this
        omega
      have Rl : R.length ≤ 8 := by rw [eR, List.length_take]; omega
      rw [← eR] at hl
      obtain ⟨F, eF⟩ : ∃ F, F = Mt.RK R.reverse R.reverse := ⟨_, rfl⟩
      rw [← eF] at hl
      have F0 : ∀ i, R.sum < i → F i = 0 := fun i hi => by rw [eF]; exact Mt.RK_above (by rw [List.sum_reverse]; exact hi)
      have Fb : ∀ i, i ≤ 400 → (F i).natAbs < 2 ^ (36000 + 1) := fun i hi => by
        rw [eF]
        refine lt_pow1 (Nat.le_trans (Mt.RK_abs Rm Rm hi) (Mt.pow_le ?_))
        rw [List.length_reverse]
        omega
      -- the own row
      refine ⟨by show 1 ≤ sizeLine; decide, fun b hb => ?_⟩
      have sb := same_new (o := .lst [V.int 1]) hb
      refine ⟨_, rfl, _, rfl, by omega, by omega, ?_⟩
      refine for_range (lo := 0) (n := ((s : Nat) : Int).toNat) (fun j σ' H' => ∃ x4, σ' = [some (.ref a), some (.ref l), some (nV s), some (.ref b), x4, x5, x6, none, none, none, none] ∧ H' b = some (.lst (lI (j + 1) (Mt.cof s s))) ∧ Same H1 H') ⟨_, rfl, by rw [upd_same]; exact congrArg (fun v => some (HO.lst [V.int v])) (Mt.cof_zero s s).symm, sb⟩ ?_ ?_
      · rintro j σ' H2 hj ⟨x4, rfl, h2, s2⟩
        have hj : j < s := by omega
        rw [Int.zero_add (j : Int)]
        have sj : (((s : Nat) : Int) - ((j : Nat) : Int)).natAbs < 2 ^ 10 := by omega
        refine ⟨_, rfl, .inl ⟨rfl, _, SqL.of h2⟩, _, rfl, _, rfl, b, _, _, _, rfl, rfl, SqL.of h2, atI_nat (j := j) (lI_get (by omega)), ?_⟩
        refine ⟨_, rfl, _, rfl, _, _, rfl, rfl, _, _, rfl, rfl, wide_mul (cof_lt (by omega) (by omega)) sj (by omega) (by omega) (by omega), ?_⟩
        refine ⟨_, rfl, _, rfl, _, _, rfl, rfl, _, _, rfl, rfl, wide_mul (wide_lt (cof_lt (by omega) (by omega)) sj) sj (by omega) (by omega) (by omega), ?_⟩
        refine ⟨_, rfl, _, _, rfl, rfl, _, _, rfl, rfl, ⟨by omega, by omega⟩, ?_⟩
        refine ⟨b, _, _, rfl, rfl, h2, by rw [lI_len, sizeLine_eq]; omega, ⟨_, rfl, ?_, same_mut s2 hb⟩⟩
        refine upd_same.trans (congrArg (fun z => some (HO.lst z)) (Eq.trans ?_ (lI_snoc (j + 1) (Mt.cof s s))))
        exact congrArg (fun v => lI (j + 1) (Mt.cof s s) ++ [V.int v]) (cof_next s j)
      · rintro σ' H2 ⟨x4, rfl, h2, s2⟩
        rw [Int.toNat_natCast] at h2
        refine ⟨by show 1 ≤ sizeLine; decide, fun z hz => ?_⟩
        have sz := same_new (o := .lst [V.int 0]) hz
        have hl2 := s2 _ _ hl
        refine ⟨_, rfl, l, _, rfl, .inl (SqL.of (sz _ _ hl2)), _, rfl, _, _, rfl, rfl, ?_⟩
        rw [lI_len]
        refine ⟨z, _, _, rfl, rfl, upd_same, by omega, by omega, by show 1 * _ ≤ sizeLine; rw [sizeLine_eq]; omega, fun c hc => ?_⟩
        rw [show ((((R.sum + 1 : Nat) : Int) + ((s : Nat) : Int))).toNat = R.sum + s + 1 from by omega, lI_zero (F := PP F s 0 0) fun k => PP_zero]
        obtain ⟨H3, e3⟩ : ∃ H3, H3 = upd H2 z (.lst [V.int 0]) := ⟨_, rfl⟩
        rw [← e3] at hc sz ⊢
        have hl3 := sz _ _ hl2
        have hb3 := sz _ _ h2
        have s3 := same_new (o := .lst (lI (R.sum + s + 1) (PP F s 0 0))) hc
        refine ⟨_, rfl, l, _, rfl, .inl (SqL.of (s3 _ _ hl3)), _, rfl, by rw [lI_len]; omega, by rw [lI_len]; omega, ?_⟩
        rw [lI_len]
        refine for_range (lo := 0) (n := ((R.sum + 1 : Nat) : Int).toNat) (fun I σ' H' => ∃ x4 x6, σ' = [some (.ref a), some (.ref l), some (nV s), some (.ref b), x4, some (.ref c), x6, none, none, none, none] ∧ H' c = some (.lst (lI (R.sum + s + 1) (PP F s I 0))) ∧ Same H3 H') ⟨_, _, rfl, upd_same, s3⟩ ?_ ?_
        · rintro I σ' H4 hI ⟨y4, y6, rfl, h4, s4'⟩
          have hI : I ≤ R.sum := by omega
          rw [Int.zero_add (I : Int)]
          refine ⟨_, rfl, b, _, rfl, .inl (SqL.of (s4' _ _ hb3)), _, rfl, by rw [lI_len]; omega, by rw [lI_len]; omega, ?_⟩
          rw [lI_len]
          refine for_range (lo := 0) (n := ((s + 1 : Nat) : Int).toNat) (fun J σ' H' => ∃ x6, σ' = [some (.ref a), some (.ref l), some (nV s), some (.ref b), some (.int (I : Nat)), some (.ref c), x6, none, none, none, none] ∧ H' c = some (.lst (lI (R.sum + s + 1) (PP F s I J))) ∧ Same H3 H') ⟨_, rfl, h4, s4'⟩ ?_ ?_
          · rintro J σ' H5 hJ ⟨x6, rfl, h5, s5⟩
            have hJ : J ≤ s := by omega
            rw [Int.zero_add (J : Int)]
            have jJ : I + J < R.sum + s + 1 := by omega
            have eJ : V.int (((I : Nat) : Int) + ((J : Nat) : Int)) = V.int ((I + J : Nat) : Int) := congrArg V.int (by omega)
            refine ⟨_, rfl, _, rfl, _, rfl, _, _, rfl, rfl, c, _, ((I + J : Nat) : Int), _, rfl, eJ, SqL.of h5, atI_nat (j := I + J) (lI_get jJ), ?_⟩
            refine ⟨_, rfl, _, rfl, l, _, _, _, rfl, rfl, SqL.of (s5 _ _ hl3), atI_nat (j := I) (lI_get (by omega)), ?_⟩
            refine ⟨_, rfl, _, rfl, b, _, _, _, rfl, rfl, SqL.of (s5 _ _ hb3), atI_nat (j := J) (lI_get (by omega)), ?_⟩
            refine ⟨_, _, rfl, rfl, wide_mul (Fb I (by omega)) (cof_lt (by omega) (by omega)) (by omega) (by omega) (by omega), _, _, rfl, rfl, ?_⟩
            refine ⟨_, rfl, _, rfl, _, rfl, _, _, rfl, rfl, c, _, ((I + J : Nat) : Int), I + J, rfl, eJ, h5, Evl.ixN_nat (j := I + J) (by rw [lI_len]; exact jJ), ?_⟩
            refine ⟨_, rfl, ?_, same_mut s5 hc⟩
            rw [upd_same]
            refine congrArg (fun z => some (HO.lst z)) (lI_set fun k _ => ?_)
            rw [PP_step]
            by_cases e : k = I + J
            · rw [if_pos e, if_pos e, e]
            · rw [if_neg e, if_neg e]
          · rintro σ' H5 ⟨x6, rfl, h5, s5⟩
            refine ⟨_, _, rfl, ?_, s5⟩
            rw [Int.toNat_natCast] at h5
            rw [h5]
            exact congrArg (fun z => some (HO.lst z)) (lI_congr fun k _ => PP_row)
        · rintro σ' H4 ⟨y4, y6, rfl, h4, s4'⟩
          rw [Int.toNat_natCast] at h4
          refine ⟨_, rfl, ⟨c, _, _, _, _, _, rfl, ?_, ((s1.trans s2).trans sz).free hc⟩, ((s1.trans s2).trans sz).trans s4'⟩
          rw [h4, et, List.reverse_append, List.sum_append, ← eR, show R.sum + [s].sum + 1 = R.sum + s + 1 from by simp]
          refine congrArg (fun z => some (HO.lst z)) (lI_congr fun k _ => (PP_end F0).trans ?_)
          rw [eF]
          rfl
    · rintro σ' H1 ⟨⟨l, x2, x3, x4, x5, x6, rfl, hl, fl⟩, s1⟩
      rw [List.length_map, List.take_length, Mt.RK_perm (List.reverse_perm ns)] at hl
      have Fb : ∀ i, i ≤ 400 → (Mt.RK ns ns i).natAbs < 2 ^ (36000 + 1) := fun i hi => lt_pow1 (Nat.le_trans (Mt.RK_abs le400 le400 hi) (Mt.pow_le (by omega)))
      refine ⟨_, rfl, l, _, rfl, .inl (SqL.of hl), _, rfl, by rw [lI_len]; omega, by rw [lI_len]; omega, ?_⟩
      rw [lI_len]
      refine for_range (lo := 0) (n := ((ns.sum + 1 : Nat) : Int).toNat) (fun i σ' H' => ∃ x2 x3 x4 x5 x6 x9 x10, σ' = [some (.ref a), some (.ref l), x2, x3, x4, x5, x6, some (.int (SS ns.sum (Mt.RK ns ns) i)), some (nV (Mt.fac i)), x9, x10] ∧ Same H1 H') ⟨_, _, _, _, _, _, _, rfl, Same.refl _⟩ ?_ ?_
      · rintro i σ' H2 hi ⟨x2, x3, x4, x5, x6, x9, x10, rfl, s2⟩
        have hi : i ≤ ns.sum := by omega
        rw [Int.zero_add (i : Int)]
        have eN : V.int (((ns.sum + 1 : Nat) : Int) - 1 - ((i : Nat) : Int)) = nV (ns.sum - i) := congrArg V.int (by omega)
        refine ⟨_, rfl, l, _, rfl, .inl (SqL.of (s2 _ _ hl)), _, _, rfl, rfl, _, rfl, _, _, rfl, rfl, ?_⟩
        rw [lI_len]
        show gName 10 (V.int (((ns.sum + 1 : Nat) : Int) - 1 - ((i : Nat) : Int))) _ H2 _
        rw [eN]
        have fcb : (((Mt.fac i : Nat) : Int)).natAbs < 2 ^ (3600 + 1) := by
          rw [Int.natAbs_natCast]
          exact lt_pow1 (Nat.le_trans (Mt.fac_two _ (by omega)) (Mt.pow_le (by omega)))
        refine ⟨_, rfl, 1, rfl, by show 2 ≤ sizeLine; decide, fun z hz => ?_⟩
        have sz := same_new (o := .lst [V.int 1, V.int (-1)]) hz
        refine ⟨_, rfl, .inl ⟨_, rfl, _, _, rfl, rfl, by show (0 : Int) < 2; decide, z, _, _, _, rfl, rfl, SqL.of upd_same, sg_at _, ?_⟩⟩
        refine ⟨_, rfl, _, rfl, l, _, _, _, rfl, rfl, SqL.of (sz _ _ (s2 _ _ hl)), atI_nat (j := ns.sum - i) (lI_get (by omega)), ?_⟩
        refine ⟨_, _, rfl, rfl, wide_mul (sg_abs _) (Fb _ (by omega)) (by omega) (by omega) (by omega), ?_⟩
        refine ⟨_, rfl, _, _, rfl, rfl, wide_mul (wide_lt (sg_abs _) (Fb _ (by omega))) fcb (by omega) (by omega) (by omega), _, _, rfl, rfl, ?_⟩
        refine ⟨_, rfl, _, rfl, _, _, rfl, rfl, _, _, rfl, rfl, wide_mul (b := 20) fcb (by omega) (by omega) (by omega) (by omega), ?_⟩
        refine ⟨x2, x3, x4, x5, x6, some (.int (i : Nat)), some (nV (ns.sum - i)), ?_, s2.trans sz⟩
        have e8 : ((Mt.fac i : Nat) : Int) * (((i : Nat) : Int) + 1) = ((Mt.fac (i + 1) : Nat) : Int) := by
          rw [Mt.fac_I]
          exact Int.mul_comm _ _
        show [some (V.ref a), some (V.ref l), x2, x3, x4, x5, x6, some (V.int (SS ns.sum (Mt.RK ns ns) (i + 1))), some (V.int (((Mt.fac i : Nat) : Int) * (((i : Nat) : Int) + 1))), some (V.int ((i : Nat) : Int)), some (nV (ns.sum - i))] = _
        rw [e8]
      · rintro σ' H2 ⟨x2, x3, x4, x5, x6, x9, x10, rfl, s2⟩
        rw [Int.toNat_natCast, SS_end]
        exact ⟨_, rfl, k H2 (s1.trans s2)⟩
end
end Fo
namespace Mt
structure Keyed (n k : Nat) (st : List (List Int × Nat)) : Prop where
  nd : (st.map (·.1)).Nodup
  sub : ∀ q ∈ st.map (·.1), q.Sublist ((List.range n).map fun (i : Nat) => (i : Int))
  len : ∀ q ∈ st.map (·.1), q.length + k = n
theorem Keyed.nil {n k : Nat} : Keyed n k [] := ⟨List.nodup_nil, fun q h => (nomatch h), fun q h => (nomatch h)⟩
theorem Keyed.of {n k : Nat} {st : List (List Int × Nat)} (h : Keyed n k st) : ∀ q ∈ st, q.1.Sublist ((List.range n).map fun (i : Nat) => (i : Int)) ∧ q.1.length + k = n := fun q hq =>
  ⟨h.sub _ (List.mem_map.mpr ⟨q, hq, rfl⟩), h.len _ (List.mem_map.mpr ⟨q, hq, rfl⟩)⟩
/-- all parts of a list -/
def subsI : List Int → List (List Int)
  | [] => [[]]
  | x :: l => subsI l ++ (subsI l).map (x :: ·)
theorem subsI_len : ∀ l : List Int, (subsI l).length = 2 ^ l.length
  | [] => rfl
  | x :: l => by
    show (subsI l ++ _).length = 2 ^ (l.length + 1)
    rw [List.length_append, List.length_map, subsI_len l, Nat.pow_succ]
    omega
theorem mem_subsI {q l : List Int} (h : q.Sublist l) : q ∈ subsI l := by
  induction h with
  | slnil => exact List.mem_singleton.mpr rfl
  | cons a _ ih => exact List.mem_append_left _ ih
  | cons_cons a _ ih => exact List.mem_append_right _ (List.mem_map.mpr ⟨_, ih, rfl⟩)
theorem Keyed.num {n k : Nat} {st : List (List Int × Nat)} (h : Keyed n k st) : st.length ≤ 2 ^ n := by
  have := len_le h.nd fun q hq => mem_subsI (h.sub q hq)
  rw [List.length_map, subsI_len, List.length_map, List.length_range] at this
  exact this
end Mt
set_option maxRecDepth 100000
set_option maxHeartbeats 4000000
namespace Fo
open PySem PySem.Spec PyProof.Rows L2
/-- lists of ints, each fresh -/
inductive RowsN (Pr : Addr → Prop) (H : Hp) : List V → List (List Int) → Prop
  | nil : RowsN Pr H [] []
  | cons {a : Addr} {vs : List V} {r : List Int} {rs : List (List Int)} : H a = some (.lst (r.map V.int)) → Pr a → RowsN Pr H vs rs → RowsN Pr H (.ref a :: vs) (r :: rs)
theorem RowsN.mono {Pr : Addr → Prop} {H H' : Hp} (k : ∀ a o, Pr a → H a = some o → H' a = some o) : ∀ {vs : List V} {rs : List (List Int)}, RowsN Pr H vs rs → RowsN Pr H' vs rs
  | _, _, .nil => .nil
  | _, _, .cons h n r => .cons (k _ _ n h) n (r.mono k)
theorem RowsN.imp {Pr Ps : Addr → Prop} {H : Hp} (k : ∀ a, H a ≠ none → Pr a → Ps a) : ∀ {vs : List V} {rs : List (List Int)}, RowsN Pr H vs rs → RowsN Ps H vs rs
  | _, _, .nil => .nil
  | _, _, .cons h n r => .cons h (k _ (by rw [h]; exact (fun z => nomatch z)) n) (r.imp k)
theorem RowsN.len {Pr : Addr → Prop} {H : Hp} : ∀ {vs : List V} {rs : List (List Int)}, RowsN Pr H vs rs → vs.length = rs.length
  | _, _, .nil => rfl
  | _, _, .cons _ _ r => by rw [List.length_cons, List.length_cons, r.len]
theorem RowsN.app {Pr : Addr → Prop} {H : Hp} {ws : List V} {qs : List (List Int)} (s : RowsN Pr H ws qs) : ∀ {vs : List V} {rs : List (List Int)}, RowsN Pr H vs rs → RowsN Pr H (vs ++ ws) (rs ++ qs)
  | _, _, .nil => s
  | _, _, .cons h n r => .cons h n (s.app r)
theorem RowsN.get {Pr : Addr → Prop} {H : Hp} : ∀ {vs : List V} {rs : List (List Int)} {i : Nat} {r : List Int}, RowsN Pr H vs rs → rs[i]? = some r → ∃ a, vs[i]? = some (.ref a) ∧ H a = some (.lst (r.map V.int)) ∧ Pr a
  | _, _, _, _, .nil, e => by simp at e
  | _, _, 0, _, .cons h n _, e => by simp at e; subst e; exact ⟨_, rfl, h, n⟩
  | _, _, i + 1, r, .cons _ _ t, e => by
    obtain ⟨a, h1, h2⟩ := t.get (i := i) (r := r) (by simpa using e)
    exact ⟨a, by simpa using h1, h2⟩
theorem RowsN.set {Pr : Addr → Prop} {H : Hp} {a : Addr} {q : List Int} (h : H a = some (.lst (q.map V.int))) (n : Pr a) : ∀ {vs : List V} {rs : List (List Int)} (i : Nat), RowsN Pr H vs rs → RowsN Pr H (vs.set i (.ref a)) (rs.set i q)
  | _, _, _, .nil => .nil
  | _, _, 0, .cons _ _ t => .cons h n t
  | _, _, i + 1, .cons h1 n1 t => .cons h1 n1 (t.set h n i)
/-- rows in the making, of n people, that have the dealing D -/
structure PreR (n : Nat) (D : List Int) (rs : List (List Int)) : Prop where
  len : rs.length = n
  nd : ∀ r ∈ rs, r.Nodup
  rng : ∀ r ∈ rs, ∀ x ∈ r, 0 ≤ x ∧ x < (n : Int)
  dl : D.length = n
  dn : D.Nodup
  has : ∀ (k : Nat) (t : Int), D[k]? = some t → ∃ r, rs[k]? = some r ∧ t ∈ r
theorem PreR.set {n : Nat} {D : List Int} {rs : List (List Int)} (pre : PreR n D rs) {i : Nat} {r q : List Int} (hr : rs[i]? = some r) (nd : q.Nodup) (rng : ∀ x ∈ q, 0 ≤ x ∧ x < (n : Int)) (sub : ∀ x ∈ r, x ∈ q) : PreR n D (rs.set i q) := by
  have il := (List.getElem?_eq_some_iff.mp hr).1
  refine ⟨by rw [List.length_set]; exact pre.len, fun u hu => ?_, fun u hu x hx => ?_, pre.dl, pre.dn, fun k t hk => ?_⟩
  · rcases List.mem_or_eq_of_mem_set hu with h | rfl
    · exact pre.nd u h
    · exact nd
  · rcases List.mem_or_eq_of_mem_set hu with h | rfl
    · exact pre.rng u h x hx
    · exact rng x hx
  · obtain ⟨u, h1, h2⟩ := pre.has k t hk
    by_cases c : i = k
    · subst c
      rw [hr] at h1
      cases h1
      exact ⟨q, List.getElem?_set_self il, sub t h2⟩
    · exact ⟨u, by rw [List.getElem?_set_ne c]; exact h1, h2⟩
section
variable {P : Program} {w : World} {K : PySem.W.Frag} {mg : Str → Option Value} {base : Heap}
theorem PreR.of {n : Nat} {D : List Int} {rs : List (List Int)} (hl : rs.length = n) (dl : D.length = n) (dn : D.Nodup) (h : ∀ (k : Nat) (r : List Int), rs[k]? = some r → r.Nodup ∧ (∀ x ∈ r, 0 ≤ x ∧ x < (n : Int)) ∧ ∀ t, D[k]? = some t → t ∈ r) : PreR n D rs := by
  refine ⟨hl, fun r hr => ?_, fun r hr => ?_, dl, dn, fun k t ht => ?_⟩
  · obtain ⟨k, hk⟩ := List.mem_iff_getElem?.mp hr
    exact (h k r hk).1
  · obtain ⟨k, hk⟩ := List.mem_iff_getElem?.mp hr
    exact (h k r hk).2.1
  · have kl : k < rs.length := by
      have := (List.getElem?_eq_some_iff.mp ht).1
      omega
    exact ⟨rs[k], List.getElem?_eq_getElem kl, (h k _ (List.getElem?_eq_getElem kl)).2.2 t ht⟩
end
end Fo
set_option maxRecDepth 100000
set_option maxHeartbeats 1000000
namespace Fo
open PySem PySem.Spec PyProof.Rows L2
theorem ext_len {r : List Int} {n : Nat} (h : r.length ≤ n) : ∀ found : List (List Int), (Mt.ext found r).length ≤ found.length * n
  | [] => Nat.zero_le _
  | d :: l => by
    have ih := ext_len h l
    unfold Mt.ext at ih ⊢
    rw [List.flatMap_cons, List.length_append, List.length_map, List.length_cons, Nat.succ_mul]
    have := List.length_filter_le (fun t => decide (t ∉ d)) r
    omega
theorem deals_len {n : Nat} : ∀ rows : List (List Int), (∀ r ∈ rows, r.length ≤ n) → (Mt.deals rows).length ≤ n ^ rows.length := by
  refine Mt.rev_ind (P := fun rows => (∀ r ∈ rows, r.length ≤ n) → (Mt.deals rows).length ≤ n ^ rows.length) ?_ ?_
  · intro _
    exact Nat.le_refl 1
  · intro l x ih h
    rw [Mt.deals_snoc, List.length_append]
    have h1 := ih fun r hr => h r (List.mem_append_left _ hr)
    have h2 := ext_len (h x (List.mem_append_right _ List.mem_cons_self)) (Mt.deals l)
    show _ ≤ n ^ (l.length + 1)
    rw [Nat.pow_succ]
    exact Nat.le_trans h2 (Nat.mul_le_mul_right n h1)
/-- at most ten people, and not too many dealings on the way -/
structure Fit (rows : List (List Int)) : Prop where
  n : rows.length ≤ 10
  few : ∀ i, (Mt.deals (rows.take i)).length ≤ 1048576
  all : (Mt.deals rows).length ≤ 4000
theorem few_of {rows : List (List Int)} {n m : Nat} (h : rows.length ≤ m) (hr : ∀ r ∈ rows, r.length ≤ n) (n0 : 1 ≤ n) (b : n ^ m ≤ 1048576) (i : Nat) : (Mt.deals (rows.take i)).length ≤ 1048576 := by
  have h1 := deals_len (n := n) (rows.take i) fun r h => hr r (List.mem_of_mem_take h)
  have h2 : n ^ (rows.take i).length ≤ n ^ m := Nat.pow_le_pow_right n0 (by rw [List.length_take]; omega)
  omega
end Fo
set_option maxRecDepth 100000
set_option maxHeartbeats 4000000
namespace PySem.W
open PySem PySem.Calls PyProof.Rows
section
variable {prog : Program} {w : World} {A : Around} {s : Shared}
theorem sorts_empty {v : Value} {as : List Addr} (r : Reads s.heap v (.tuple []) as) (hu : A.units + 2 < cLine) : SortsAt prog w A s (dataKind s.heap [.tuple []]) [v] := by
  have hal : AllAlike [PyData.tuple []] := fun d hd d' hd' => by
    rw [List.mem_singleton.mp hd, List.mem_singleton.mp hd']
    rfl
  refine ⟨fun v' hv => ?_, tuples' true, ?_, fun h2 => absurd h2 (by simp)⟩
  · rw [List.mem_singleton.mp hv]
    exact ⟨_, dataKind_some hal (List.mem_singleton.mpr rfl) r⟩
  · intro E x y a b Q ha hb hq
    obtain ⟨d, as, hd, ra, rfl⟩ := dataKind_inv ha
    obtain ⟨d', as', hd', rb, rfl⟩ := dataKind_inv hb
    have hdd := hal d hd d' hd'
    obtain rfl := List.mem_singleton.mp hd
    obtain rfl := List.mem_singleton.mp hd'
    have hq' : Q (dataLt (.tuple []) (.tuple [])) s := hq
    rw [dataLt_tuple] at hq'
    cases ra with
    | @tuple l o xs n _ _ h1 h2 h3 h4 =>
      cases rb with
      | @tuple l' o' xs' n' _ _ k1 k2 k3 k4 =>
        have n1 : xs.size = 0 := by simpa using SeqAt.ReadsAll.length _ _ _ h4
        have n2 : xs'.size = 0 := by simpa using SeqAt.ReadsAll.length _ _ _ k4
        exact kat_lt h1 h3 k1 k3 (katLex_alike [] [] 0 _ _ _ _ h4 k4 (by simpa [alike] using hdd) (by show _ < cLine; simp [PyData.depthAll]; omega) (fun hb _ x r t ex => nomatch ex) (by rw [n1, n2]; rfl) hq')
end
end PySem.W
namespace Fo
open PySem PySem.Spec PyProof.Rows L2
section
variable {X : Cx}
def rSortedTE (K : PySem.W.Frag) : List V → Hp → VK → Prop := fun vs H Q => ∃ (a : Addr) (bs : List (Addr × List Int)), vs = [V.ref a] ∧ SqL K H a (bs.map fun b => V.ref b.1) ∧ ((∀ b ∈ bs, SqT K H b.1 (b.2.map V.int) ∧ b.2 ≠ []) ∨ ∃ b, bs = [(b, [])] ∧ SqT K H b []) ∧
  ∀ (os : List (Addr × List Int)) p, os.Perm bs → (os.map fun b => b.2).Pairwise (· ≤ ·) → H p = none → Q (.ref p) (upd H p (.lst (os.map fun b => V.ref b.1)))
theorem cr_sortedTE (hu : X.A.units + 64 < cLine) : CallR X (.builtin "sorted") (rSortedTE X.K) := by
  intro pins s σ H vs us Q I r h
  obtain ⟨a, bs, rfl, hs, hb, q⟩ := h
  rcases hb with hb | ⟨b, rfl, hb⟩
  · exact cr_sortedTT hu pins s σ H _ us Q I r ⟨a, bs, rfl, hs, hb, q⟩
  obtain ⟨its, rv, hl, hz⟩ := I.list hs
  obtain ⟨u, rfl, ru⟩ := r.one
  obtain rfl : u = Value.ref a := ru
  have ei := refs_of rv
  subst ei
  have rd := Dp.reads I (.tuple []) (V.ref b) (Value.ref b) (.tup hb .nil) rfl
  obtain ⟨as, rd⟩ := rd
  have rd' : Reads (PySem.W.sortingHeap (PySem.W.copyHeap s.heap [Value.ref b]) (s.heap.objs.size + 1) [Value.ref b]) (Value.ref b) (.tuple []) as := PyProof.Rows.Reads.keeps (fun _ _ => PySem.W.sorting_copy_old) rd
  refine PySem.W.sorted_vals (vs := [Value.ref b]) hl.isList (PySem.W.sorts_empty rd' (by show X.A.units + 1 + 1 + 2 < cLine; omega)) (by show 1 ≤ sizeLine; decide) ?_
  have hal : PySem.W.AllAlike ([((b, []) : Addr × List Int)].map fun b => PyData.tuple (b.2.map .int)) := PySem.W.AllAlike.of fun b b' => PySem.W.alike_ints _ _
  have e : PySem.W.EachIs (fun v (b : Addr × List Int) => v = Value.ref b.1) [Value.ref b] [((b, []) : Addr × List Int)] := .cons rfl .nil
  have er' : PySem.W.EachIs (fun v (c : Addr × List Int) => ∃ as, Reads (PySem.W.sortingHeap (PySem.W.copyHeap s.heap [Value.ref b]) (s.heap.objs.size + 1) [Value.ref b]) v (PyData.tuple (c.2.map .int)) as) [Value.ref b] [((b, []) : Addr × List Int)] := .cons ⟨as, rd'⟩ .nil
  have ho := PySem.W.sortVals_data false e er' hal
  have eo' := each_back (bs := [(b, [])]) (by simpa using ho)
  obtain ⟨n, hn⟩ := sortedAll_at s.heap [Value.ref b] (PySem.W.sortVals (PySem.W.dataKind (PySem.W.sortingHeap (PySem.W.copyHeap s.heap [Value.ref b]) (s.heap.objs.size + 1) [Value.ref b]) [PyData.tuple []]) false [Value.ref b] [Value.ref b]).toArray
  have hf := I.hok.fresh (Nat.le_succ s.heap.objs.size)
  refine ⟨.ref (s.heap.objs.size + 1), _, I.laid (t' := s.toks) (o := .lst [V.ref b]) (fun b o e => sortedAll_old e) (Nat.le_succ _) ⟨by show 1 ≤ sizeLine; decide, _, n, ?_, hn⟩, rfl, q [(b, [])] _ (List.Perm.refl _) (by simp) hf⟩
  have eo2 : PySem.W.sortVals (PySem.W.dataKind (PySem.W.sortingHeap (PySem.W.copyHeap s.heap [Value.ref b]) (s.heap.objs.size + 1) [Value.ref b]) [PyData.tuple []]) false [Value.ref b] [Value.ref b] = [Value.ref b] := eo'
  rw [eo2]
  exact .cons rfl .nil
end
end Fo
set_option maxRecDepth 100000
set_option maxHeartbeats 4000000
namespace Fo
open PySem PySem.Spec PyProof.Rows L2
abbrev s_law_all : Stmt := top 33
abbrev n_law_all : List Str := ["rows", "found", "row", "longer", "told", "thing"]
theorem sc_law_all : FnScope n_law_all ["rows"] (defScope s_law_all) := ⟨rfl, rfl, rfl, by decide +kernel, rfl, by decide +kernel, by decide +kernel⟩
theorem take_snocA {α : Type} {xs : List α} {i : Nat} {x : α} (h : xs[i]? = some x) : xs.take (i + 1) = xs.take i ++ [x] := by rw [List.take_add_one, h]; rfl
theorem lx_lt2 : ∀ {a b : List Int}, Mt.Lx a b → a < b
  | a, b, ⟨0, x, y, _, h2, h3, h4⟩ => by
    cases a with
    | nil => cases h2
    | cons u a =>
      cases b with
      | nil => cases h3
      | cons v b =>
        rw [Option.some.inj h2, Option.some.inj h3]
        exact List.cons_lt_cons_iff.mpr (.inl h4)
  | a, b, ⟨q + 1, x, y, h1, h2, h3, h4⟩ => by
    cases a with
    | nil => cases h2
    | cons u a =>
      cases b with
      | nil => cases h3
      | cons v b =>
        have e : u = v := Option.some.inj (h1 0 (Nat.succ_pos q))
        rw [e]
        exact List.cons_lt_cons_iff.mpr (.inr ⟨rfl, lx_lt2 ⟨q, x, y, fun j hj => h1 (j + 1) (Nat.succ_lt_succ hj), h2, h3, h4⟩⟩)
theorem keys_rows2 {K : PySem.W.Frag} {H : Hp} : ∀ {os : List (Addr × List Int)}, (∀ b ∈ os, SqT K H b.1 (b.2.map V.int)) → RowsT K H (os.map fun b => V.ref b.1) (os.map fun b => b.2)
  | [], _ => .nil
  | b :: os, h => .cons (h b List.mem_cons_self) (keys_rows2 fun c hc => h c (List.mem_cons_of_mem _ hc))
theorem rowsT_bs {K : PySem.W.Frag} {H : Hp} : ∀ {ws : List V} {R : List (List Int)}, RowsT K H ws R → ∃ bs : List (Addr × List Int), ws = bs.map (fun b => V.ref b.1) ∧ R = bs.map (fun b => b.2) ∧ ∀ b ∈ bs, SqT K H b.1 (b.2.map V.int)
  | _, _, .nil => ⟨[], rfl, rfl, fun _ h => (by cases h)⟩
  | _, _, .cons (a := a) (r := r) h t => by
    obtain ⟨bs, e1, e2, e3⟩ := rowsT_bs t
    refine ⟨(a, r) :: bs, by rw [e1]; rfl, by rw [e2]; rfl, fun b hb => ?_⟩
    rcases List.mem_cons.mp hb with rfl | hb
    · exact h
    · exact e3 b hb
/-- rows of fewer things than people -/
structure GudN (rows : List (List Int)) : Prop where
  asc : ∀ r ∈ rows, r.Pairwise (· < ·)
  rng : ∀ r ∈ rows, ∀ x ∈ r, 0 ≤ x ∧ x < (rows.length : Int)
theorem GudN.row_len {rows : List (List Int)} (G : GudN rows) : ∀ r ∈ rows, r.length ≤ rows.length := fun r hr => asc_len (G.asc r hr) (G.rng r hr)
section
variable {P : Program} {w : World} {K : PySem.W.Frag} {mg : Str → Option Value} {base : Heap} {C : Addr}
def spAllG (K : PySem.W.Frag) : Sp := fun vs H Q _ => ∃ (rv : V) (rows : List (List Int)), vs = [rv] ∧ RowsAt K H rv rows ∧ GudN rows ∧ Fit rows ∧
  ∀ l ws H', Same H H' → H l = none → H' l = some (.lst ws) → RowsT K H' ws (Mt.deals rows) → Q (.ref l) H'
theorem ok_allG (A : At K mg "_law_all" s_law_all ["rows"]) (T : Tx mg) : Dfn P w K mg base "_law_all" ["rows"] 1 (spAllG K) := by
  refine A.ok sc_law_all (fun vs H Q E h => ?_) (fun f cdv A outer s H vs Q E hr h => ?_)
  · obtain ⟨rv, rows, rfl, _⟩ := h
    rfl
  · obtain ⟨rv, rows, rfl, hR, G, hn, k⟩ := h
    obtain ⟨ra, rvs, rfl, hra, hrt⟩ := id hR
    have rvl := hrt.len
    refine ⟨_, (pss_cons (ps_set (i := 1) sc_law_all.nd rfl (Or.inl rfl) (pe_lst (pa_cons (pe_tup pa_nil) pa_nil)))
      (pss_cons (ps_for PassesOwn.never rfl (pi_tup (pv 0)) (pg_name (i := 2) sc_law_all.nd rfl (Or.inl rfl))
      (pss_cons (ps_set (i := 3) sc_law_all.nd rfl (Or.inl rfl) (pe_lst pa_nil))
      (pss_cons (ps_for PassesOwn.never rfl (pi_list (pv 1)) (pg_name (i := 4) sc_law_all.nd rfl (Or.inr rfl))
      (pss_one (ps_expr (pe_bm PySem.F.plainAttrs_list PySem.F.slot_list_extend PySem.F.type_list_extend mt_extend (pv 3) (pa_cons (pe_lc (own := [("thing", 5)]) (g := (gName 5)) (tt := (tTest (tOp (rIn K true) (tVar 5) (tVar 4)))) (te := (tOp (rCatA K) (tVar 4) (tTup (tCons (tVar 5) tNil)))) (by rfl) sc_law_all.nd (pi_tup (pv 2)) (blkOk_by (own := [("thing", 5)]) (N := n_law_all) (sc := (defScope s_law_all)) (by decide +kernel)) (fun _ _ _ _ _ => (pg_name (i := 5) sc_law_all.nd rfl (Or.inl rfl))) (fun _ _ _ _ _ => (pts_one (pt_cmpR op_notIn_seq (pv 5) (pv 4) rfl))) (fun _ _ _ _ _ => (pe_op op_catA (pv 4) (pe_tup (pa_cons (pv 5) pa_nil))))) pa_nil)))))
      (pss_one (ps_set (i := 1) sc_law_all.nd rfl (Or.inl rfl) (pv 3))))))
      (pss_one (ps_ret (pe_callB (cr_sortedTE hr.units) (by rfl) T.sorted (by decide +kernel) (pa_cons (pv 1) pa_nil)))))), ?_⟩
    have rl : ∀ r ∈ rows, r.length ≤ 10 := fun r hr => Nat.le_trans (G.row_len r hr) hn.n
    have hn10 := hn.n
    have dl : ∀ i, (Mt.deals (rows.take i)).length ≤ 1048576 := hn.few
    refine ⟨by show 0 ≤ sizeLine; decide, fun t0 ht0 => ⟨by show 1 ≤ sizeLine; decide, fun f0 hf0 => ?_⟩⟩
    have s0 : Same H (upd H t0 (.tup [])) := same_new ht0
    have s1 := s0.trans (same_new (o := .lst [V.ref t0]) hf0)
    have r1 : RowsT K (upd (upd H t0 (.tup [])) f0 (.lst [V.ref t0])) [V.ref t0] [[]] := .cons (sqT_same (same_new hf0) (SqT.of upd_same)) .nil
    refine ⟨_, rfl, ra, rfl, ⟨_, sqT_same s1 hra⟩, ?_⟩
    refine for_tup (xs := rvs) (fun i σ' H' => ∃ x2 x3 x4 x5 f ws, σ' = [some (.ref ra), some (.ref f), x2, x3, x4, x5] ∧ H' f = some (.lst ws) ∧ RowsT K H' ws (Mt.deals (rows.take i)) ∧ Same H H' ∧ H f = none) ⟨_, _, _, _, f0, _, rfl, upd_same, r1, s1, s0.free hf0⟩ (fun i σ' H' _ hp => by obtain ⟨_, _, _, _, _, _, _, _, _, s3, _⟩ := hp; exact sqT_same s3 hra) ?_ ?_
    · rintro i x σ' H1 hx ⟨x2, x3, x4, x5, f, ws, rfl, hf, hw, s2, ff⟩
      obtain ⟨q, r, ex, hri, hq2⟩ : ∃ q r, x = .ref q ∧ rows[i]? = some r ∧ SqT K H q (r.map V.int) := by
        have hir : i < rows.length := by have := (List.getElem?_eq_some_iff.mp hx).1; omega
        have hri := List.getElem?_eq_getElem hir
        obtain ⟨q, h1, h2⟩ := hrt.get hri
        rw [hx] at h1
        exact ⟨q, _, Option.some.inj h1, hri, h2⟩
      subst ex
      have rl6 := rl r (List.mem_of_getElem? hri)
      have hir : i < rows.length := (List.getElem?_eq_some_iff.mp hri).1
      refine ⟨by show 0 ≤ sizeLine; decide, fun g hg => ?_⟩
      have nfg : f ≠ g := ne_of_none hf hg
      have s3 := s2.trans (same_new (o := .lst []) hg)
      have fg : H g = none := s2.free hg
      have wl : ws.length = (Mt.deals (rows.take i)).length := hw.len
      have wb := dl i
      refine ⟨_, rfl, f, rfl, ⟨ws, SqL.of (by rw [upd_ne nfg]; exact hf)⟩, ?_⟩
      refine for_list (xs := ws) (fun j σ' H' => ∃ x4 x5 vs, σ' = [some (.ref ra), some (.ref f), some (.ref q), some (.ref g), x4, x5] ∧ H' f = some (.lst ws) ∧ RowsT K H' ws (Mt.deals (rows.take i)) ∧ H' g = some (.lst vs) ∧ RowsT K H' vs (Mt.ext ((Mt.deals (rows.take i)).take j) r) ∧ Same H H') ⟨_, _, [], rfl, by rw [upd_ne nfg]; exact hf, hw.same (same_new hg), upd_same, .nil, s3⟩ (fun j σ' H' _ hp => by obtain ⟨_, _, _, _, h, _⟩ := hp; exact SqL.of h) ?_ ?_
      · rintro j y σ' H2 hy ⟨x4', x5', vs, rfl, hf2, hw2, hg2, hv2, s4⟩
        have jl : j < (Mt.deals (rows.take i)).length := by have := (List.getElem?_eq_some_iff.mp hy).1; omega
        have hdj := List.getElem?_eq_getElem jl
        obtain ⟨d, ed⟩ : ∃ d, d = (Mt.deals (rows.take i))[j] := ⟨_, rfl⟩
        rw [← ed] at hdj
        obtain ⟨b, hb1, hb2⟩ := hw2.get hdj
        rw [hy] at hb1
        have ey : y = .ref b := Option.some.inj hb1
        subst ey
        have dlen : d.length ≤ 10 := by
          have hd := (Mt.mem_deals d).mp (List.mem_of_getElem? hdj)
          have := hd.len
          rw [List.length_take] at this
          omega
        have vb : vs.length ≤ 1048576 * 10 := by
          rw [hv2.len]
          have h1 := ext_len (n := 10) (r := r) rl6 ((Mt.deals (rows.take i)).take j)
          rw [List.length_take] at h1
          have h2 : min j (Mt.deals (rows.take i)).length * 10 ≤ 1048576 * 10 := Nat.mul_le_mul_right 10 (by omega)
          omega
        refine ⟨_, rfl, .inl ⟨rfl, _, SqL.of hg2⟩, _, rfl, q, rfl, ⟨_, sqT_same s4 hq2⟩, fun D hD => ?_⟩
        have nDg : g ≠ D := ne_of_none hg2 hD
        have nDf : f ≠ D := ne_of_none hf2 hD
        refine lc_tup (xs := r.map V.int) (fun l H' => ∃ us, H' D = some (.lst us) ∧ RowsT K H' us (((r.take l).filter fun t => decide (t ∉ d)).map fun t => d ++ [t]) ∧ Same H2 H') ⟨[], upd_same, .nil, same_new hD⟩ (fun l H' _ hp => by obtain ⟨_, _, _, s5⟩ := hp; exact sqT_same (s4.trans s5) hq2) ?_ ?_
        · rintro l z H3 hz ⟨us, hu, hur, s5⟩
          obtain ⟨t, ht, rfl⟩ : ∃ t, r[l]? = some t ∧ z = V.int t := by
            rw [List.getElem?_map] at hz
            cases e : r[l]? with
            | none => rw [e] at hz; cases hz
            | some u => rw [e] at hz; exact ⟨u, rfl, (Option.some.inj hz).symm⟩
          have ub : us.length ≤ 10 := by
            rw [hur.len, List.length_map]
            exact Nat.le_trans (List.length_filter_le _ _) (by rw [List.length_take]; omega)
          refine ⟨rfl, _, rfl, _, rfl, b, _, rfl, .inr (sqT_same s5 hb2), rfl, all_flat_ints _, _, rfl, ?_⟩
          show if (!inV (V.int t) (d.map V.int)) = true then _ else _
          rw [inV_ints]
          by_cases hc : t ∈ d
          · rw [show (!decide (t ∈ d)) = false from by rw [decide_eq_true hc]; rfl]
            refine ⟨us, hu, ?_, s5⟩
            rw [take_snocA ht, List.filter_append, show [t].filter (fun t => decide (t ∉ d)) = [] from by rw [List.filter_cons_of_neg (by simpa using hc)]; rfl, List.append_nil]
            exact hur
          · rw [show (!decide (t ∈ d)) = true from by rw [decide_eq_false hc]; rfl]
            refine ⟨_, rfl, _, rfl, by show 1 ≤ sizeLine; decide, fun o ho => ?_⟩
            have s6 : Same H3 (upd H3 o (.tup [V.int t])) := same_new ho
            refine catA (ys := [V.int t]) (sqT_same (s5.trans s6) hb2) (SqT.of upd_same) (by rw [List.length_map]; show d.length + 1 ≤ 100000; omega) fun c H4 s7 hcq => ?_
            have s67 := s6.trans s7
            refine ⟨us, s67 _ _ hu, small_lt (by omega), us ++ [.ref c], upd_same, ?_, same_mut (s5.trans s67) hD⟩
            rw [take_snocA ht, List.filter_append, show [t].filter (fun t => decide (t ∉ d)) = [t] from by rw [List.filter_cons_of_pos (by simpa using hc)]; rfl, List.map_append]
            have hc2 : SqT K H4 c ((d ++ [t]).map V.int) := by rw [List.map_append]; exact hcq
            exact RowsT.put (s67 _ _ hu) (RowsT.snoc hc2 (hur.same s67))
        · rintro H3 ⟨us, hu, hur, s5⟩
          rw [List.length_map, List.take_length] at hur
          have hg3 := s5 _ _ hg2
          have hf3 := s5 _ _ hf2
          have ub : us.length ≤ 10 := by
            rw [hur.len, List.length_map]
            exact Nat.le_trans (List.length_filter_le _ _) rl6
          have s45 := s4.trans s5
          have bigS : 1048576 * 10 + 10 ≤ sizeLine := by decide
          refine ⟨g, D, vs, us, rfl, rfl, hg3, hu, by omega, ?_⟩
          refine ⟨_, _, vs ++ us, rfl, by rw [upd_ne nfg]; exact hf3, RowsT.put hg3 (hw2.same s5), upd_same, ?_, same_mut s45 fg⟩
          rw [take_snocA hdj]
          have e : Mt.ext ((Mt.deals (rows.take i)).take j ++ [d]) r = Mt.ext ((Mt.deals (rows.take i)).take j) r ++ (r.filter fun t => decide (t ∉ d)).map fun t => d ++ [t] := by
            unfold Mt.ext
            rw [List.flatMap_append, List.flatMap_singleton]
          rw [e]
          exact RowsT.put hg3 ((hv2.same s5).app hur)
      · rintro σ' H2 ⟨x4', x5', vs, rfl, hf2, hw2, hg2, hv2, s4⟩
        rw [List.take_of_length_le (by omega)] at hv2
        refine ⟨_, rfl, _, _, _, _, g, vs, rfl, hg2, ?_, s4, fg⟩
        rw [take_snocA hri, Mt.deals_snoc]
        exact hv2
    · rintro σ' H1 ⟨x2, x3, x4, x5, f, ws, rfl, hf, hw, s2, ff⟩
      rw [List.take_of_length_le (by omega)] at hw
      obtain ⟨bs, eb1, eb2, eb3⟩ := rowsT_bs hw
      rw [eb1] at hf
      have dj : (∀ b ∈ bs, SqT K H1 b.1 (b.2.map V.int) ∧ b.2 ≠ []) ∨ ∃ b, bs = [(b, [])] ∧ SqT K H1 b [] := by
        by_cases e0 : rows = []
        · refine .inr ?_
          have eb2 : [[]] = bs.map fun b => b.2 := by rw [← eb2, e0]; rfl
          match bs, eb2, eb3 with
          | [(b, r)], eb2, eb3 =>
            have : r = [] := (List.cons.inj eb2).1.symm
            subst this
            exact ⟨b, rfl, eb3 _ List.mem_cons_self⟩
        · refine .inl fun b hb => ⟨eb3 b hb, fun e => ?_⟩
          have hm : b.2 ∈ Mt.deals rows := by rw [eb2]; exact List.mem_map.mpr ⟨b, hb, rfl⟩
          have := ((Mt.mem_deals _).mp hm).len
          rw [e] at this
          exact e0 (List.length_eq_zero_iff.mp this.symm)
      refine ⟨_, rfl, f, bs, rfl, SqL.of hf, dj, fun os p pm srt hp => ?_⟩
      have eo : os.map (fun b => b.2) = Mt.deals rows := by
        rw [eb2]
        refine (pm.map fun b : Addr × List Int => b.2).eq_of_pairwise (fun a b _ _ h1 h2 => List.le_antisymm h1 h2) srt ?_
        rw [← eb2]
        exact (Mt.deals_lx G.asc).imp fun h => List.le_of_lt (lx_lt2 h)
      have s8 := same_new (o := .lst (os.map fun b => V.ref b.1)) hp
      refine k p _ _ (s2.trans s8) (s2.free hp) upd_same ?_
      rw [← eo]
      exact keys_rows2 fun b hb => sqT_same s8 (eb3 b (pm.mem_iff.mp hb))
end
end Fo
set_option maxRecDepth 100000
set_option maxHeartbeats 2000000
namespace Fo
open PySem PySem.Spec PyProof.Rows L2
/-- what stands is kept by all that keeps all -/
theorem Inv.kept {X : Cx} {pins : List (Addr × Obj)} {σ : L2.St} {H : Hp} {s : Shared} {h' : Heap} {tk : Nat} (I : L2.Inv X pins σ H s) (keep : ∀ b o, s.heap.get? b = some o → h'.get? b = some o) :
    L2.Inv X pins σ H { heap := h', gens := s.gens, drawn := s.drawn, toks := tk, os := s.os } := by
  refine I.step (ch := []) (fun b z => by cases z) (fun b o n _ _ e _ => keep b o e) (fun b o n _ _ e _ => ⟨o.slots, keep b o e⟩) (fun b o _ _ e => e) (fun b o _ e => ⟨o, keep b o e⟩) (fun _ _ e => e) (fun _ _ _ e => e) (fun b ps e => ⟨#[], by rw [e]; simp⟩) (fun m' q => ?_) ?_ I.bare
  · obtain ⟨o, es, ep, e, d, r⟩ := q
    exact ⟨o, es, ep, keep _ _ e, d, r⟩
  · intro a o ha
    exact ObjOk.stay (I.hok a o ha) (fun b u q e => keep b u e) (fun _ e => e) (fun _ _ e => e)
end Fo
set_option maxRecDepth 100000
set_option maxHeartbeats 2000000
namespace Fo
open PySem PySem.Spec PyProof.Rows L2
theorem reads_is {h : Heap} : ∀ {ns : List Int} {its : List Value}, Vals (ns.map V.int) its → ReadsAll h its (ns.map PyData.int) []
  | [], _, .nil => .nil
  | n :: ns, _, .cons r rs => by
    obtain ⟨t, rfl⟩ := r
    exact ReadsAll.cons (as := []) (bs := []) (.int n t) (reads_is rs)
section
variable {X : Cx} {pins : List (Addr × Obj)} {σ : L2.St} {H : Hp} {s : Shared}
theorem reads_I {a : Addr} {ns : List Int} (I : L2.Inv X pins σ H s) (h : SqT X.K H a (ns.map V.int)) : Reads s.heap (.ref a) (dI ns) [] := by
  obtain ⟨its, rv, ⟨o, e, oc, n, od⟩, _⟩ := I.tuple h
  exact Reads.tuple e oc od (reads_is rv)
theorem reads_R (I : L2.Inv X pins σ H s) : ∀ {vs : List V} {rows : List (List Int)} {its : List Value}, RowsT X.K H vs rows → Vals vs its → ReadsAll s.heap its (rows.map dI) []
  | _, _, _, .nil, .nil => .nil
  | _, _, _, .cons h t, .cons r rs => by
    cases r
    exact ReadsAll.cons (as := []) (bs := []) (reads_I I h) (reads_R I t rs)
/-- a part that is shown: a row, rows, an empty dict -/
inductive PtR (K : PySem.W.Frag) (H : Hp) : V → PyData → Prop
  | row {a : Addr} {ns : List Int} (h : SqT K H a (ns.map V.int)) : PtR K H (.ref a) (dI ns)
  | rows {v : V} {rows : List (List Int)} (h : RowsAt K H v rows) : PtR K H v (dR rows)
  | dict {a : Addr} (h : H a = some (.dK [])) : PtR K H (.ref a) (.dict [])
inductive PtAll (K : PySem.W.Frag) (H : Hp) : List V → List PyData → Prop
  | nil : PtAll K H [] []
  | cons {v : V} {d : PyData} {vs : List V} {ds : List PyData} (h : PtR K H v d) (t : PtAll K H vs ds) : PtAll K H (v :: vs) (d :: ds)
theorem PtR.same {K : PySem.W.Frag} {H H' : Hp} (e : Same H H') {v : V} {d : PyData} (h : PtR K H v d) : PtR K H' v d := by
  cases h with
  | row h => exact .row (sqT_same e h)
  | rows h => exact .rows (h.same e)
  | dict h => exact .dict (e _ _ h)
theorem PtAll.same {K : PySem.W.Frag} {H H' : Hp} (e : Same H H') : ∀ {vs : List V} {ds : List PyData}, PtAll K H vs ds → PtAll K H' vs ds
  | _, _, .nil => .nil
  | _, _, .cons h t => .cons (h.same e) (t.same e)
theorem PtR.reads (I : L2.Inv X pins σ H s) {v : V} {d : PyData} {u : Value} (h : PtR X.K H v d) (r : L2.RelV v u) : ∃ as, Reads s.heap u d as ∧ ∀ b ∈ as, b ≠ sysModules := by
  cases h with
  | row h =>
    cases r
    exact ⟨[], reads_I I h, fun b hb => nomatch hb⟩
  | rows h =>
    obtain ⟨a, vs, rfl, hq, ht⟩ := h
    cases r
    obtain ⟨its, rv, ⟨o, e, oc, n, od⟩, _⟩ := I.tuple hq
    exact ⟨[], Reads.tuple e oc od (reads_R I ht rv), fun b hb => nomatch hb⟩
  | @dict a h =>
    cases r
    obtain ⟨_, hs, vs, kv, dd⟩ := dk_of I.hok h
    cases kv
    obtain ⟨o, es, ep, e1, e2, e3, _, e5, _⟩ := dd
    have en : es.toList = [] := by
      cases h : es.toList with
      | nil => rfl
      | cons x l => rw [h] at e5; cases e5
    refine ⟨a :: [] ++ [], Reads.dict e1 e2.1 e3 (by rw [en]; exact .nil) (by rw [en]; exact .nil), fun b hb => ?_⟩
    have : b = a := by simpa using hb
    rw [this]
    intro z
    rw [z] at hs
    simp at hs
theorem PtAll.reads (I : L2.Inv X pins σ H s) : ∀ {vs : List V} {ds : List PyData} {its : List Value}, PtAll X.K H vs ds → Vals vs its → ∃ as, ReadsAll s.heap its ds as ∧ ∀ b ∈ as, b ≠ sysModules
  | _, _, _, .nil, .nil => ⟨[], .nil, fun b hb => nomatch hb⟩
  | _, _, _, .cons h t, .cons r rs => by
    obtain ⟨as, h1, h2⟩ := h.reads I r
    obtain ⟨bs, t1, t2⟩ := t.reads I rs
    exact ⟨as ++ bs, .cons h1 t1, fun b hb => (List.mem_append.mp hb).elim (h2 b) (t2 b)⟩
end
/-- what is shown of a list, with or without an empty dict in it -/
def ShQ (K : PySem.W.Frag) (B : Nat) (H : Hp) (l : Addr) (S : Str) : Prop :=
  (l ≠ sysModules ∧ ∃ ys ds, H l = some (.lst ys) ∧ PtAll K H ys ds ∧ (PyData.list ds).showable = true ∧ (PyData.list ds).depth ≤ 8 ∧ (PyData.list ds).shown.length ≤ sizeLine ∧ S = (PyData.list ds).shown) ∨
  ∃ d, Dp K H (.ref l) d ∧ d.hasDict = false ∧ d.showable = true ∧ d.depth ≤ B ∧ d.shown.length ≤ sizeLine ∧ S = d.shown
theorem ShQ.same {K : PySem.W.Frag} {B : Nat} {H H' : Hp} (e : Same H H') {l : Addr} {S : Str} (h : ShQ K B H l S) : ShQ K B H' l S := by
  rcases h with ⟨n, ys, ds, hl, hp, r⟩ | ⟨d, hd, r⟩
  · exact .inl ⟨n, ys, ds, e _ _ hl, hp.same e, r⟩
  · exact .inr ⟨d, dp_same e hd, r⟩
end Fo
set_option maxRecDepth 100000
set_option maxHeartbeats 4000000
namespace Fo
open PySem PySem.Spec PyProof.Rows L2
abbrev s_law_deep : Stmt := top 34
abbrev n_law_deep : List Str := ["found", "turn"]
theorem sc_law_deep : FnScope n_law_deep [] (defScope s_law_deep) := ⟨rfl, rfl, rfl, by decide +kernel, rfl, by decide +kernel, by decide +kernel⟩
theorem tgn_rows {K : PySem.W.Frag} {C : Addr} {H : Hp} : ∀ {vs : List V} {rows : List (List Int)}, RowsT K H vs rows → (∀ r ∈ rows, r.length ≤ 900) → TgAll K C H vs (rows.map fun r => some (r.map V.int))
  | _, _, .nil, _ => .nil
  | _, _, .cons h t, hl => .cons (Tg.ints h (by have := hl _ List.mem_cons_self; omega)) (tgn_rows t fun r hr => hl r (List.mem_cons_of_mem _ hr))
theorem sizes_n {ns : List Nat} (h1 : 1 ≤ ns.length) (h8 : ns.length ≤ 8) (hr : ∀ n ∈ ns, n ≤ 1000) : sizesO 0 (some ((ns.map fun (x : Nat) => (x : Int)).map V.int)) = true := by
  show (decide (1 ≤ ((ns.map fun (x : Nat) => (x : Int)).map V.int).length) && decide (((ns.map fun (x : Nat) => (x : Int)).map V.int).length ≤ 8) && ((ns.map fun (x : Nat) => (x : Int)).map V.int).all (cntV 0)) = true
  rw [List.length_map, List.length_map, decide_eq_true h1, decide_eq_true h8, Bool.true_and, Bool.true_and, List.all_eq_true]
  intro x hx
  obtain ⟨n, hn, rfl⟩ := List.mem_map.mp hx
  obtain ⟨u, hu, rfl⟩ := List.mem_map.mp hn
  have h := hr u hu
  show (decide (0 ≤ ((u : Nat) : Int)) && decide (((u : Nat) : Int) ≤ mostK)) = true
  have m : ((u : Nat) : Int) ≤ mostK := by
    show ((u : Nat) : Int) ≤ 1000000000000000000000000000000
    omega
  rw [decide_eq_true (by omega : (0 : Int) ≤ ((u : Nat) : Int)), decide_eq_true m]
  rfl
/-- kinds of few people may be made -/
theorem make_ok {K : PySem.W.Frag} {C : Addr} {H : Hp} {pa pb pc : Addr} {ns ms : List Nat} {us : List V} {rows : List (List Nat)} (ha : SqT K H pa (ns.map nV)) (hb : SqT K H pb (ms.map nV)) (hc : SqT K H pc us) (hu : RowsT K H us (rowsN rows)) (n1 : 1 ≤ ns.length) (n8 : ns.length ≤ 8) (m1 : 1 ≤ ms.length) (m8 : ms.length ≤ 8) (rl : rows.length = ns.length) (sums : ns.sum = ms.sum) (nr : ∀ n ∈ ns, n ≤ 1000) (mr : ∀ n ∈ ms, n ≤ 1000) (asc : ∀ r ∈ rows, r.Pairwise (· < ·)) (rng : ∀ r ∈ rows, ∀ t ∈ r, t < ms.length) :
    ∃ ox oy oo, Tg K C H (.ref pa) ox ∧ Tg K C H (.ref pb) oy ∧ Tgg K C H (.ref pc) oo ∧ dueK ox oy oo = none := by
  rw [← nV_map] at ha hb
  have asI : ∀ r ∈ rowsN rows, r.Pairwise (· < ·) := fun r hr => by
    obtain ⟨q, hq, rfl⟩ := List.mem_map.mp hr
    exact List.pairwise_map.mpr ((asc q hq).imp fun h => by omega)
  have rnI : ∀ r ∈ rowsN rows, ∀ z ∈ r, 0 ≤ z ∧ z < (ms.length : Int) := fun r hr z hz => by
    obtain ⟨q, hq, rfl⟩ := List.mem_map.mp hr
    obtain ⟨t, ht, rfl⟩ := List.mem_map.mp hz
    have := rng q hq t ht
    omega
  have few : ∀ r ∈ rowsN rows, r.length ≤ 8 := fun r hr => by
    have := row_len (asI r hr) (rnI r hr)
    omega
  have rnl : (rowsN rows).length = rows.length := by unfold rowsN; exact List.length_map _
  refine ⟨_, _, _, Tg.ints ha (by rw [List.length_map]; omega), Tg.ints hb (by rw [List.length_map]; omega), .tup hc (tgn_rows hu fun r hr => by have := few r hr; omega) (by rw [hu.len, rnl]; omega), ?_⟩
  rw [dueK_some (sizes_n n1 n8 nr) (sizes_n m1 m8 mr)]
  have h1 : ((rowsN rows).map fun r => some (r.map V.int)).length = ((ns.map fun (x : Nat) => (x : Int)).map V.int).length := by rw [List.length_map, List.length_map, List.length_map, rnl, rl]
  have h2 : ((rowsN rows).map fun r => some (r.map V.int)).all (ascOf (((((ms.map fun (x : Nat) => (x : Int)).map V.int)).length : Nat) : Int)) = true := by
    rw [List.all_eq_true]
    intro o ho
    obtain ⟨r, hr, rfl⟩ := List.mem_map.mp ho
    rw [List.length_map, List.length_map]
    exact ascV_ints (asI r hr) (rnI r hr)
  rw [dueA_sum h1 h2, sumV_ints, sumV_ints, sum_nI, sum_nI, if_pos (by rw [sums])]
theorem ppl_len : ∀ {ns : List Nat} {rows : List (List Nat)}, rows.length = ns.length → (pplK ns rows).length = ns.sum
  | [], _, _ => rfl
  | n :: ns, r :: rows, h => by
    show (List.replicate n r ++ pplK ns rows).length = _
    rw [List.length_append, List.length_replicate, ppl_len (Nat.succ.inj h), List.sum_cons]
theorem ppl_mem : ∀ {ns : List Nat} {rows : List (List Nat)} {r : List Nat}, r ∈ pplK ns rows → r ∈ rows
  | n :: ns, q :: rows, r, h => by
    have h : r ∈ List.replicate n q ++ pplK ns rows := h
    rcases List.mem_append.mp h with h | h
    · rw [(List.mem_replicate.mp h).2]
      exact List.mem_cons_self
    · exact List.mem_cons_of_mem _ (ppl_mem h)
end Fo
set_option maxRecDepth 100000
set_option maxHeartbeats 4000000
namespace Fo
open PySem PySem.Spec PyProof.Rows L2
section
variable {P : Program} {w : World} {K : PySem.W.Frag} {mg : Str → Option Value} {base : Heap}
def spDrawW : Sp := fun vs H Q _ => ∃ (t l : Addr) (n : Int), vs = [.ref t, .int n] ∧ Po H t l ∧ 0 < n ∧ n < 10000000000000000000000000000000 ∧ ∀ (k : Int) (H' : Hp), 0 ≤ k → k < n → Gs t l H H' → Po H' t l → Q (.int k) H'
theorem ok_drawW (A : At K mg "_law_draw" s_law_draw ["pool", "many"]) (T : Tx mg) : Dfn P w K mg base "_law_draw" ["pool", "many"] 1 spDrawW := by
  refine A.ok sc_law_draw (fun vs H Q E h => ?_) (fun f cdv A outer s H vs Q E hr h => ?_)
  · obtain ⟨t, l, n, rfl, _⟩ := h
    rfl
  · obtain ⟨t, l, n, rfl, ⟨sd, c, cs, hT, hL⟩, hn, hn2, k⟩ := h
    have hlt : l ≠ t := ne_of hL hT (ints_nep _ _ _ _)
    refine ⟨_, (pss_cons (ps_asg (pe_op op_add (pe_ix ix_list (pv 0) pe_int (fun _ _ => rfl)) pe_int) (pg_sub (pv 0) pe_int set_list))
      (pss_cons (ps_set (i := 2) sc_law_draw.nd rfl (Or.inl rfl) (pe_ix ix_list (pv 0) pe_int (fun _ _ => rfl)))
      (pss_cons (ps_if (pt_cmpR op_gt (pe_callB c_len (by rfl) T.len (by decide +kernel) (pa_cons (pv 2) pa_nil)) pe_int (nomark _)) (pss_cons (ps_set (i := 3) sc_law_draw.nd rfl (Or.inl rfl) (pe_op op_mod (pe_callTy c_int (by rfl) T.int (by decide +kernel) (pa_cons (pe_ix ix_list (pv 2) pe_int (fun _ _ => rfl)) pa_nil)) (pv 1)))
      (pss_cons (ps_asg (pe_op op_fdivW (pe_callTy c_int (by rfl) T.int (by decide +kernel) (pa_cons (pe_ix ix_list (pv 2) pe_int (fun _ _ => rfl)) pa_nil)) (pv 1)) (pg_sub (pv 2) pe_int set_list))
      (pss_cons (ps_if (pt_cmpR op_eq (pe_ix ix_list (pv 2) pe_int (fun _ _ => rfl)) pe_int (nomark _)) (pss_one (ps_expr (pe_bm PySem.F.plainAttrs_list PySem.F.slot_list_pop PySem.F.type_list_pop mt_popAt (pv 2) (pa_cons pe_int pa_nil)))) pss_nil)
      (pss_one (ps_ret (pv 3)))))) pss_nil)
      (pss_cons (ps_set (i := 4) sc_law_draw.nd rfl (Or.inl rfl) (pe_op op_mod (pe_callTy c_int (by rfl) T.int (by decide +kernel) (pa_cons (pe_op op_mul (pe_op op_add (pe_ix ix_list (pv 0) pe_int (fun _ _ => rfl)) (pe_op op_mul pe_int (pe_ix ix_list (pv 0) pe_int (fun _ _ => rfl)))) pe_int) pa_nil)) pe_int))
      (pss_cons (ps_set (i := 4) sc_law_draw.nd rfl (Or.inl rfl) (pe_op op_mod (pe_callTy c_int (by rfl) T.int (by decide +kernel) (pa_cons (pe_op op_mul (pv 4) (pe_op op_add (pe_op op_fdiv (pv 4) pe_int) pe_int)) pa_nil)) pe_int))
      (pss_cons (ps_set (i := 4) sc_law_draw.nd rfl (Or.inl rfl) (pe_op op_mod (pe_callTy c_int (by rfl) T.int (by decide +kernel) (pa_cons (pe_op op_mul (pv 4) (pe_op op_add (pe_op op_fdiv (pv 4) pe_int) pe_int)) pa_nil)) pe_int))
      (pss_one (ps_ret (pe_op op_mod (pe_callTy c_int (by rfl) T.int (by decide +kernel) (pa_cons (pe_op op_fdiv (pv 4) pe_int) pa_nil)) (pv 1)))))))))), ?_⟩
    refine ⟨_, rfl, t, _, _, _, rfl, rfl, SqL.of hT, rfl, _, _, rfl, rfl, _, rfl, t, _, _, 1, rfl, rfl, hT, rfl, ?_⟩
    have hT1 : (upd H t (.lst [.int sd, .int (c + 1), .ref l])) t = some (.lst [.int sd, .int (c + 1), .ref l]) := upd_same
    have hL1 : (upd H t (.lst [.int sd, .int (c + 1), .ref l])) l = some (.lst (cs.map V.int)) := by rw [upd_ne hlt]; exact hL
    refine ⟨_, rfl, t, _, _, _, rfl, rfl, SqL.of hT1, rfl, ?_⟩
    refine ⟨_, rfl, l, _, rfl, .inl (SqL.of hL1), _, _, rfl, rfl, _, rfl, ?_⟩
    refine ite2 (fun hc => ?_) (fun _ => ?_)
    · have cpos : 0 < cs.length := by
        have := of_decide_eq_true hc
        rw [List.length_map] at this
        omega
      obtain ⟨c0, cr, rfl⟩ : ∃ c0 cr, cs = c0 :: cr := by
        cases cs with
        | nil => cases cpos
        | cons c0 cr => exact ⟨c0, cr, rfl⟩
      have ha0 : atI ((c0 :: cr).map V.int) 0 = some (V.int c0) := atI_nat (j := 0) (by rfl)
      refine ⟨_, rfl, l, _, _, _, rfl, rfl, SqL.of hL1, ha0, .inl ⟨_, rfl, _, rfl, _, _, rfl, rfl, hn, ?_⟩⟩
      refine ⟨_, rfl, l, _, _, _, rfl, rfl, SqL.of hL1, ha0, .inl ⟨_, rfl, _, rfl, _, _, rfl, rfl, wide_div (b := 110) hn (by omega) (by decide) (by decide), ?_⟩⟩
      refine ⟨_, rfl, l, _, _, 0, rfl, rfl, hL1, ix0 (by rw [List.length_map]; exact Nat.succ_pos _), ?_⟩
      have hL2 : (upd (upd H t (.lst [.int sd, .int (c + 1), .ref l])) l (.lst (((c0 :: cr).map V.int).set 0 (V.int (c0 / n))))) l = some (.lst (((c0 / n) :: cr).map V.int)) := upd_same
      have ha1 : atI (((c0 / n) :: cr).map V.int) 0 = some (V.int (c0 / n)) := atI_nat (j := 0) (by rfl)
      have fin0 : ∀ (cs2 : List Int), Q (.int (c0 % n)) (upd (upd H t (.lst [.int sd, .int (c + 1), .ref l])) l (.lst (cs2.map V.int))) := fun cs2 => 
        k _ _ (Int.emod_nonneg _ (by omega)) (Int.emod_lt_of_pos _ hn) (fun b o n m h => by rw [upd_ne m, upd_ne n]; exact h) ⟨sd, c + 1, cs2, by rw [upd_ne hlt.symm]; exact upd_same, upd_same⟩
      have fin : ∀ (cs2 : List Int) (u1 : HO), Q (.int (c0 % n)) (upd (upd (upd H t (.lst [.int sd, .int (c + 1), .ref l])) l u1) l (.lst (cs2.map V.int))) := fun cs2 u1 => by
        rw [upd_upd]
        exact fin0 cs2
      refine ⟨_, rfl, l, _, _, _, rfl, rfl, SqL.of hL2, ha1, rfl, _, rfl, ?_⟩
      refine ite2 (fun _ => ?_) (fun _ => ?_)
      · refine ⟨_, rfl, .inl ⟨rfl, _, SqL.of hL2⟩, l, _, 0, 0, _, rfl, rfl, hL2, by decide, by decide, seq_at (by decide) (by rw [List.length_map, List.length_cons]; omega), by rfl, ?_⟩
        exact ⟨_, rfl, fin cr _⟩
      · exact ⟨_, rfl, fin0 ((c0 / n) :: cr)⟩
    · have m3 : ∀ (x d : Int), 0 < d → 0 ≤ x % d ∧ x % d < d := fun x d h => ⟨Int.emod_nonneg _ (by omega), Int.emod_lt_of_pos _ h⟩
      refine ⟨_, rfl, t, _, _, _, rfl, rfl, SqL.of hT1, rfl, _, rfl, t, _, _, _, rfl, rfl, SqL.of hT1, rfl, _, _, rfl, rfl, .inl ⟨by decide, by decide⟩, _, _, rfl, rfl, ?_⟩
      refine ⟨_, _, rfl, rfl, .inr (by decide), .inl ⟨_, rfl, _, _, rfl, rfl, by show (0 : Int) < 2147483647; decide, ?_⟩⟩
      have q1 := m3 ((sd + 7919 * (c + 1)) * 48271) 2147483647 (by decide)
      generalize ((sd + 7919 * (c + 1)) * 48271) % 2147483647 = u at q1 ⊢
      refine ⟨_, rfl, _, rfl, _, _, rfl, rfl, ⟨by decide, by decide⟩, _, _, rfl, rfl, _, _, rfl, rfl, .inl ⟨by omega, by omega⟩, .inl ⟨_, rfl, _, _, rfl, rfl, by show (0 : Int) < 2147483647; decide, ?_⟩⟩
      have q2 := m3 (u * (u / 1009 + 69621)) 2147483647 (by decide)
      generalize (u * (u / 1009 + 69621)) % 2147483647 = v at q2 ⊢
      refine ⟨_, rfl, _, rfl, _, _, rfl, rfl, ⟨by decide, by decide⟩, _, _, rfl, rfl, _, _, rfl, rfl, .inl ⟨by omega, by omega⟩, .inl ⟨_, rfl, _, _, rfl, rfl, by show (0 : Int) < 2147483399; decide, ?_⟩⟩
      refine ⟨_, rfl, _, _, rfl, rfl, ⟨by decide, by decide⟩, .inl ⟨_, rfl, _, rfl, _, _, rfl, rfl, hn, ?_⟩⟩
      exact k _ _ (m3 _ _ hn).1 (m3 _ _ hn).2 (fun b o n m h => by rw [upd_ne n]; exact h) ⟨sd, c + 1, cs, hT1, hL1⟩
end
end Fo
set_option maxRecDepth 100000
set_option maxHeartbeats 4000000
set_option exponentiation.threshold 100000
namespace Fo
open PySem PySem.Spec PyProof.Rows L2 LamX
abbrev s_families : Stmt := top 25
abbrev n_families : List Str := ["sizes", "numbers", "own", "other"]
theorem sc_families : FnScope n_families ["sizes"] (defScope s_families) := ⟨rfl, rfl, rfl, by decide +kernel, rfl, by decide +kernel, by decide +kernel⟩
theorem passNo {X : Cx} : Passes (L2.CX X.prog X.w) X (fun _ _ _ => False) := fun _ _ _ _ _ _ _ h => by
  obtain ⟨_, _, _, _, _, _, _, _, _, _, _, _, z⟩ := h
  exact z.elim
theorem rgV_nat (n : Nat) : rgV 0 ((n : Nat) : Int) = (List.range n).map nV := by
  unfold rgV
  rw [Int.sub_zero, Int.toNat_natCast]
  refine List.map_congr_left fun i _ => congrArg V.int (by omega)
theorem range_get2 {n i : Nat} {x : V} (h : ((List.range n).map nV)[i]? = some x) : i < n ∧ x = nV i := by
  rw [List.getElem?_map] at h
  by_cases c : i < n
  · rw [List.getElem?_range c] at h
    exact ⟨c, (Option.some.inj h).symm⟩
  · rw [List.getElem?_eq_none (by rw [List.length_range]; omega)] at h
    cases h
theorem own_snoc (i p : Nat) : Mt.own (i + 1) p = Mt.own i p ++ if i = p then [] else [i] := by
  unfold Mt.own
  rw [List.range_succ, List.filter_append]
  congr 1
  by_cases c : i = p
  · rw [if_pos c]
    simp [c]
  · rw [if_neg c]
    simp [c]
theorem own_asc (m p : Nat) : (Mt.own m p).Pairwise (· < ·) := List.Pairwise.filter _ List.pairwise_lt_range
theorem own_lt {m p t : Nat} (h : t ∈ Mt.own m p) : t < m := List.mem_range.mp (List.mem_filter.mp h).1
theorem own_len (m p : Nat) : (Mt.own m p).length ≤ m := by
  refine Nat.le_trans (List.length_filter_le _ _) ?_
  rw [List.length_range]
  exact Nat.le_refl _
theorem kk_lit2 {K : PySem.W.Frag} {C : Addr} {H : Hp} {p dx pa pc : Addr} {ns : List Nat} {us : List V} {rows : List (List Nat)} (hp : H p = some (.ins C dx (kf (.ref pa) (.ref pa) (.ref pc)))) (ha : H pa = some (.tup (ns.map nV))) (hc : SqT K H pc us) (hu : RowsT K H us (rowsN rows)) (n8 : ns.length ≤ 8) (rl : rows.length = ns.length) (rng : ∀ r ∈ rows, ∀ t ∈ r, t < ns.length) (r8 : ∀ r ∈ rows, r.length ≤ 8) : KK K C H (.ref p) ns ns rows := ⟨⟨pa, pa, pc, us, ⟨p, dx, rfl, hp⟩, SqT.of ha, ha, hc, hu⟩, n8, n8, rl, rng, r8, rfl⟩
section
variable {P : Program} {w : World} {K : PySem.W.Frag} {mg : Str → Option Value} {base : Heap} {C D_BadKinds D_NoSizes : Addr}
def ownR (m : Nat) : List (List Nat) := (List.range m).map (Mt.own m)
def spFams (K : PySem.W.Frag) (C : Addr) : Sp := fun vs H Q _ => ∃ (a : Addr) (ns : List Nat), vs = [.ref a] ∧ H a = some (.tup (ns.map nV)) ∧ 1 ≤ ns.length ∧ ns.length ≤ 8 ∧ (∀ n ∈ ns, 1 ≤ n ∧ n ≤ 1000) ∧ ∀ x H', Same H H' → KK K C H' x ns ns (ownR ns.length) → Q x H'
theorem ok_fams (A : At K mg "families" s_families ["sizes"]) (T : Tx mg) (kc : KC K C) (G_Kinds : MkK P w K mg base C D_BadKinds) (G_check_sizes : DfnX P w K mg base "_check_sizes" ["sizes"] 3 (spCkSz K C D_NoSizes)) : Dfn P w K mg base "families" ["sizes"] 8 (spFams K C) := by
  refine A.ok sc_families (fun vs H Q E h => ?_) (fun f cdv A outer s H vs Q E hr h => ?_)
  · obtain ⟨_, _, rfl, _⟩ := h
    rfl
  · obtain ⟨a, ns, rfl, hT, n1, n8, nr, k⟩ := h
    have ha : SqT K H a (ns.map nV) := SqT.of hT
    refine ⟨_, (pss_cons (ps_expr (pe_dX (E := fun _ _ _ => False) G_check_sizes (hr.mono (by decide)) passNo (pa_cons (pv 0) pa_nil)))
      (pss_cons (ps_set (i := 1) sc_families.nd rfl (Or.inr rfl) (pe_listRg rfl (by rfl) T.list (prg_1 (by rfl) T.range (pe_callB c_len (by rfl) T.len (by decide +kernel) (pa_cons (pv 0) pa_nil)))))
      (pss_one (ps_ret (pe_makeKinds G_Kinds (hr.mono (by decide)) (pv 0) (pv 0) (pe_callTy c_tuple (by rfl) T.tuple (by decide +kernel) (pa_cons (pe_lc (own := [("own", 2)]) (g := (gName 2)) (tt := tYes) (te := (tCB (rTupOf K) (tCons (tLc (iList K (tVar 1)) (gName 3) (tTest (tOp rNe (tVar 3) (tVar 2))) (tVar 3) [3]) tNil))) (by rfl) sc_families.nd (pi_list (pv 1)) (blkOk_by (own := [("own", 2)]) (N := n_families) (sc := (defScope s_families)) (by decide +kernel)) (fun _ _ _ _ _ => (pg_name (i := 2) sc_families.nd rfl (Or.inr rfl))) (fun _ _ _ _ _ => pts_nil) (fun _ _ _ _ _ => (pe_callTy c_tuple (by rfl) T.tuple (by decide +kernel) (pa_cons (pe_lc (own := [("other", 3)]) (g := (gName 3)) (tt := (tTest (tOp rNe (tVar 3) (tVar 2)))) (te := (tVar 3)) (by rfl) sc_families.nd (pi_list (pv 1)) (blkOk_by (own := [("other", 3)]) (N := n_families) (sc := (relabel (lcIn s_families [2] 0) (envA (defScope s_families)))) (by decide +kernel)) (fun _ _ _ _ _ => (pg_name (i := 3) sc_families.nd rfl (Or.inl rfl))) (fun _ _ _ _ _ => (pts_one (pt_cmpR op_ne (pv 3) (pv 2) (nomark _)))) (fun _ _ _ _ _ => (pv 3))) pa_nil)))) pa_nil))))))), ?_⟩
    refine ⟨_, rfl, .ref a, some (ns.map nV), rfl, tg_nats ha (by omega), fun _ H1 s1 => ?_, fun z => by rw [sizes_n1 n1 n8 nr] at z; cases z⟩
    have ha1 := sqT_same s1 ha
    refine ⟨_, rfl, a, _, rfl, .inr ha1, ?_⟩
    rw [List.length_map]
    refine ⟨_, rfl, ⟨by omega, by omega, by omega, by omega⟩, fun q hq => ?_⟩
    rw [rgV_nat]
    have sq := same_new (o := .lst ((List.range ns.length).map nV)) hq
    obtain ⟨H2, e2⟩ : ∃ H2, H2 = upd H1 q (.lst ((List.range ns.length).map nV)) := ⟨_, rfl⟩
    have h2q : H2 q = some (.lst ((List.range ns.length).map nV)) := by rw [e2]; exact upd_same
    rw [← e2] at sq ⊢
    have ha2 := sqT_same sq ha1
    refine ⟨_, rfl, _, rfl, _, rfl, q, rfl, ⟨_, SqL.of h2q⟩, fun D hD => ?_⟩
    refine lc_list (xs := (List.range ns.length).map nV) (fun j H' => ∃ us, H' D = some (.lst us) ∧ RowsT K H' us (rowsN ((List.range j).map (Mt.own ns.length))) ∧ us.length = j ∧ Same H2 H') ⟨[], upd_same, .nil, rfl, same_new hD⟩ (fun i H' _ hp => by obtain ⟨_, _, _, _, s⟩ := hp; exact SqL.of (s _ _ h2q)) ?_ ?_
    · rintro j x H3 hx ⟨us, h3, hu, ul, s3⟩
      obtain ⟨jn, rfl⟩ := range_get2 hx
      refine ⟨rfl, _, rfl, q, rfl, ⟨_, SqL.of (s3 _ _ h2q)⟩, fun D2 hD2 => ?_⟩
      refine lc_list (xs := (List.range ns.length).map nV) (fun i H' => H' D2 = some (.lst ((Mt.own i j).map nV)) ∧ Same H3 H') ⟨upd_same, same_new hD2⟩ (fun i H' _ hp => SqL.of ((s3.trans hp.2) _ _ h2q)) ?_ ?_
      · rintro i x H4 hx2 ⟨h4, s4⟩
        obtain ⟨iN, rfl⟩ := range_get2 hx2
        refine ⟨rfl, _, rfl, _, rfl, rfl, _, rfl, ?_⟩
        refine ite2 (fun hne => ?_) (fun hne => ?_)
        · have ne : i ≠ j := fun e => by subst e; rw [decide_eq_true rfl] at hne; cases hne
          refine ⟨_, rfl, _, h4, by rw [List.length_map, sizeLine_eq]; have := own_len i j; omega, ?_, same_mut s4 hD2⟩
          rw [upd_same, own_snoc, if_neg ne, List.map_append]
          rfl
        · have eq : i = j := Classical.byContradiction fun z => hne (by rw [decide_eq_false (fun q => z (by injection q with q; omega))]; rfl)
          refine ⟨?_, s4⟩
          rw [own_snoc, if_pos eq, List.append_nil]
          exact h4
      · rintro H4 ⟨h4, s4⟩
        rw [List.length_map, List.length_range] at h4
        refine ⟨D2, _, rfl, .inl ⟨SqL.of h4, fun u hu2 => ?_⟩⟩
        have su := same_new (o := .tup ((Mt.own ns.length j).map nV)) hu2
        have s4u := s4.trans su
        refine ⟨us, s4u _ _ h3, by rw [ul, sizeLine_eq]; omega, _, upd_same, ?_, by rw [List.length_append, ul]; rfl, same_mut (s3.trans s4u) hD⟩
        have er : rowsN ((List.range (j + 1)).map (Mt.own ns.length)) = rowsN ((List.range j).map (Mt.own ns.length)) ++ [(Mt.own ns.length j).map fun (t : Nat) => (t : Int)] := by
          unfold rowsN
          rw [List.range_succ, List.map_append, List.map_append]
          rfl
        rw [er]
        have sD := same_mut (o := .lst (us ++ [V.ref u])) (s3.trans s4u) hD
        have hq : SqT K (upd (upd H4 u (.tup ((Mt.own ns.length j).map nV))) D (.lst (us ++ [V.ref u]))) u (((Mt.own ns.length j).map fun (t : Nat) => (t : Int)).map V.int) := by
          rw [nV_map]
          have nu : u ≠ D := fun e => by rw [e] at hu2; rw [s4 _ _ h3] at hu2; cases hu2
          exact SqT.of (by rw [upd_ne nu]; exact upd_same)
        refine RowsT.snoc hq ?_
        exact (hu.same s4u).put (s4u _ _ h3)
    · rintro H3 ⟨us, h3, hu, ul, s3⟩
      rw [List.length_map, List.length_range] at hu ul
      delta tNil
      refine ⟨D, us, rfl, .inl ⟨SqL.of h3, fun v hv => ?_⟩⟩
      have sv := same_new (o := .tup us) hv
      obtain ⟨H4, e4⟩ : ∃ H4, H4 = upd H3 v (.tup us) := ⟨_, rfl⟩
      have h4 : H4 v = some (.tup us) := by rw [e4]; exact upd_same
      rw [← e4] at sv ⊢
      have sA := (s1.trans sq).trans (s3.trans sv)
      have ha4 := sqT_same sA ha
      have hu4 := hu.same sv
      have rl : (ownR ns.length).length = ns.length := by unfold ownR; rw [List.length_map, List.length_range]
      have mem : ∀ r ∈ ownR ns.length, ∃ p, r = Mt.own ns.length p := fun r hr => by
        obtain ⟨p, _, rfl⟩ := List.mem_map.mp hr
        exact ⟨p, rfl⟩
      have asc : ∀ r ∈ ownR ns.length, r.Pairwise (· < ·) := fun r hr => by
        obtain ⟨p, rfl⟩ := mem r hr
        exact own_asc _ _
      have rng : ∀ r ∈ ownR ns.length, ∀ t ∈ r, t < ns.length := fun r hr t ht => by
        obtain ⟨p, rfl⟩ := mem r hr
        exact own_lt ht
      have r8 : ∀ r ∈ ownR ns.length, r.length ≤ 8 := fun r hr => by
        obtain ⟨p, rfl⟩ := mem r hr
        have := own_len ns.length p
        omega
      obtain ⟨ox, oy, oo, m1, m2, m3, m4⟩ := make_ok (C := C) (ns := ns) (ms := ns) (rows := ownR ns.length) ha4 ha4 (SqT.of h4) hu4 n1 n8 n1 n8 rl rfl (fun n h => (nr n h).2) (fun n h => (nr n h).2) asc rng
      refine ⟨ox, oy, oo, m1, m2, m3, m4, fun p dx H5 s5 np hp => ?_⟩
      exact k _ _ (sA.trans s5) (kk_lit2 hp ((sA.trans s5) _ _ hT) (sqT_same s5 (SqT.of h4)) (hu4.same s5) n8 rl rng r8)
end
end Fo
set_option maxRecDepth 100000
set_option maxHeartbeats 4000000
set_option exponentiation.threshold 100000
namespace Fo
open PySem PySem.Spec PyProof.Rows L2 LamX
abbrev s_law_many_right : Stmt := top 41
abbrev n_law_many_right : List Str := ["pool", "sizes", "modulus", "few", "k"]
theorem sc_law_many_right : FnScope n_law_many_right ["pool"] (defScope s_law_many_right) := ⟨rfl, rfl, rfl, by decide +kernel, rfl, by decide +kernel, by decide +kernel⟩
theorem ppl_wide (f : Nat → List Nat) : ∀ (ns : List Nat) (k : Nat), pplK ns ((List.range ns.length).map fun i => f (k + i)) = (Mt.wideF k ns).map f
  | [], _ => rfl
  | n :: ns, k => by
    have ih := ppl_wide f ns (k + 1)
    rw [List.length_cons, List.range_succ_eq_map, List.map_cons, List.map_map]
    show List.replicate n (f (k + 0)) ++ pplK ns _ = (List.replicate n k ++ Mt.wideF (k + 1) ns).map f
    rw [List.map_append, List.map_replicate, ← ih]
    congr 1
    congr 1
    refine List.map_congr_left fun i _ => ?_
    show f (k + (i + 1)) = f (k + 1 + i)
    congr 1
    omega
theorem ways_own2 (ns : List Nat) : (Mt.ways ns (pplK ns (ownR ns.length)) : Int) = Mt.Lp ns.sum (Mt.RK ns ns) := by
  rw [← Mt.ways_fam]
  have e := ppl_wide (Mt.own ns.length) ns 0
  rw [← e]
  congr 2
  unfold ownR
  congr 1
  refine List.map_congr_left fun i _ => ?_
  rw [Nat.zero_add]
theorem sum_le {b : Nat} : ∀ {P : List Nat}, (∀ p ∈ P, 1 ≤ p ∧ p ≤ b) → P.sum ≤ b * P.length
  | [], _ => Nat.zero_le _
  | x :: r, h => by
    have h1 := h x List.mem_cons_self
    have h2 := sum_le fun y hy => h y (List.mem_cons_of_mem _ hy)
    rw [List.sum_cons, List.length_cons, Nat.mul_succ]
    omega
section
variable {P : Program} {w : World} {K : PySem.W.Frag} {mg : Str → Option Value} {base : Heap} {C D_NoNumber D_TooMany : Addr}
def spManyR : Sp := fun vs H Q _ => ∃ (t l : Addr), vs = [.ref t] ∧ Po H t l ∧ ∀ H', Gs t l H H' → Po H' t l → Q (.bl true) H'
theorem ok_manyR (A : At K mg "_law_many_right" s_law_many_right ["pool"]) (T : Tx mg) (G_law_draw : Dfn P w K mg base "_law_draw" ["pool", "many"] 1 spDraw) (G_law_draww : Dfn P w K mg base "_law_draw" ["pool", "many"] 1 spDrawW) (G_law_said : Dfn P w K mg base "_law_said" ["sizes", "modulus"] 5 (spSaidF K C)) (G_law_by_signs : Dfn P w K mg base "_law_by_signs" ["sizes"] 1 (spSigns K)) (G_families : Dfn P w K mg base "families" ["sizes"] 8 (spFams K C)) (G_kinds_many : DfnX P w K mg base "kinds_many" ["kinds", "modulus"] 4 (spManyX K C D_NoNumber D_TooMany)) : Dfn P w K mg base "_law_many_right" ["pool"] 9 spManyR := by
  refine A.ok sc_law_many_right (fun vs H Q E h => ?_) (fun f cdv A outer s H vs Q E hr h => ?_)
  · obtain ⟨_, _, rfl, _⟩ := h
    rfl
  · obtain ⟨t, l, rfl, T0, k⟩ := h
    refine ⟨_, (pss_cons (ps_set (i := 1) sc_law_many_right.nd rfl (Or.inl rfl) (pe_callTy c_tuple (by rfl) T.tuple (by decide +kernel) (pa_cons (pe_lc (own := [("k", 4)]) (g := (gName 4)) (tt := tYes) (te := (tOp (rI0 fun i j => V.int (i + j)) (tC (V.int 1)) (tCall spDraw [] E0 (tCons (tVar 0) (tCons (tC (V.int 12)) tNil))))) (by rfl) sc_law_many_right.nd (pi_range1 rfl T.range (pa_cons (pe_op op_add pe_int (pe_d G_law_draw (hr.mono (by decide)) (pa_cons (pv 0) (pa_cons pe_int pa_nil)))) pa_nil)) (blkOk_by (own := [("k", 4)]) (N := n_law_many_right) (sc := (defScope s_law_many_right)) (by decide +kernel)) (fun _ _ _ _ _ => (pg_name (i := 4) sc_law_many_right.nd rfl (Or.inl rfl))) (fun _ _ _ _ _ => pts_nil) (fun _ _ _ _ _ => (pe_op op_add pe_int (pe_d G_law_draw (hr.mono (by decide)) (pa_cons (pv 0) (pa_cons pe_int pa_nil)))))) pa_nil)))
      (pss_cons (ps_set (i := 2) sc_law_many_right.nd rfl (Or.inl rfl) (pe_op op_add pe_int (pe_d G_law_draww (hr.mono (by decide)) (pa_cons (pv 0) (pa_cons (pe_op op_pow pe_int pe_int) pa_nil)))))
      (pss_cons (ps_if (pt_cmpR (op_neD hr.units) (pe_d G_law_said (hr.mono (by decide)) (pa_cons (pv 1) (pa_cons (pv 2) pa_nil))) (pe_op op_mod (pe_callTy c_int (by rfl) T.int (by decide +kernel) (pa_cons (pe_d G_law_by_signs (hr.mono (by decide)) (pa_cons (pv 1) pa_nil)) pa_nil)) (pv 2)) (nomark _)) (pss_one (ps_ret pe_bl)) pss_nil)
      (pss_cons (ps_set (i := 3) sc_law_many_right.nd rfl (Or.inl rfl) (pe_callTy c_tuple (by rfl) T.tuple (by decide +kernel) (pa_cons (pe_lc (own := [("k", 4)]) (g := (gName 4)) (tt := tYes) (te := (tOp (rI0 fun i j => V.int (i + j)) (tC (V.int 1)) (tCall spDraw [] E0 (tCons (tVar 0) (tCons (tC (V.int 10)) tNil))))) (by rfl) sc_law_many_right.nd (pi_range1 rfl T.range (pa_cons pe_int pa_nil)) (blkOk_by (own := [("k", 4)]) (N := n_law_many_right) (sc := (defScope s_law_many_right)) (by decide +kernel)) (fun _ _ _ _ _ => (pg_name (i := 4) sc_law_many_right.nd rfl (Or.inl rfl))) (fun _ _ _ _ _ => pts_nil) (fun _ _ _ _ _ => (pe_op op_add pe_int (pe_d G_law_draw (hr.mono (by decide)) (pa_cons (pv 0) (pa_cons pe_int pa_nil)))))) pa_nil)))
      (pss_one (ps_ret (pe_cmpR (op_eqD hr.units) (pe_dX (E := fun _ _ _ => False) G_kinds_many (hr.mono (by decide)) passNo (pa_cons (pe_d G_families (hr.mono (by decide)) (pa_cons (pv 3) pa_nil)) (pa_cons (pv 2) pa_nil))) (pe_d G_law_said (hr.mono (by decide)) (pa_cons (pv 3) (pa_cons (pv 2) pa_nil))) (nomark _)))))))), ?_⟩
    refine ⟨_, rfl, t, l, 6, rfl, T0, by decide, by decide, fun d H1 p0 p1 g1 T1 => ⟨_, _, rfl, rfl, _, rfl, by omega, by omega, fun D hD => ?_⟩⟩
    refine lc_range (lo := 0) (n := (3 + d).toNat) (fun j H' => ∃ P : List Nat, H' D = some (.lst (P.map nV)) ∧ P.length = j ∧ (∀ p ∈ P, 1 ≤ p ∧ p ≤ 12) ∧ Gs t l H1 H' ∧ Po H' t l) ⟨[], upd_same, rfl, fun _ h => (by cases h), .new hD, T1.new hD⟩ ?_ ?_
    · rintro j H2 hj ⟨P, hP, Pl, Pb, g2, T2⟩
      refine ⟨rfl, _, rfl, t, l, 12, rfl, T2, by decide, by decide, fun e H3 q0 q1 g3 T3 => ⟨_, _, rfl, rfl, ?_⟩⟩
      have nD := T1.free hD
      have hP3 := g3 _ _ nD.1 nD.2 hP
      obtain ⟨en, rfl⟩ : ∃ n : Nat, e = (n : Int) := ⟨e.toNat, by omega⟩
      refine ⟨_, hP3, by rw [List.length_map, sizeLine_eq]; omega, P ++ [1 + en], ?_, by rw [List.length_append, Pl]; rfl, fun p hp => ?_, (g2.trans g3).mut hD, T3.mut nD⟩
      · rw [upd_same, List.map_append]
        refine congrArg (fun v => some (HO.lst (P.map nV ++ [v]))) (congrArg V.int ?_)
        omega
      · rcases List.mem_append.mp hp with h | h
        · exact Pb p h
        · rw [List.mem_singleton.mp h]
          omega
    rintro H2 ⟨P, hP, Pl, Pb, g2, T2⟩
    have Ps := sum_le Pb
    have Pp : ∀ p ∈ P, 1 ≤ p := fun p hp => (Pb p hp).1
    refine ⟨D, _, rfl, .inl ⟨SqL.of hP, fun q hq => ?_⟩⟩
    have sq := same_new (o := .tup (P.map nV)) hq
    obtain ⟨H3, e3⟩ : ∃ H3, H3 = upd H2 q (.tup (P.map nV)) := ⟨_, rfl⟩
    have hq3 : SqT K H3 q (P.map nV) := by rw [e3]; exact SqT.of upd_same
    rw [← e3] at sq ⊢
    have T3 := T2.keep sq
    have g3 : Gs t l H H3 := (g1.trans g2).trans (.of sq)
    refine ⟨_, rfl, 10, 30, rfl, rfl, ⟨by decide, by decide, by decide⟩, t, l, 1000000000000000000000000000000, rfl, T3, by decide, by decide, fun e H4 q0 q1 g4 T4 => ⟨_, _, rfl, rfl, ?_⟩⟩
    obtain ⟨m, em⟩ : ∃ m : Nat, 1 + e = (m : Int) := ⟨(1 + e).toNat, by omega⟩
    have m1 : 1 ≤ m := by omega
    have m2 : m ≤ 1000000000000000000000000000000 := by omega
    show gName 2 (V.int (1 + e)) _ H4 _
    rw [em]
    have hq4 : SqT K H4 q (P.map nV) := SqT.of (g4.at T3 (by rw [e3]; exact upd_same) (by intro xs z; cases z))
    have s3P : 3 ≤ P.length := by omega
    have P8 : P.length ≤ 8 := by omega
    refine ⟨_, rfl, _, rfl, ?_⟩
    delta tNil
    refine said_ok (C := C) hq4 (by omega) P8 Pp (by omega) m1 m2 fun H5 s5 => ?_
    have hq5 := sqT_same s5 hq4
    refine ⟨_, rfl, q, P, rfl, hq5, P8, by omega, fun H6 s6 => ?_⟩
    refine .inl ⟨_, rfl, _, rfl, _, _, rfl, rfl, by omega, .int _, .int _, .int _, .int _, rfl, rfl, _, rfl, ?_⟩
    rw [eqv_self rfl]
    refine ite2 (fun n => by cases n) (fun _ => ?_)
    have T6 := (T4.keep s5).keep s6
    have g6 := (g3.trans g4).trans (.of (s5.trans s6) (t := t) (l := l))
    refine ⟨_, rfl, by omega, by omega, fun D2 hD2 => ?_⟩
    refine lc_range (lo := 0) (n := (3 : Int).toNat) (fun j H' => ∃ P : List Nat, H' D2 = some (.lst (P.map nV)) ∧ P.length = j ∧ (∀ p ∈ P, 1 ≤ p ∧ p ≤ 10) ∧ Gs t l H6 H' ∧ Po H' t l) ⟨[], upd_same, rfl, fun _ h => (by cases h), .new hD2, T6.new hD2⟩ ?_ ?_
    · rintro j H7 hj ⟨R, hR, Rl, Rb, g7, T7⟩
      refine ⟨rfl, _, rfl, t, l, 10, rfl, T7, by decide, by decide, fun e H8 q0 q1 g8 T8 => ⟨_, _, rfl, rfl, ?_⟩⟩
      have nD := T6.free hD2
      have hR8 := g8 _ _ nD.1 nD.2 hR
      obtain ⟨en, rfl⟩ : ∃ n : Nat, e = (n : Int) := ⟨e.toNat, by omega⟩
      refine ⟨_, hR8, by rw [List.length_map, sizeLine_eq]; omega, R ++ [1 + en], ?_, by rw [List.length_append, Rl]; rfl, fun p hp => ?_, (g7.trans g8).mut hD2, T8.mut nD⟩
      · rw [upd_same, List.map_append]
        refine congrArg (fun v => some (HO.lst (R.map nV ++ [v]))) (congrArg V.int ?_)
        omega
      · rcases List.mem_append.mp hp with h | h
        · exact Rb p h
        · rw [List.mem_singleton.mp h]
          omega
    rintro H7 ⟨R, hR, Rl, Rb, g7, T7⟩
    have Rl : R.length = 3 := Rl
    have Rs := sum_le Rb
    have Rp : ∀ p ∈ R, 1 ≤ p := fun p hp => (Rb p hp).1
    refine ⟨D2, _, rfl, .inl ⟨SqL.of hR, fun u hu => ?_⟩⟩
    have su := same_new (o := .tup (R.map nV)) hu
    obtain ⟨H8, e8⟩ : ∃ H8, H8 = upd H7 u (.tup (R.map nV)) := ⟨_, rfl⟩
    have hu8 : H8 u = some (.tup (R.map nV)) := by rw [e8]; exact upd_same
    rw [← e8] at su ⊢
    have g8 := (g6.trans g7).trans (.of su (t := t) (l := l))
    have T8 := T7.keep su
    have prod : Mt.prod1 R ≤ 5000 := by
      match R, Rl, Rb with
      | [a, b, c], _, Rb =>
        have h1 := (Rb a (by simp)).2
        have h2 := (Rb b (by simp)).2
        have h3 := (Rb c (by simp)).2
        show (a + 1) * ((b + 1) * ((c + 1) * 1)) ≤ 5000
        have e1 : (b + 1) * ((c + 1) * 1) ≤ 11 * (11 * 1) := Nat.mul_le_mul (by omega) (by omega)
        have e2 : (a + 1) * ((b + 1) * ((c + 1) * 1)) ≤ 11 * (11 * (11 * 1)) := Nat.mul_le_mul (by omega) e1
        omega
    refine ⟨_, rfl, u, R, rfl, hu8, by omega, by omega, fun n hn => ⟨(Rb n hn).1, by have := (Rb n hn).2; omega⟩, fun x H9 s9 hk => ?_⟩
    refine ⟨_, rfl, x, nV m, R, R, ownR R.length, rfl, hk, th_int, .inr ⟨m, rfl, cnt1_m m1 m2, .inr (.inr ⟨by omega, prod, fun H10 s10 => ?_⟩)⟩⟩
    have s910 := s9.trans s10
    refine ⟨_, rfl, _, rfl, ?_⟩
    refine said_ok (C := C) (sqT_same s910 (SqT.of hu8)) (by omega) (by omega) Rp (by omega) m1 m2 fun H11 s11 => ?_
    refine ⟨.int _, .int _, .int _, .int _, rfl, rfl, ?_⟩
    rw [← ways_own2, ← Int.natCast_emod, eqv_self rfl]
    exact k _ (g8.trans (.of (s910.trans s11))) (T8.keep (s910.trans s11))
end
end Fo
set_option maxRecDepth 100000
set_option maxHeartbeats 4000000
namespace Fo
open PySem PySem.Spec PyProof.Rows L2 LamX
theorem FnG.of {P : Program} {w : World} {K : PySem.W.Frag} {mg : Str → Option Value} {base : Heap} {k : Nat} {f : Addr} {fd : FuncData} {ps : List Str} {sp : Sp} (F : FnOk P w K mg base CX0 k f fd ps sp) : FnG P w K mg base k f fd ps sp :=
  ⟨F.len, fun A outer s H args us vs Q E hr _ e0 hb r h => F.run A outer s H args us vs Q E hr e0 hb r h⟩
end Fo
set_option maxRecDepth 100000
set_option maxHeartbeats 4000000
namespace Fo
open PySem PySem.Spec PyProof.Rows L2
theorem tup_once (l : Addr) (items : Array Value) (n : Nat) (dd : Option Addr) (sl : Array (Option Value)) (u : Tok) :
    Meets (Builtin.«tuple.__mul__» ⟨[.ref l, .int 1 u], []⟩) (fun _ R s => s.heap.get? l = some { cls := .type "tuple", dict := dd, data := .seq items n, slots := sl } ∧ R (.ok (.ret (Value.ref l))) s) :=
  .of_wp fun prog w A R s h => by
    obtain ⟨hp, g, d, tk, os⟩ := s
    obtain ⟨hl, h⟩ := h
    have f1 := AutoSeq1.idx_int
    have c1 : (items.isEmpty || (1 : Int) == 1) = true := by rw [Bool.or_comm]; rfl
    wp_walk using wpAny_loadPart' hl
    repeat (first
      | (refine wpAny_ite_false (decide_eq_false (by decide)) ?_; wp_walk using wpAny_loadPart' hl)
      | (refine wpAny_ite_true (decide_eq_true (by rw [c1])) ?_; wp_walk using wpAny_loadPart' hl)
      | (refine wpAny_ite_true (decide_eq_true (by decide)) ?_; wp_walk using wpAny_loadPart' hl))
    exact ⟨_, rfl, h⟩
def rRepTn (K : PySem.W.Frag) : R2 := fun x y H Q => ∃ l k xs, x = .ref l ∧ y = .int k ∧ SqT K H l xs ∧ xs ≠ [] ∧ 1 ≤ k ∧ k ≤ 1000 ∧ xs.length ≤ 1000 ∧ ∀ p H', Same H H' → SqT K H' p (List.replicate k.toNat xs).flatten → Q (.ref p) H'
section
variable {X : Cx}
theorem op_repTn : OpR X (binaryOp .Mult) (rRepTn X.K) := by
  intro pins s σ H x y v u Q I rx ry h
  obtain ⟨l, k, xs, rfl, rfl, hT, hne, h1, h2, hz, q⟩ := h
  by_cases e : k = 1
  · subst e
    cases rx
    obtain ⟨t, rfl⟩ := ry
    obtain ⟨its, r, ⟨⟨cls, dd, data, sl⟩, ho, hc, n, hd⟩, hs⟩ := I.tuple hT
    simp only at hc hd
    subst hc hd
    refine wpAny_binaryOp_repeat_ref (T := "tuple") (U := "int") (by decide) ⟨_, ho, rfl⟩ (fun s' => typeIs_int s' 1 t) noFill_tuple_mul F.fills_int_mul F.slot_int_rmul repeat_tuple F.slot_int_index.lookup
      (call_meets F.slot_int_rmul (typeIs_int s 1 t) F.entry_int_rmul (F.args_int_rmul_2 _ _) (int_rmul_tuple 1 t l its.toArray n dd sl)
        ⟨ho, rfl, ⟨_, ho, rfl⟩, call_meets F.slot_tuple_mul ⟨_, ho, rfl⟩ F.entry_tuple_mul (F.args_tuple_mul_2 _ _) (tup_once l its.toArray n dd sl t) ⟨ho, ?_⟩⟩)
    refine ⟨.ref l, H, I.tok _, rfl, q l H (Same.refl H) ?_⟩
    rw [show (List.replicate ((1 : Int)).toNat xs).flatten = xs from by show (List.replicate 1 xs).flatten = xs; simp]
    exact hT
  · exact op_repT pins s σ H (.ref l) (.int k) v u Q I rx ry ⟨l, k, xs, rfl, rfl, hT, hne, by omega, h2, hz, fun p hp => q p _ (same_new hp) (SqT.of upd_same)⟩
end
end Fo
set_option maxRecDepth 100000
set_option maxHeartbeats 4000000
set_option exponentiation.threshold 100000
namespace Fo
open PySem PySem.Spec PyProof.Rows L2 LamX
abbrev s_law : Stmt := top 42
abbrev n_law : List Str := ["script", "pool", "again", "sizes", "allowed", "due", "modulus", "told", "odd", "wrong", "k", "other"]
theorem sc_law : FnScope n_law ["script"] (defScope s_law) := ⟨rfl, rfl, rfl, by decide +kernel, rfl, by decide +kernel, by decide +kernel⟩
abbrev s_NoSizes___init : Stmt := inClass (top 6) 0
abbrev n_NoSizes___init : List Str := ["self"]
theorem sc_NoSizes___init : FnScope n_NoSizes___init ["self"] (defScope s_NoSizes___init) := ⟨rfl, rfl, rfl, by decide +kernel, rfl, by decide +kernel, by decide +kernel⟩
theorem pass_NoSizes {P : Program} {w : World} {K : PySem.W.Frag} {mg : Str → Option Value} {base : Heap} {f : Addr} {fd : FuncData} (F : Fun K "__init__" "NoSizes.__init__" s_NoSizes___init f fd) : FnOk P w K mg base CX0 1 f fd ["self"] spPass := by
  refine F.ok sc_NoSizes___init (fun vs H Q E h => ?_) (fun cdv A outer s H vs Q E hr h => ?_)
  · obtain ⟨a, rfl, _⟩ := h
    rfl
  · obtain ⟨a, rfl, k⟩ := h
    exact ⟨_, pss_one ps_pass, k⟩
theorem ownR_len (m : Nat) : (ownR m).length = m := by unfold ownR; rw [List.length_map, List.length_range]
theorem ownR_mem {m : Nat} {r : List Nat} (h : r ∈ ownR m) : ∃ p, r = Mt.own m p := by
  obtain ⟨p, _, rfl⟩ := List.mem_map.mp h
  exact ⟨p, rfl⟩
theorem tab6 {ns : List Nat} (s6 : ns.sum ≤ 6) :
    GudN ((pplK ns (ownR ns.length)).map (Mt.rowK (Mt.wideF 0 ns))) ∧ Fit ((pplK ns (ownR ns.length)).map (Mt.rowK (Mt.wideF 0 ns))) ∧ (Mt.deals ((pplK ns (ownR ns.length)).map (Mt.rowK (Mt.wideF 0 ns)))).length = Mt.ways ns (pplK ns (ownR ns.length)) := by
  have rl := ownR_len ns.length
  have tl : ((pplK ns (ownR ns.length)).map (Mt.rowK (Mt.wideF 0 ns))).length = ns.sum := by rw [List.length_map, ppl_len rl]
  have G : GudN ((pplK ns (ownR ns.length)).map (Mt.rowK (Mt.wideF 0 ns))) := by
    refine ⟨fun r hr => ?_, fun r hr x hx => ?_⟩
    · obtain ⟨q, hq, rfl⟩ := List.mem_map.mp hr
      exact List.pairwise_map.mpr ((List.Pairwise.filter _ List.pairwise_lt_range).imp fun h => by omega)
    · obtain ⟨q, hq, rfl⟩ := List.mem_map.mp hr
      obtain ⟨k, hk, rfl⟩ := List.mem_map.mp hx
      have := List.mem_range.mp (List.mem_filter.mp hk).1
      rw [Mt.wide_len] at this
      rw [tl]
      omega
  have few : ∀ r ∈ (pplK ns (ownR ns.length)).map (Mt.rowK (Mt.wideF 0 ns)), r.length ≤ 6 := fun r hr => by
    have := G.row_len r hr
    omega
  obtain ⟨rows, er⟩ : ∃ rows, rows = (pplK ns (ownR ns.length)).map (Mt.rowK (Mt.wideF 0 ns)) := ⟨_, rfl⟩
  rw [← er] at tl G few ⊢
  refine ⟨G, ⟨by omega, few_of (n := 6) (m := 6) (by omega) few (by decide) (by decide), ?_⟩, ?_⟩
  · refine Nat.le_trans (Mt.orders_le rows.length (rangeI rows.length) (Mt.deals rows) (rangeI_nodup _) (by rw [rangeI_len, Int.toNat_natCast]) (Mt.deals_nd fun r hr => G.asc r hr) fun D hD => ?_) ((by decide : ∀ n, n < 7 → Mt.fac n ≤ 4000) _ (by omega))
    have d := (Mt.mem_deals D).mp hD
    refine ⟨d.nd, d.len, fun y hy => ?_⟩
    obtain ⟨i, hi⟩ := List.getElem?_of_mem hy
    have il : i < rows.length := by
      have := (List.getElem?_eq_some_iff.mp hi).1
      rwa [d.len] at this
    have ht := d.tie i y hi
    rw [Mt.row_get (List.getElem?_eq_getElem il)] at ht
    exact mem_rangeI.mpr (G.rng _ (List.getElem_mem il) y ht)
  · rw [er, Mt.deals_cnt]
    exact Mt.cnt_table fun r hr => by
      obtain ⟨p, rfl⟩ := ownR_mem (ppl_mem hr)
      exact ⟨(own_asc _ _).imp fun h => by omega, fun t ht => own_lt ht⟩
theorem tyX_gsK {K : PySem.W.Frag} {t l : Addr} {H H' : Hp} {x : V} {ty : Value} (g : Gs t l H H') (T : Po H t l) (T' : Po H' t l) (h : TyX K H x ty) : TyX K H' x ty := by
  have go : ∀ {a : Addr} {ob : HO}, H a = some ob → (∀ l, ob ≠ .lst l) → H' a = some ob := fun {a ob} z ne => g.at T z ne
  cases h with
  | base b =>
    cases b with
    | non => exact .base .non
    | bl b => exact .base (.bl b)
    | int i => exact .base (.int i)
    | str x => exact .base (.str x)
    | flt x => exact .base (.flt x)
    | @lst a xs h =>
      obtain ⟨sd, c, cs, e1, e2⟩ := T'
      by_cases ea : a = t
      · subst ea
        exact .base (.lst e1)
      · by_cases el : a = l
        · subst el
          exact .base (.lst e2)
        · exact .base (.lst (g _ _ ea el h))
    | frz h => exact .base (.frz (go h fun l z => by cases z))
    | tup h => exact .base (.tup (go h fun l z => by cases z))
    | dK h => exact .base (.dK (go h fun l z => by cases z))
    | dT h => exact .base (.dT (go h fun l z => by cases z))
    | ins h a b c d f => exact .base (.ins (go h fun l z => by cases z) a b c d f)
  | byt b => exact .byt b
  | set h => exact .set (go h fun l z => by cases z)
  | kList a b => exact .kList a b
  | kTuple a b => exact .kTuple a b
  | kDict a b => exact .kDict a b
  | fTuple h => exact .fTuple (go h fun l z => by cases z)
  | fDict h => exact .fDict (go h fun l z => by cases z)
section
variable {P : Program} {w : World} {K : PySem.W.Frag} {mg : Str → Option Value} {base : Heap} {C : Addr}
def spDeepT2 (K : PySem.W.Frag) : Sp := fun vs H Q _ => vs = [] ∧ ∀ (p r : Addr) H', Same H H' → H' p = some (.tup [.ref r]) → TyX K H' (.ref r) (.type "tuple") → Q (.ref p) H'
theorem ok_deepT2 (A : At K mg "_law_deep" s_law_deep []) (T : Tx mg) : Dfn P w K mg base "_law_deep" [] 1 (spDeepT2 K) := by
  refine A.ok sc_law_deep (fun vs H Q E h => ?_) (fun f cdv A outer s H vs Q E hr h => ?_)
  · obtain ⟨rfl, _⟩ := h
    rfl
  · obtain ⟨rfl, k⟩ := h
    refine ⟨_, (pss_cons (ps_set (i := 0) sc_law_deep.nd rfl (Or.inl rfl) (pe_tup (pa_cons pe_int (pa_cons pe_int pa_nil))))
      (pss_cons (ps_for PassesOwn.never rfl (pi_range1 rfl T.range (pa_cons pe_int pa_nil)) (pg_name (i := 1) sc_law_deep.nd rfl (Or.inl rfl))
      (pss_one (ps_set (i := 0) sc_law_deep.nd rfl (Or.inl rfl) (pe_tup (pa_cons (pv 0) pa_nil)))))
      (pss_one (ps_ret (pv 0))))), ?_⟩
    refine ⟨by show 2 ≤ sizeLine; decide, fun p0 k0 => ?_⟩
    refine ⟨_, rfl, by decide, by decide, for_range (lo := 0) (n := 35) (fun i σ' H' => ∃ p x1, σ' = [some (.ref p), x1] ∧ TyX K H' (.ref p) (.type "tuple") ∧ Same H H' ∧ (0 < i → ∃ r, H' p = some (.tup [.ref r]) ∧ TyX K H' (.ref r) (.type "tuple"))) ⟨p0, _, rfl, .base (.tup upd_same), same_new k0, fun h => absurd h (Nat.lt_irrefl 0)⟩ ?_ ?_⟩
    · rintro i σ' H1 hi ⟨p, x1, rfl, hp, s1, _⟩
      refine ⟨_, rfl, by show 1 ≤ sizeLine; decide, fun p2 k2 => ?_⟩
      exact ⟨p2, _, rfl, .base (.tup upd_same), s1.trans (same_new k2), fun _ => ⟨p, upd_same, tyX_same (same_new k2) hp⟩⟩
    · rintro σ' H1 ⟨p, x1, rfl, hp, s1, h⟩
      obtain ⟨r, h1, h2⟩ := h (by decide)
      exact ⟨_, rfl, k p r H1 s1 h1 h2⟩
def spLaw (K : PySem.W.Frag) : Sp := fun vs H Q _ => ∃ (a : Addr) (ns : List Int), vs = [.ref a] ∧ SqL K H a (ns.map V.int) ∧ ns.length ≤ 63 ∧ ∀ H', Q (.bl true) H'
theorem ok_law {f : Addr} {fd : FuncData} (F : Fun K "law" "law" s_law f fd) (T : Tx mg) (tc : TC K C) (Tsum : mg "sum" = none) (G_law_pool : Dfn P w K mg base "_law_pool" ["script"] 1 (spPool K)) (G_law_draw : Dfn P w K mg base "_law_draw" ["pool", "many"] 1 spDraw) (G_law_draww : Dfn P w K mg base "_law_draw" ["pool", "many"] 1 spDrawW) (G_law_said : Dfn P w K mg base "_law_said" ["sizes", "modulus"] 5 (spSaidF K C)) (G_law_half_right : Dfn P w K mg base "_law_half_right" ["pool", "modulus"] 6 spHalf) (G_law_many_right : Dfn P w K mg base "_law_many_right" ["pool"] 9 spManyR) (G_law_kind_rows : Dfn P w K mg base "_law_kind_rows" ["people", "things", "allowed"] 2 (spKRows K)) (G_law_all : Dfn P w K mg base "_law_all" ["rows"] 1 (spAllG K)) (G_law_deep : Dfn P w K mg base "_law_deep" [] 1 (spDeepT2 K)) : FnOk P w K mg base CX0 10 f fd ["script"] (spLaw K) := by
  refine F.ok sc_law (fun vs H Q E h => ?_) (fun cdv A outer s H vs Q E hr h => ?_)
  · obtain ⟨a, ns, rfl, _⟩ := h
    rfl
  · obtain ⟨sa, ns, rfl, hS, hlen, k⟩ := h
    refine ⟨_, (pss_cons (ps_set (i := 1) sc_law.nd rfl (Or.inr rfl) (pe_d G_law_pool (hr.mono (by decide)) (pa_cons (pv 0) pa_nil)))
      (Evl.pss_cut (ps_if (PW.pt (pw_and (pt_cmpR op_eq (pe_d G_law_draw (hr.mono (by decide)) (pa_cons (pv 1) (pa_cons pe_int pa_nil))) pe_int (nomark _)) (pw_and1 (pt_not (pt_val (pe_d G_law_many_right (hr.mono (by decide)) (pa_cons (pv 1) pa_nil))))))) (pss_one (ps_ret pe_bl)) pss_nil)
      (pss_cons (ps_for PassesOwn.never rfl (pi_range1 rfl T.range (pa_cons pe_int pa_nil)) (pg_name (i := 2) sc_law.nd rfl (Or.inl rfl))
      (pss_cons (ps_set (i := 3) sc_law.nd rfl (Or.inr rfl) (pe_callTy c_tuple (by rfl) T.tuple (by decide +kernel) (pa_cons (pe_lc (own := [("k", 10)]) (g := (gName 10)) (tt := tYes) (te := (tOp (rI0 fun i j => V.int (i + j)) (tC (V.int 1)) (tCall spDraw [] E0 (tCons (tVar 1) (tCons (tC (V.int 3)) tNil))))) (by rfl) sc_law.nd (pi_range1 rfl T.range (pa_cons (pe_op op_add pe_int (pe_d G_law_draw (hr.mono (by decide)) (pa_cons (pv 1) (pa_cons pe_int pa_nil)))) pa_nil)) (blkOk_by (own := [("k", 10)]) (N := n_law) (sc := (defScope s_law)) (by decide +kernel)) (fun _ _ _ _ _ => (pg_name (i := 10) sc_law.nd rfl (Or.inl rfl))) (fun _ _ _ _ _ => pts_nil) (fun _ _ _ _ _ => (pe_op op_add pe_int (pe_d G_law_draw (hr.mono (by decide)) (pa_cons (pv 1) (pa_cons pe_int pa_nil)))))) pa_nil)))
      (Evl.pss_cut (ps_if (pt_cmpR op_eq (pe_d G_law_draw (hr.mono (by decide)) (pa_cons (pv 1) (pa_cons pe_int pa_nil))) pe_int (nomark _)) (pss_one (ps_set (i := 3) sc_law.nd rfl (Or.inr rfl) (pe_op op_repTn (pe_tup (pa_cons pe_int pa_nil)) (pe_op op_add pe_int (pe_d G_law_draw (hr.mono (by decide)) (pa_cons (pv 1) (pa_cons pe_int pa_nil))))))) pss_nil)
      (pss_one (ps_if (pt_cmpR op_lt (pe_callB (cr_sumT rfl) (by rfl) Tsum (by decide +kernel) (pa_cons (pv 3) pa_nil)) pe_int (nomark _)) (pss_cons (ps_set (i := 4) sc_law.nd rfl (Or.inl rfl) (pe_callTy c_tuple (by rfl) T.tuple (by decide +kernel) (pa_cons (pe_lc (own := [("k", 10)]) (g := (gName 10)) (tt := tYes) (te := (tCB (rTupOf K) (tCons (tLc (iRng1 (tCons (tCB (rLenS K) (tCons (tVar 3) tNil)) tNil)) (gName 11) (tTest (tOp rNe (tVar 11) (tVar 10))) (tVar 11) [11]) tNil))) (by rfl) sc_law.nd (pi_range1 rfl T.range (pa_cons (pe_callB c_len (by rfl) T.len (by decide +kernel) (pa_cons (pv 3) pa_nil)) pa_nil)) (blkOk_by (own := [("k", 10)]) (N := n_law) (sc := (defScope s_law)) (by decide +kernel)) (fun _ _ _ _ _ => (pg_name (i := 10) sc_law.nd rfl (Or.inr rfl))) (fun _ _ _ _ _ => pts_nil) (fun _ _ _ _ _ => (pe_callTy c_tuple (by rfl) T.tuple (by decide +kernel) (pa_cons (pe_lc (own := [("other", 11)]) (g := (gName 11)) (tt := (tTest (tOp rNe (tVar 11) (tVar 10)))) (te := (tVar 11)) (by rfl) sc_law.nd (pi_range1 rfl T.range (pa_cons (pe_callB c_len (by rfl) T.len (by decide +kernel) (pa_cons (pv 3) pa_nil)) pa_nil)) (blkOk_by (own := [("other", 11)]) (N := n_law) (sc := (relabel (lcIn s_law [2, 2, 0] 0) (envA (defScope s_law)))) (by decide +kernel)) (fun _ _ _ _ _ => (pg_name (i := 11) sc_law.nd rfl (Or.inl rfl))) (fun _ _ _ _ _ => (pts_one (pt_cmpR op_ne (pv 11) (pv 10) (nomark _)))) (fun _ _ _ _ _ => (pv 11))) pa_nil)))) pa_nil)))
      (pss_cons (ps_set (i := 5) sc_law.nd rfl (Or.inl rfl) (pe_callB c_len (by rfl) T.len (by decide +kernel) (pa_cons (pe_d G_law_all (hr.mono (by decide)) (pa_cons (pe_d G_law_kind_rows (hr.mono (by decide)) (pa_cons (pv 3) (pa_cons (pv 3) (pa_cons (pv 4) pa_nil)))) pa_nil)) pa_nil)))
      (pss_cons (ps_set (i := 6) sc_law.nd rfl (Or.inl rfl) (pe_ix ix_list (pe_lst (pa_cons pe_int (pa_cons pe_int (pa_cons (pe_op op_pow pe_int pe_int) (pa_cons (pe_op op_add pe_int (pe_d G_law_draw (hr.mono (by decide)) (pa_cons (pv 1) (pa_cons pe_int pa_nil)))) pa_nil))))) (pe_d G_law_draw (hr.mono (by decide)) (pa_cons (pv 1) (pa_cons pe_int pa_nil))) (fun _ _ => rfl)))
      (pss_cons (ps_set (i := 7) sc_law.nd rfl (Or.inl rfl) (pe_d G_law_said (hr.mono (by decide)) (pa_cons (pv 3) (pa_cons (pv 6) pa_nil))))
      (pss_one (ps_if (PW.pt (pw_or (pt_cmpR (op_neD hr.units) (pv 7) (pe_op op_mod (pe_callTy c_int (by rfl) T.int (by decide +kernel) (pa_cons (pv 5) pa_nil)) (pv 6)) (nomark _)) (pw_or1 (pt_val (pe_callB call_isi (by rfl) T.isinstance (by decide +kernel) (pa_cons (pv 7) (pa_cons (pe_bltn (v := V.ty "bool") (by rfl) T.bool (by decide +kernel) rfl) pa_nil))))))) (pss_one (ps_ret pe_bl)) pss_nil)))))) pss_nil)))))
      (Evl.pss_cut (ps_if (PW.pt (pw_and (pt_cmpR op_eq (pe_d G_law_draw (hr.mono (by decide)) (pa_cons (pv 1) (pa_cons pe_int pa_nil))) pe_int (nomark _)) (pw_and1 (pt_not (pt_val (pe_d G_law_half_right (hr.mono (by decide)) (pa_cons (pv 1) (pa_cons (pe_op op_add pe_int (pe_d G_law_draww (hr.mono (by decide)) (pa_cons (pv 1) (pa_cons (pe_op op_pow pe_int pe_int) pa_nil)))) pa_nil)))))))) (pss_one (ps_ret pe_bl)) pss_nil)
      (pss_cons (ps_set (i := 8) sc_law.nd rfl (Or.inl rfl) (pe_ix ix_list (pe_lst (pa_cons pe_int (pa_cons (pe_un un_neg pe_int) (pa_cons (pe_op op_add (pe_op op_pow pe_int pe_int) pe_int) (pa_cons pe_non (pa_cons pe_bl (pa_cons pe_str (pa_cons (pe_tup (pa_cons pe_int pa_nil)) (pa_cons (pe_d0 G_law_deep (hr.mono (by decide))) pa_nil))))))))) (pe_d G_law_draw (hr.mono (by decide)) (pa_cons (pv 1) (pa_cons pe_int pa_nil))) (fun _ _ => rfl)))
      (pss_cons (ps_set (i := 9) sc_law.nd rfl (Or.inl rfl) (pe_ix ix_list (pe_lst (pa_cons pe_non (pa_cons (pe_tup pa_nil) (pa_cons (pe_lst (pa_cons pe_int (pa_cons pe_int pa_nil))) (pa_cons (pe_tup (pa_cons pe_int (pa_cons pe_int pa_nil))) (pa_cons (pe_tup (pa_cons pe_bl (pa_cons pe_int pa_nil))) (pa_cons (pe_op op_repTn (pe_tup (pa_cons pe_int pa_nil)) pe_int) (pa_cons pe_int (pa_cons pe_str (pa_cons (pe_d0 G_law_deep (hr.mono (by decide))) pa_nil)))))))))) (pe_d G_law_draw (hr.mono (by decide)) (pa_cons (pv 1) (pa_cons pe_int pa_nil))) (fun _ _ => rfl)))
      (Evl.pss_cut (ps_if (PW.pt (pw_or (pt_cmpR (op_neD hr.units) (pe_d G_law_said (hr.mono (by decide)) (pa_cons (pv 9) (pa_cons (pv 8) pa_nil))) pe_str (nomark _)) (pw_or1 (pt_cmpR (op_neD hr.units) (pe_d G_law_said (hr.mono (by decide)) (pa_cons (pe_tup (pa_cons pe_int (pa_cons pe_int pa_nil))) (pa_cons (pv 8) pa_nil))) pe_str (nomark _))))) (pss_one (ps_ret pe_bl)) pss_nil)
      (pss_one (ps_ret (pe_and (pe_cmpR (op_eqD hr.units) (pe_d G_law_said (hr.mono (by decide)) (pa_cons (pe_tup (pa_cons pe_int (pa_cons pe_int pa_nil))) (pa_cons pe_int pa_nil))) (pe_tup (pa_cons pe_str (pa_cons pe_int pa_nil))) (nomark _)) (pe_one (pe_cmpR (op_eqD hr.units) (pe_d G_law_said (hr.mono (by decide)) (pa_cons (pe_tup (pa_cons pe_int pa_nil)) (pa_cons pe_int pa_nil))) pe_int (nomark _))))))))))))), ?_⟩
    refine ⟨_, rfl, sa, ns, rfl, hS, hlen, fun t q H1 s1 _ _ T1 => ?_⟩
    -- many right
    refine ⟨fun σ' H' => σ' = [some (.ref sa), some (.ref t), none, none, none, none, none, none, none, none, none, none] ∧ Po H' t q, ?_, ?_⟩
    · refine ⟨_, rfl, t, q, 6, rfl, T1, by decide, by decide, fun d H2 a0 a1 g1 T2 => ⟨rfl, _, rfl, ?_⟩⟩
      refine ite2 (fun _ => ?_) (fun _ => ?_)
      · refine ⟨_, rfl, t, q, rfl, T2, fun H3 g3 T3 => ⟨_, rfl, ?_⟩⟩
        exact ite2 (fun n => by cases n) (fun _ => ⟨rfl, T3⟩)
      · exact ite2 (fun n => by cases n) (fun _ => ⟨rfl, T2⟩)
    rintro _ H2 ⟨rfl, T2⟩
    refine ⟨_, rfl, by decide, by decide, for_range (lo := 0) (n := 3) (fun i σ' H' => (∃ x2 x3 x4 x5 x6 x7, σ' = [some (.ref sa), some (.ref t), x2, x3, x4, x5, x6, x7, none, none, none, none]) ∧ Po H' t q) ⟨⟨_, _, _, _, _, _, rfl⟩, T2⟩ ?_ ?_⟩
    · rintro i σ' H3 hi ⟨⟨x2, x3, x4, x5, x6, x7, rfl⟩, T3⟩
      refine ⟨_, rfl, t, q, 3, rfl, T3, by decide, by decide, fun d H4 p0 p1 g4 T4 => ⟨_, _, rfl, rfl, _, rfl, by omega, by omega, fun D hD => ?_⟩⟩
      refine lc_range (lo := 0) (n := (1 + d).toNat) (fun j H' => ∃ P : List Nat, H' D = some (.lst (P.map nV)) ∧ P.length = j ∧ (∀ p ∈ P, 1 ≤ p ∧ p ≤ 3) ∧ Gs t q H4 H' ∧ Po H' t q) ⟨[], upd_same, rfl, fun _ h => (by cases h), .new hD, T4.new hD⟩ ?_ ?_
      · rintro j H5 hj ⟨P, hP, Pl, Pb, g5, T5⟩
        refine ⟨rfl, _, rfl, t, q, 3, rfl, T5, by decide, by decide, fun e H6 q0 q1 g6 T6 => ⟨_, _, rfl, rfl, ?_⟩⟩
        have nD := T4.free hD
        have hP6 := g6 _ _ nD.1 nD.2 hP
        obtain ⟨en, rfl⟩ : ∃ n : Nat, e = (n : Int) := ⟨e.toNat, by omega⟩
        refine ⟨_, hP6, by rw [List.length_map, sizeLine_eq]; omega, P ++ [1 + en], ?_, by rw [List.length_append, Pl]; rfl, fun p hp => ?_, (g5.trans g6).mut hD, T6.mut nD⟩
        · rw [upd_same, List.map_append]
          refine congrArg (fun v => some (HO.lst (P.map nV ++ [v]))) (congrArg V.int ?_)
          omega
        · rcases List.mem_append.mp hp with h | h
          · exact Pb p h
          · rw [List.mem_singleton.mp h]
            omega
      rintro H5 ⟨P, hP, Pl, Pb, g5, T5⟩
      refine ⟨D, _, rfl, .inl ⟨SqL.of hP, fun a0 ha0 => ?_⟩⟩
      have s5 := same_new (o := .tup (P.map nV)) ha0
      have T6 := T5.keep s5
      refine ⟨fun σ' H' => ∃ (a : Addr) (ns : List Nat), σ' = [some (.ref sa), some (.ref t), some (.int (0 + (i : Int))), some (.ref a), x4, x5, x6, x7, none, none, none, none] ∧ Po H' t q ∧ SqT K H' a (ns.map nV) ∧ 1 ≤ ns.length ∧ ns.length ≤ 8 ∧ (∀ n ∈ ns, 1 ≤ n ∧ n ≤ 3), ?_, ?_⟩
      · refine ⟨_, rfl, t, q, 3, rfl, T6, by decide, by decide, fun e H6 q0 q1 g6 T6 => ⟨rfl, _, rfl, ?_⟩⟩
        refine ite2 (fun _ => ?_) (fun _ => ?_)
        · refine ⟨by show 1 ≤ sizeLine; decide, fun b hb => ?_⟩
          have sb := same_new (o := .tup [V.int 1]) hb
          refine ⟨_, rfl, t, q, 6, rfl, T6.keep sb, by decide, by decide, fun e7 H7 r0 r1 g7 T7 => ⟨_, _, rfl, rfl, ?_⟩⟩
          have hb7 : H7 b = some (.tup [V.int 1]) := g7.at (T6.keep sb) upd_same (fun _ z => by cases z)
          refine ⟨b, 1 + e7, [V.int 1], rfl, rfl, SqT.of hb7, by simp, by omega, by omega, by decide, fun c H8 s8 hc => ?_⟩
          refine ⟨c, List.replicate (1 + e7).toNat 1, rfl, T7.keep s8, ?_, by rw [List.length_replicate]; omega, by rw [List.length_replicate]; omega, fun n hn => by rw [(List.mem_replicate.mp hn).2]; decide⟩
          rw [List.map_replicate]
          rw [flat_one] at hc
          exact hc
        · exact ⟨a0, P, rfl, T6, SqT.of (g6.at (T5.keep s5) upd_same (fun _ z => by cases z)), by omega, by omega, Pb⟩
      rintro _ H6 ⟨a, ms, rfl, T6, ha, n1, n8, nb⟩
      have sumI : SqT K H6 a ((ms.map fun (x : Nat) => (x : Int)).map V.int) := by rw [nV_map]; exact ha
      refine ⟨_, rfl, a, _, rfl, sumI, _, _, rfl, rfl, _, rfl, ?_⟩
      rw [sum_nI]
      refine ite2 (fun c => ?_) (fun _ => ⟨⟨_, _, _, _, _, _, rfl⟩, T6⟩)
      have s6 : ms.sum ≤ 6 := by
        have := of_decide_eq_true c
        omega
      have rl := ownR_len ms.length
      refine ⟨_, rfl, a, _, rfl, .inr ha, _, rfl, by rw [List.length_map]; omega, by rw [List.length_map]; omega, fun D2 hD2 => ?_⟩
      rw [List.length_map]
      refine lc_range (lo := 0) (n := ((ms.length : Nat) : Int).toNat) (fun j H' => ∃ us, H' D2 = some (.lst us) ∧ RowsT K H' us (rowsN ((List.range j).map (Mt.own ms.length))) ∧ us.length = j ∧ Same H6 H') ⟨[], upd_same, .nil, rfl, same_new hD2⟩ ?_ ?_
      · rintro j H7 hj ⟨us, h3, hu, ul, s3⟩
        refine ⟨rfl, _, rfl, a, _, rfl, .inr (sqT_same s3 ha), _, rfl, by rw [List.length_map]; omega, by rw [List.length_map]; omega, fun D3 hD3 => ?_⟩
        rw [List.length_map]
        refine lc_range (lo := 0) (n := ((ms.length : Nat) : Int).toNat) (fun i H' => H' D3 = some (.lst ((Mt.own i j).map nV)) ∧ Same H7 H') ⟨upd_same, same_new hD3⟩ ?_ ?_
        · rintro i2 H8 hi2 ⟨h4, s4⟩
          refine ⟨rfl, _, rfl, _, rfl, rfl, _, rfl, ?_⟩
          refine ite2 (fun hne => ?_) (fun hne => ?_)
          · have ne : i2 ≠ j := fun e => by subst e; rw [decide_eq_true rfl] at hne; cases hne
            refine ⟨_, rfl, _, h4, by rw [List.length_map, sizeLine_eq]; have := own_len i2 j; omega, ?_, same_mut s4 hD3⟩
            rw [upd_same, own_snoc, if_neg ne, List.map_append]
            exact congrArg (fun v => some (HO.lst ((Mt.own i2 j).map nV ++ [v]))) (congrArg V.int (by omega))
          · have eq : i2 = j := Classical.byContradiction fun z => hne (by rw [decide_eq_false (fun q => z (by injection q with q; omega))]; rfl)
            refine ⟨?_, s4⟩
            rw [own_snoc, if_pos eq, List.append_nil]
            exact h4
        · rintro H8 ⟨h4, s4⟩
          rw [Int.toNat_natCast] at h4
          refine ⟨D3, _, rfl, .inl ⟨SqL.of h4, fun u hu2 => ?_⟩⟩
          have su := same_new (o := .tup ((Mt.own ms.length j).map nV)) hu2
          have s4u := s4.trans su
          refine ⟨us, s4u _ _ h3, by rw [ul, sizeLine_eq]; omega, _, upd_same, ?_, by rw [List.length_append, ul]; rfl, same_mut (s3.trans s4u) hD2⟩
          have er : rowsN ((List.range (j + 1)).map (Mt.own ms.length)) = rowsN ((List.range j).map (Mt.own ms.length)) ++ [(Mt.own ms.length j).map fun (t : Nat) => (t : Int)] := by
            unfold rowsN
            rw [List.range_succ, List.map_append, List.map_append]
            rfl
          rw [er]
          have hq : SqT K (upd (upd H8 u (.tup ((Mt.own ms.length j).map nV))) D2 (.lst (us ++ [V.ref u]))) u (((Mt.own ms.length j).map fun (t : Nat) => (t : Int)).map V.int) := by
            rw [nV_map]
            have nu : u ≠ D2 := fun e => by rw [e] at hu2; rw [s4 _ _ h3] at hu2; cases hu2
            exact SqT.of (by rw [upd_ne nu]; exact upd_same)
          refine RowsT.snoc hq ?_
          exact (hu.same s4u).put (s4u _ _ h3)
      rintro H7 ⟨us, h3, hu, ul, s3⟩
      rw [Int.toNat_natCast] at hu ul
      refine ⟨D2, us, rfl, .inl ⟨SqL.of h3, fun v hv => ?_⟩⟩
      have sv := same_new (o := .tup us) hv
      obtain ⟨H8, e8⟩ : ∃ H8, H8 = upd H7 v (.tup us) := ⟨_, rfl⟩
      have h8 : H8 v = some (.tup us) := by rw [e8]; exact upd_same
      rw [← e8] at sv ⊢
      have s68 := s3.trans sv
      have ha8 := sqT_same s68 ha
      obtain ⟨GT, FT, LT⟩ := tab6 s6
      refine ⟨_, rfl, _, rfl, _, rfl, a, a, v, ms, ms, us, ownR ms.length, rfl, ha8, ha8, SqT.of h8, hu.same sv, rl, by omega, by omega, by omega, by omega, fun vr H9 s9 hvr => ?_⟩
      refine ⟨vr, _, rfl, hvr, GT, FT, fun l ws HA sA fl hl hws => ?_⟩
      have wsl : ws.length = Mt.ways ms (pplK ms (ownR ms.length)) := hws.len.trans LT
      refine ⟨l, ws, rfl, .inl (SqL.of hl), ?_⟩
      show gName 5 (V.int ((ws.length : Nat) : Int)) _ HA _
      rw [wsl]
      have s6A := s68.trans (s9.trans sA)
      have TA := T6.keep s6A
      have haA := sqT_same s6A ha
      refine ⟨10, 30, rfl, rfl, ⟨by decide, by decide, by decide⟩, ?_⟩
      refine ⟨_, rfl, t, q, 1000, rfl, TA, by decide, by decide, fun d4 HB e0 e1 gB TB => ?_⟩
      refine ⟨_, _, rfl, rfl, by show 4 ≤ sizeLine; decide, fun o ho => ?_⟩
      have no := TB.free ho
      have TB' := TB.new (o := .lst [V.int 1, .int 2, .int (10 ^ (30 : Int).toNat), .int (1 + d4)]) ho
      refine ⟨_, rfl, t, q, 4, rfl, TB', by decide, by decide, fun j HC j0 j5 gC TC => ?_⟩
      have hoC : HC o = some (.lst [V.int 1, .int 2, .int (10 ^ (30 : Int).toNat), .int (1 + d4)]) := gC _ _ no.1 no.2 upd_same
      obtain ⟨m, hat, mr⟩ : ∃ m : Nat, atI [V.int 1, .int 2, .int (10 ^ (30 : Int).toNat), .int (1 + d4)] j = some (nV m) ∧ 1 ≤ m ∧ m ≤ 1000000000000000000000000000000 := by
        have hj : j = 0 ∨ j = 1 ∨ j = 2 ∨ j = 3 := by omega
        rcases hj with rfl | rfl | rfl | rfl
        · exact ⟨1, rfl, by decide, by decide⟩
        · exact ⟨2, rfl, by decide, by decide⟩
        · have e : (10 : Int) ^ (30 : Int).toNat = ((1000000000000000000000000000000 : Nat) : Int) := by decide +kernel
          exact ⟨1000000000000000000000000000000, congrArg (fun z => some (V.int z)) e, by decide, by decide⟩
        · exact ⟨(1 + d4).toNat, congrArg (fun z => some (V.int z)) (show 1 + d4 = (((1 + d4).toNat : Nat) : Int) by omega), by omega, by omega⟩
      refine ⟨o, _, _, nV m, rfl, rfl, SqL.of hoC, hat, ?_⟩
      have gAC : Gs t q HA HC := (gB.trans (Gs.new ho)).trans gC
      have haC := gs_T gAC TA haA
      refine ⟨_, rfl, _, rfl, ?_⟩
      delta tNil
      refine said_ok (C := C) haC n1 n8 (fun n hn => (nb n hn).1) (by omega) mr.1 mr.2 fun HD sD => ?_
      refine ⟨_, rfl, _, rfl, .inl ⟨_, rfl, _, rfl, _, _, rfl, rfl, by omega, .int _, .int _, .int _, .int _, rfl, rfl, _, rfl, ?_⟩⟩
      rw [← ways_own2, eqv_self rfl]
      refine ite2 (fun n => by cases n) (fun _ => ?_)
      refine ⟨_, rfl, _, .ty "bool", .type "int", .type "bool", false, rfl, .ty "bool", .base (.int _), kit_ty (by decide +kernel), false, rfl, ?_⟩
      refine ite2 (fun n => by cases n) (fun _ => ?_)
      exact ⟨⟨_, _, _, _, _, _, rfl⟩, TC.keep sD⟩
    · rintro σ' H3 ⟨⟨x2, x3, x4, x5, x6, x7, rfl⟩, T3⟩
      refine ⟨fun σ' H' => (∃ x2 x3 x4 x5 x6 x7, σ' = [some (.ref sa), some (.ref t), x2, x3, x4, x5, x6, x7, none, none, none, none]) ∧ Po H' t q, ?_, ?_⟩
      · refine ⟨_, rfl, t, q, 4, rfl, T3, by decide, by decide, fun d H4 a0 a1 g1 T4 => ⟨rfl, _, rfl, ?_⟩⟩
        refine ite2 (fun _ => ?_) (fun _ => ?_)
        · refine ⟨_, rfl, _, rfl, 10, 30, rfl, rfl, ⟨by decide, by decide, by decide⟩, t, q, 1000000000000000000000000000000, rfl, T4, by decide, by decide, fun e H5 q0 q1 g5 T5 => ⟨_, _, rfl, rfl, ?_⟩⟩
          refine ⟨t, q, (1 + e).toNat, congrArg (fun v => [V.ref t, V.int v]) (by omega), T5, by omega, by omega, fun H6 g6 T6 => ⟨_, rfl, ?_⟩⟩
          exact ite2 (fun n => by cases n) (fun _ => ⟨⟨_, _, _, _, _, _, rfl⟩, T6⟩)
        · exact ite2 (fun n => by cases n) (fun _ => ⟨⟨_, _, _, _, _, _, rfl⟩, T4⟩)
      rintro _ H4 ⟨⟨x2, x3, x4, x5, x6, x7, rfl⟩, T4⟩
      clear T1 T2 T3 hS
      refine ⟨1, rfl, 10, 30, rfl, rfl, ⟨by decide, by decide, by decide⟩, _, _, rfl, rfl, ?_⟩
      refine ⟨by show 1 ≤ sizeLine; decide, fun c7 hc7 => ?_⟩
      refine ⟨rfl, fun dp dr Hd sd hd hr' => ?_⟩
      refine ⟨by show 8 ≤ sizeLine; decide, fun o ho => ?_⟩
      have s1' := same_new (o := .tup [V.int 7]) hc7
      have so := same_new (o := .lst [V.int 0, .int (-1), .int (10 ^ (30 : Int).toNat + 1), .non, .bl true, .str "7", .ref c7, .ref dp]) ho
      have s2 := (s1'.trans sd).trans so
      have no := (T4.keep (s1'.trans sd)).free ho
      have T5 := T4.keep s2
      have t7 : upd Hd o (.lst [V.int 0, .int (-1), .int (10 ^ (30 : Int).toNat + 1), .non, .bl true, .str "7", .ref c7, .ref dp]) c7 = some (.tup [V.int 7]) := so _ _ (sd _ _ upd_same)
      have td := so _ _ hd
      refine ⟨_, rfl, t, q, 8, rfl, T5, by decide, by decide, fun j H6 j0 j8 g6 T6 => ?_⟩
      have ho6 : H6 o = some (.lst [V.int 0, .int (-1), .int (10 ^ (30 : Int).toNat + 1), .non, .bl true, .str "7", .ref c7, .ref dp]) := g6 _ _ no.1 no.2 upd_same
      have t76 : H6 c7 = some (.tup [V.int 7]) := g6.at T5 t7 (fun _ z => by cases z)
      have td6 : H6 dp = some (.tup [V.ref dr]) := g6.at T5 td (fun _ z => by cases z)
      obtain ⟨y, hat, hy, hc⟩ : ∃ y, atI [V.int 0, .int (-1), .int (10 ^ (30 : Int).toNat + 1), .non, .bl true, .str "7", .ref c7, .ref dp] j = some y ∧ Th K C H6 y ∧ cntV 1 y = false := by
        have hj : j = 0 ∨ j = 1 ∨ j = 2 ∨ j = 3 ∨ j = 4 ∨ j = 5 ∨ j = 6 ∨ j = 7 := by omega
        rcases hj with rfl | rfl | rfl | rfl | rfl | rfl | rfl | rfl
        · exact ⟨_, rfl, th_int, rfl⟩
        · exact ⟨_, rfl, th_int, rfl⟩
        · exact ⟨_, rfl, th_int, by decide +kernel⟩
        · exact ⟨_, rfl, ⟨_, .base .non, fun _ e => nomatch e⟩, rfl⟩
        · exact ⟨_, rfl, ⟨_, .base (.bl true), fun _ e => nomatch e⟩, rfl⟩
        · exact ⟨_, rfl, ⟨_, .base (.str _), fun _ e => nomatch e⟩, rfl⟩
        · exact ⟨_, rfl, ⟨_, .base (.tup t76), fun _ e => nomatch e⟩, rfl⟩
        · exact ⟨_, rfl, ⟨_, .base (.tup td6), fun _ e => nomatch e⟩, rfl⟩
      refine ⟨o, _, _, y, rfl, rfl, SqL.of ho6, hat, ?_⟩
      clear hat td6 t76 ho6 t7 td so s1' sd hd hr'
      refine ⟨by show 0 ≤ sizeLine; decide, fun w1 hw1 => ?_⟩
      refine ⟨by show 2 ≤ sizeLine; decide, fun w2 hw2 => ?_⟩
      refine ⟨by show 2 ≤ sizeLine; decide, fun w3 hw3 => ?_⟩
      refine ⟨by show 2 ≤ sizeLine; decide, fun w4 hw4 => ?_⟩
      refine ⟨by show 1 ≤ sizeLine; decide, fun w5 hw5 => ?_⟩
      have e1 := same_new (o := .tup []) hw1
      have e2 := same_new (o := .lst [V.int 1, V.int 1]) hw2
      have e3 := same_new (o := .tup [V.int 0, V.int 1]) hw3
      have e4 := same_new (o := .tup [V.bl true, V.int 1]) hw4
      have e5 := same_new (o := .tup [V.int 1]) hw5
      refine ⟨w5, 9, [V.int 1], rfl, rfl, SqT.of upd_same, by simp, by decide, by decide, by decide, fun w6 Hw sw hw6 => ?_⟩
      refine ⟨rfl, fun dp2 dr2 Hd2 sd2 hd2 hr2 => ?_⟩
      refine ⟨by show 9 ≤ sizeLine; decide, fun o2 ho2 => ?_⟩
      have so2 := same_new (o := .lst [V.non, .ref w1, .ref w2, .ref w3, .ref w4, .ref w6, .int 0, .str "11", .ref dp2]) ho2
      have sW := ((((e1.trans e2).trans e3).trans e4).trans e5).trans (sw.trans (sd2.trans so2))
      have f1 := ((((e2.trans e3).trans e4).trans e5).trans (sw.trans (sd2.trans so2))) _ _ upd_same
      have f2 := (((e3.trans e4).trans e5).trans (sw.trans (sd2.trans so2))) _ _ upd_same
      have f3 := ((e4.trans e5).trans (sw.trans (sd2.trans so2))) _ _ upd_same
      have f4 := (e5.trans (sw.trans (sd2.trans so2))) _ _ upd_same
      have f6 := sqT_same (sd2.trans so2) hw6
      have fd2 := so2 _ _ hd2
      have fr2 := tyX_same so2 hr2
      have T7 := T6.keep sW
      have no2 := (T6.keep (((((e1.trans e2).trans e3).trans e4).trans e5).trans (sw.trans sd2))).free ho2
      have nw2 := (T6.keep e1).free hw2
      obtain ⟨H7, e7⟩ : ∃ H7, H7 = upd Hd2 o2 (.lst [V.non, .ref w1, .ref w2, .ref w3, .ref w4, .ref w6, .int 0, .str "11", .ref dp2]) := ⟨_, rfl⟩
      have fo2 : H7 o2 = some (.lst [V.non, .ref w1, .ref w2, .ref w3, .ref w4, .ref w6, .int 0, .str "11", .ref dp2]) := by rw [e7]; exact upd_same
      rw [← e7] at sW f1 f2 f3 f4 f6 fd2 fr2 T7 ⊢
      refine ⟨_, rfl, t, q, 9, rfl, T7, by decide, by decide, fun j2 H8 j20 j29 g8 T8 => ?_⟩
      have fo8 := g8 _ _ no2.1 no2.2 fo2
      have h1 := g8.at T7 f1 (fun _ z => by cases z)
      have h2 := g8 _ _ nw2.1 nw2.2 f2
      have h3 := g8.at T7 f3 (fun _ z => by cases z)
      have h4 := g8.at T7 f4 (fun _ z => by cases z)
      have h6 := gs_T g8 T7 f6
      have hd8 := g8.at T7 fd2 (fun _ z => by cases z)
      have hr8 := tyX_gsK g8 T7 T8 fr2
      have hy8 : Th K C H8 y := by
        obtain ⟨ty, a1, a2⟩ := hy
        exact ⟨ty, tyX_gsK g8 T7 T8 (tyX_same sW a1), a2⟩
      obtain ⟨x, ox, hat, hx, hcx⟩ : ∃ x ox, atI [V.non, .ref w1, .ref w2, .ref w3, .ref w4, .ref w6, .int 0, .str "11", .ref dp2] j2 = some x ∧ Tg K C H8 x ox ∧ sizesO 1 ox = false := by
        have hj : j2 = 0 ∨ j2 = 1 ∨ j2 = 2 ∨ j2 = 3 ∨ j2 = 4 ∨ j2 = 5 ∨ j2 = 6 ∨ j2 = 7 ∨ j2 = 8 := by omega
        rcases hj with rfl | rfl | rfl | rfl | rfl | rfl | rfl | rfl | rfl
        · exact ⟨_, none, rfl, .no (.base .non) (kit_ty (by decide +kernel)), rfl⟩
        · exact ⟨_, some [], rfl, .tup (SqT.of h1) (fun y hy => (by cases hy)) (by decide), rfl⟩
        · exact ⟨_, none, rfl, .no (.base (.lst h2)) (kit_ty (by decide +kernel)), rfl⟩
        · refine ⟨_, some [V.int 0, V.int 1], rfl, .tup (SqT.of h3) (fun y hy => ?_) (by decide), by decide +kernel⟩
          rcases List.mem_cons.mp hy with rfl | hy
          · exact th_int
          · rw [List.mem_singleton.mp hy]; exact th_int
        · refine ⟨_, some [V.bl true, V.int 1], rfl, .tup (SqT.of h4) (fun y hy => ?_) (by decide), by decide +kernel⟩
          rcases List.mem_cons.mp hy with rfl | hy
          · exact ⟨_, .base (.bl true), fun _ e => nomatch e⟩
          · rw [List.mem_singleton.mp hy]; exact th_int
        · refine ⟨_, some (List.replicate (9 : Int).toNat [V.int 1]).flatten, rfl, .tup h6 (fun y hy => ?_) (by decide), by decide +kernel⟩
          obtain ⟨u, hu, hy⟩ := List.mem_flatten.mp hy
          rw [(List.mem_replicate.mp hu).2] at hy
          rw [List.mem_singleton.mp hy]
          exact th_int
        · exact ⟨_, none, rfl, .no (.base (.int 0)) (kit_ty (by decide +kernel)), rfl⟩
        · exact ⟨_, none, rfl, .no (.base (.str _)) (kit_ty (by decide +kernel)), rfl⟩
        · refine ⟨_, some [V.ref dr2], rfl, .tup (SqT.of hd8) (fun y hy => ?_) (by show 1 ≤ 100000; decide), rfl⟩
          rw [List.mem_singleton.mp hy]
          exact ⟨_, hr8, fun _ e => nomatch e⟩
      refine ⟨o2, _, _, x, rfl, rfl, SqL.of fo8, hat, ?_⟩
      clear hat h1 h2 h3 h4 h6 hd8 hr8 fo8 f1 f2 f3 f4 f6 fd2 fr2 e1 e2 e3 e4 e5 sw sd2 so2
      refine ⟨fun σ' H' => (∃ x2 x3 x4 x5 x6 x7 x8 x9, σ' = [some (.ref sa), some (.ref t), x2, x3, x4, x5, x6, x7, x8, x9, none, none]), ?_, ?_⟩
      · refine ⟨_, rfl, _, rfl, ?_⟩
        delta tNil
        refine ⟨x, y, ox, rfl, hx, hy8, .inl ⟨hcx, fun H9 s9 => ⟨.str "sizes", .str "sizes", .str _, .str _, by decide +kernel, by decide +kernel, _, rfl, ?_⟩⟩⟩
        rw [eqv_self (by decide +kernel)]
        refine ite2 (fun n => by cases n) (fun _ => ?_)
        refine ⟨by show 2 ≤ sizeLine; decide, fun z hz => ?_⟩
        have sz := same_new (o := .tup [V.int 300, V.int 200]) hz
        refine ⟨_, rfl, .ref z, y, some ([300, 200].map nV), rfl, tg_nats (SqT.of upd_same) (by decide), hy8.same (s9.trans sz), .inr ⟨z, [300, 200], rfl, SqT.of upd_same, rfl, by decide +kernel, .inl ⟨hc, fun H10 s10 => ⟨.str "number", .str "number", .str _, .str _, by decide +kernel, by decide +kernel, _, rfl, ?_⟩⟩⟩⟩
        rw [eqv_self (by decide +kernel)]
        exact ite2 (fun n => by cases n) (fun _ => ⟨_, _, _, _, _, _, _, _, rfl⟩)
      rintro _ H9 ⟨x2, x3, x4, x5, x6, x7, x8, x9, rfl⟩
      refine ⟨by show 2 ≤ sizeLine; decide, fun z hz => ?_⟩
      refine ⟨.ref z, nV 7, some ([201, 200].map nV), rfl, tg_nats (SqT.of upd_same) (by decide), th_int, .inr ⟨z, [201, 200], rfl, SqT.of upd_same, rfl, by decide +kernel, .inr ⟨7, rfl, by decide +kernel, .inl ⟨by decide, fun am HA sA hm => ?_⟩⟩⟩⟩
      refine ⟨by show 2 ≤ sizeLine; decide, fun mw hw => ?_⟩
      have sw := same_new (o := .tup [V.str "many", .int 400]) hw
      refine ⟨.tuple [.str "many", .int 400], .tuple [.str "many", .int 400], .tup (sqT_same sw hm) (.cons (.str _) (.cons (.int _) .nil)), .tup (SqT.of upd_same) (.cons (.str _) (.cons (.int _) .nil)), by decide +kernel, by decide +kernel, _, rfl, ?_⟩
      rw [eqv_self (by decide +kernel)]
      refine ite2 (fun _ => ?_) (fun n => absurd rfl n)
      refine ⟨by show 1 ≤ sizeLine; decide, fun u hu => ?_⟩
      refine ⟨.ref u, nV 7, some ([5].map nV), rfl, tg_nats (SqT.of upd_same) (by decide), th_int, .inr ⟨u, [5], rfl, SqT.of upd_same, rfl, by decide +kernel, .inr ⟨7, rfl, by decide +kernel, .inr ⟨by decide, fun HB sB => ?_⟩⟩⟩⟩
      refine ⟨.int _, .int _, .int _, .int _, rfl, rfl, ?_⟩
      have e5 : Mt.Lp [5].sum (Mt.RK [5] [5]) = 0 := Mt.Lp_most (S := []) (by decide)
      rw [e5]
      exact k HB
theorem compose {fa fI fE : Addr} {fd fdI fdE : FuncData} {tkhMK tkhMA tkhMF tkhMM tkhMC tkhMS : Tok} {DE : Addr} {D_BadKinds D_TooMany D_NoSizes D_NoNumber : Addr} {f_BadKinds f_TooMany f_NoSizes f_NoNumber : Addr} {fd_BadKinds fd_TooMany fd_NoSizes fd_NoNumber : FuncData} (T : Tx mg) (kc : KC K C) (Tsum : mg "sum" = none) (Tabs : mg "abs" = none) (hC : mg "Kinds" = some (.ref C)) (hMK : mg "MOST_KINDS" = some (.int 8 tkhMK)) (hMA : mg "MOST_OF_A_KIND" = some (.int 1000000000000000000000000000000 tkhMA)) (hMF : mg "MOST_IN_FAMILIES" = some (.int 400 tkhMF)) (hMM : mg "MOST_MODULUS" = some (.int 1000000000000000000000000000000 tkhMM)) (hMC : mg "MOST_COUNTED" = some (.int 60 tkhMC)) (hMS : mg "MOST_STATES" = some (.int 5000 tkhMS)) (hfact : mg "factorial" = some (.builtin "math.factorial")) (hcomb : mg "comb" = some (.builtin "math.comb")) (EK : ErK K mg DE [("NoSizes", D_NoSizes), ("NoNumber", D_NoNumber), ("TooMany", D_TooMany)]) (EX : ErX K [("NoSizes", D_NoSizes), ("NoNumber", D_NoNumber), ("TooMany", D_TooMany)]) (o_BadKinds : OexC K D_BadKinds) (g_BadKinds : mg "BadKinds" = some (.ref D_BadKinds)) (j_BadKinds : PySem.W.findIn K (.ref D_BadKinds) "__init__" = some (some (.ref f_BadKinds))) (y_BadKinds : PySem.W.typeIn K (.ref f_BadKinds) = some (.type "function")) (F_BadKinds : Fun K "__init__" "BadKinds.__init__" s_BadKinds___init f_BadKinds fd_BadKinds) (n_BadKinds : PySem.W.findIn K (.ref D_BadKinds) "part" = some none) (x_BadKinds : XfC K D_BadKinds) (o_TooMany : OexC K D_TooMany) (g_TooMany : mg "TooMany" = some (.ref D_TooMany)) (j_TooMany : PySem.W.findIn K (.ref D_TooMany) "__init__" = some (some (.ref f_TooMany))) (y_TooMany : PySem.W.typeIn K (.ref f_TooMany) = some (.type "function")) (F_TooMany : Fun K "__init__" "TooMany.__init__" s_TooMany___init f_TooMany fd_TooMany) (n_TooMany : PySem.W.findIn K (.ref D_TooMany) "most" = some none) (x_TooMany : XfC K D_TooMany) (o_NoSizes : OexC K D_NoSizes) (g_NoSizes : mg "NoSizes" = some (.ref D_NoSizes)) (j_NoSizes : PySem.W.findIn K (.ref D_NoSizes) "__init__" = some (some (.ref f_NoSizes))) (y_NoSizes : PySem.W.typeIn K (.ref f_NoSizes) = some (.type "function")) (F_NoSizes : Fun K "__init__" "NoSizes.__init__" s_NoSizes___init f_NoSizes fd_NoSizes) (o_NoNumber : OexC K D_NoNumber) (g_NoNumber : mg "NoNumber" = some (.ref D_NoNumber)) (j_NoNumber : PySem.W.findIn K (.ref D_NoNumber) "__init__" = some (some (.ref f_NoNumber))) (y_NoNumber : PySem.W.typeIn K (.ref f_NoNumber) = some (.type "function")) (F_NoNumber : Fun K "__init__" "NoNumber.__init__" s_NoNumber___init f_NoNumber fd_NoNumber) (mI : Mk K C fI) (FI : Fun K "__init__" "Kinds.__init__" s_Kinds___init fI fdI)
    (qe : PySem.W.findIn K (.ref C) "__eq__" = some (some (.ref fE))) (ie : PySem.W.isFn K (.ref fE) = true) (FE : Fun K "__eq__" "Kinds.__eq__" s_Kinds___eq fE fdE)
    
    (A_is_integer : At K mg "is_integer" s_is_integer ["thing"]) (A_are_sizes : At K mg "_are_sizes" s_are_sizes ["least", "thing"]) (A_is_number : At K mg "is_number" s_is_number ["bound", "thing"]) (A_is_numbers : At K mg "is_numbers" s_is_numbers ["bound", "thing"]) (A_is_ascending : At K mg "is_ascending" s_is_ascending ["bound", "thing"]) (A_check_kinds : At K mg "_check_kinds" s_check_kinds ["people", "things", "allowed"]) (A_law_pool : At K mg "_law_pool" s_law_pool ["script"]) (A_law_draw : At K mg "_law_draw" s_law_draw ["pool", "many"]) (A_check_sizes : At K mg "_check_sizes" s_check_sizes ["sizes"]) (A_check_modulus : At K mg "_check_modulus" s_check_modulus ["modulus"]) (A_ways_to_fix : At K mg "_ways_to_fix" s_ways_to_fix ["sizes"]) (A_families_many : At K mg "families_many" s_families_many ["sizes", "modulus"]) (A_law_said : At K mg "_law_said" s_law_said ["sizes", "modulus"]) (A_law_mixed : At K mg "_law_mixed" s_law_mixed ["pool", "things"]) (A_law_orders : At K mg "_law_orders" s_law_orders ["many", "modulus"]) (A_law_half_right : At K mg "_law_half_right" s_law_half_right ["pool", "modulus"]) (A_law_by_signs : At K mg "_law_by_signs" s_law_by_signs ["sizes"]) (A_families : At K mg "families" s_families ["sizes"]) (A_ways_behind : At K mg "_ways_behind" s_ways_behind ["ways", "row", "modulus"]) (A_kinds_many : At K mg "kinds_many" s_kinds_many ["kinds", "modulus"]) (A_law_many_right : At K mg "_law_many_right" s_law_many_right ["pool"]) (A_law_wide : At K mg "_law_wide" s_law_wide ["numbers"]) (A_law_kind_rows : At K mg "_law_kind_rows" s_law_kind_rows ["people", "things", "allowed"]) (A_law_all : At K mg "_law_all" s_law_all ["rows"]) (A_law_deep : At K mg "_law_deep" s_law_deep [])
    (F : Fun K "law" "law" s_law fa fd) : FnOk P w K mg base CX0 10 fa fd ["script"] (spLaw K) := by
  have tc : TC K C := kc.tc
  have e_BadKinds : Er1 P w K mg base "BadKinds" "part" D_BadKinds := ⟨o_BadKinds, g_BadKinds, f_BadKinds, fd_BadKinds, j_BadKinds, y_BadKinds, fld_BadKinds F_BadKinds o_BadKinds n_BadKinds, F_BadKinds.binds fun _ _ _ _ _ _ us hl => match us, hl with | [_, _], _ => rfl⟩
  have e_TooMany : Er1 P w K mg base "TooMany" "most" D_TooMany := ⟨o_TooMany, g_TooMany, f_TooMany, fd_TooMany, j_TooMany, y_TooMany, ok_tminit F_TooMany o_TooMany n_TooMany, F_TooMany.binds fun _ _ _ _ _ _ us hl => match us, hl with | [_, _], _ => rfl⟩
  have e_NoSizes : Er0 P w K mg base "NoSizes" D_NoSizes := ⟨o_NoSizes, g_NoSizes, f_NoSizes, fd_NoSizes, j_NoSizes, y_NoSizes, pass_NoSizes F_NoSizes, F_NoSizes.binds fun _ _ _ _ _ _ us hl => match us, hl with | [_], _ => rfl⟩
  have e_NoNumber : Er0 P w K mg base "NoNumber" D_NoNumber := ⟨o_NoNumber, g_NoNumber, f_NoNumber, fd_NoNumber, j_NoNumber, y_NoNumber, pass_NoNumber F_NoNumber, F_NoNumber.binds fun _ _ _ _ _ _ us hl => match us, hl with | [_], _ => rfl⟩
  have R_is_integer : Dfn P w K mg base _ _ 1 (spInteger K C) := ok_is_integer A_is_integer T tc
  have R_are_sizes : Dfn P w K mg base _ _ 2 (spSizes K C) := ok_are_sizes A_are_sizes T hMK hMA R_is_integer
  have R_is_number : Dfn P w K mg base _ _ 2 (spNumber K C) := ok_is_number A_is_number T R_is_integer
  have R_is_numbers : Dfn P w K mg base _ _ 3 (spNumbers K C) := ok_is_numbers A_is_numbers T R_is_number
  have R_is_ascending : Dfn P w K mg base _ _ 4 (spAsc K C) := ok_is_ascending A_is_ascending T R_is_numbers
  have RX_check_kinds : DfnX P w K mg base _ _ 5 (spCheckK K C D_BadKinds) := ok_check_kinds A_check_kinds T Tsum e_BadKinds R_are_sizes R_is_ascending
  have GK : MkK P w K mg base C D_BadKinds := ⟨hC, kc, ⟨fI, fdI, mI, ok_initK FI T kc RX_check_kinds, FI.binds fun _ _ _ _ _ _ us hl => match us, hl with | [_, _, _, _], _ => rfl⟩, ⟨fE, fdE, ok_eqK FE T kc hC, FE.binds fun _ _ _ _ _ _ us hl => match us, hl with | [_, _], _ => rfl, qe, ie⟩⟩
  have R_law_pool : Dfn P w K mg base _ _ 1 (spPool K) := ok_pool A_law_pool T Tsum Tabs
  have R_law_draw : Dfn P w K mg base _ _ 1 (spDraw) := ok_draw A_law_draw T
  have RN_law_draw : Dfn P w K mg base _ _ 1 (spDrawW) := ok_drawW A_law_draw T
  have RX_check_sizes : DfnX P w K mg base _ _ 3 (spCkSz K C D_NoSizes) := ok_cksz A_check_sizes e_NoSizes R_are_sizes
  have RX_check_modulus : DfnX P w K mg base _ _ 3 (spModX K C D_NoNumber) := ok_modX A_check_modulus hMM e_NoNumber R_is_integer
  have R_ways_to_fix : Dfn P w K mg base _ _ 1 (spFix K) := ok_fix A_ways_to_fix T hcomb hfact
  have RX_families_many : DfnX P w K mg base _ _ 4 (spFamX K C D_NoSizes D_NoNumber D_TooMany) := ok_famX A_families_many T Tsum hfact hMF e_TooMany RX_check_sizes RX_check_modulus R_ways_to_fix
  have R_law_said : Dfn P w K mg base _ _ 5 (spSaidF K C) := ok_saidF A_law_said T EK EX x_TooMany n_TooMany RX_families_many
  have R_law_mixed : Dfn P w K mg base _ _ 2 (spMixed K) := ok_mixed A_law_mixed T R_law_draw
  have R_law_orders : Dfn P w K mg base _ _ 1 (spOrdM) := ok_ordM A_law_orders T
  have R_law_half_right : Dfn P w K mg base _ _ 6 (spHalf) := ok_half A_law_half_right T Tsum R_law_draw R_law_mixed R_law_orders R_law_said
  have R_law_by_signs : Dfn P w K mg base _ _ 1 (spSigns K) := ok_signs A_law_by_signs T
  have R_families : Dfn P w K mg base _ _ 8 (spFams K C) := ok_fams A_families T kc GK RX_check_sizes
  have R_ways_behind : Dfn P w K mg base _ _ 1 (spWaysK K) := ok_waysK A_ways_behind T
  have RX_kinds_many : DfnX P w K mg base _ _ 4 (spManyX K C D_NoNumber D_TooMany) := ok_manyX A_kinds_many T kc Tsum hMC hMS e_TooMany RX_check_modulus R_ways_behind
  have R_law_many_right : Dfn P w K mg base _ _ 9 (spManyR) := ok_manyR A_law_many_right T R_law_draw RN_law_draw R_law_said R_law_by_signs R_families RX_kinds_many
  have R_law_wide : Dfn P w K mg base _ _ 1 (spWideK K) := ok_wideK A_law_wide T
  have R_law_kind_rows : Dfn P w K mg base _ _ 2 (spKRows K) := ok_krows A_law_kind_rows T R_law_wide
  have R_law_all : Dfn P w K mg base _ _ 1 (spAllG K) := ok_allG A_law_all T
  have RN_law_deep : Dfn P w K mg base _ _ 1 (spDeepT2 K) := ok_deepT2 A_law_deep T
  exact ok_law F T tc Tsum R_law_pool R_law_draw RN_law_draw R_law_said R_law_half_right R_law_many_right R_law_kind_rows R_law_all RN_law_deep
end
end Fo
set_option maxRecDepth 100000
set_option maxHeartbeats 4000000
namespace Fo
open PySem PySem.Spec PyProof.Rows L2
theorem kit_own {K : PySem.W.Frag} {C : Addr} {T : String} {b : Bool} (hm : PySem.W.kitMeta T = true) (h : PySem.W.mroIn K C (.type T) = some b) : PySem.W.kitOne K (.ref C) (.type T) = some b := by
  have e : (Value.ref C == Value.type T) = false := by
    rw [beq_eq_false_iff_ne]
    intro q
    cases q
  show (if (Value.ref C == Value.type T) = true then some true else if PySem.W.kitMeta T = true then PySem.W.mroIn K C (.type T) else none) = some b
  rw [e, if_neg (by decide), if_pos hm, h]
theorem at_mk {K : PySem.W.Frag} {h : Heap} {mg : Str → Option Value} (X : K.In h) (G : h.Ns mainGlobals mg) {x : Str} {st : Stmt} {ps : List Str} {f : Addr} {oc : Value} {od an : Option Addr} {sl : Array (Option Value)} {kV dc pm cd ct : Value}
    (a : PySem.W.nsIn K mainGlobals x = some (some (.ref f))) (l : K.lookup f = some ⟨oc, od, .func (PySem.W.fnOf x x (defArgs st) (defBody st) (defScope st) .none kV dc pm an cd ct), sl⟩) (c : PySem.W.codeIn K cd x = true) (k : PySem.W.keepIn K (.ref f) = true)
    (b : ∀ (kV doc pm : Value) (an : Option Addr) (cdv ct : Value) (us : List Value), us.length = ps.length → bindArgs (PySem.W.fnOf x x (defArgs st) (defBody st) (defScope st) Value.none kV doc pm an cdv ct) { pos := us } = pure (ps.zip us)) : At K mg x st ps :=
  ⟨f, _, PySem.W.mg_of X G a, fun_mk (st := st) l c k, (fun_mk (st := st) l c k).binds b⟩
theorem all_mk {l : PySem.W.OpenLaw} {w : World} {K : PySem.W.Frag} {h : Heap} {mg : Str → Option Value} {fa C : Addr} { tkhMK tkhMA tkhMF tkhMM tkhMC tkhMS : Tok} (X : K.In h) (G : h.Ns mainGlobals mg) (hfa : mg "law" = some (.ref fa))
    {f1 : Addr} {od1 an1 : Option Addr} {sl1 : Array (Option Value)} {oc1 kV1 dc1 pm1 cd1 ct1 : Value}
    {f2 : Addr} {od2 an2 : Option Addr} {sl2 : Array (Option Value)} {oc2 kV2 dc2 pm2 cd2 ct2 : Value}
    {f3 : Addr} {od3 an3 : Option Addr} {sl3 : Array (Option Value)} {oc3 kV3 dc3 pm3 cd3 ct3 : Value}
    {f4 : Addr} {od4 an4 : Option Addr} {sl4 : Array (Option Value)} {oc4 kV4 dc4 pm4 cd4 ct4 : Value}
    {f5 : Addr} {od5 an5 : Option Addr} {sl5 : Array (Option Value)} {oc5 kV5 dc5 pm5 cd5 ct5 : Value}
    {f6 : Addr} {od6 an6 : Option Addr} {sl6 : Array (Option Value)} {oc6 kV6 dc6 pm6 cd6 ct6 : Value}
    {f7 : Addr} {od7 an7 : Option Addr} {sl7 : Array (Option Value)} {oc7 kV7 dc7 pm7 cd7 ct7 : Value}
    {f8 : Addr} {od8 an8 : Option Addr} {sl8 : Array (Option Value)} {oc8 kV8 dc8 pm8 cd8 ct8 : Value}
    {f9 : Addr} {od9 an9 : Option Addr} {sl9 : Array (Option Value)} {oc9 kV9 dc9 pm9 cd9 ct9 : Value}
    {f10 : Addr} {od10 an10 : Option Addr} {sl10 : Array (Option Value)} {oc10 kV10 dc10 pm10 cd10 ct10 : Value}
    {f11 : Addr} {od11 an11 : Option Addr} {sl11 : Array (Option Value)} {oc11 kV11 dc11 pm11 cd11 ct11 : Value}
    {f12 : Addr} {od12 an12 : Option Addr} {sl12 : Array (Option Value)} {oc12 kV12 dc12 pm12 cd12 ct12 : Value}
    {f13 : Addr} {od13 an13 : Option Addr} {sl13 : Array (Option Value)} {oc13 kV13 dc13 pm13 cd13 ct13 : Value}
    {f14 : Addr} {od14 an14 : Option Addr} {sl14 : Array (Option Value)} {oc14 kV14 dc14 pm14 cd14 ct14 : Value}
    {f15 : Addr} {od15 an15 : Option Addr} {sl15 : Array (Option Value)} {oc15 kV15 dc15 pm15 cd15 ct15 : Value}
    {f16 : Addr} {od16 an16 : Option Addr} {sl16 : Array (Option Value)} {oc16 kV16 dc16 pm16 cd16 ct16 : Value}
    {f17 : Addr} {od17 an17 : Option Addr} {sl17 : Array (Option Value)} {oc17 kV17 dc17 pm17 cd17 ct17 : Value}
    {f18 : Addr} {od18 an18 : Option Addr} {sl18 : Array (Option Value)} {oc18 kV18 dc18 pm18 cd18 ct18 : Value}
    {f19 : Addr} {od19 an19 : Option Addr} {sl19 : Array (Option Value)} {oc19 kV19 dc19 pm19 cd19 ct19 : Value}
    {f20 : Addr} {od20 an20 : Option Addr} {sl20 : Array (Option Value)} {oc20 kV20 dc20 pm20 cd20 ct20 : Value}
    {f21 : Addr} {od21 an21 : Option Addr} {sl21 : Array (Option Value)} {oc21 kV21 dc21 pm21 cd21 ct21 : Value}
    {f22 : Addr} {od22 an22 : Option Addr} {sl22 : Array (Option Value)} {oc22 kV22 dc22 pm22 cd22 ct22 : Value}
    {f23 : Addr} {od23 an23 : Option Addr} {sl23 : Array (Option Value)} {oc23 kV23 dc23 pm23 cd23 ct23 : Value}
    {f24 : Addr} {od24 an24 : Option Addr} {sl24 : Array (Option Value)} {oc24 kV24 dc24 pm24 cd24 ct24 : Value}
    {f25 : Addr} {od25 an25 : Option Addr} {sl25 : Array (Option Value)} {oc25 kV25 dc25 pm25 cd25 ct25 : Value}
    {f26 : Addr} {od26 an26 : Option Addr} {sl26 : Array (Option Value)} {oc26 kV26 dc26 pm26 cd26 ct26 : Value}
    {f27 : Addr} {od27 an27 : Option Addr} {sl27 : Array (Option Value)} {oc27 kV27 dc27 pm27 cd27 ct27 : Value}
    {f28 : Addr} {od28 an28 : Option Addr} {sl28 : Array (Option Value)} {oc28 kV28 dc28 pm28 cd28 ct28 : Value}
    {DE : Addr}
    {B0 N0 : Addr} {nm0 q0 : Str} {bs0 : List Value} {sn0 : List Str} {sub0 : List Value} {ab0 : Bool} {col0 : Option Bool} {dd0 : Option Addr} {m00 m10 m20 m30 m50 : Option Value}
    {fX0 : Addr} {odX0 anX0 : Option Addr} {slX0 : Array (Option Value)} {ocX0 kVX0 dcX0 pmX0 cdX0 ctX0 : Value}
    {B1 N1 : Addr} {nm1 q1 : Str} {bs1 : List Value} {sn1 : List Str} {sub1 : List Value} {ab1 : Bool} {col1 : Option Bool} {dd1 : Option Addr} {m01 m11 m21 m31 m51 : Option Value}
    {fX1 : Addr} {odX1 anX1 : Option Addr} {slX1 : Array (Option Value)} {ocX1 kVX1 dcX1 pmX1 cdX1 ctX1 : Value}
    {B2 N2 : Addr} {nm2 q2 : Str} {bs2 : List Value} {sn2 : List Str} {sub2 : List Value} {ab2 : Bool} {col2 : Option Bool} {dd2 : Option Addr} {m02 m12 m22 m32 m52 : Option Value}
    {fX2 : Addr} {odX2 anX2 : Option Addr} {slX2 : Array (Option Value)} {ocX2 kVX2 dcX2 pmX2 cdX2 ctX2 : Value}
    {B3 N3 : Addr} {nm3 q3 : Str} {bs3 : List Value} {sn3 : List Str} {sub3 : List Value} {ab3 : Bool} {col3 : Option Bool} {dd3 : Option Addr} {m03 m13 m23 m33 m53 : Option Value}
    {fX3 : Addr} {odX3 anX3 : Option Addr} {slX3 : Array (Option Value)} {ocX3 kVX3 dcX3 pmX3 cdX3 ctX3 : Value}
    (aC : PySem.W.nsIn K mainGlobals "Kinds" = some (some (.ref C)))
    (aI : PySem.W.findIn K (.ref C) "__init__" = some (some (.ref f1)))
    (iI : PySem.W.isFn K (.ref f1) = true)
    (l1 : K.lookup f1 = some ⟨oc1, od1, .func (PySem.W.fnOf "__init__" "Kinds.__init__" (defArgs s_Kinds___init) (defBody s_Kinds___init) (defScope s_Kinds___init) .none kV1 dc1 pm1 an1 cd1 ct1), sl1⟩)
    (c1 : PySem.W.codeIn K cd1 "Kinds.__init__" = true)
    (k1 : PySem.W.keepIn K (.ref f1) = true)
    (aE : PySem.W.findIn K (.ref C) "__eq__" = some (some (.ref f2)))
    (iE : PySem.W.isFn K (.ref f2) = true)
    (l2 : K.lookup f2 = some ⟨oc2, od2, .func (PySem.W.fnOf "__eq__" "Kinds.__eq__" (defArgs s_Kinds___eq) (defBody s_Kinds___eq) (defScope s_Kinds___eq) .none kV2 dc2 pm2 an2 cd2 ct2), sl2⟩)
    (c2 : PySem.W.codeIn K cd2 "Kinds.__eq__" = true)
    (k2 : PySem.W.keepIn K (.ref f2) = true)
    (aL : PySem.W.nsIn K mainGlobals "law" = some (some (.ref f3)))
    (l3 : K.lookup f3 = some ⟨oc3, od3, .func (PySem.W.fnOf "law" "law" (defArgs s_law) (defBody s_law) (defScope s_law) .none kV3 dc3 pm3 an3 cd3 ct3), sl3⟩)
    (c3 : PySem.W.codeIn K cd3 "law" = true)
    (k3 : PySem.W.keepIn K (.ref f3) = true)
    (a4 : PySem.W.nsIn K mainGlobals "is_integer" = some (some (.ref f4)))
    (l4 : K.lookup f4 = some ⟨oc4, od4, .func (PySem.W.fnOf "is_integer" "is_integer" (defArgs s_is_integer) (defBody s_is_integer) (defScope s_is_integer) .none kV4 dc4 pm4 an4 cd4 ct4), sl4⟩)
    (c4 : PySem.W.codeIn K cd4 "is_integer" = true)
    (k4 : PySem.W.keepIn K (.ref f4) = true)
    (a5 : PySem.W.nsIn K mainGlobals "_are_sizes" = some (some (.ref f5)))
    (l5 : K.lookup f5 = some ⟨oc5, od5, .func (PySem.W.fnOf "_are_sizes" "_are_sizes" (defArgs s_are_sizes) (defBody s_are_sizes) (defScope s_are_sizes) .none kV5 dc5 pm5 an5 cd5 ct5), sl5⟩)
    (c5 : PySem.W.codeIn K cd5 "_are_sizes" = true)
    (k5 : PySem.W.keepIn K (.ref f5) = true)
    (a6 : PySem.W.nsIn K mainGlobals "is_number" = some (some (.ref f6)))
    (l6 : K.lookup f6 = some ⟨oc6, od6, .func (PySem.W.fnOf "is_number" "is_number" (defArgs s_is_number) (defBody s_is_number) (defScope s_is_number) .none kV6 dc6 pm6 an6 cd6 ct6), sl6⟩)
    (c6 : PySem.W.codeIn K cd6 "is_number" = true)
    (k6 : PySem.W.keepIn K (.ref f6) = true)
    (a7 : PySem.W.nsIn K mainGlobals "is_numbers" = some (some (.ref f7)))
    (l7 : K.lookup f7 = some ⟨oc7, od7, .func (PySem.W.fnOf "is_numbers" "is_numbers" (defArgs s_is_numbers) (defBody s_is_numbers) (defScope s_is_numbers) .none kV7 dc7 pm7 an7 cd7 ct7), sl7⟩)
    (c7 : PySem.W.codeIn K cd7 "is_numbers" = true)
    (k7 : PySem.W.keepIn K (.ref f7) = true)
    (a8 : PySem.W.nsIn K mainGlobals "is_ascending" = some (some (.ref f8)))
    (l8 : K.lookup f8 = some ⟨oc8, od8, .func (PySem.W.fnOf "is_ascending" "is_ascending" (defArgs s_is_ascending) (defBody s_is_ascending) (defScope s_is_ascending) .none kV8 dc8 pm8 an8 cd8 ct8), sl8⟩)
    (c8 : PySem.W.codeIn K cd8 "is_ascending" = true)
    (k8 : PySem.W.keepIn K (.ref f8) = true)
    (a9 : PySem.W.nsIn K mainGlobals "_check_kinds" = some (some (.ref f9)))
    (l9 : K.lookup f9 = some ⟨oc9, od9, .func (PySem.W.fnOf "_check_kinds" "_check_kinds" (defArgs s_check_kinds) (defBody s_check_kinds) (defScope s_check_kinds) .none kV9 dc9 pm9 an9 cd9 ct9), sl9⟩)
    (c9 : PySem.W.codeIn K cd9 "_check_kinds" = true)
    (k9 : PySem.W.keepIn K (.ref f9) = true)
    (a10 : PySem.W.nsIn K mainGlobals "_law_pool" = some (some (.ref f10)))
    (l10 : K.lookup f10 = some ⟨oc10, od10, .func (PySem.W.fnOf "_law_pool" "_law_pool" (defArgs s_law_pool) (defBody s_law_pool) (defScope s_law_pool) .none kV10 dc10 pm10 an10 cd10 ct10), sl10⟩)
    (c10 : PySem.W.codeIn K cd10 "_law_pool" = true)
    (k10 : PySem.W.keepIn K (.ref f10) = true)
    (a11 : PySem.W.nsIn K mainGlobals "_law_draw" = some (some (.ref f11)))
    (l11 : K.lookup f11 = some ⟨oc11, od11, .func (PySem.W.fnOf "_law_draw" "_law_draw" (defArgs s_law_draw) (defBody s_law_draw) (defScope s_law_draw) .none kV11 dc11 pm11 an11 cd11 ct11), sl11⟩)
    (c11 : PySem.W.codeIn K cd11 "_law_draw" = true)
    (k11 : PySem.W.keepIn K (.ref f11) = true)
    (a12 : PySem.W.nsIn K mainGlobals "_check_sizes" = some (some (.ref f12)))
    (l12 : K.lookup f12 = some ⟨oc12, od12, .func (PySem.W.fnOf "_check_sizes" "_check_sizes" (defArgs s_check_sizes) (defBody s_check_sizes) (defScope s_check_sizes) .none kV12 dc12 pm12 an12 cd12 ct12), sl12⟩)
    (c12 : PySem.W.codeIn K cd12 "_check_sizes" = true)
    (k12 : PySem.W.keepIn K (.ref f12) = true)
    (a13 : PySem.W.nsIn K mainGlobals "_check_modulus" = some (some (.ref f13)))
    (l13 : K.lookup f13 = some ⟨oc13, od13, .func (PySem.W.fnOf "_check_modulus" "_check_modulus" (defArgs s_check_modulus) (defBody s_check_modulus) (defScope s_check_modulus) .none kV13 dc13 pm13 an13 cd13 ct13), sl13⟩)
    (c13 : PySem.W.codeIn K cd13 "_check_modulus" = true)
    (k13 : PySem.W.keepIn K (.ref f13) = true)
    (a14 : PySem.W.nsIn K mainGlobals "_ways_to_fix" = some (some (.ref f14)))
    (l14 : K.lookup f14 = some ⟨oc14, od14, .func (PySem.W.fnOf "_ways_to_fix" "_ways_to_fix" (defArgs s_ways_to_fix) (defBody s_ways_to_fix) (defScope s_ways_to_fix) .none kV14 dc14 pm14 an14 cd14 ct14), sl14⟩)
    (c14 : PySem.W.codeIn K cd14 "_ways_to_fix" = true)
    (k14 : PySem.W.keepIn K (.ref f14) = true)
    (a15 : PySem.W.nsIn K mainGlobals "families_many" = some (some (.ref f15)))
    (l15 : K.lookup f15 = some ⟨oc15, od15, .func (PySem.W.fnOf "families_many" "families_many" (defArgs s_families_many) (defBody s_families_many) (defScope s_families_many) .none kV15 dc15 pm15 an15 cd15 ct15), sl15⟩)
    (c15 : PySem.W.codeIn K cd15 "families_many" = true)
    (k15 : PySem.W.keepIn K (.ref f15) = true)
    (a16 : PySem.W.nsIn K mainGlobals "_law_said" = some (some (.ref f16)))
    (l16 : K.lookup f16 = some ⟨oc16, od16, .func (PySem.W.fnOf "_law_said" "_law_said" (defArgs s_law_said) (defBody s_law_said) (defScope s_law_said) .none kV16 dc16 pm16 an16 cd16 ct16), sl16⟩)
    (c16 : PySem.W.codeIn K cd16 "_law_said" = true)
    (k16 : PySem.W.keepIn K (.ref f16) = true)
    (a17 : PySem.W.nsIn K mainGlobals "_law_mixed" = some (some (.ref f17)))
    (l17 : K.lookup f17 = some ⟨oc17, od17, .func (PySem.W.fnOf "_law_mixed" "_law_mixed" (defArgs s_law_mixed) (defBody s_law_mixed) (defScope s_law_mixed) .none kV17 dc17 pm17 an17 cd17 ct17), sl17⟩)
    (c17 : PySem.W.codeIn K cd17 "_law_mixed" = true)
    (k17 : PySem.W.keepIn K (.ref f17) = true)
    (a18 : PySem.W.nsIn K mainGlobals "_law_orders" = some (some (.ref f18)))
    (l18 : K.lookup f18 = some ⟨oc18, od18, .func (PySem.W.fnOf "_law_orders" "_law_orders" (defArgs s_law_orders) (defBody s_law_orders) (defScope s_law_orders) .none kV18 dc18 pm18 an18 cd18 ct18), sl18⟩)
    (c18 : PySem.W.codeIn K cd18 "_law_orders" = true)
    (k18 : PySem.W.keepIn K (.ref f18) = true)
    (a19 : PySem.W.nsIn K mainGlobals "_law_half_right" = some (some (.ref f19)))
    (l19 : K.lookup f19 = some ⟨oc19, od19, .func (PySem.W.fnOf "_law_half_right" "_law_half_right" (defArgs s_law_half_right) (defBody s_law_half_right) (defScope s_law_half_right) .none kV19 dc19 pm19 an19 cd19 ct19), sl19⟩)
    (c19 : PySem.W.codeIn K cd19 "_law_half_right" = true)
    (k19 : PySem.W.keepIn K (.ref f19) = true)
    (a20 : PySem.W.nsIn K mainGlobals "_law_by_signs" = some (some (.ref f20)))
    (l20 : K.lookup f20 = some ⟨oc20, od20, .func (PySem.W.fnOf "_law_by_signs" "_law_by_signs" (defArgs s_law_by_signs) (defBody s_law_by_signs) (defScope s_law_by_signs) .none kV20 dc20 pm20 an20 cd20 ct20), sl20⟩)
    (c20 : PySem.W.codeIn K cd20 "_law_by_signs" = true)
    (k20 : PySem.W.keepIn K (.ref f20) = true)
    (a21 : PySem.W.nsIn K mainGlobals "families" = some (some (.ref f21)))
    (l21 : K.lookup f21 = some ⟨oc21, od21, .func (PySem.W.fnOf "families" "families" (defArgs s_families) (defBody s_families) (defScope s_families) .none kV21 dc21 pm21 an21 cd21 ct21), sl21⟩)
    (c21 : PySem.W.codeIn K cd21 "families" = true)
    (k21 : PySem.W.keepIn K (.ref f21) = true)
    (a22 : PySem.W.nsIn K mainGlobals "_ways_behind" = some (some (.ref f22)))
    (l22 : K.lookup f22 = some ⟨oc22, od22, .func (PySem.W.fnOf "_ways_behind" "_ways_behind" (defArgs s_ways_behind) (defBody s_ways_behind) (defScope s_ways_behind) .none kV22 dc22 pm22 an22 cd22 ct22), sl22⟩)
    (c22 : PySem.W.codeIn K cd22 "_ways_behind" = true)
    (k22 : PySem.W.keepIn K (.ref f22) = true)
    (a23 : PySem.W.nsIn K mainGlobals "kinds_many" = some (some (.ref f23)))
    (l23 : K.lookup f23 = some ⟨oc23, od23, .func (PySem.W.fnOf "kinds_many" "kinds_many" (defArgs s_kinds_many) (defBody s_kinds_many) (defScope s_kinds_many) .none kV23 dc23 pm23 an23 cd23 ct23), sl23⟩)
    (c23 : PySem.W.codeIn K cd23 "kinds_many" = true)
    (k23 : PySem.W.keepIn K (.ref f23) = true)
    (a24 : PySem.W.nsIn K mainGlobals "_law_many_right" = some (some (.ref f24)))
    (l24 : K.lookup f24 = some ⟨oc24, od24, .func (PySem.W.fnOf "_law_many_right" "_law_many_right" (defArgs s_law_many_right) (defBody s_law_many_right) (defScope s_law_many_right) .none kV24 dc24 pm24 an24 cd24 ct24), sl24⟩)
    (c24 : PySem.W.codeIn K cd24 "_law_many_right" = true)
    (k24 : PySem.W.keepIn K (.ref f24) = true)
    (a25 : PySem.W.nsIn K mainGlobals "_law_wide" = some (some (.ref f25)))
    (l25 : K.lookup f25 = some ⟨oc25, od25, .func (PySem.W.fnOf "_law_wide" "_law_wide" (defArgs s_law_wide) (defBody s_law_wide) (defScope s_law_wide) .none kV25 dc25 pm25 an25 cd25 ct25), sl25⟩)
    (c25 : PySem.W.codeIn K cd25 "_law_wide" = true)
    (k25 : PySem.W.keepIn K (.ref f25) = true)
    (a26 : PySem.W.nsIn K mainGlobals "_law_kind_rows" = some (some (.ref f26)))
    (l26 : K.lookup f26 = some ⟨oc26, od26, .func (PySem.W.fnOf "_law_kind_rows" "_law_kind_rows" (defArgs s_law_kind_rows) (defBody s_law_kind_rows) (defScope s_law_kind_rows) .none kV26 dc26 pm26 an26 cd26 ct26), sl26⟩)
    (c26 : PySem.W.codeIn K cd26 "_law_kind_rows" = true)
    (k26 : PySem.W.keepIn K (.ref f26) = true)
    (a27 : PySem.W.nsIn K mainGlobals "_law_all" = some (some (.ref f27)))
    (l27 : K.lookup f27 = some ⟨oc27, od27, .func (PySem.W.fnOf "_law_all" "_law_all" (defArgs s_law_all) (defBody s_law_all) (defScope s_law_all) .none kV27 dc27 pm27 an27 cd27 ct27), sl27⟩)
    (c27 : PySem.W.codeIn K cd27 "_law_all" = true)
    (k27 : PySem.W.keepIn K (.ref f27) = true)
    (a28 : PySem.W.nsIn K mainGlobals "_law_deep" = some (some (.ref f28)))
    (l28 : K.lookup f28 = some ⟨oc28, od28, .func (PySem.W.fnOf "_law_deep" "_law_deep" (defArgs s_law_deep) (defBody s_law_deep) (defScope s_law_deep) .none kV28 dc28 pm28 an28 cd28 ct28), sl28⟩)
    (c28 : PySem.W.codeIn K cd28 "_law_deep" = true)
    (k28 : PySem.W.keepIn K (.ref f28) = true)
    (aDE : PySem.W.nsIn K mainGlobals "DrawError" = some (some (.ref DE)))
    (aVE : PySem.W.nsIn K mainGlobals "ValueError" = some none)
    (deC : PySem.W.subIn K (.ref DE) (.type "BaseException") = some true)
    (dsC : PySem.W.isClsIn K DE = true)
    (dtC : PySem.W.typeIn K (.ref DE) = some (.type "type"))
    (aB0 : PySem.W.nsIn K mainGlobals "BadKinds" = some (some (.ref B0)))
    (xL0 : K.lookup B0 = some (excClassObj nm0 q0 B0 N0 bs0 [.ref DE, .type "ValueError", .type "Exception", .type "BaseException", .type "object"] true sn0 sub0 ab0 col0 dd0 m00 m10 m20 m30 m50 "ValueError.__new__"))
    (xsa0 : PySem.W.findIn K (.ref B0) "__setattr__" = some (some (.builtin "object.__setattr__")))
    (xga0 : PySem.W.findIn K (.ref B0) "__getattribute__" = some (some (.builtin "BaseException.__getattribute__")))
    (xgg0 : PySem.W.findIn K (.ref B0) "__getattr__" = some none)
    (xca0 : PySem.W.findIn K (.ref B0) "__class__" = some (some (.builtin "object.__class__")))
    (xmo0 : PySem.W.mroIn K B0 (.type "object") = some true)
    (xmv0 : PySem.W.mroIn K B0 (.type "ValueError") = some true)
    (xis0 : PySem.W.isClsIn K B0 = true)
    (xiB0 : PySem.W.findIn K (.ref B0) "__init__" = some (some (.ref fX0)))
    (xtf0 : PySem.W.typeIn K (.ref fX0) = some (.type "function"))
    (lX0 : K.lookup fX0 = some ⟨ocX0, odX0, .func (PySem.W.fnOf "__init__" "BadKinds.__init__" (defArgs s_BadKinds___init) (defBody s_BadKinds___init) (defScope s_BadKinds___init) .none kVX0 dcX0 pmX0 anX0 cdX0 ctX0), slX0⟩)
    (cX0 : PySem.W.codeIn K cdX0 "BadKinds.__init__" = true)
    (kX0 : PySem.W.keepIn K (.ref fX0) = true)
    (xkC0 : PySem.W.keepIn K (.ref B0) = true)
    (xfn0 : PySem.W.findIn K (.ref B0) "part" = some none)
    (xhd0 : PySem.W.hasDictIn K B0 = true)
    (xeC0 : PySem.W.subIn K (.ref B0) (.type "BaseException") = some true)
    (xtC0 : PySem.W.typeIn K (.ref B0) = some (.type "type"))
    (dbC0 : PySem.W.subIn K (.ref B0) (.ref DE) = some true)
    (dss0 : PySem.W.subIn K (.ref B0) (.ref B0) = some true)
    (aB1 : PySem.W.nsIn K mainGlobals "TooMany" = some (some (.ref B1)))
    (xL1 : K.lookup B1 = some (excClassObj nm1 q1 B1 N1 bs1 [.ref DE, .type "ValueError", .type "Exception", .type "BaseException", .type "object"] true sn1 sub1 ab1 col1 dd1 m01 m11 m21 m31 m51 "ValueError.__new__"))
    (xsa1 : PySem.W.findIn K (.ref B1) "__setattr__" = some (some (.builtin "object.__setattr__")))
    (xga1 : PySem.W.findIn K (.ref B1) "__getattribute__" = some (some (.builtin "BaseException.__getattribute__")))
    (xgg1 : PySem.W.findIn K (.ref B1) "__getattr__" = some none)
    (xca1 : PySem.W.findIn K (.ref B1) "__class__" = some (some (.builtin "object.__class__")))
    (xmo1 : PySem.W.mroIn K B1 (.type "object") = some true)
    (xmv1 : PySem.W.mroIn K B1 (.type "ValueError") = some true)
    (xis1 : PySem.W.isClsIn K B1 = true)
    (xiB1 : PySem.W.findIn K (.ref B1) "__init__" = some (some (.ref fX1)))
    (xtf1 : PySem.W.typeIn K (.ref fX1) = some (.type "function"))
    (lX1 : K.lookup fX1 = some ⟨ocX1, odX1, .func (PySem.W.fnOf "__init__" "TooMany.__init__" (defArgs s_TooMany___init) (defBody s_TooMany___init) (defScope s_TooMany___init) .none kVX1 dcX1 pmX1 anX1 cdX1 ctX1), slX1⟩)
    (cX1 : PySem.W.codeIn K cdX1 "TooMany.__init__" = true)
    (kX1 : PySem.W.keepIn K (.ref fX1) = true)
    (xkC1 : PySem.W.keepIn K (.ref B1) = true)
    (xfn1 : PySem.W.findIn K (.ref B1) "most" = some none)
    (xhd1 : PySem.W.hasDictIn K B1 = true)
    (xeC1 : PySem.W.subIn K (.ref B1) (.type "BaseException") = some true)
    (xtC1 : PySem.W.typeIn K (.ref B1) = some (.type "type"))
    (dbC1 : PySem.W.subIn K (.ref B1) (.ref DE) = some true)
    (dss1 : PySem.W.subIn K (.ref B1) (.ref B1) = some true)
    (aB2 : PySem.W.nsIn K mainGlobals "NoSizes" = some (some (.ref B2)))
    (xL2 : K.lookup B2 = some (excClassObj nm2 q2 B2 N2 bs2 [.ref DE, .type "ValueError", .type "Exception", .type "BaseException", .type "object"] true sn2 sub2 ab2 col2 dd2 m02 m12 m22 m32 m52 "ValueError.__new__"))
    (xsa2 : PySem.W.findIn K (.ref B2) "__setattr__" = some (some (.builtin "object.__setattr__")))
    (xga2 : PySem.W.findIn K (.ref B2) "__getattribute__" = some (some (.builtin "BaseException.__getattribute__")))
    (xgg2 : PySem.W.findIn K (.ref B2) "__getattr__" = some none)
    (xca2 : PySem.W.findIn K (.ref B2) "__class__" = some (some (.builtin "object.__class__")))
    (xmo2 : PySem.W.mroIn K B2 (.type "object") = some true)
    (xmv2 : PySem.W.mroIn K B2 (.type "ValueError") = some true)
    (xis2 : PySem.W.isClsIn K B2 = true)
    (xiB2 : PySem.W.findIn K (.ref B2) "__init__" = some (some (.ref fX2)))
    (xtf2 : PySem.W.typeIn K (.ref fX2) = some (.type "function"))
    (lX2 : K.lookup fX2 = some ⟨ocX2, odX2, .func (PySem.W.fnOf "__init__" "NoSizes.__init__" (defArgs s_NoSizes___init) (defBody s_NoSizes___init) (defScope s_NoSizes___init) .none kVX2 dcX2 pmX2 anX2 cdX2 ctX2), slX2⟩)
    (cX2 : PySem.W.codeIn K cdX2 "NoSizes.__init__" = true)
    (kX2 : PySem.W.keepIn K (.ref fX2) = true)
    (xkC2 : PySem.W.keepIn K (.ref B2) = true)
    (xeC2 : PySem.W.subIn K (.ref B2) (.type "BaseException") = some true)
    (xtC2 : PySem.W.typeIn K (.ref B2) = some (.type "type"))
    (dbC2 : PySem.W.subIn K (.ref B2) (.ref DE) = some true)
    (dss2 : PySem.W.subIn K (.ref B2) (.ref B2) = some true)
    (aB3 : PySem.W.nsIn K mainGlobals "NoNumber" = some (some (.ref B3)))
    (xL3 : K.lookup B3 = some (excClassObj nm3 q3 B3 N3 bs3 [.ref DE, .type "ValueError", .type "Exception", .type "BaseException", .type "object"] true sn3 sub3 ab3 col3 dd3 m03 m13 m23 m33 m53 "ValueError.__new__"))
    (xsa3 : PySem.W.findIn K (.ref B3) "__setattr__" = some (some (.builtin "object.__setattr__")))
    (xga3 : PySem.W.findIn K (.ref B3) "__getattribute__" = some (some (.builtin "BaseException.__getattribute__")))
    (xgg3 : PySem.W.findIn K (.ref B3) "__getattr__" = some none)
    (xca3 : PySem.W.findIn K (.ref B3) "__class__" = some (some (.builtin "object.__class__")))
    (xmo3 : PySem.W.mroIn K B3 (.type "object") = some true)
    (xmv3 : PySem.W.mroIn K B3 (.type "ValueError") = some true)
    (xis3 : PySem.W.isClsIn K B3 = true)
    (xiB3 : PySem.W.findIn K (.ref B3) "__init__" = some (some (.ref fX3)))
    (xtf3 : PySem.W.typeIn K (.ref fX3) = some (.type "function"))
    (lX3 : K.lookup fX3 = some ⟨ocX3, odX3, .func (PySem.W.fnOf "__init__" "NoNumber.__init__" (defArgs s_NoNumber___init) (defBody s_NoNumber___init) (defScope s_NoNumber___init) .none kVX3 dcX3 pmX3 anX3 cdX3 ctX3), slX3⟩)
    (cX3 : PySem.W.codeIn K cdX3 "NoNumber.__init__" = true)
    (kX3 : PySem.W.keepIn K (.ref fX3) = true)
    (xkC3 : PySem.W.keepIn K (.ref B3) = true)
    (xeC3 : PySem.W.subIn K (.ref B3) (.type "BaseException") = some true)
    (xtC3 : PySem.W.typeIn K (.ref B3) = some (.type "type"))
    (dbC3 : PySem.W.subIn K (.ref B3) (.ref DE) = some true)
    (dss3 : PySem.W.subIn K (.ref B3) (.ref B3) = some true)
    (dno2_3 : PySem.W.subIn K (.ref B2) (.ref B3) = some false)
    (dno2_1 : PySem.W.subIn K (.ref B2) (.ref B1) = some false)
    (dno3_2 : PySem.W.subIn K (.ref B3) (.ref B2) = some false)
    (dno3_1 : PySem.W.subIn K (.ref B3) (.ref B1) = some false)
    (dno1_2 : PySem.W.subIn K (.ref B1) (.ref B2) = some false)
    (dno1_3 : PySem.W.subIn K (.ref B1) (.ref B3) = some false)
    (pg : PySem.W.plainGet K C Str.empty = true)
    (hd : PySem.W.hasDictIn K C = true)
    (po : PySem.W.plainOver K C = true)
    (sa : PySem.W.findIn K (.ref C) "__setattr__" = some (some (.builtin "object.__setattr__")))
    (mk : PySem.W.makesIn K C = true)
    (kc : PySem.W.keepIn K (.ref C) = true)
    (tha : PySem.W.findIn K (.ref C) "__class__" = some (some (.builtin "object.__class__")))
    (thn : PySem.W.specialIn K (.builtin "object.__class__") "__get__" = some (some (.builtin "getset_descriptor.__get__")))
    (thk : PySem.W.takesIn K (.builtin "object.__class__") = some true)
    (thm : PySem.W.mroIn K C (.type "object") = some true)
    (tne : PySem.W.findIn K (.ref C) "__ne__" = some (some (.builtin "object.__ne__")))
    (n_rows : PySem.W.findIn K (.ref C) "rows" = some none)
    (n_size : PySem.W.findIn K (.ref C) "size" = some none)
    (n_people : PySem.W.findIn K (.ref C) "people" = some none)
    (n_things : PySem.W.findIn K (.ref C) "things" = some none)
    (n_allowed : PySem.W.findIn K (.ref C) "allowed" = some none)
    (kI : PySem.W.mroIn K C (.type "int") = some false)
    (kB : PySem.W.mroIn K C (.type "bool") = some false)
    (kT : PySem.W.mroIn K C (.type "tuple") = some false)
    (kS : PySem.W.mroIn K C (.type "str") = some false)
    (kL : PySem.W.mroIn K C (.type "list") = some false)
    (c_hMK : PySem.W.nsIn K mainGlobals "MOST_KINDS" = some (some (.int 8 tkhMK)))
    (c_hMA : PySem.W.nsIn K mainGlobals "MOST_OF_A_KIND" = some (some (.int 1000000000000000000000000000000 tkhMA)))
    (c_hMF : PySem.W.nsIn K mainGlobals "MOST_IN_FAMILIES" = some (some (.int 400 tkhMF)))
    (c_hMM : PySem.W.nsIn K mainGlobals "MOST_MODULUS" = some (some (.int 1000000000000000000000000000000 tkhMM)))
    (c_hMC : PySem.W.nsIn K mainGlobals "MOST_COUNTED" = some (some (.int 60 tkhMC)))
    (c_hMS : PySem.W.nsIn K mainGlobals "MOST_STATES" = some (some (.int 5000 tkhMS)))
    (c_hfact : PySem.W.nsIn K mainGlobals "factorial" = some (some (.builtin "math.factorial")))
    (c_hcomb : PySem.W.nsIn K mainGlobals "comb" = some (some (.builtin "math.comb")))
    (z_len : PySem.W.nsIn K mainGlobals "len" = some none)
    (z_list : PySem.W.nsIn K mainGlobals "list" = some none)
    (z_range : PySem.W.nsIn K mainGlobals "range" = some none)
    (z_tuple : PySem.W.nsIn K mainGlobals "tuple" = some none)
    (z_sorted : PySem.W.nsIn K mainGlobals "sorted" = some none)
    (z_int : PySem.W.nsIn K mainGlobals "int" = some none)
    (z_min : PySem.W.nsIn K mainGlobals "min" = some none)
    (z_isinstance : PySem.W.nsIn K mainGlobals "isinstance" = some none)
    (z_all : PySem.W.nsIn K mainGlobals "all" = some none)
    (z_enumerate : PySem.W.nsIn K mainGlobals "enumerate" = some none)
    (z_zip : PySem.W.nsIn K mainGlobals "zip" = some none)
    (z_set : PySem.W.nsIn K mainGlobals "set" = some none)
    (z_repr : PySem.W.nsIn K mainGlobals "repr" = some none)
    (z_str : PySem.W.nsIn K mainGlobals "str" = some none)
    (z_bool : PySem.W.nsIn K mainGlobals "bool" = some none)
    (z_sum : PySem.W.nsIn K mainGlobals "sum" = some none)
    (z_abs : PySem.W.nsIn K mainGlobals "abs" = some none) :
    ∃ fd : FuncData, (∀ (s : Shared) (v : Value), BindsTo s fd ⟨[v], []⟩ [("script", v)]) ∧ ∀ base : Heap, K.In base → base.Ns mainGlobals mg → FnOk l.prog w K mg base CX0 10 fa fd ["script"] (spLaw K) := by
  have e := hfa.symm.trans (PySem.W.mg_of X G aL)
  cases e
  have T : Tx mg := ⟨PySem.W.mg_none_of X G z_len, PySem.W.mg_none_of X G z_list, PySem.W.mg_none_of X G z_range, PySem.W.mg_none_of X G z_tuple, PySem.W.mg_none_of X G z_sorted, PySem.W.mg_none_of X G z_int, PySem.W.mg_none_of X G z_min, PySem.W.mg_none_of X G z_isinstance, PySem.W.mg_none_of X G z_all, PySem.W.mg_none_of X G z_enumerate, PySem.W.mg_none_of X G z_zip, PySem.W.mg_none_of X G z_set, PySem.W.mg_none_of X G z_repr, PySem.W.mg_none_of X G z_str, PySem.W.mg_none_of X G z_bool⟩
  have tc : TC K C := ⟨⟨pg, hd, po, sa⟩, tha, thn, thk, thm, tne, n_rows, n_size, kit_own (by decide +kernel) kI, kit_own (by decide +kernel) kB, kit_own (by decide +kernel) kT, kit_own (by decide +kernel) kS, kit_own (by decide +kernel) kL⟩
  have kcC : KC K C := ⟨tc, n_people, n_things, n_allowed⟩
  exact ⟨PySem.W.fnOf "law" "law" (defArgs s_law) (defBody s_law) (defScope s_law) .none kV3 dc3 pm3 an3 cd3 ct3, fun s v => .of_eq rfl, fun base _ _ =>
    compose T kcC (PySem.W.mg_none_of X G z_sum) (PySem.W.mg_none_of X G z_abs) (PySem.W.mg_of X G aC) (PySem.W.mg_of X G c_hMK) (PySem.W.mg_of X G c_hMA) (PySem.W.mg_of X G c_hMF) (PySem.W.mg_of X G c_hMM) (PySem.W.mg_of X G c_hMC) (PySem.W.mg_of X G c_hMS) (PySem.W.mg_of X G c_hfact) (PySem.W.mg_of X G c_hcomb) ⟨PySem.W.mg_of X G aDE, PySem.W.mg_none_of X G aVE, (all_cons (PySem.W.mg_of X G aB2) (all_cons (PySem.W.mg_of X G aB3) (all_cons (PySem.W.mg_of X G aB1) all_nil))), (all_cons (exm_own deC dsC dtC dbC2) (all_cons (exm_own deC dsC dtC dbC3) (all_cons (exm_own deC dsC dtC dbC1) all_nil))), (all_cons ⟨xis2, xga2, xgg2, xeC2, xca2, thn, thk, xmo2⟩ (all_cons ⟨xis3, xga3, xgg3, xeC3, xca3, thn, thk, xmo3⟩ (all_cons ⟨xis1, xga1, xgg1, xeC1, xca1, thn, thk, xmo1⟩ all_nil))), (all_cons (all_cons (kit_self.trans (congrArg some (decide_eq_true rfl).symm)) (all_cons ((kit_other xis3 xtC3 dno2_3 dss3).trans (congrArg some (decide_eq_false (show ¬ (("NoSizes" : Str) = "NoNumber") by decide +kernel)).symm)) (all_cons ((kit_other xis1 xtC1 dno2_1 dss1).trans (congrArg some (decide_eq_false (show ¬ (("NoSizes" : Str) = "TooMany") by decide +kernel)).symm)) all_nil))) (all_cons (all_cons ((kit_other xis2 xtC2 dno3_2 dss2).trans (congrArg some (decide_eq_false (show ¬ (("NoNumber" : Str) = "NoSizes") by decide +kernel)).symm)) (all_cons (kit_self.trans (congrArg some (decide_eq_true rfl).symm)) (all_cons ((kit_other xis1 xtC1 dno3_1 dss1).trans (congrArg some (decide_eq_false (show ¬ (("NoNumber" : Str) = "TooMany") by decide +kernel)).symm)) all_nil))) (all_cons (all_cons ((kit_other xis2 xtC2 dno1_2 dss2).trans (congrArg some (decide_eq_false (show ¬ (("TooMany" : Str) = "NoSizes") by decide +kernel)).symm)) (all_cons ((kit_other xis3 xtC3 dno1_3 dss3).trans (congrArg some (decide_eq_false (show ¬ (("TooMany" : Str) = "NoNumber") by decide +kernel)).symm)) (all_cons (kit_self.trans (congrArg some (decide_eq_true rfl).symm)) all_nil))) all_nil))), (all_cons (kit_own (by decide +kernel) xmv2) (all_cons (kit_own (by decide +kernel) xmv3) (all_cons (kit_own (by decide +kernel) xmv1) all_nil)))⟩ ⟨(all_cons (all_cons ((exm_gen xeC2 xis2 xtC2 dss2).trans (congrArg some (decide_eq_true rfl).symm)) (all_cons ((exm_gen xeC3 xis3 xtC3 dno2_3).trans (congrArg some (decide_eq_false (show ¬ (("NoSizes" : Str) = "NoNumber") by decide +kernel)).symm)) (all_cons ((exm_gen xeC1 xis1 xtC1 dno2_1).trans (congrArg some (decide_eq_false (show ¬ (("NoSizes" : Str) = "TooMany") by decide +kernel)).symm)) all_nil))) (all_cons (all_cons ((exm_gen xeC2 xis2 xtC2 dno3_2).trans (congrArg some (decide_eq_false (show ¬ (("NoNumber" : Str) = "NoSizes") by decide +kernel)).symm)) (all_cons ((exm_gen xeC3 xis3 xtC3 dss3).trans (congrArg some (decide_eq_true rfl).symm)) (all_cons ((exm_gen xeC1 xis1 xtC1 dno3_1).trans (congrArg some (decide_eq_false (show ¬ (("NoNumber" : Str) = "TooMany") by decide +kernel)).symm)) all_nil))) (all_cons (all_cons ((exm_gen xeC2 xis2 xtC2 dno1_2).trans (congrArg some (decide_eq_false (show ¬ (("TooMany" : Str) = "NoSizes") by decide +kernel)).symm)) (all_cons ((exm_gen xeC3 xis3 xtC3 dno1_3).trans (congrArg some (decide_eq_false (show ¬ (("TooMany" : Str) = "NoNumber") by decide +kernel)).symm)) (all_cons ((exm_gen xeC1 xis1 xtC1 dss1).trans (congrArg some (decide_eq_true rfl).symm)) all_nil))) all_nil)))⟩ ⟨⟨nm0, q0, N0, bs0, _, sn0, sub0, ab0, col0, dd0, m00, m10, m20, m30, m50, xL0, (show PySem.HandSPX.refsVE [.type "ValueError", .type "Exception", .type "BaseException", .type "object"] = true by decide +kernel)⟩, xsa0, xeC0, xtC0, xkC0⟩ (PySem.W.mg_of X G aB0) xiB0 xtf0 (fun_mk (st := s_BadKinds___init) lX0 cX0 kX0) xfn0 ⟨xga0, xgg0, xeC0, xhd0⟩ ⟨⟨nm1, q1, N1, bs1, _, sn1, sub1, ab1, col1, dd1, m01, m11, m21, m31, m51, xL1, (show PySem.HandSPX.refsVE [.type "ValueError", .type "Exception", .type "BaseException", .type "object"] = true by decide +kernel)⟩, xsa1, xeC1, xtC1, xkC1⟩ (PySem.W.mg_of X G aB1) xiB1 xtf1 (fun_mk (st := s_TooMany___init) lX1 cX1 kX1) xfn1 ⟨xga1, xgg1, xeC1, xhd1⟩ ⟨⟨nm2, q2, N2, bs2, _, sn2, sub2, ab2, col2, dd2, m02, m12, m22, m32, m52, xL2, (show PySem.HandSPX.refsVE [.type "ValueError", .type "Exception", .type "BaseException", .type "object"] = true by decide +kernel)⟩, xsa2, xeC2, xtC2, xkC2⟩ (PySem.W.mg_of X G aB2) xiB2 xtf2 (fun_mk (st := s_NoSizes___init) lX2 cX2 kX2) ⟨⟨nm3, q3, N3, bs3, _, sn3, sub3, ab3, col3, dd3, m03, m13, m23, m33, m53, xL3, (show PySem.HandSPX.refsVE [.type "ValueError", .type "Exception", .type "BaseException", .type "object"] = true by decide +kernel)⟩, xsa3, xeC3, xtC3, xkC3⟩ (PySem.W.mg_of X G aB3) xiB3 xtf3 (fun_mk (st := s_NoNumber___init) lX3 cX3 kX3) ⟨mk, aI, iI, kc⟩ (fun_mk (st := s_Kinds___init) l1 c1 k1) aE iE (fun_mk (st := s_Kinds___eq) l2 c2 k2)
      (at_mk (ps := ["thing"]) X G a4 l4 c4 k4 fun _ _ _ _ _ _ us hl => match us, hl with | [_], _ => rfl)
      (at_mk (ps := ["least", "thing"]) X G a5 l5 c5 k5 fun _ _ _ _ _ _ us hl => match us, hl with | [_, _], _ => rfl)
      (at_mk (ps := ["bound", "thing"]) X G a6 l6 c6 k6 fun _ _ _ _ _ _ us hl => match us, hl with | [_, _], _ => rfl)
      (at_mk (ps := ["bound", "thing"]) X G a7 l7 c7 k7 fun _ _ _ _ _ _ us hl => match us, hl with | [_, _], _ => rfl)
      (at_mk (ps := ["bound", "thing"]) X G a8 l8 c8 k8 fun _ _ _ _ _ _ us hl => match us, hl with | [_, _], _ => rfl)
      (at_mk (ps := ["people", "things", "allowed"]) X G a9 l9 c9 k9 fun _ _ _ _ _ _ us hl => match us, hl with | [_, _, _], _ => rfl)
      (at_mk (ps := ["script"]) X G a10 l10 c10 k10 fun _ _ _ _ _ _ us hl => match us, hl with | [_], _ => rfl)
      (at_mk (ps := ["pool", "many"]) X G a11 l11 c11 k11 fun _ _ _ _ _ _ us hl => match us, hl with | [_, _], _ => rfl)
      (at_mk (ps := ["sizes"]) X G a12 l12 c12 k12 fun _ _ _ _ _ _ us hl => match us, hl with | [_], _ => rfl)
      (at_mk (ps := ["modulus"]) X G a13 l13 c13 k13 fun _ _ _ _ _ _ us hl => match us, hl with | [_], _ => rfl)
      (at_mk (ps := ["sizes"]) X G a14 l14 c14 k14 fun _ _ _ _ _ _ us hl => match us, hl with | [_], _ => rfl)
      (at_mk (ps := ["sizes", "modulus"]) X G a15 l15 c15 k15 fun _ _ _ _ _ _ us hl => match us, hl with | [_, _], _ => rfl)
      (at_mk (ps := ["sizes", "modulus"]) X G a16 l16 c16 k16 fun _ _ _ _ _ _ us hl => match us, hl with | [_, _], _ => rfl)
      (at_mk (ps := ["pool", "things"]) X G a17 l17 c17 k17 fun _ _ _ _ _ _ us hl => match us, hl with | [_, _], _ => rfl)
      (at_mk (ps := ["many", "modulus"]) X G a18 l18 c18 k18 fun _ _ _ _ _ _ us hl => match us, hl with | [_, _], _ => rfl)
      (at_mk (ps := ["pool", "modulus"]) X G a19 l19 c19 k19 fun _ _ _ _ _ _ us hl => match us, hl with | [_, _], _ => rfl)
      (at_mk (ps := ["sizes"]) X G a20 l20 c20 k20 fun _ _ _ _ _ _ us hl => match us, hl with | [_], _ => rfl)
      (at_mk (ps := ["sizes"]) X G a21 l21 c21 k21 fun _ _ _ _ _ _ us hl => match us, hl with | [_], _ => rfl)
      (at_mk (ps := ["ways", "row", "modulus"]) X G a22 l22 c22 k22 fun _ _ _ _ _ _ us hl => match us, hl with | [_, _, _], _ => rfl)
      (at_mk (ps := ["kinds", "modulus"]) X G a23 l23 c23 k23 fun _ _ _ _ _ _ us hl => match us, hl with | [_, _], _ => rfl)
      (at_mk (ps := ["pool"]) X G a24 l24 c24 k24 fun _ _ _ _ _ _ us hl => match us, hl with | [_], _ => rfl)
      (at_mk (ps := ["numbers"]) X G a25 l25 c25 k25 fun _ _ _ _ _ _ us hl => match us, hl with | [_], _ => rfl)
      (at_mk (ps := ["people", "things", "allowed"]) X G a26 l26 c26 k26 fun _ _ _ _ _ _ us hl => match us, hl with | [_, _, _], _ => rfl)
      (at_mk (ps := ["rows"]) X G a27 l27 c27 k27 fun _ _ _ _ _ _ us hl => match us, hl with | [_], _ => rfl)
      (at_mk (ps := []) X G a28 l28 c28 k28 fun _ _ _ _ _ _ us hl => match us, hl with | [], _ => rfl)
      (fun_mk (st := s_law) l3 c3 k3)⟩
theorem walk {l : PySem.W.OpenLaw} {q : Program} {loose : List Str} {XP : (Str → Option Value) → Heap → Prop} {YP : World → Heap → Prop} {d : DefRec} {K : Params → PySem.W.Frag} (hn : l.most = some 63) (hdf : d.params.defaults = [])
    (hY : ∀ (w : World) (h : Heap), YP w h → (K w.params).In h)
    (F : ∀ (w : World) (mg : Str → Option Value) (fa : Addr) (h : Heap), (K w.params).In h → h.Ns mainGlobals mg → mg d.name = some (.ref fa) →
      ∃ fd : FuncData, (∀ (s : Shared) (u : Value), BindsTo s fd ⟨[u], []⟩ [("script", u)]) ∧ ∀ base : Heap, (K w.params).In base → base.Ns mainGlobals mg → FnOk l.prog w (K w.params) mg base CX0 10 fa fd ["script"] (spLaw (K w.params))) :
    PySem.W.WalkO q loose XP YP l.row.toRowW d [] (fun f vs => PySem.call f vs) :=
  L2.walk_of (n := 63) (k := 10) (x := "script") (CX := fun _ => CX0) (sp := fun w => spLaw (K w.params)) hn (by decide) hdf ⟨rfl, by decide, by decide⟩ hY F (fun _ _ a ns hl _ hS => ⟨a, ns, rfl, hS, hl, fun _ => rfl⟩) fun _ _ _ _ _ z => z
end Fo
open PySem PySem.W PyProof.Rows in
set_option maxRecDepth 100000 in
set_option maxHeartbeats 0 in
theorem PySem.Challenge.cw_fullorring_k83_whole_families_counted_holds : PySem.Challenge.rw_fullorring_k83_whole_families_counted.Holds := by
  w_on; o_law; k_head; (case hw => w_witness2)
  k_fill
  refine Fo.walk (l := PySem.Challenge.rw_fullorring_k83_whole_families_counted) rfl rfl (fun w h Y => PySem.W.kIn_of Y) ?F
  case F =>
    intro w mg fa h KX G hmg
    refine' Fo.all_mk KX G hmg ?aC ?aI ?iI ?l1 ?c1 ?k1 ?aE ?iE ?l2 ?c2 ?k2 ?aL ?l3 ?c3 ?k3 ?a4 ?l4 ?c4 ?k4 ?a5 ?l5 ?c5 ?k5 ?a6 ?l6 ?c6 ?k6 ?a7 ?l7 ?c7 ?k7 ?a8 ?l8 ?c8 ?k8 ?a9 ?l9 ?c9 ?k9 ?a10 ?l10 ?c10 ?k10 ?a11 ?l11 ?c11 ?k11 ?a12 ?l12 ?c12 ?k12 ?a13 ?l13 ?c13 ?k13 ?a14 ?l14 ?c14 ?k14 ?a15 ?l15 ?c15 ?k15 ?a16 ?l16 ?c16 ?k16 ?a17 ?l17 ?c17 ?k17 ?a18 ?l18 ?c18 ?k18 ?a19 ?l19 ?c19 ?k19 ?a20 ?l20 ?c20 ?k20 ?a21 ?l21 ?c21 ?k21 ?a22 ?l22 ?c22 ?k22 ?a23 ?l23 ?c23 ?k23 ?a24 ?l24 ?c24 ?k24 ?a25 ?l25 ?c25 ?k25 ?a26 ?l26 ?c26 ?k26 ?a27 ?l27 ?c27 ?k27 ?a28 ?l28 ?c28 ?k28 ?aDE ?aVE ?deC ?dsC ?dtC ?aB0 ?xL0 ?xsa0 ?xga0 ?xgg0 ?xca0 ?xmo0 ?xmv0 ?xis0 ?xiB0 ?xtf0 ?lX0 ?cX0 ?kX0 ?xkC0 ?xfn0 ?xhd0 ?xeC0 ?xtC0 ?dbC0 ?dss0 ?aB1 ?xL1 ?xsa1 ?xga1 ?xgg1 ?xca1 ?xmo1 ?xmv1 ?xis1 ?xiB1 ?xtf1 ?lX1 ?cX1 ?kX1 ?xkC1 ?xfn1 ?xhd1 ?xeC1 ?xtC1 ?dbC1 ?dss1 ?aB2 ?xL2 ?xsa2 ?xga2 ?xgg2 ?xca2 ?xmo2 ?xmv2 ?xis2 ?xiB2 ?xtf2 ?lX2 ?cX2 ?kX2 ?xkC2 ?xeC2 ?xtC2 ?dbC2 ?dss2 ?aB3 ?xL3 ?xsa3 ?xga3 ?xgg3 ?xca3 ?xmo3 ?xmv3 ?xis3 ?xiB3 ?xtf3 ?lX3 ?cX3 ?kX3 ?xkC3 ?xeC3 ?xtC3 ?dbC3 ?dss3 ?dno2_3 ?dno2_1 ?dno3_2 ?dno3_1 ?dno1_2 ?dno1_3 ?pg ?hd ?po ?sa ?mk ?kc ?tha ?thn ?thk ?thm ?tne ?n_rows ?n_size ?n_people ?n_things ?n_allowed ?kI ?kB ?kT ?kS ?kL ?c_hMK ?c_hMA ?c_hMF ?c_hMM ?c_hMC ?c_hMS ?c_hfact ?c_hcomb ?z_len ?z_list ?z_range ?z_tuple ?z_sorted ?z_int ?z_min ?z_isinstance ?z_all ?z_enumerate ?z_zip ?z_set ?z_repr ?z_str ?z_bool ?z_sum ?z_abs
    (case aC => k_is)
    (case aI => k_is)
    (case iI => k_is)
    (case l1 => k_is)
    (case c1 => k_is)
    (case k1 => k_is)
    (case aE => k_is)
    (case iE => k_is)
    (case l2 => k_is)
    (case c2 => k_is)
    (case k2 => k_is)
    (case aL => k_is)
    (case l3 => k_is)
    (case c3 => k_is)
    (case k3 => k_is)
    (case a4 => k_is)
    (case l4 => k_is)
    (case c4 => k_is)
    (case k4 => k_is)
    (case a5 => k_is)
    (case l5 => k_is)
    (case c5 => k_is)
    (case k5 => k_is)
    (case a6 => k_is)
    (case l6 => k_is)
    (case c6 => k_is)
    (case k6 => k_is)
    (case a7 => k_is)
    (case l7 => k_is)
    (case c7 => k_is)
    (case k7 => k_is)
    (case a8 => k_is)
    (case l8 => k_is)
    (case c8 => k_is)
    (case k8 => k_is)
    (case a9 => k_is)
    (case l9 => k_is)
    (case c9 => k_is)
    (case k9 => k_is)
    (case a10 => k_is)
    (case l10 => k_is)
    (case c10 => k_is)
    (case k10 => k_is)
    (case a11 => k_is)
    (case l11 => k_is)
    (case c11 => k_is)
    (case k11 => k_is)
    (case a12 => k_is)
    (case l12 => k_is)
    (case c12 => k_is)
    (case k12 => k_is)
    (case a13 => k_is)
    (case l13 => k_is)
    (case c13 => k_is)
    (case k13 => k_is)
    (case a14 => k_is)
    (case l14 => k_is)
    (case c14 => k_is)
    (case k14 => k_is)
    (case a15 => k_is)
    (case l15 => k_is)
    (case c15 => k_is)
    (case k15 => k_is)
    (case a16 => k_is)
    (case l16 => k_is)
    (case c16 => k_is)
    (case k16 => k_is)
    (case a17 => k_is)
    (case l17 => k_is)
    (case c17 => k_is)
    (case k17 => k_is)
    (case a18 => k_is)
    (case l18 => k_is)
    (case c18 => k_is)
    (case k18 => k_is)
    (case a19 => k_is)
    (case l19 => k_is)
    (case c19 => k_is)
    (case k19 => k_is)
    (case a20 => k_is)
    (case l20 => k_is)
    (case c20 => k_is)
    (case k20 => k_is)
    (case a21 => k_is)
    (case l21 => k_is)
    (case c21 => k_is)
    (case k21 => k_is)
    (case a22 => k_is)
    (case l22 => k_is)
    (case c22 => k_is)
    (case k22 => k_is)
    (case a23 => k_is)
    (case l23 => k_is)
    (case c23 => k_is)
    (case k23 => k_is)
    (case a24 => k_is)
    (case l24 => k_is)
    (case c24 => k_is)
    (case k24 => k_is)
    (case a25 => k_is)
    (case l25 => k_is)
    (case c25 => k_is)
    (case k25 => k_is)
    (case a26 => k_is)
    (case l26 => k_is)
    (case c26 => k_is)
    (case k26 => k_is)
    (case a27 => k_is)
    (case l27 => k_is)
    (case c27 => k_is)
    (case k27 => k_is)
    (case a28 => k_is)
    (case l28 => k_is)
    (case c28 => k_is)
    (case k28 => k_is)
    (case aDE => k_is)
    (case aVE => k_is)
    (case deC => k_is)
    (case dsC => k_is)
    (case dtC => k_is)
    (case aB0 => k_is)
    (case xL0 => k_is)
    (case xsa0 => k_is)
    (case xga0 => k_is)
    (case xgg0 => k_is)
    (case xca0 => k_is)
    (case xmo0 => k_is)
    (case xmv0 => k_is)
    (case xis0 => k_is)
    (case xiB0 => k_is)
    (case xtf0 => k_is)
    (case lX0 => k_is)
    (case cX0 => k_is)
    (case kX0 => k_is)
    (case xkC0 => k_is)
    (case xfn0 => k_is)
    (case xhd0 => k_is)
    (case xeC0 => k_is)
    (case xtC0 => k_is)
    (case dbC0 => k_is)
    (case dss0 => k_is)
    (case aB1 => k_is)
    (case xL1 => k_is)
    (case xsa1 => k_is)
    (case xga1 => k_is)
    (case xgg1 => k_is)
    (case xca1 => k_is)
    (case xmo1 => k_is)
    (case xmv1 => k_is)
    (case xis1 => k_is)
    (case xiB1 => k_is)
    (case xtf1 => k_is)
    (case lX1 => k_is)
    (case cX1 => k_is)
    (case kX1 => k_is)
    (case xkC1 => k_is)
    (case xfn1 => k_is)
    (case xhd1 => k_is)
    (case xeC1 => k_is)
    (case xtC1 => k_is)
    (case dbC1 => k_is)
    (case dss1 => k_is)
    (case aB2 => k_is)
    (case xL2 => k_is)
    (case xsa2 => k_is)
    (case xga2 => k_is)
    (case xgg2 => k_is)
    (case xca2 => k_is)
    (case xmo2 => k_is)
    (case xmv2 => k_is)
    (case xis2 => k_is)
    (case xiB2 => k_is)
    (case xtf2 => k_is)
    (case lX2 => k_is)
    (case cX2 => k_is)
    (case kX2 => k_is)
    (case xkC2 => k_is)
    (case xeC2 => k_is)
    (case xtC2 => k_is)
    (case dbC2 => k_is)
    (case dss2 => k_is)
    (case aB3 => k_is)
    (case xL3 => k_is)
    (case xsa3 => k_is)
    (case xga3 => k_is)
    (case xgg3 => k_is)
    (case xca3 => k_is)
    (case xmo3 => k_is)
    (case xmv3 => k_is)
    (case xis3 => k_is)
    (case xiB3 => k_is)
    (case xtf3 => k_is)
    (case lX3 => k_is)
    (case cX3 => k_is)
    (case kX3 => k_is)
    (case xkC3 => k_is)
    (case xeC3 => k_is)
    (case xtC3 => k_is)
    (case dbC3 => k_is)
    (case dss3 => k_is)
    (case dno2_3 => k_is)
    (case dno2_1 => k_is)
    (case dno3_2 => k_is)
    (case dno3_1 => k_is)
    (case dno1_2 => k_is)
    (case dno1_3 => k_is)
    (case pg => k_is)
    (case hd => k_is)
    (case po => k_is)
    (case sa => k_is)
    (case mk => k_is)
    (case kc => k_is)
    (case tha => k_is)
    (case thn => k_is)
    (case thk => k_is)
    (case thm => k_is)
    (case tne => k_is)
    (case n_rows => k_is)
    (case n_size => k_is)
    (case n_people => k_is)
    (case n_things => k_is)
    (case n_allowed => k_is)
    (case kI => k_is)
    (case kB => k_is)
    (case kT => k_is)
    (case kS => k_is)
    (case kL => k_is)
    (case c_hMK => k_is)
    (case c_hMA => k_is)
    (case c_hMF => k_is)
    (case c_hMM => k_is)
    (case c_hMC => k_is)
    (case c_hMS => k_is)
    (case c_hfact => k_is)
    (case c_hcomb => k_is)
    (case z_len => k_is)
    (case z_list => k_is)
    (case z_range => k_is)
    (case z_tuple => k_is)
    (case z_sorted => k_is)
    (case z_int => k_is)
    (case z_min => k_is)
    (case z_isinstance => k_is)
    (case z_all => k_is)
    (case z_enumerate => k_is)
    (case z_zip => k_is)
    (case z_set => k_is)
    (case z_repr => k_is)
    (case z_str => k_is)
    (case z_bool => k_is)
    (case z_sum => k_is)
    (case z_abs => k_is)
