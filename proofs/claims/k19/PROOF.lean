import PyProof.Rows.All
import Wide.All
import OpenK.AllK
import Wide.FinOn
import HandS.ForMost
import HandS.IsInst
import HandS.WideBits
import PyProof.ReprRoads
import HandS.EndBits
import HandS.Walk
import PyProof.ReprLen
import HandS.Strs
import KE.GoesMore
import HandS.ClsMeth
import HandS.Defaults
import HandS.Lambda
import HandS.Star
import HandS.ExcOwn
import HandS.WordsExc
import HandS.WordsDict
import HandS.TupLen
import HandS.ExcInit
import HandS.Deep
import HandS.Style
import PyProof.EqKinds
import HandS.CallSlots
import HandS.ExcIs
import HandS.ExcField
import HandS.FStr
import KE.KExcIs
import KE.KExcInit
import HandS.Text
import HandS.Conv
import HandS.Small
import HandS.Rev
import HandS.Zip
import KE.GoesZip
import HandS.TupAny
import HandS.Codes
import HandS.Nested
import KE.SortKeyHeap
import HandS.CallLocal
import PyProof.P3Eq
import PyProof.EqLayable
import KE.KFmtOwn
import HandS.NoneIn
import KE.DataMinMax
import PyProof.FactsAll.object
import HandS.DictComp
import KE.DataEq
import PyProof.SeqIndex
import KE.DataFind
import KE.KNest
import HandS.DictTup
import KE.KDictWalk
import HandS.DeepEq
import KE.KDictItemsList
import HandS.ListItems
import KE.KDictPairs
import KE.GoesEnum
import KE.KDictZip
import HandS.More
import HandS.TryMany
import KE.KTryMore
import KE.KDictDisplayH
import HandS.TupMul
import KE.SortData
import KE.KExcLine
import PySem.Challenge.RW_fewestmethods_k19_class_methods_of_hiera
set_option Elab.async false
set_option linter.all false
set_option maxRecDepth 100000
set_option maxHeartbeats 4000000
/-! Defs that show values with repr: the promise of a def that is called while no repr is under way. -/
namespace Kv
open PySem PySem.Spec PyProof.Rows L2
structure FnG (P : Program) (w : World) (K : PySem.W.Frag) (mg : Str → Option Value)
    (base : Heap) (CX : CXT) (k : Nat) (f : Addr) (fd : FuncData) (ps : List Str) (sp : Sp) : Prop where
  many : ∀ vs H Q E, sp vs H Q E → vs.length = ps.length
  goes : ∀ (A : Around) (fr : List Env) (s : Shared) (H : Hp) (ar : Args)
    (us : List Value) (vs : List V) (Q : VK) (E : XK), A.guards = some [] → Room k A →
    Env0 P w K mg base A fr s H → BindsTo s fd ar (ps.zip us) → Vals vs us → sp vs H Q E →
    codeAny (model P w) A (.call (.ref f) ar) (CR CX fr P w H s Q E) s
theorem FnG.of {P : Program} {w : World} {K : PySem.W.Frag} {mg : Str → Option Value}
    {base : Heap} {CX : CXT} {k : Nat} {f : Addr} {fd : FuncData} {ps : List Str} {sp : Sp}
    (F : FnOk P w K mg base CX k f fd ps sp) : FnG P w K mg base CX k f fd ps sp :=
  ⟨F.len, fun A fr s H ar us vs Q E _ => F.run A fr s H ar us vs Q E⟩
section
variable {P : Program} {w : World} {K : PySem.W.Frag} {mg : Str → Option Value} {base : Heap}
end
section
variable {X : Cx} {CX : CXT} {k : Nat} {f : Addr} {fd : FuncData} {ps : List Str} {sp : Sp}
  {dvs : List V} {ds : List Value} {E : XK} {x : Str} {p pos : Pos} {e : Expr} {es : List Expr} {t : TA}
end
/-! ### what repr shows -/
mutual
/-- the value v is the datum d. nd: no dict is in it -/
inductive Sh (K : PySem.W.Frag) (nd : Bool) (H : Hp) : V → PyData → Prop
  | non : Sh K nd H .non .none
  | bl (b : Bool) : Sh K nd H (.bl b) (.bool b)
  | int (i : Int) : Sh K nd H (.int i) (.int i)
  | str (x : Str) : Sh K nd H (.str x) (.str x)
  | lst {a : Addr} {xs : List V} {ds : List PyData} : SqL K H a xs → (nd = false → a ≠ sysModules) →
      ShAll K nd H xs ds → Sh K nd H (.ref a) (.list ds)
  | tup {a : Addr} {xs : List V} {ds : List PyData} : SqT K H a xs →
      ShAll K nd H xs ds → Sh K nd H (.ref a) (.tuple ds)
  | dict {a : Addr} {kvs : List (Key × V)} {ks vs : List PyData} : nd = false → H a = some (.dK kvs) →
      ShAll K nd H (kvs.map fun p => kV p.1) ks → ShAll K nd H (kvs.map fun p => p.2) vs →
      Sh K nd H (.ref a) (.dict (ks.zip vs))
inductive ShAll (K : PySem.W.Frag) (nd : Bool) (H : Hp) : List V → List PyData → Prop
  | nil : ShAll K nd H [] []
  | cons {v : V} {vs : List V} {d : PyData} {ds : List PyData} : Sh K nd H v d →
      ShAll K nd H vs ds → ShAll K nd H (v :: vs) (d :: ds)
end
theorem ShAll.length {K : PySem.W.Frag} {nd : Bool} {H : Hp} : ∀ {vs : List V} {ds : List PyData}, ShAll K nd H vs ds → vs.length = ds.length
  | _, _, .nil => rfl
  | _, _, .cons _ t => by rw [List.length_cons, List.length_cons, t.length]
theorem pairs_vals {P : Program} {w : World} : ∀ {es : List DictEntry} {kvs : List (Key × V)} {vs : List (Key × Value)},
    KV kvs vs → Pairs (mixKind P w) es vs →
    Vals (kvs.map fun p => kV p.1) (es.map (·.key)) ∧ Vals (kvs.map fun p => p.2) (es.map (·.val))
  | _, _, _, .nil, .nil => ⟨.nil, .nil⟩
  | _, _, _, .cons ⟨e1, r1⟩ t, .cons h1 h2 ht => by
    obtain ⟨q1, q2⟩ := pairs_vals t ht
    refine ⟨.cons ?_ q1, .cons (by show RelV _ (DictEntry.val _); rw [h2]; exact r1) q2⟩
    have h1' : keyIs _ _ = true := h1
    rw [← e1] at h1'
    show RelV (kV (Prod.fst _)) (DictEntry.key _)
    rcases keyIs_shape h1' with ⟨i, t, e, e2⟩ | ⟨x, t, e, e2⟩
    · rw [e, e2]
      exact ⟨t, rfl⟩
    · rw [e, e2]
      exact ⟨t, rfl⟩
theorem zip_fst : ∀ {α β : Type} (xs : List α) (ys : List β), xs.length = ys.length → (xs.zip ys).map (·.1) = xs
  | _, _, [], _, _ => rfl
  | _, _, x :: xs, y :: ys, h => by
    show x :: (xs.zip ys).map (·.1) = x :: xs
    rw [zip_fst xs ys (Nat.succ.inj h)]
theorem zip_snd : ∀ {α β : Type} (xs : List α) (ys : List β), xs.length = ys.length → (xs.zip ys).map (·.2) = ys
  | _, _, [], [], _ => rfl
  | _, _, x :: xs, y :: ys, h => by
    show y :: (xs.zip ys).map (·.2) = y :: ys
    rw [zip_snd xs ys (Nat.succ.inj h)]
section
variable {X : Cx} {pins : List (Addr × Obj)} {σ : L2.St} {H : Hp} {s : Shared} {nd : Bool}
mutual
theorem Sh.reads (I : Inv X pins σ H s) : ∀ {v : V} {d : PyData} {u : Value}, Sh X.K nd H v d → RelV v u →
    ∃ as, Reads s.heap u d as ∧ (nd = false → sysModules ∉ as) ∧ (nd = true → d.hasDict = false)
  | _, _, _, .non, r => by
    cases r
    exact ⟨_, Reads.none, fun _ h => (nomatch h), fun _ => by simp [PyData.hasDict]⟩
  | _, _, _, .bl b, r => by
    cases r
    exact ⟨_, Reads.bool b, fun _ h => (nomatch h), fun _ => by simp [PyData.hasDict]⟩
  | _, _, _, .int i, r => by
    obtain ⟨t, rfl⟩ := r
    exact ⟨_, Reads.int i t, fun _ h => (nomatch h), fun _ => by simp [PyData.hasDict]⟩
  | _, _, _, .str x, r => by
    obtain ⟨t, rfl⟩ := r
    exact ⟨_, Reads.str x t, fun _ h => (nomatch h), fun _ => by simp [PyData.hasDict]⟩
  | _, _, _, .lst hs hne ha, r => by
    cases r
    obtain ⟨its, rv, ⟨o, n, ho, hc, _, hd⟩, _⟩ := I.list hs
    obtain ⟨as, h1, h2, h3⟩ := ShAll.reads I ha rv
    refine ⟨_, Reads.list ho hc hd h1, fun e hm => ?_, fun e => by simp only [PyData.hasDict]; exact h3 e⟩
    rcases List.mem_cons.mp hm with z | z
    · exact hne e z.symm
    · exact h2 e z
  | _, _, _, .tup hs ha, r => by
    cases r
    obtain ⟨its, rv, ⟨o, ho, hc, n, hd⟩, _⟩ := I.tuple hs
    obtain ⟨as, h1, h2, h3⟩ := ShAll.reads I ha rv
    exact ⟨_, Reads.tuple ho hc hd h1, h2, fun e => by simp only [PyData.hasDict]; exact h3 e⟩
  | _, _, _, .dict (a := a) (kvs := kvs) (ks := ks) (vs := ds) e0 hs hk hv, r => by
    cases r
    have l1 := hk.length
    have l2 := hv.length
    rw [List.length_map] at l1 l2
    have l3 : ks.length = ds.length := l1.symm.trans l2
    obtain ⟨_, hne, vs, kv, o, es, ep, g1, g2, g3, _, g5, _⟩ :=
      (show ObjOk X.prog X.w H s.heap a (.dK kvs) from I.hok a _ hs)
    obtain ⟨v1, v2⟩ := pairs_vals kv g5
    obtain ⟨as, h1, h2, _⟩ := ShAll.reads I hk v1
    obtain ⟨bs, k1, k2, _⟩ := ShAll.reads I hv v2
    refine ⟨_, Reads.dict (kvs := ks.zip ds) g1 g2.1 g3 (by rw [zip_fst ks ds l3]; exact h1)
      (by rw [zip_snd ks ds l3]; exact k1), fun e hm => ?_, fun e => by rw [e0] at e; cases e⟩
    rcases List.mem_append.mp hm with z | z
    · rcases List.mem_cons.mp z with y | y
      · rw [← y] at hne
        simp at hne
      · exact h2 e y
    · exact k2 e z
theorem ShAll.reads (I : Inv X pins σ H s) : ∀ {vs : List V} {ds : List PyData} {us : List Value},
    ShAll X.K nd H vs ds → Vals vs us →
    ∃ as, ReadsAll s.heap us ds as ∧ (nd = false → sysModules ∉ as) ∧ (nd = true → PyData.hasDictAll ds = false)
  | _, _, _, .nil, r => by
    cases r
    exact ⟨_, ReadsAll.nil, fun _ h => (nomatch h), fun _ => by simp [PyData.hasDictAll]⟩
  | _, _, _, .cons h1 h2, .cons r1 r2 => by
    obtain ⟨as, q1, q2, q3⟩ := Sh.reads I h1 r1
    obtain ⟨bs, k1, k2, k3⟩ := ShAll.reads I h2 r2
    refine ⟨_, ReadsAll.cons q1 k1, fun e hm => ?_, fun e => by simp only [PyData.hasDictAll, q3 e, k3 e, Bool.or_self]⟩
    rcases List.mem_append.mp hm with z | z
    · exact q2 e z
    · exact k2 e z
end
def rRepr (K : PySem.W.Frag) : List V → Hp → VK → Prop := fun xs H Q => ∃ (nd : Bool) (x : V) (d : PyData), xs = [x] ∧
  Sh K nd H x d ∧ d.showable = true ∧ d.shown.length ≤ sizeLine ∧ d.depth ≤ 60 ∧ Q (.str d.shown) H
theorem call_reprD (hg : X.A.guards = some []) (hu : X.A.units + 64 < cLine) : CallR X (.builtin "repr") (rRepr X.K) := by
  intro pins s σ H xs us Q I r h
  obtain ⟨nd, x, d, rfl, sh, hs, hz, hd, q⟩ := h
  obtain ⟨u, rfl, ru⟩ : ∃ u, us = [u] ∧ RelV x u := by
    cases r with
    | cons r1 r2 =>
      cases r2
      exact ⟨_, rfl, r1⟩
  obtain ⟨as, rd, n1, n2⟩ := sh.reads I ru
  cases sh with
  | non =>
    cases ru
    exact PySem.P.repr_of_none ⟨.str "None", H, I.tok _, ⟨_, rfl⟩, by simpa [PyData.shown] using q⟩
  | bl b =>
    cases ru
    exact PySem.P.repr_of_bool ⟨.str (if b then "True" else "False"), H, I.tok _, ⟨_, rfl⟩, by simpa [PyData.shown] using q⟩
  | int i =>
    obtain ⟨t, rfl⟩ := ru
    exact PySem.P.repr_of_int (by simpa [PyData.showable] using hs) ⟨.str (toString i), H, I.tok _, ⟨_, rfl⟩, by simpa [PyData.shown] using q⟩
  | str z =>
    obtain ⟨t, rfl⟩ := ru
    exact PySem.P.repr_of_str ⟨.str (reprText z), H, I.tok _, ⟨_, rfl⟩, by simpa [PyData.shown] using q⟩ (by simpa [PyData.shown] using hz)
  | lst h1 h2 h3 =>
    cases ru
    exact repr_of_reads' rd hs (fun e => by cases nd with
      | false => exact n1 rfl
      | true => rw [n2 rfl] at e; cases e) hg (by omega) (fun _ _ e => e) (fun h2 u tk hk => ⟨.str _, H, I.kept hk, ⟨_, rfl⟩, q⟩) hz
  | tup h1 h2 =>
    cases ru
    exact repr_of_reads' rd hs (fun e => by cases nd with
      | false => exact n1 rfl
      | true => rw [n2 rfl] at e; cases e) hg (by omega) (fun _ _ e => e) (fun h2 u tk hk => ⟨.str _, H, I.kept hk, ⟨_, rfl⟩, q⟩) hz
  | dict h1 h2 h3 h4 =>
    cases ru
    exact repr_of_reads' rd hs (fun e => by cases nd with
      | false => exact n1 rfl
      | true => rw [n2 rfl] at e; cases e) hg (by omega) (fun _ _ e => e) (fun h2 u tk hk => ⟨.str _, H, I.kept hk, ⟨_, rfl⟩, q⟩) hz
end
end Kv
/-! The end of a law whose def shows values with repr. -/
namespace Kv
open PySem PySem.Spec PyProof.Rows L2
section
variable {P : Program} {w : World} {K : PySem.W.Frag} {mg mb : Str → Option Value} {CX : CXT} {k : Nat}
  {fa a : Addr} {fd : FuncData} {x : Str} {sp : Sp} {s1 : Shared} {vs : List Value} {ns : List Int}
abbrev scr (vs : List Value) : Obj := { cls := .type "list", data := .seq vs.toArray }
abbrev Done (s1 : Shared) (r : Result) (s2 : Shared) : Prop :=
  r = .ok (.ret (.bool true)) ∧ OldK s1.heap s2.heap ∧ s2.os = s1.os ∧ AllBare s2.gens
theorem law_from (H : Hp) (KX : K.In s1.heap) (hns : s1.heap.Ns mainGlobals mg) (hb : s1.heap.Ns builtinsNs mb)
    (hbb : ∀ y : Str, y ≠ "__name__" → mb y = bootBuiltins y) (hlim : s1.heap.NoLimit) (hg : s1.gens = #[])
    (ha : s1.heap.get? a = some (scr vs)) (hr : Room k callerA) (low : sysModules < s1.heap.objs.size)
    (F : ∀ base : Heap, K.In base → base.Ns mainGlobals mg → sysModules < base.objs.size →
      FnG P w K mg base CX k fa fd [x] sp)
    (bind : ∀ (s : Shared) (u : Value), BindsTo s fd ⟨[u], []⟩ [(x, u)])
    (hsp : sp [.ref a] H (fun v _ => v = .bl true) fun _ _ _ => False)
    (hCX : ∀ e s2, CX [] H s1 (fun _ _ _ => False) e s2 → False)
    (hO : Only H) (hok : HOk P w H s1.heap) (hA : ∀ b u, H b = some u → b = a)
    (hK : ∀ u, H a = some u → K.lookup a = none) :
    codeAny (model P w) callerA (.call (.ref fa) ⟨[.ref a], []⟩) (Done s1) s1 := by
  have nodict : ∀ {b : Addr} {o : Obj} {es : Array DictEntry} {ep : Nat},
      s1.heap.get? b = some o → o.data = .dict es ep → H b = none := by
    intro b o es ep e d
    cases q : H b with
    | none => rfl
    | some u =>
      rw [hA b u q, ha] at e
      cases e
      exact nomatch (show Data.seq vs.toArray _ = Data.dict es ep from d)
  have ns2 : ∀ {b : Addr} {m : Str → Option Value}, s1.heap.Ns b m → (hidT s1.heap H).Ns b m := by
    intro b m h
    obtain ⟨o, es, ep, e, d, r⟩ := h
    exact ⟨o, es, ep, hidT_get e (nodict e d), d, r⟩
  have kin : K.In (hidT s1.heap H) := by
    intro b o e
    refine hidT_get (KX b o e) ?_
    cases q : H b with
    | none => rfl
    | some u =>
      have z := hA b u q
      subst z
      rw [hK u q] at e
      cases e
  have md : Mod K mg (hidT s1.heap H) := by
    obtain ⟨mc, l1, l2⟩ := hlim
    exact ⟨kin, ns2 hns, ⟨mb, ns2 hb, hbb⟩, ⟨mc, ns2 l1, l2⟩⟩
  have e0 : Env0 P w K mg (hidT s1.heap H) callerA [] s1 H := by
    refine ⟨rfl, md, fun b o e => of_hidT e, Nat.le_of_eq (hidT_size _ _), trivial, ?_, hok, .of_eq hg⟩
    intro b z
    exact nomatch (show b ∈ ([] : List Addr) from z)
  have low2 : sysModules < (hidT s1.heap H).objs.size := by
    rw [hidT_size]
    exact low
  refine codeAny_mono ((F _ kin (ns2 hns) low2).goes callerA [] s1 H ⟨[.ref a], []⟩ [.ref a] [.ref a] _ _
    rfl hr e0 (bind s1 (.ref a)) (.cons rfl .nil) hsp) fun r s2 h => ?_
  cases r with
  | error e => exact (hCX e s2 h).elim
  | ok fl =>
    cases fl with
    | next => exact h.elim
    | brk => exact h.elim
    | cont => exact h.elim
    | ret u =>
      obtain ⟨v, H2, os, bare, un, hok2, r2, q2⟩ := h
      have q3 : v = .bl true := q2
      subst q3
      obtain rfl : u = Value.bool true := r2
      refine ⟨rfl, OldK.of_keep fun b o e => ?_, os, bare⟩
      rcases hO b with z | ⟨ob, xs, z⟩
      · exact un.keep b o e z (fun y => nomatch (show b ∈ ([] : List Addr) from y)) (by simp)
      · obtain ⟨e1, _⟩ := hok b _ z
        obtain ⟨e2, _⟩ := hok2 b _ (un.frzs b ob _ z)
        rw [e] at e1
        cases e1
        exact e2
theorem law_callG (KX : K.In s1.heap) (hns : s1.heap.Ns mainGlobals mg) (hb : s1.heap.Ns builtinsNs mb)
    (hbb : ∀ y : Str, y ≠ "__name__" → mb y = bootBuiltins y) (hlim : s1.heap.NoLimit) (hg : s1.gens = #[])
    (ha : s1.heap.get? a = some (scr vs)) (hi : IntsAre vs ns) (hl : ns.length ≤ sizeLine)
    (hr : Room k callerA) (low : sysModules < s1.heap.objs.size)
    (F : ∀ base : Heap, K.In base → base.Ns mainGlobals mg → sysModules < base.objs.size →
      FnG P w K mg base CX k fa fd [x] sp)
    (bind : ∀ (s : Shared) (u : Value), BindsTo s fd ⟨[u], []⟩ [(x, u)])
    (hsp : ∀ H : Hp, Only H → SqL K H a (ns.map V.int) →
      sp [.ref a] H (fun v _ => v = .bl true) fun _ _ _ => False)
    (hCX : ∀ H e s2, CX [] H s1 (fun _ _ _ => False) e s2 → False) :
    codeAny (model P w) callerA (.call (.ref fa) ⟨[.ref a], []⟩) (Done s1) s1 := by
  have rv : Vals (ns.map V.int) vs := vals_ints hi
  have len : vs.length = ns.length := by
    have := rv.length
    rw [List.length_map] at this
    exact this.symm
  cases hk : K.lookup a with
  | some o =>
    have e := KX a o hk
    rw [ha] at e
    cases e
    have sq : SqL K (fun _ => none) a (ns.map V.int) := by
      refine Or.inr ⟨_, vs.toArray, _, hk, rfl, rfl, rfl, ?_, by simpa using rv⟩
      rw [List.size_toArray, len]
      exact hl
    have on : Only fun _ => none := fun _ => Or.inl rfl
    refine law_from (fun _ => none) KX hns hb hbb hlim hg ha hr low F bind (hsp _ on sq) (hCX _) on ?_ ?_ ?_
    · intro b u z
      exact nomatch z
    · intro b u z
      exact nomatch z
    · intro u z
      exact nomatch z
  | none =>
    let H : Hp := fun b => if b = a then some (.frz (scr vs) (.lst (ns.map V.int))) else none
    have at1 : H a = some (.frz (scr vs) (.lst (ns.map V.int))) := if_pos rfl
    have out : ∀ b u, H b = some u → b = a ∧ u = .frz (scr vs) (.lst (ns.map V.int)) := by
      intro b u z
      by_cases hb : b = a
      · subst hb
        rw [at1] at z
        exact ⟨rfl, (Option.some.inj z).symm⟩
      · have z2 : (none : Option HO) = some u := (if_neg hb).symm.trans z
        cases z2
    have on : Only H := by
      intro b
      by_cases hb : b = a
      · exact Or.inr ⟨_, _, by rw [hb]; exact at1⟩
      · exact Or.inl (if_neg hb)
    refine law_from H KX hns hb hbb hlim hg ha hr low F bind (hsp _ on (Or.inl (Or.inr ⟨_, at1⟩))) (hCX _) on ?_
      (fun b u z => (out b u z).1) fun _ _ => hk
    intro b u z
    obtain ⟨rfl, rfl⟩ := out b u z
    refine ⟨ha, ?_, vs, _, rv, ha⟩
    rw [List.length_map]
    exact hl
end
theorem walk_ofG {l : PySem.W.OpenLaw} {n k : Nat} {q : Program} {loose : List Str}
    {XP : (Str → Option Value) → Heap → Prop} {YP : World → Heap → Prop} {d : DefRec} {K : Params → PySem.W.Frag}
    {sp : World → Sp} {x : Str}
    (hn : l.most = some n) (hn2 : n ≤ sizeLine) (hdf : d.params.defaults = []) (hr : Room k callerA)
    (hY : ∀ (w : World) (h : Heap), YP w h → (K w.params).In h)
    (F : ∀ (w : World) (mg : Str → Option Value) (fa : Addr) (h : Heap), (K w.params).In h →
      h.Ns mainGlobals mg → mg d.name = some (.ref fa) →
      ∃ fd : FuncData, (∀ (s : Shared) (u : Value), BindsTo s fd ⟨[u], []⟩ [(x, u)]) ∧
        ∀ base : Heap, (K w.params).In base → base.Ns mainGlobals mg → sysModules < base.objs.size →
          FnG l.prog w (K w.params) mg base CX0 k fa fd [x] (sp w))
    (hsp : ∀ (w : World) (H : Hp) (a : Addr) (ns : List Int), ns.length ≤ n →
      (∀ z ∈ ns, Builtin.Int.intBits z ≤ 1048576) → Only H → SqL (K w.params) H a (ns.map V.int) →
      sp w [.ref a] H (fun v _ => v = .bl true) fun _ _ _ => False) :
    PySem.W.WalkO q loose XP YP l.row.toRowW d [] (fun f vs => PySem.call f vs) := by
  refine Att.attach_callB hn hdf ?_
  intro w s0 s1 mg mb fa o pm cd doc a vs ns G Y ho hd hcd hmg hobj hints hlen hbits hgens
  have KX := hY w _ Y
  obtain ⟨fd, hb, hF⟩ := F w mg fa _ KX G.T.g hmg
  exact law_callG KX G.T.g G.T.b G.T.builtins G.T.nolimit hgens hobj hints (Nat.le_trans hlen hn2) hr G.low hF hb
    (fun H hO hS => hsp w H a ns hlen hbits hO hS) fun H e s2 z => z
end Kv
/-! Texts of few plain signs; what isinstance says of a datum. -/
namespace Kv
open PySem PySem.Spec PyProof.Rows L2
def Sm (n : Nat) (x : Str) : Prop := x.length ≤ n ∧ ∀ c ∈ x.cps.toList, c < 128
theorem len_list (x : Str) : x.length = x.cps.toList.length := by
  show x.cps.size = _
  rw [Array.length_toList]
theorem Sm.mono {n m : Nat} {x : Str} (h : Sm n x) (hn : n ≤ m) : Sm m x := ⟨Nat.le_trans h.1 hn, h.2⟩
theorem Sm.app {n m : Nat} {x y : Str} (h : Sm n x) (k : Sm m y) : Sm (n + m) (x ++ y) := by
  have e : (x ++ y).cps.toList = x.cps.toList ++ y.cps.toList := TL.tl_append x y
  refine ⟨?_, fun c hc => ?_⟩
  · rw [len_list, e, List.length_append, ← len_list, ← len_list]
    exact Nat.add_le_add h.1 k.1
  · rw [e] at hc
    rcases List.mem_append.mp hc with z | z
    · exact h.2 c z
    · exact k.2 c z
theorem Sm.cut {n : Nat} {x : Str} (h : Sm n x) (lo hi : Option Int) : Sm n (cutS x lo hi) := by
  have e : (cutS x lo hi).cps.toList = (x.cps.toList.drop (HT.sIx x.length 0 lo)).take (HT.sIx x.length x.length hi - HT.sIx x.length 0 lo) := by
    unfold cutS
    rfl
  refine ⟨?_, fun c hc => ?_⟩
  · rw [len_list, e]
    rw [List.length_take, List.length_drop, ← len_list]
    have := h.1
    omega
  · rw [e] at hc
    exact h.2 c (List.mem_of_mem_drop (List.mem_of_mem_take hc))
theorem joinL_nil : ∀ ps : List (List Nat), TL.joinL [] ps = ps.flatten
  | [] => rfl
  | [p] => by simp [TL.joinL]
  | p :: q :: r => by
    show p ++ ([] ++ TL.joinL [] (q :: r)) = _
    rw [joinL_nil (q :: r)]
    simp
theorem Sm.join : ∀ {ys : List Str}, (∀ y ∈ ys, Sm 1 y) → Sm ys.length (Txt.join "" ys) := by
  intro ys hy
  have e : (Txt.join "" ys).cps.toList = (ys.map TL.tl).flatten := by
    rw [TL.join_eq]
    show TL.tl (Str.join _ _) = _
    rw [TL.tl_join]
    exact joinL_nil _
  refine ⟨?_, fun c hc => ?_⟩
  · rw [len_list, e]
    clear e
    induction ys with
    | nil => exact Nat.le_refl _
    | cons y r ih =>
      have h1 := (hy y (List.mem_cons_self ..)).1
      have h2 := ih fun z hz => hy z (List.mem_cons_of_mem _ hz)
      rw [len_list] at h1
      simp only [List.map_cons, List.flatten_cons, List.length_append, List.length_cons]
      have h3 : (TL.tl y).length ≤ 1 := h1
      omega
  · rw [e] at hc
    obtain ⟨l, hl, hcl⟩ := List.mem_flatten.mp hc
    obtain ⟨y, hm, rfl⟩ := List.mem_map.mp hl
    exact (hy y hm).2 c hcl
theorem Sm.shown {n : Nat} {x : Str} (h : Sm n x) : (reprText x).length ≤ 10 * n + 2 := by
  have := PySem.StrLaws.reprText_len x fun c hc => Nat.lt_trans (h.2 c hc) (by decide)
  have := h.1
  omega
theorem sz1 : ∀ {n : Nat}, n ≤ 1000 → n < sizeLine := fun h => small1000 h
theorem szle {n : Nat} (h : n ≤ 10000) : n ≤ sizeLine := Nat.le_trans h (by decide)
theorem Sh.ty {K : PySem.W.Frag} {nd : Bool} {H : Hp} {v : V} {d : PyData} (h : Sh K nd H v d) :
    ∃ T : String, TyX K H v (.type T) ∧ ((∃ x, v = .str x ∧ T = "str") ∨ ((∀ x, v ≠ .str x) ∧ (T = "NoneType" ∨ T = "bool" ∨ T = "int" ∨ T = "list" ∨ T = "tuple" ∨ T = "dict"))) := by
  cases h with
  | non => exact ⟨_, .base .non, .inr ⟨(fun x e => nomatch e), by simp⟩⟩
  | bl b => exact ⟨_, .base (.bl b), .inr ⟨(fun x e => nomatch e), by simp⟩⟩
  | int i => exact ⟨_, .base (.int i), .inr ⟨(fun x e => nomatch e), by simp⟩⟩
  | str x => exact ⟨_, .base (.str x), .inl ⟨x, rfl, rfl⟩⟩
  | lst hs _ _ =>
    refine ⟨"list", ?_, .inr ⟨(fun x e => nomatch e), by simp⟩⟩
    rcases hs with (h | ⟨o, h⟩) | ⟨o, its, n, hk, hc, _⟩
    · exact .base (.lst h)
    · exact .base (.frz h)
    · exact .kList hk hc
  | tup hs _ =>
    refine ⟨"tuple", ?_, .inr ⟨(fun x e => nomatch e), by simp⟩⟩
    rcases hs with (h | ⟨o, h⟩) | ⟨o, its, n, hk, hc, _⟩
    · exact .base (.tup h)
    · exact .fTuple h
    · exact .kTuple hk hc
  | dict _ h _ _ => exact ⟨"dict", .base (.dK h), .inr ⟨(fun x e => nomatch e), by simp⟩⟩
mutual
theorem Sh.same {K : PySem.W.Frag} {nd : Bool} {H H' : Hp} (s : Same H H') : ∀ {v : V} {d : PyData}, Sh K nd H v d → Sh K nd H' v d
  | _, _, .non => .non
  | _, _, .bl b => .bl b
  | _, _, .int i => .int i
  | _, _, .str x => .str x
  | _, _, .lst h1 h2 h3 => .lst (s.seq h1) h2 (ShAll.same s h3)
  | _, _, .tup h1 h3 => .tup (by
      rcases h1 with (h | ⟨o, h⟩) | h
      · exact .inl (.inl (s _ _ h))
      · exact .inl (.inr ⟨o, s _ _ h⟩)
      · exact .inr h) (ShAll.same s h3)
  | _, _, .dict e h1 h2 h3 => .dict e (s _ _ h1) (ShAll.same s h2) (ShAll.same s h3)
theorem ShAll.same {K : PySem.W.Frag} {nd : Bool} {H H' : Hp} (s : Same H H') : ∀ {vs : List V} {ds : List PyData}, ShAll K nd H vs ds → ShAll K nd H' vs ds
  | _, _, .nil => .nil
  | _, _, .cons h1 h2 => .cons (Sh.same s h1) (ShAll.same s h2)
end
/-! ### f(k = v): keywords alone -/
section
variable {X : Cx} {CX : CXT} {k : Nat} {f : Addr} {fd : FuncData} {ps ks : List Str} {sp : Sp} {E : XK}
  {x : Str} {p pos : Pos} {kws : List Keyword} {tk : TA}
  {g : List Value → List Value → List Value} {gV : List V → List V → List V}
end
end Kv
/-! Data that are small enough to be shown. -/
namespace Kv
open PySem PySem.Spec PyProof.Rows L2
def Fit (n m : Nat) (d : PyData) : Prop := d.showable = true ∧ d.leavesShort 250 = true ∧ d.weight ≤ n ∧ d.depth ≤ m
def FitAll (n m : Nat) (ds : List PyData) : Prop :=
  PyData.showableAll ds = true ∧ PyData.leavesShortAll 250 ds = true ∧ PyData.weightAll ds ≤ n ∧ PyData.depthAll ds ≤ m
def FitKv (n m : Nat) (ds : List (PyData × PyData)) : Prop :=
  PyData.showableKv ds = true ∧ PyData.leavesShortKv 250 ds = true ∧ PyData.weightKv ds ≤ n ∧ PyData.depthKv ds ≤ m
theorem Fit.mono {n m n' m' : Nat} {d : PyData} (h : Fit n m d) (a : n ≤ n') (b : m ≤ m') : Fit n' m' d :=
  ⟨h.1, h.2.1, Nat.le_trans h.2.2.1 a, Nat.le_trans h.2.2.2 b⟩
theorem FitAll.mono {n m n' m' : Nat} {d : List PyData} (h : FitAll n m d) (a : n ≤ n') (b : m ≤ m') : FitAll n' m' d :=
  ⟨h.1, h.2.1, Nat.le_trans h.2.2.1 a, Nat.le_trans h.2.2.2 b⟩
theorem fit_non : Fit 0 0 .none := ⟨by simp [PyData.showable], by simp [PyData.leavesShort], by simp [PyData.weight], by simp [PyData.depth]⟩
theorem fit_bl {b : Bool} : Fit 0 0 (.bool b) := ⟨by simp [PyData.showable], by simp [PyData.leavesShort], by simp [PyData.weight], by simp [PyData.depth]⟩
theorem log2_small {i : Int} (h : i.natAbs ≤ 10 ^ 60) : i.natAbs.log2 < 200 := by
  by_cases h0 : i.natAbs = 0
  · rw [h0]
    decide
  · exact (Nat.log2_lt h0).mpr (Nat.lt_of_le_of_lt h (by decide))
theorem fit_int {i : Int} (h : i.natAbs ≤ 10 ^ 60) : Fit 200 0 (.int i) := by
  have hl := log2_small h
  refine ⟨?_, ?_, ?_, by simp [PyData.depth]⟩
  · simp only [PyData.showable, decide_eq_true_eq]
    omega
  · simp only [PyData.leavesShort]
    refine decide_eq_true ?_
    have e := int_text_length_le (k := 200) (by decide) hl
    have e2 : (PyData.shown (.int i)).length = (toString i).length := by
      simp only [PyData.shown]
      exact PySem.ofString_length _
    omega
  · simp only [PyData.weight]
    split <;> omega
theorem Sm.fit {n : Nat} {x : Str} (h : Sm n x) : Fit n 0 (.str x) := by
  refine ⟨by simp [PyData.showable], ?_, ?_, by simp [PyData.depth]⟩
  · simp only [PyData.leavesShort, List.all_eq_true, decide_eq_true_eq]
    intro c hc
    exact Nat.lt_trans (h.2 c hc) (by decide)
  · simp only [PyData.weight]
    exact h.1
theorem fitAll_nil {m : Nat} : FitAll 0 m [] := ⟨by simp [PyData.showableAll], by simp [PyData.leavesShortAll], by simp [PyData.weightAll], by simp [PyData.depthAll]⟩
theorem FitAll.cons {n n' m : Nat} {d : PyData} {ds : List PyData} (a : Fit n m d) (b : FitAll n' m ds) : FitAll (n + 1 + n') m (d :: ds) := by
  obtain ⟨a1, a2, a3, a4⟩ := a
  obtain ⟨b1, b2, b3, b4⟩ := b
  refine ⟨?_, ?_, ?_, ?_⟩
  · simp only [PyData.showableAll, a1, b1, Bool.and_self]
  · simp only [PyData.leavesShortAll, a2, b2, Bool.and_self]
  · simp only [PyData.weightAll]
    omega
  · simp only [PyData.depthAll]
    omega
theorem Fit.lst {n m : Nat} {ds : List PyData} (a : FitAll n m ds) : Fit n (m + 1) (.list ds) := by
  obtain ⟨a1, a2, a3, a4⟩ := a
  refine ⟨?_, ?_, ?_, ?_⟩
  · simp only [PyData.showable, a1]
  · simp only [PyData.leavesShort, a2]
  · simp only [PyData.weight]
    omega
  · simp only [PyData.depth]
    omega
theorem Fit.tup {n m : Nat} {ds : List PyData} (a : FitAll n m ds) : Fit n (m + 1) (.tuple ds) := by
  obtain ⟨a1, a2, a3, a4⟩ := a
  refine ⟨?_, ?_, ?_, ?_⟩
  · simp only [PyData.showable, a1]
  · simp only [PyData.leavesShort, a2]
  · simp only [PyData.weight]
    omega
  · simp only [PyData.depth]
    omega
theorem Fit.dict {n m : Nat} {ds : List (PyData × PyData)} (a : FitKv n m ds) : Fit n (m + 1) (.dict ds) := by
  obtain ⟨a1, a2, a3, a4⟩ := a
  refine ⟨?_, ?_, ?_, ?_⟩
  · simp only [PyData.showable, a1]
  · simp only [PyData.leavesShort, a2]
  · simp only [PyData.weight]
    omega
  · simp only [PyData.depth]
    omega
theorem Fit.ok {n m : Nat} {d : PyData} (h : Fit n m d) (hn : n ≤ 60000) (hm : m ≤ 60) : d.showable = true ∧ d.shown.length ≤ sizeLine ∧ d.depth ≤ 60 := by
  obtain ⟨h1, h2, h3, h4⟩ := h
  refine ⟨h1, ?_, by omega⟩
  have := PyData.shown_le 250 (by decide) d h2
  rw [sizeLine_eq]
  omega
def Good (K : PySem.W.Frag) (H : Hp) (v : V) : Prop := ∃ (nd : Bool) (d : PyData), Sh K nd H v d ∧ Fit 2000 20 d ∧ ∀ x, v = .str x → Sm 1000 x
theorem Good.same {K : PySem.W.Frag} {H H' : Hp} {v : V} (g : Good K H v) (s : Same H H') : Good K H' v := by
  obtain ⟨nd, d, h, r⟩ := g
  exact ⟨nd, d, h.same s, r⟩
theorem Good.non {K : PySem.W.Frag} {H : Hp} : Good K H .non := ⟨true, _, .non, fit_non.mono (by decide) (by decide), fun x e => nomatch e⟩
theorem Good.bl {K : PySem.W.Frag} {H : Hp} {b : Bool} : Good K H (.bl b) := ⟨true, _, .bl b, fit_bl.mono (by decide) (by decide), fun x e => nomatch e⟩
theorem Good.int {K : PySem.W.Frag} {H : Hp} {i : Int} (h : i.natAbs ≤ 10 ^ 60) : Good K H (.int i) := ⟨true, _, .int i, (fit_int h).mono (by decide) (by decide), fun x e => nomatch e⟩
theorem Good.str {K : PySem.W.Frag} {H : Hp} {x : Str} {n : Nat} (h : Sm n x) (hn : n ≤ 1000 := by decide) : Good K H (.str x) :=
  ⟨true, _, .str x, h.fit.mono (by omega) (by decide), fun y e => by
    cases e
    exact h.mono hn⟩
end Kv
/-! len(set(t)), t a tuple of texts, of any number. -/
namespace Kv
open PySem PySem.Spec PyProof.Rows L2
def met (xs : List Str) : Nat → Nat
  | 0 => 0
  | i + 1 => if (xs.take i).any (· == xs.getD i Str.empty) then met xs i else met xs i + 1
theorem met_le (xs : List Str) : ∀ i, met xs i ≤ i
  | 0 => Nat.le_refl _
  | i + 1 => by
    have := met_le xs i
    show (if _ then met xs i else met xs i + 1) ≤ _
    split
    · exact Nat.le_succ_of_le this
    · exact Nat.succ_le_succ this
theorem met_nodup {xs : List Str} (h : xs.Nodup) : ∀ i, i ≤ xs.length → met xs i = i
  | 0, _ => rfl
  | i + 1, hi => by
    have ih := met_nodup h i (by omega)
    show (if _ then met xs i else met xs i + 1) = _
    have e : (xs.take i).any (· == xs.getD i Str.empty) = false := by
      rw [List.any_eq_false]
      intro y hy hb
      have hb2 : y = xs.getD i Str.empty := by simpa using hb
      rw [List.getD_eq_getElem?_getD, List.getElem?_eq_getElem (by omega : i < xs.length)] at hb2
      have hb3 : y = xs[i] := hb2
      obtain ⟨j, hj, e1⟩ := List.getElem_of_mem hy
      rw [List.getElem_take] at e1
      have hj2 : j < i := by
        rw [List.length_take] at hj
        omega
      exact (List.pairwise_iff_getElem.mp h j i (by omega) (by omega) hj2) (by rw [e1, hb3])
    rw [e]
    show met xs i + 1 = i + 1
    rw [ih]
section
variable {prog : Program} {w : World} {A : Around} {R : Result → Shared → Prop} {I : Addr} {fp wr : List Addr}
  {G : Array GenState → Array GenState → Prop} {n : Nat} {P : Nat → Value → Prop} {Z : Nat → Shared → Prop}
abbrev SetBy (prog : Program) (w : World) (h : Heap) (a : Addr) (xs : List Str) (i : Nat) : Prop :=
  h.SetOf (PySem.strKind prog w) a (fun y => (xs.take i).any (· == y)) (met xs i)
theorem SetBy.kept {h h2 : Heap} {a : Addr} {xs : List Str} {i : Nat} (q : SetBy prog w h a xs i)
    (k : ∀ o, h.get? a = some o → h2.get? a = some o) : SetBy prog w h2 a xs i := by
  obtain ⟨o, es, ep, tb, ho, rest⟩ := q
  exact ⟨o, es, ep, tb, k _ ho, rest⟩
theorem fill_texts (W : WalksS prog w A.in1 I fp wr G n P Z) (a : Addr) (ha : a ∉ fp) (xs : List Str)
    (hl : xs.length = n) (hn : n + 1 < scanBound) (hv : ∀ i v, P i v → ∃ t, v = .str (xs.getD i Str.empty) t) :
    ∀ (k i : Nat) (s : Shared), n - i = k → i ≤ n → Z i s → SetBy prog w s.heap a xs i →
      (∀ s2, Moved (a :: wr) G s s2 → SetBy prog w s2.heap a xs n → R (.ok (.ret .none)) s2) →
      codeAny (model prog w) A (.builtin "set.update.loop" ⟨[.ref a, .ref I], []⟩) R s := by
  have haw : a ∉ wr := fun z => ha (W.sub _ z)
  have sub : ∀ b ∈ wr, b ∈ a :: wr := fun b hb => List.mem_cons_of_mem _ hb
  intro k
  induction k with
  | zero =>
    intro i s hk hi hz hS hR
    obtain rfl : i = n := by omega
    refine codeAny_builtin PyProof.Rows.F.entry_set_update_loop ?_
    rw [Around.under_plainId PyProof.Rows.F.plain_set_update_loop _]
    show wpAny _ A.in1 (pyNext (.ref I) >>= _) _ _ s
    refine wpAny_bind (W.done s _ _ hz ?_)
    intro s2 hm
    show wpAny _ A.in1 (ret Value.none) _ _ s2
    refine wpAny_pure (hR s2 (hm.mono sub) (hS.kept ?_))
    intro o ho
    exact hm.heap a _ haw ho
  | succ k ih =>
    intro i s hk hi hz hS hR
    have lt : i < n := by omega
    have mle := met_le xs i
    refine codeAny_builtin PyProof.Rows.F.entry_set_update_loop ?_
    rw [Around.under_plainId PyProof.Rows.F.plain_set_update_loop _]
    show wpAny _ A.in1 (pyNext (.ref I) >>= _) _ _ s
    refine wpAny_bind (W.item i s _ _ lt hz ?_)
    intro v s2 hP hz2 hm
    obtain ⟨t, rfl⟩ := hv i v hP
    have hS2 : SetBy prog w s2.heap a xs i := hS.kept fun o ho => hm.heap a _ haw ho
    show wpAny _ A.in1 (holding [Value.str (xs.getD i Str.empty) t]
      (setAdd a (.str (xs.getD i Str.empty) t)) >>= _) _ _ s2
    refine wpAny_bind (wpAny_holding ?_)
    unfold setAdd
    refine wpAny_holding ?_
    refine wpAny_bind ((PySem.strKind prog w).pyHash (k := xs.getD i Str.empty) (strKind_is _ _ _ _) ?_)
    refine wpAny_setAddHashed_of (knd := PySem.strKind prog w) (s := { s2 with toks := s2.toks + 1 })
      (strKind_is _ _ _ _) rfl hS2 (by omega) ?_
    intro h3 same hS3
    have hS4 : SetBy prog w h3 a xs (i + 1) := by
      refine SetOf_congr hS3 ?_ rfl
      intro y
      have ei : xs[i]? = some (xs.getD i Str.empty) := by
        rw [List.getD_eq_getElem?_getD, List.getElem?_eq_getElem (by omega : i < xs.length)]
        rfl
      rw [List.take_add_one, ei, List.any_append]
      congr 1
      show decide (y = xs.getD i Str.empty) = ([xs.getD i Str.empty].any (· == y))
      simp only [List.any_cons, List.any_nil, Bool.or_false]
      by_cases e : y = xs.getD i Str.empty
      · rw [decide_eq_true e, ← e]
        exact (beq_self_eq_true y).symm
      · rw [decide_eq_false e]
        exact (beq_eq_false_iff_ne.mpr fun z => e z.symm).symm
    refine wpAny_pure ⟨plainId_quiet PyProof.Rows.F.plain_set_update_loop _, ?_⟩
    refine ih (i + 1) _ (by omega) lt (W.frame _ s2 _ _ hz2 (Nat.le_succ _) ?_) hS4 ?_
    · intro b hb o e
      rw [same.2 b (fun z : b = a => ha (z ▸ hb))]
      exact e
    · intro s5 hm5 hS5
      refine hR s5 (Moved.trans W.gtrans ((hm.mono sub).then_heap (Nat.le_succ _) ?_) hm5) hS5
      intro b o hb e
      rw [same.2 b (fun z : b = a => hb (z ▸ List.mem_cons_self))]
      exact e
end
abbrev emptySet (led : Bool) : Obj := { cls := .type "set", dict := none, data := .set #[] 0 (.fresh 0 0 led) }
section
variable {prog : Program} {w : World} {A : Around} {E : Value → Shared → Prop} {s : Shared}
set_option maxHeartbeats 3200000 in
theorem set_of_texts {t : Addr} {its : Array Value} {xs : List Str} {Q : Value → Shared → Prop}
    (hh : A.handled = none) (ht : s.heap.IsTuple t its) (hx : PyProof.Rows.StrsAre its.toList xs)
    (hb : xs.length + 1 < scanBound)
    (h : ∀ (h2 : Heap) (tk : Nat), SetBy prog w h2 s.heap.objs.size xs its.size →
      (∀ b o, b < s.heap.objs.size → s.heap.get? b = some o → h2.get? b = some o) →
      Q (.ref s.heap.objs.size) { s with heap := h2, toks := tk }) :
    wpAny (model prog w) A (call (.type "set") [.ref t]) Q E s := by
  obtain ⟨cc, ctl, hmro⟩ := PySem.F.called_set.mro
  have k1 := PySem.F.called_set.made
  have k2 := PySem.F.called_set.sub
  have k3 := PySem.F.called_set.notType
  have k4 := PySem.F.called_set.canCreate
  have k5 := PySem.F.typeCall_set_1 (.ref t)
  refine wpAny_call (codeAny_of_tree ?_)
  show wpAny _ _ (callAny (.type "set") _) _ _ _
  refine wpAny_pure ⟨Code.quiet_builtin _ (by decide +kernel),
    codeAny_builtin PySem.F.entry_type_call ?_⟩
  rw [Around.under_plain (weight_type_call_type "set" [.ref t] []) rfl]
  repeat (any_goals (first | assumption | wp_step))
  refine codeAny_mono (code_set_new_1 (.ref t) (E := E)
    (Q₁ := fun obj s1 => ∃ led : Bool, obj = .ref s.heap.objs.size ∧
      s1 = { s with heap := s.heap.push (emptySet led) }) fun led => ⟨led, rfl, rfl⟩) fun r s1 hr => ?_
  cases r with
  | error e => exact hr
  | ok fl =>
    cases fl with
    | next => exact hr.elim
    | brk => exact hr.elim
    | cont => exact hr.elim
    | ret obj =>
      obtain ⟨led, rfl, rfl⟩ := hr
      have hS : (s.heap.push (emptySet led)).get? s.heap.objs.size = some (emptySet led) :=
        Heap.get?_push_size _ rfl
      have hT : Shared.TypeIs { s with heap := s.heap.push (emptySet led) }
        (.ref s.heap.objs.size) "set" := ⟨_, hS, rfl⟩
      have k6 := PySem.F.called_set.init.lookup
      have k7 := PySem.F.called_set.init.bind (.ref s.heap.objs.size)
      repeat (any_goals (first | assumption | wp_step))
      refine codeAny_mono (codeAny_call_builtin
        (R := wants (fun r s2 => r = .none ∧ ∃ h2 tk, s2 = { s with heap := h2, toks := tk } ∧
          SetBy prog w h2 s.heap.objs.size xs its.size ∧
          (∀ b o, b < s.heap.objs.size → s.heap.get? b = some o → h2.get? b = some o)) E)
        PySem.F.called_set.init.plain PySem.F.entry_set_init (check_set_init_1 hT ?_)) fun r2 s2 hr2 => ?_
      · obtain ⟨ot, hot, hc, nt, hd⟩ := ht
        obtain ⟨c1, d1, dt, sl⟩ := ot
        simp only at hc hd
        subst hc hd
        have hot2 := Heap.get?_push_of_some (emptySet led) hot
        have k8 := PySem.F.sub_tuple_set
        have k9 := PySem.F.sub_tuple_frozenset
        have k10 : (Value.type "tuple" == Value.type "dict") = false := by decide
        have ht1 : (s.heap.push (emptySet led)).IsTuple t its := ⟨_, hot2, rfl, nt, rfl⟩
        unfold Builtin.«set.__init__» noKeywords Builtin.Frozenset.updateFrom
        generalize hPI : pyIter = PI
        wp_walk
        subst hPI
        refine wpAny_pyIter_tuple ht1 ?_
        refine wpAny_bind (wpAny_runValue ?_)
        have ltS : t < s.heap.objs.size := Heap.lt_size hot
        have hh3 : A.in1.in1.in1.handled = none := by simp [hh]
        have ne1 : t ≠ (s.heap.push (emptySet led)).objs.size := by
          rw [Heap.size_push]
          exact Nat.ne_of_lt (Nat.lt_succ_of_lt ltS)
        have nf : s.heap.objs.size ∉ [(s.heap.push (emptySet led)).objs.size, t] := by
          rw [Heap.size_push]
          intro z
          rcases List.mem_cons.mp z with y | y
          · exact absurd y (Nat.ne_of_lt (Nat.lt_succ_self _))
          · exact absurd (List.mem_singleton.mp y) (Nat.ne_of_gt ltS)
        have sz : xs.length = its.size := by
          rw [← StrsAre.len_eq hx, Array.length_toList]
        refine fill_texts ((Walks.tuple hh3 _ t ne1 its).toS) s.heap.objs.size nf xs sz (by omega)
          (fun i v e => SS.strs_at hx i v (by rw [Array.getElem?_toList]; exact e)) (its.size - 0) 0 _ (by omega) (Nat.zero_le _)
          ⟨⟨_, Heap.get?_push_size _ rfl, rfl, rfl⟩, (ht1.push _)⟩ ?c0 ?c1
        case c0 =>
          refine PyProof.Rows.SetOf_congr ((PyProof.Rows.setObjOf_fresh (knd := PySem.strKind prog w) led).setOf
            (Heap.get?_push_of_some _ hS) (by unfold scanBound; omega)) (fun _ => rfl) rfl
        case c1 =>
          intro s3 hm hS3
          obtain ⟨h3, g3, d3, tk3, os3⟩ := s3
          obtain rfl : g3 = s.gens := hm.gens
          obtain rfl : d3 = s.drawn := hm.drawn
          obtain rfl : os3 = s.os := hm.os
          show wpAny _ _ _ _ _ _
          refine wpAny_pure ?_
          show wpAny _ _ (ret Value.none) _ _ _
          refine wpAny_pure ⟨rfl, h3, tk3, rfl, hS3, ?_⟩
          intro b o hb e
          refine hm.heap b o ?_ (Heap.get?_push_of_some _ (Heap.get?_push_of_some _ e))
          intro z
          rcases List.mem_cons.mp z with y | y
          · exact absurd y (Nat.ne_of_lt hb)
          · have y2 := List.mem_singleton.mp y
            rw [Heap.size_push] at y2
            exact absurd y2 (Nat.ne_of_lt (Nat.lt_succ_of_lt hb))
      · cases r2 with
        | error e => exact hr2
        | ok fl2 =>
          cases fl2 with
          | next => exact hr2.elim
          | brk => exact hr2.elim
          | cont => exact hr2.elim
          | ret r =>
            obtain ⟨rfl, h2, tk, rfl, hS2, kp⟩ := hr2
            repeat (any_goals (first | assumption | wp_step))
            exact h _ _ hS2 kp
end
def tLenTexts (K : PySem.W.Frag) (ta : TE) : TE := fun σ H Q => ta σ H fun x H1 =>
  ∃ (l : Addr) (xs : List Str), x = .ref l ∧ SqT K H1 l (xs.map V.str) ∧ xs.length ≤ 4000 ∧ Q (.int (met xs xs.length : Nat)) H1
section
variable {X : Cx} {a : Expr} {ta : TE} {p p2 q pos : Pos}
theorem pe_lenTexts (hc : X.calm = true) (hg : Gl X "len") (hm : X.mg "len" = none) (hg2 : Gl X "set")
    (hm2 : X.mg "set" = none) (ha : PE X a ta)
    (na : starEach [a] X.env = (false, eval a X.env) :: starEach [] X.env := by rfl) :
    PE X (.Call (.Name "len" p) [.Call (.Name "set" p2) [a] [] q] [] pos) (tLenTexts X.K ta) := by
  constructor
  intro pins s σ H Q I h
  refine Call_ (ld_blt I hg hm boot_len ?_)
  refine PyProof.Rows.callWith_builtin1
    (PyProof.Rows.args_cons ?_ rfl) rfl rfl
  refine Call_ (ld_blt I hg2 hm2 boot_set ?_)
  refine PyProof.Rows.callWith_type1 (PyProof.Rows.args_cons (thn (ha.run pins s σ H _ I h)
    fun v s1 ⟨x, H1, I1, r1, q1⟩ => PyProof.Rows.args_nil ?_) na) na rfl
  obtain ⟨l, xs, rfl, hq, hn, q1⟩ := q1
  cases r1
  obtain ⟨its, r, pl, hz⟩ := I1.tuple hq
  have hl : its.toArray.size = xs.length := by
    rw [List.size_toArray, ← r.length, List.length_map]
  refine set_of_texts (I1.ok.hd hc) pl (by simpa using strsAre_of r) (by unfold scanBound; omega) ?_
  intro h2 tk hS hk
  refine PyProof.Rows.args_nil ?_
  rw [hl] at hS
  obtain ⟨o, es, ep, t, ho, hex, hd, _, _, _, hf, hsz⟩ := hS
  have I2 : Inv X pins σ H1 { s1 with heap := h2, toks := tk } :=
    I1.kept fun b o e => hk b o (Heap.lt_size e) e
  have mle := met_le xs xs.length
  exact call_len_set ho hex hd hf (by rw [hsz]; omega)
    ⟨.int (met xs xs.length : Nat), H1, I2.tok _, ⟨_, by rw [hsz]⟩, q1⟩
end
end Kv
namespace Kv
open PySem PySem.Spec PyProof.Rows L2
def PotAt (H : Hp) (p : Addr) : Prop := ∃ r g : Int, H p = some (.lst [.int r, .int g]) ∧ 0 ≤ r ∧ 0 ≤ g ∧ g < 2147483647
def But (p : Addr) (H H' : Hp) : Prop := ∀ b o, b ≠ p → H b = some o → H' b = some o
theorem But.refl {p : Addr} {H : Hp} : But p H H := fun _ _ _ h => h
theorem But.trans {p : Addr} {H H1 H2 : Hp} (a : But p H H1) (b : But p H1 H2) : But p H H2 :=
  fun c o n h => b c o n (a c o n h)
theorem But.of_same {p : Addr} {H H1 : Hp} (a : Same H H1) : But p H H1 := fun c o _ h => a c o h
theorem same_new {H : Hp} {p : Addr} {o : HO} (h : H p = none) : Same H (upd H p o) := by
  intro b x e
  rw [upd_ne (ne_of_none e h)]
  exact e
theorem PotAt.same {H H' : Hp} {p : Addr} (h : PotAt H p) (s : Same H H') : PotAt H' p := by
  obtain ⟨r, g, e, q⟩ := h
  exact ⟨r, g, s _ _ e, q⟩
theorem divp_small {i j : Int} (hj : 0 < j) (h : j.natAbs < 2 ^ 8000) : CDivP i j := by
  refine ⟨hj, ?_⟩
  have hl : j.natAbs.log2 < 8000 := (Nat.log2_lt (by omega)).mpr h
  show (decide ((if j == 0 then 0 else j.natAbs.log2 / 30 + 1) > 300) && decide (_ > _)) = false
  have z : ¬ ((if j == 0 then 0 else j.natAbs.log2 / 30 + 1) > 300) := by
    split <;> omega
  rw [decide_eq_false z, Bool.false_and]
theorem But.new {p q : Addr} {H H1 : Hp} {o : HO} (a : But p H H1) (n : H1 q = none) : But p H (upd H1 q o) :=
  fun c u nc h => same_new n c u (a c u nc h)
theorem same_new2 {H : Hp} {p : Addr} {o u : HO} (h : H p = none) : Same H (upd (upd H p o) p u) := by
  rw [upd_upd]
  exact same_new h
theorem num_sm {i : Int} (h0 : 0 ≤ i) (h : i.natAbs ≤ 10 ^ 60) : Sm 250 (Str.ofString (toString i)) := by
  obtain ⟨n, rfl⟩ := Int.eq_ofNat_of_zero_le h0
  refine ⟨?_, fun c hc => ?_⟩
  · have e := int_text_length_le (k := 200) (by decide) (log2_small h)
    rw [PySem.ofString_length]
    omega
  · have e : TL.tl (Str.ofString (toString ((n : Nat) : Int))) = TL.numL n := TL.tl_num n
    have hc2 : c ∈ TL.numL n := by
      rw [← e]
      exact hc
    unfold TL.numL at hc2
    obtain ⟨z, hz, rfl⟩ := List.mem_map.mp hc2
    have := Nat.isDigit_of_mem_toDigits (by decide) (by decide) hz
    simp only [Char.isDigit, Bool.and_eq_true, decide_eq_true_eq] at this
    have h2 : z.val.toNat ≤ 57 := this.2
    show z.val.toNat < 128
    omega
theorem But.same {p : Addr} {H0 H H' : Hp} (h : But p H H') (n : H0 p = none) (s : Same H0 H) : Same H0 H' :=
  fun b o e => h b o (ne_of_none e n) (s b o e)
def az : List Nat := ("abcdefghijklmnopqrstuvwxyz" : Str).cps.toList
def inAz (c : Nat) : Bool := decide (c ∈ az)
def nameV : V → Bool
  | .str x => (decide (1 ≤ x.length) && decide (x.length ≤ 8)) && x.cps.toList.all inAz
  | _ => false
theorem nameV_not {v : V} (h : ∀ x, v ≠ .str x) : nameV v = false := by
  cases v with
  | str x => exact absurd rfl (h x)
  | _ => rfl
end Kv
/-! Rows of a hierarchy: names and superclasses. -/
namespace Kv
open PySem PySem.Spec PyProof.Rows L2
abbrev Row2 := Str × List Str
def fsts (rows : List Row2) : List Str := rows.map (·.1)
def Valid (rows : List Row2) : Prop := ∀ (i : Nat) (n : Str) (ss : List Str), rows[i]? = some (n, ss) →
  nameV (.str n) = true ∧ n ∉ fsts (rows.take i) ∧ ss.Nodup ∧ ∀ s ∈ ss, s ∈ fsts (rows.take i)
theorem Valid.snoc {rows : List Row2} {n : Str} {ss : List Str} (v : Valid rows) (h1 : nameV (.str n) = true)
    (h2 : n ∉ fsts rows) (h3 : ss.Nodup) (h4 : ∀ s ∈ ss, s ∈ fsts rows) : Valid (rows ++ [(n, ss)]) := by
  intro i m ts h
  by_cases hi : i < rows.length
  · rw [List.getElem?_append_left hi] at h
    rw [List.take_append_of_le_length (by omega)]
    exact v i m ts h
  · have hi2 : i = rows.length := by
      have := (List.getElem?_eq_some_iff.mp h).1
      rw [List.length_append] at this
      have h1 : [(n, ss)].length = 1 := rfl
      omega
    subst hi2
    rw [List.getElem?_append_right (Nat.le_refl _), Nat.sub_self] at h
    cases h
    rw [List.take_append_of_le_length (Nat.le_refl _), List.take_length]
    exact ⟨h1, h2, h3, h4⟩
def RowAt (H : Hp) (v : V) (r : Row2) : Prop := ∃ t s, v = .ref t ∧ H t = some (.tup [.str r.1, .ref s]) ∧ H s = some (.tup (r.2.map V.str))
def RowsAre (H : Hp) : List V → List Row2 → Prop := Paired (RowAt H)
theorem RowAt.same {H H' : Hp} (s : Same H H') {v : V} {r : Row2} (h : RowAt H v r) : RowAt H' v r := by
  obtain ⟨t, u, e, h1, h2⟩ := h
  exact ⟨t, u, e, s _ _ h1, s _ _ h2⟩
theorem RowsAre.same {H H' : Hp} (s : Same H H') {vs : List V} {rows : List Row2} (h : RowsAre H vs rows) : RowsAre H' vs rows :=
  Paired.mapP h fun _ _ z => z.same s
theorem RowsAre.length {H : Hp} {vs : List V} {rows : List Row2} (h : RowsAre H vs rows) : vs.length = rows.length := Paired.length h
theorem RowsAre.snoc {H : Hp} : ∀ {vs : List V} {rows : List Row2} {v : V} {r : Row2}, RowsAre H vs rows → RowAt H v r → RowsAre H (vs ++ [v]) (rows ++ [r])
  | _, _, _, _, .nil, h => .cons h .nil
  | _, _, _, _, .cons a b, h => .cons a (RowsAre.snoc b h)
theorem RowsAre.get {H : Hp} : ∀ {vs : List V} {rows : List Row2} {i : Nat} {v : V}, RowsAre H vs rows → vs[i]? = some v → ∃ r, rows[i]? = some r ∧ RowAt H v r
  | _, _, _, _, .nil, e => by simp at e
  | _, _, 0, _, .cons a _, e => by
    simp at e
    subst e
    exact ⟨_, rfl, a⟩
  | _, _, i + 1, v, .cons _ b, e => by
    obtain ⟨r, h1, h2⟩ := RowsAre.get (i := i) (v := v) b (by simpa using e)
    exact ⟨r, by simpa using h1, h2⟩
theorem RowAt.wr {H : Hp} {R : Addr} {xs : List V} {o : HO} (h : H R = some (.lst xs)) {v : V} {r : Row2} (a : RowAt H v r) : RowAt (upd H R o) v r := by
  obtain ⟨t, u, e, h1, h2⟩ := a
  exact ⟨t, u, e, by rw [upd_ne (ne_of h1 h (by intro z; cases z))]; exact h1, by rw [upd_ne (ne_of h2 h (by intro z; cases z))]; exact h2⟩
theorem RowsAre.wr {H : Hp} {R : Addr} {xs : List V} {o : HO} (h : H R = some (.lst xs)) {vs : List V} {rows : List Row2} (a : RowsAre H vs rows) : RowsAre (upd H R o) vs rows :=
  Paired.mapP a fun _ _ z => z.wr h
theorem fsts_snoc (rows : List Row2) (n : Str) (ss : List Str) : fsts (rows ++ [(n, ss)]) = fsts rows ++ [n] := by
  unfold fsts
  rw [List.map_append]
  rfl
/-! ### permuted texts -/
/-! ### letters that are left -/
theorem inV_strs (y : Str) : ∀ xs : List Str, inV (.str y) (xs.map V.str) = decide (y ∈ xs)
  | [] => rfl
  | x :: r => by
    have ih := inV_strs y r
    show (eqV (.str x) (.str y) || inV (.str y) (r.map V.str)) = _
    rw [ih]
    show ((x == y) || decide (y ∈ r)) = decide (y ∈ x :: r)
    by_cases e : x = y
    · subst e
      simp
    · have e2 : (x == y) = false := beq_eq_false_iff_ne.mpr e
      rw [e2, Bool.false_or]
      by_cases h : y ∈ r
      · rw [decide_eq_true h, decide_eq_true (List.mem_cons_of_mem _ h)]
      · rw [decide_eq_false h, decide_eq_false (fun z => by
          rcases List.mem_cons.mp z with z | z
          · exact e z.symm
          · exact h z)]
theorem filter_one {α : Type} [DecidableEq α] (f : α) : ∀ {L : List α}, L.Nodup → L.length ≤ (L.filter fun y => decide (y ≠ f)).length + 1
  | [], _ => Nat.zero_le _
  | x :: r, h => by
    obtain ⟨h1, h2⟩ := List.nodup_cons.mp h
    by_cases e : x = f
    · subst e
      have e2 : r.filter (fun y => decide (y ≠ x)) = r := List.filter_eq_self.mpr fun y hy => decide_eq_true fun z => h1 (z ▸ hy)
      rw [List.filter_cons_of_neg (by simp), e2]
      exact Nat.le_refl _
    · have ih := filter_one f h2
      rw [List.filter_cons_of_pos (by simpa using e), List.length_cons, List.length_cons]
      omega
theorem filter_left {α : Type} [DecidableEq α] : ∀ (F : List α) {L : List α}, L.Nodup → L.length ≤ (L.filter fun y => decide (y ∉ F)).length + F.length
  | [], L, h => by
    have : L.filter (fun y => decide (y ∉ ([] : List α))) = L := List.filter_eq_self.mpr fun y _ => by simp
    rw [this]
    exact Nat.le_add_right _ _
  | f :: F, L, h => by
    have ih := filter_left F h
    have h2 : (L.filter fun y => decide (y ∉ F)).Nodup := h.filter _
    have h3 := filter_one f h2
    have e : (L.filter fun y => decide (y ∉ F)).filter (fun y => decide (y ≠ f)) = L.filter fun y => decide (y ∉ f :: F) := by
      rw [List.filter_filter]
      refine List.filter_congr fun y _ => ?_
      by_cases a : y = f <;> by_cases b : y ∈ F <;> simp [a, b]
    rw [e] at h3
    rw [List.length_cons]
    omega
def letters : List Str := az.map fun c => ⟨#[c]⟩
end Kv
/-! for i, x in enumerate(t), t a tuple. -/
namespace Kv
open PySem PySem.Spec PyProof.Rows L2
open AutoSeq1 (wpAny_loadPart')
abbrev tupIt (t : Addr) : Obj := { cls := .type "tuple_iterator", data := .fields #[.ref t, .int 0 0] }
abbrev enumOf (it : Addr) : Obj := { cls := .type "enumerate", data := .fields #[.none, .bool false, .ref it, rawInt 0, .none, .none] }
set_option maxHeartbeats 1000000 in
theorem enum_new (t : Addr) (items : Array Value) (n : Nat) (dct : Option Addr) (sl : Array (Option Value)) :
    Meets (Builtin.«enumerate.__new__» ⟨[.type "enumerate", .ref t], []⟩) (fun _ R s =>
      s.heap.get? t = some { cls := .type "tuple", dict := dct, data := .seq items n, slots := sl } ∧
      R (.ok (.ret (.ref (s.heap.push (tupIt t)).objs.size)))
        { s with heap := (s.heap.push (tupIt t)).push (enumOf s.heap.objs.size) }) :=
  .of_wp fun prog w A R s h => by
    obtain ⟨hp, g, d, tk, os⟩ := s
    obtain ⟨hl, h⟩ := h
    have hsub := sub_enumerate
    have hT : Heap.IsTuple (Shared.heap ⟨hp, g, d, tk, os⟩) t items :=
      ⟨_, hl, rfl, n, rfl⟩
    wp_walk using wpAny_loadPart' hl
    refine wpAny_stack_any fun st =>
      wpAny_pure ?_
    split
    · rename_i c _ _ _ _ _
      cases (c == Value.type "enumerate") <;>
        (wp_walk using wpAny_loadPart' hl, wpAny_pyIter_tuple hT
         exact ⟨_, rfl, h⟩)
    · wp_walk using wpAny_loadPart' hl, wpAny_pyIter_tuple hT
      exact ⟨_, rfl, h⟩
section
variable {prog : Program} {w : World} {A : Around} {E : Value → Shared → Prop} {s : Shared}
theorem enum_call {t : Addr} {items : Array Value} {Q : Value → Shared → Prop} (hL : s.heap.IsTuple t items)
    (h : ∀ h2, IsEnum h2 (s.heap.objs.size + 1) s.heap.objs.size 0 .none → h2.IsTupleIter s.heap.objs.size t 0 →
      (∀ b o, s.heap.get? b = some o → h2.get? b = some o) →
      Q (.ref (s.heap.objs.size + 1)) { s with heap := h2 }) :
    wpAny (model prog w) A (call (.type "enumerate") [.ref t]) Q E s := by
  obtain ⟨⟨c, dct, dt, sl⟩, hl, hc, n, hd⟩ := hL
  obtain rfl : c = .type "tuple" := hc
  obtain rfl : dt = .seq items n := hd
  refine callType_new F.called_enumerate (by decide) (F.typeCall_enumerate_1 _) (F.newCall_enumerate_1 _)
    (fun obj => F.args_object_init_2 obj _) F.entry_enumerate_new (enum_new t items n dct sl) ⟨hl, ?_⟩
  have hz : (s.heap.push (tupIt t)).objs.size = s.heap.objs.size + 1 := Heap.size_push ..
  show _ ∧ _
  rw [hz]
  have he : IsEnum ((s.heap.push (tupIt t)).push (enumOf s.heap.objs.size)) (s.heap.objs.size + 1) s.heap.objs.size 0 .none := by
    have q := Heap.get?_push_size (s.heap.push (tupIt t)) (o := enumOf s.heap.objs.size) rfl
    rw [hz] at q
    exact q
  refine ⟨⟨_, he, rfl⟩, h _ he ?_ ?_⟩
  · exact ⟨_, Heap.get?_push_of_some _ (Heap.get?_push_size _ rfl), rfl, rfl⟩
  · intro b o x
    exact Heap.get?_push_of_some _ (Heap.get?_push_of_some _ x)
end
def Itet (K : PySem.W.Frag) (a : Addr) : It :=
  ⟨fun i H => ∃ (xs : List V) (x : V), SqT K H a xs ∧ xs[i]? = some x,
   fun i H v H' => ∃ T x, v = .ref T ∧ H T = none ∧ H' = upd H T (.tup [.int (i : Nat), x]) ∧
     ∀ xs, SqT K H a xs → xs[i]? = some x,
   fun i H => ∃ xs : List V, SqT K H a xs ∧ xs.length = i⟩
theorem turn_enumT {P : Program} {w : World} {K : PySem.W.Frag} {elts : List Expr} {kk : Nat} {tpos : Pos} (a e it : Addr) :
    Turn P w K (.Tuple elts kk tpos) (Itet K a) [e, it] e
      (fun i h => (∃ old, IsEnum h e it ((i : Nat) : Int) old) ∧ h.IsTupleIter it a i ∧ e ≠ it ∧ a ≠ it ∧ a ≠ e) where
  mem := by simp
  obj := by
    intro i h st b hb
    obtain ⟨⟨old, he⟩, ⟨o, ho, hc, hd⟩, _⟩ := st
    rcases List.mem_cons.mp hb with z | z
    · rw [z]
      exact ⟨_, he, fun v q => nomatch q⟩
    · rw [List.mem_singleton.mp z]
      exact ⟨o, ho, fun v q => by rw [hd] at q; cases q⟩
  keep := by
    intro i h h2 st k
    obtain ⟨⟨old, he⟩, hi, ne⟩ := st
    exact ⟨⟨old, k e (by simp) _ he⟩, hi.at fun o q => k it (by simp) o q, ne⟩
  item := by
    intro X hP hw hK hc i pins s σ H E I hf st hg
    subst hP hw hK
    obtain ⟨⟨old, he⟩, hit, hne, nai, nae⟩ := st
    obtain ⟨xs, x, hq, hx⟩ := hg
    obtain ⟨its, rv, p, hz⟩ := I.tuple hq
    obtain ⟨u, hu, ru⟩ := rv.get hx
    have lte : e < s.heap.objs.size := Heap.lt_size he
    have lti : it < s.heap.objs.size := by
      obtain ⟨_, q, _⟩ := hit
      exact Heap.lt_size q
    have hil : i < its.toArray.size := by
      rw [List.size_toArray]
      exact (List.getElem?_eq_some_iff.mp hu).1
    refine wpAny_pyNext_enum_itemD (Draws.tuple (A := X.A.in1) (I.ok.hd hc) it a nai its.toArray) he ⟨hit, p⟩ hil hne ?_ ?_
    · intro z
      rcases List.mem_cons.mp z with y | y
      · exact hne y
      · exact nae (List.mem_singleton.mp y).symm
    intro y h2 tk hy ho hit2 hT hsz hk
    obtain rfl : y = u := by
      have hy2 : its.toArray[i]? = some y := hy
      have hu2 : its.toArray[i]? = some u := by simpa using hu
      rw [hu2] at hy2
      exact (Option.some.inj hy2).symm
    refine ⟨_, rfl, wpAny_letOwnedTupleGo_enum (s := { s with heap := h2, toks := tk + 1 }) ho ?_⟩
    intro h3 he3 sb
    have hT3 : h3.get? s.heap.objs.size = some { cls := .type "tuple", data := .seq #[.int i tk, y] } :=
      (sb.2 _ (Nat.ne_of_gt lte)).trans hT
    have new : ObjOk X.prog X.w (upd H s.heap.objs.size (.tup [.int (i : Nat), x])) h3 s.heap.objs.size (.tup [.int (i : Nat), x]) := by
      refine ⟨(by decide : 2 ≤ sizeLine), [.int i tk, y], .cons ⟨_, rfl⟩ (.cons ru .nil), ?_⟩
      exact ⟨_, hT3, rfl, _, rfl⟩
    have I1 : Inv X pins σ (upd H s.heap.objs.size (.tup [.int (i : Nat), x])) { s with heap := h3, toks := tk + 1 } := by
      refine I.turnedNew (ch := [e, it]) ?_ hf (Nat.le_refl _) new
      intro b ob hb q
      have nb1 : b ≠ e := fun z => hb (by simp [z])
      have nb2 : b ≠ it := fun z => hb (by simp [z])
      exact (sb.2 b nb1).trans (hk b ob nb1 nb2 q)
    refine ⟨.ref s.heap.objs.size, _, I1, rfl, ⟨_, x, rfl, I.hok.fresh (Nat.le_refl _), rfl, ?_⟩, ⟨⟨y, ?_⟩, ?_, hne, nai, nae⟩, ?_⟩
    · intro ys hys
      rw [I.tuple_inj hys hq]
      exact hx
    · have e1 : ((i + 1 : Nat) : Int) = (i : Int) + 1 := by omega
      rw [e1]
      exact he3
    · exact hit2.1.at fun o q => (sb.2 it (Ne.symm hne)).trans q
    · intro b hb
      have lb : b < s.heap.objs.size := by
        rcases List.mem_cons.mp hb with z | z
        · rw [z]
          exact lte
        · rw [List.mem_singleton.mp z]
          exact lti
      rw [upd_ne (Nat.ne_of_lt lb)]
      exact (hf b hb).1
  done := by
    intro X hP hw hK hc i pins s σ H E I hf st hg
    subst hP hw hK
    obtain ⟨⟨old, he⟩, hit, hne, nai, nae⟩ := st
    obtain ⟨xs, hq, hx⟩ := hg
    obtain ⟨its, rv, p, hz⟩ := I.tuple hq
    obtain ⟨f0, f1, f2, f3, f4, f5⟩ := hf it (by simp)
    have hl := rv.length
    have ei : its.toArray.size = i := by
      rw [List.size_toArray, ← hl]
      exact hx
    refine wpAny_pyNext_enum_endD (Draws.tuple (A := X.A.in1) (I.ok.hd hc) it a nai its.toArray) he ⟨?_, p⟩ ?_
    · rw [ei]
      exact hit
    · intro h2 eb
      exact ⟨rfl, I.turned (t' := s.toks) (fun b o hb q => eb b o hb q) f0 f1 f3 f4 f5⟩
  self := by
    intro A i s Q E st h
    obtain ⟨⟨_, he⟩, _⟩ := st
    exact wpAny_pyIter_enum he h
def iEnumS (K : PySem.W.Frag) (ta : TA) : TI := fun σ H R => ta σ H fun vs H1 =>
  (∃ a xs, vs = [.ref a] ∧ SqL K H1 a xs ∧ R (Ite K a) H1) ∨ ∃ a xs, vs = [.ref a] ∧ SqT K H1 a xs ∧ R (Itet K a) H1
theorem pi_enumS {X : Cx} {e : Expr} {ta : TA} {p pos tpos : Pos} {elts : List Expr} {kk : Nat} (hg : Gl X "enumerate")
    (hm : X.mg "enumerate" = none) (ha : PA X [e] ta) (hs : starEach [e] X.env = [(false, eval e X.env)] := by rfl) :
    PI X (.Tuple elts kk tpos) (.Call (.Name "enumerate" p) [e] [] pos) (iEnumS X.K ta) := by
  constructor
  intro pins s σ H R I h
  refine Call_ (ld_blt I hg hm boot_enumerate (PyProof.Rows.callWith_type1
    (thn (ha.run pos pins s σ H _ I h) fun us s1 ⟨vs, H1, I1, r1, q1⟩ => ?_) hs rfl))
  have fresh : ∀ b ∈ [s1.heap.objs.size + 1, s1.heap.objs.size], FpOk X pins H1 b := by
    intro b hb
    have le : s1.heap.objs.size ≤ b := by
      rcases List.mem_cons.mp hb with z | z
      · rw [z]
        exact Nat.le_succ _
      · rw [List.mem_singleton.mp z]
        exact Nat.le_refl _
    exact I1.fpOk le (I1.hok.fresh le)
  rcases q1 with ⟨a, xs, rfl, hq, q⟩ | ⟨a, xs, rfl, hq, q⟩
  · cases r1 with
    | cons r rr =>
      cases rr
      cases r
      obtain ⟨its, rv, pl, hz⟩ := I1.list hq
      refine call_enumerate_list pl.isList fun h2 he hit hsz hk => wpAny_pyIter_enum he ?_
      exact ⟨s1.heap.objs.size + 1, [s1.heap.objs.size + 1, s1.heap.objs.size], _, _, H1, rfl, I1.kept (t' := s1.toks) hk,
        turn_enum a (s1.heap.objs.size + 1) s1.heap.objs.size, ⟨⟨.none, he⟩, hit, Nat.succ_ne_self _⟩, fresh, q⟩
  · cases r1 with
    | cons r rr =>
      cases rr
      cases r
      obtain ⟨its, rv, pl, hz⟩ := I1.tuple hq
      have lta : a < s1.heap.objs.size := by
        obtain ⟨o, ho, _⟩ := pl
        exact Heap.lt_size ho
      refine enum_call pl fun h2 he hit hk => wpAny_pyIter_enum he ?_
      exact ⟨s1.heap.objs.size + 1, [s1.heap.objs.size + 1, s1.heap.objs.size], _, _, H1, rfl, I1.kept (t' := s1.toks) hk,
        turn_enumT a (s1.heap.objs.size + 1) s1.heap.objs.size,
        ⟨⟨.none, he⟩, hit, Nat.succ_ne_self _, Nat.ne_of_lt lta, Nat.ne_of_lt (Nat.lt_succ_of_lt lta)⟩, fresh, q⟩
end Kv
/-! The classes above a class, as a hierarchy keeps them. -/
namespace Kv
open PySem PySem.Spec PyProof.Rows L2
def flag (as : List Str) : List (Key × V) := as.map fun a => (Sum.inr a, V.bl true)
def addA (acc : List Str) (a : Str) : List Str := if a ∈ acc then acc else acc ++ [a]
def addAll (acc as : List Str) : List Str := as.foldl addA acc
abbrev Tab := List (Str × List Str)
def look (tab : Tab) (x : Str) : List Str := (tab.lookup x).getD []
def ancOf (tab : Tab) (n : Str) (ss : List Str) : List Str := ss.foldl (fun acc s => addAll acc (look tab s)) [n]
def tabKeys (tab : Tab) : List Str := tab.map (·.1)
def ancTab (rows : List Row2) : Tab := rows.foldl (fun tab r => tab ++ [(r.1, ancOf tab r.1 r.2)]) []
theorem keyr_ne {a b : Str} (h : a ≠ b) : ¬ ((Sum.inr a : Key) = Sum.inr b) := fun z => h (Sum.inr.inj z)
theorem valV_flag (a : Str) : ∀ as : List Str, valV (flag as) (Sum.inr a : Key) = if a ∈ as then some (.bl true) else none
  | [] => rfl
  | x :: r => by
    have ih := valV_flag a r
    show valV (((Sum.inr x : Key), V.bl true) :: flag r) _ = _
    by_cases e : x = a
    · subst e
      rw [valV_pos rfl, if_pos (List.mem_cons_self ..)]
    · rw [valV_neg (keyr_ne e), ih]
      by_cases h : a ∈ r
      · rw [if_pos h, if_pos (List.mem_cons_of_mem _ h)]
      · rw [if_neg h, if_neg (fun z => by
          rcases List.mem_cons.mp z with z | z
          · exact e z.symm
          · exact h z)]
theorem flag_map (a : Str) : ∀ as : List Str, (flag as).map (fun kv => if kv.1 = (Sum.inr a : Key) then (kv.1, V.bl true) else kv) = flag as
  | [] => rfl
  | x :: r => by
    show (if (Sum.inr x : Key) = Sum.inr a then ((Sum.inr x : Key), V.bl true) else ((Sum.inr x : Key), V.bl true)) :: (flag r).map _ = ((Sum.inr x : Key), V.bl true) :: flag r
    rw [flag_map a r]
    split <;> rfl
theorem put_flag (acc : List Str) (a : Str) : putK (flag acc) (Sum.inr a : Key) (.bl true) = flag (addA acc a) := by
  unfold putK addA
  rw [valV_any, valV_flag]
  by_cases h : a ∈ acc
  · rw [if_pos h, if_pos h]
    rw [if_pos (by rfl : (some (V.bl true)).isSome = true)]
    exact flag_map a acc
  · rw [if_neg h, if_neg h]
    show (if (none : Option V).isSome = true then _ else _) = _
    rw [if_neg (by simp)]
    unfold flag
    rw [List.map_append]
    rfl
theorem flag_len (as : List Str) : (flag as).length = as.length := List.length_map _
theorem addA_nodup {acc : List Str} {a : Str} (h : acc.Nodup) : (addA acc a).Nodup := by
  unfold addA
  split
  · exact h
  · rename_i hn
    rw [List.nodup_append]
    refine ⟨h, List.pairwise_singleton _ _, fun x hx y hy => ?_⟩
    rw [List.mem_singleton.mp hy]
    rintro rfl
    exact hn hx
theorem mem_addA {acc : List Str} {a x : Str} : x ∈ addA acc a ↔ x ∈ acc ∨ x = a := by
  unfold addA
  split
  · rename_i h
    constructor
    · exact Or.inl
    · rintro (z | rfl)
      · exact z
      · exact h
  · rw [List.mem_append, List.mem_singleton]
theorem addAll_snoc (acc as : List Str) (a : Str) : addAll acc (as ++ [a]) = addA (addAll acc as) a := by
  unfold addAll
  rw [List.foldl_append]
  rfl
theorem addAll_take {as : List Str} {i : Nat} {a : Str} (acc : List Str) (h : as[i]? = some a) : addAll acc (as.take (i + 1)) = addA (addAll acc (as.take i)) a := by
  rw [List.take_add_one, h]
  exact addAll_snoc ..
theorem addAll_nodup : ∀ {as acc : List Str}, acc.Nodup → (addAll acc as).Nodup
  | [], _, h => h
  | a :: r, acc, h => addAll_nodup (as := r) (addA_nodup h)
theorem mem_addAll {x : Str} : ∀ {as acc : List Str}, x ∈ addAll acc as ↔ x ∈ acc ∨ x ∈ as
  | [], acc => by
    show x ∈ acc ↔ _
    simp
  | a :: r, acc => by
    show x ∈ addAll (addA acc a) r ↔ _
    rw [mem_addAll, mem_addA, List.mem_cons]
    constructor
    · rintro ((z | z) | z)
      · exact Or.inl z
      · exact Or.inr (Or.inl z)
      · exact Or.inr (Or.inr z)
    · rintro (z | z | z)
      · exact Or.inl (Or.inl z)
      · exact Or.inl (Or.inr z)
      · exact Or.inr z
def ancAt (tab : Tab) (n : Str) (ss : List Str) (i : Nat) : List Str := ancOf tab n (ss.take i)
theorem ancAt_next {tab : Tab} {n : Str} {ss : List Str} {i : Nat} {s : Str} (h : ss[i]? = some s) : ancAt tab n ss (i + 1) = addAll (ancAt tab n ss i) (look tab s) := by
  unfold ancAt ancOf
  rw [List.take_add_one, h, List.foldl_append]
  rfl
theorem ancOf_nodup {tab : Tab} {n : Str} {ss : List Str} : (ancOf tab n ss).Nodup := by
  unfold ancOf
  have : ∀ (l acc : List Str), acc.Nodup → (l.foldl (fun acc s => addAll acc (look tab s)) acc).Nodup := by
    intro l
    induction l with
    | nil => intro acc h; exact h
    | cons a r ih => intro acc h; exact ih _ (addAll_nodup h)
  exact this ss [n] (List.pairwise_singleton _ _)
theorem mem_ancOf {tab : Tab} {n x : Str} {ss : List Str} : x ∈ ancOf tab n ss ↔ x = n ∨ ∃ s ∈ ss, x ∈ look tab s := by
  have : ∀ (l acc : List Str), x ∈ l.foldl (fun acc s => addAll acc (look tab s)) acc ↔ x ∈ acc ∨ ∃ s ∈ l, x ∈ look tab s := by
    intro l
    induction l with
    | nil => intro acc; simp
    | cons a r ih =>
      intro acc
      show x ∈ r.foldl _ (addAll acc (look tab a)) ↔ _
      rw [ih, mem_addAll]
      constructor
      · rintro ((z | z) | ⟨s, hs, z⟩)
        · exact Or.inl z
        · exact Or.inr ⟨a, List.mem_cons_self .., z⟩
        · exact Or.inr ⟨s, List.mem_cons_of_mem _ hs, z⟩
      · rintro (z | ⟨s, hs, z⟩)
        · exact Or.inl (Or.inl z)
        · rcases List.mem_cons.mp hs with rfl | hs
          · exact Or.inl (Or.inr z)
          · exact Or.inr ⟨s, hs, z⟩
  unfold ancOf
  rw [this, List.mem_singleton]
def TabOk (tab : Tab) : Prop := ∀ (x : Str) (as : List Str), (x, as) ∈ tab → as.Nodup ∧ ∀ a ∈ as, a ∈ tabKeys tab
theorem mem_look {tab : Tab} : ∀ {x : Str}, x ∈ tabKeys tab → (x, look tab x) ∈ tab := by
  induction tab with
  | nil => intro x h; cases h
  | cons p r ih =>
    intro x h
    obtain ⟨y, as⟩ := p
    unfold look
    rw [List.lookup_cons]
    by_cases e : x = y
    · subst e
      rw [beq_self_eq_true]
      exact List.mem_cons_self ..
    · rw [beq_eq_false_iff_ne.mpr e]
      refine List.mem_cons_of_mem _ (ih ?_)
      rcases List.mem_cons.mp h with z | z
      · exact absurd z e
      · exact z
theorem look_none {tab : Tab} : ∀ {x : Str}, x ∉ tabKeys tab → look tab x = [] := by
  induction tab with
  | nil => intro x _; rfl
  | cons p r ih =>
    intro x h
    obtain ⟨y, as⟩ := p
    have h1 : x ≠ y := fun z => h (z ▸ List.mem_cons_self ..)
    have h2 := ih (x := x) fun z => h (List.mem_cons_of_mem _ z)
    unfold look at h2 ⊢
    rw [List.lookup_cons, beq_eq_false_iff_ne.mpr h1]
    exact h2
theorem look_sub {tab : Tab} (ok : TabOk tab) {x a : Str} (h : a ∈ look tab x) : a ∈ tabKeys tab := by
  by_cases hx : x ∈ tabKeys tab
  · exact (ok _ _ (mem_look hx)).2 a h
  · rw [look_none hx] at h
    cases h
theorem nodup_le {L F : List Str} (h : L.Nodup) (s : ∀ x ∈ L, x ∈ F) : L.length ≤ F.length := by
  have := filter_left F h
  have e : L.filter (fun y => decide (y ∉ F)) = [] := List.filter_eq_nil_iff.mpr fun y hy => by simpa using s y hy
  rw [e] at this
  have z : ([] : List Str).length = 0 := rfl
  omega
theorem TabOk.snoc {tab : Tab} (ok : TabOk tab) (n : Str) (ss : List Str) : TabOk (tab ++ [(n, ancOf tab n ss)]) := by
  intro x as h
  have ek : tabKeys (tab ++ [(n, ancOf tab n ss)]) = tabKeys tab ++ [n] := by
    unfold tabKeys
    rw [List.map_append]
    rfl
  rw [ek]
  rcases List.mem_append.mp h with z | z
  · obtain ⟨h1, h2⟩ := ok x as z
    exact ⟨h1, fun a ha => List.mem_append_left _ (h2 a ha)⟩
  · have := List.mem_singleton.mp z
    cases this
    refine ⟨ancOf_nodup, fun a ha => ?_⟩
    rcases mem_ancOf.mp ha with rfl | ⟨s, _, hs⟩
    · exact List.mem_append_right _ (List.mem_singleton.mpr rfl)
    · exact List.mem_append_left _ (look_sub ok hs)
theorem tabOk_nil : TabOk [] := fun x as h => by cases h
theorem ancTab_snoc (rows : List Row2) (r : Row2) : ancTab (rows ++ [r]) = ancTab rows ++ [(r.1, ancOf (ancTab rows) r.1 r.2)] := by
  unfold ancTab
  rw [List.foldl_append]
  rfl
theorem ancTab_take {rows : List Row2} {i : Nat} {r : Row2} (h : rows[i]? = some r) : ancTab (rows.take (i + 1)) = ancTab (rows.take i) ++ [(r.1, ancOf (ancTab (rows.take i)) r.1 r.2)] := by
  rw [List.take_add_one, h]
  exact ancTab_snoc ..
theorem ancTab_ok (rows : List Row2) : ∀ i, TabOk (ancTab (rows.take i))
  | 0 => tabOk_nil
  | i + 1 => by
    cases h : rows[i]? with
    | none =>
      rw [List.take_add_one, h]
      show TabOk (ancTab (rows.take i ++ []))
      rw [List.append_nil]
      exact ancTab_ok rows i
    | some r =>
      rw [ancTab_take h]
      exact (ancTab_ok rows i).snoc _ _
theorem ancTab_keys (rows : List Row2) : tabKeys (ancTab rows) = fsts rows := by
  have : ∀ (l : List Row2) (tab : Tab), tabKeys (l.foldl (fun tab r => tab ++ [(r.1, ancOf tab r.1 r.2)]) tab) = tabKeys tab ++ fsts l := by
    intro l
    induction l with
    | nil =>
      intro tab
      show tabKeys tab = tabKeys tab ++ []
      rw [List.append_nil]
    | cons r l ih =>
      intro tab
      show tabKeys (l.foldl _ (tab ++ [(r.1, ancOf tab r.1 r.2)])) = _
      rw [ih]
      unfold tabKeys fsts
      rw [List.map_append, List.append_assoc]
      rfl
  exact this rows []
/-! ### in the heap -/
def EntryAt (H : Hp) (kv : Key × V) (na : Str × List Str) : Prop := kv.1 = Sum.inr na.1 ∧ ∃ d, kv.2 = .ref d ∧ H d = some (.dK (flag na.2))
def Entries (H : Hp) : List (Key × V) → Tab → Prop := Paired (EntryAt H)
theorem Entries.mono {H H' : Hp} {kvs : List (Key × V)} {tab : Tab} (h : Entries H kvs tab) (k : ∀ d as, H d = some (.dK (flag as)) → H' d = some (.dK (flag as))) : Entries H' kvs tab :=
  Paired.mapP h fun _ _ ⟨e1, d, e2, e3⟩ => ⟨e1, d, e2, k d _ e3⟩
theorem Entries.look {H : Hp} : ∀ {kvs : List (Key × V)} {tab : Tab} {x : Str}, Entries H kvs tab → x ∈ tabKeys tab → ∃ d, valV kvs (Sum.inr x : Key) = some (.ref d) ∧ H d = some (.dK (flag (look tab x)))
  | _, _, _, .nil, h => by cases h
  | p :: _, (y, as) :: r, x, .cons ⟨e1, d, e2, e3⟩ t, h => by
    by_cases e : x = y
    · subst e
      refine ⟨d, ?_, ?_⟩
      · rw [valV_pos e1, e2]
      · unfold Kv.look
        rw [List.lookup_cons, beq_self_eq_true]
        exact e3
    · have hx : x ∈ tabKeys r := by
        rcases List.mem_cons.mp h with z | z
        · exact absurd z e
        · exact z
      obtain ⟨d2, g1, g2⟩ := Entries.look t hx
      refine ⟨d2, ?_, ?_⟩
      · rw [valV_neg (fun z => e (Sum.inr.inj (e1.symm.trans z)).symm)]
        exact g1
      · unfold Kv.look at g2 ⊢
        rw [List.lookup_cons, beq_eq_false_iff_ne.mpr e]
        exact g2
theorem Entries.none {H : Hp} : ∀ {kvs : List (Key × V)} {tab : Tab} {x : Str}, Entries H kvs tab → x ∉ tabKeys tab → valV kvs (Sum.inr x : Key) = none
  | _, _, _, .nil, _ => rfl
  | p :: _, (y, as) :: r, x, .cons ⟨e1, d, e2, e3⟩ t, h => by
    rw [valV_neg (fun z => h (by
      have : y = x := Sum.inr.inj (e1.symm.trans z)
      rw [this]
      exact List.mem_cons_self ..))]
    exact Entries.none t fun z => h (List.mem_cons_of_mem _ z)
theorem Entries.snoc {H : Hp} : ∀ {kvs : List (Key × V)} {tab : Tab} {kv : Key × V} {na : Str × List Str}, Entries H kvs tab → EntryAt H kv na → Entries H (kvs ++ [kv]) (tab ++ [na])
  | _, _, _, _, .nil, h => .cons h .nil
  | _, _, _, _, .cons a b, h => .cons a (Entries.snoc b h)
theorem Entries.length {H : Hp} {kvs : List (Key × V)} {tab : Tab} (h : Entries H kvs tab) : kvs.length = tab.length := Paired.length h
def placeKV (ns : List Str) : List (Key × V) := ns.zipIdx.map fun p => (Sum.inr p.1, V.int p.2)
theorem place_len (ns : List Str) : (placeKV ns).length = ns.length := by
  unfold placeKV
  rw [List.length_map, List.length_zipIdx]
theorem place_snoc (ns : List Str) (n : Str) : placeKV (ns ++ [n]) = placeKV ns ++ [(Sum.inr n, .int ns.length)] := by
  unfold placeKV
  rw [List.zipIdx_append, List.map_append]
  simp
theorem place_val (x : Str) : ∀ (ns : List Str), (valV (placeKV ns) (Sum.inr x : Key)).isSome = decide (x ∈ ns) := by
  intro ns
  unfold placeKV
  have : ∀ (l : List Str) (k : Nat), (valV ((l.zipIdx k).map fun p => ((Sum.inr p.1 : Key), V.int p.2)) (Sum.inr x : Key)).isSome = decide (x ∈ l) := by
    intro l
    induction l with
    | nil => intro k; rfl
    | cons y r ih =>
      intro k
      rw [List.zipIdx_cons, List.map_cons]
      by_cases e : y = x
      · subst e
        rw [valV_pos rfl, decide_eq_true (List.mem_cons_self ..)]
        rfl
      · rw [valV_neg (keyr_ne e), ih]
        by_cases h : x ∈ r
        · rw [decide_eq_true h, decide_eq_true (List.mem_cons_of_mem _ h)]
        · rw [decide_eq_false h, decide_eq_false (fun z => by
            rcases List.mem_cons.mp z with z | z
            · exact e z.symm
            · exact h z)]
  exact this ns 0
end Kv
/-! A hierarchy as an object. -/
namespace Kv
open PySem PySem.Spec PyProof.Rows L2
def flds (r q u : Addr) : List (Str × V) := putF "above" (.ref u) (putF "places" (.ref q) (putF "rows" (.ref r) []))
theorem f1 : ¬ (("rows" : Str) = "above") := by decide +kernel
theorem f2 : ¬ (("rows" : Str) = "places") := by decide +kernel
theorem f3 : ¬ (("places" : Str) = "above") := by decide +kernel
theorem flds_rows (r q u : Addr) : (flds r q u).lookup ("rows" : Str) = some (.ref r) := by
  unfold flds
  rw [lookup_putF, if_neg f1, lookup_putF, if_neg f2, lookup_putF, if_pos rfl]
theorem flds_places (r q u : Addr) : (flds r q u).lookup ("places" : Str) = some (.ref q) := by
  unfold flds
  rw [lookup_putF, if_neg f3, lookup_putF, if_pos rfl]
theorem flds_above (r q u : Addr) : (flds r q u).lookup ("above" : Str) = some (.ref u) := by
  unfold flds
  rw [lookup_putF, if_pos rfl]
theorem two_flds (r q : Addr) : (putF "places" (V.ref q) (putF "rows" (V.ref r) [])).length < 1000 := by
  show (if ("rows" : Str) = "places" then [(("rows" : Str), V.ref q)] else (("rows" : Str), V.ref r) :: putF "places" (V.ref q) []).length < 1000
  rw [if_neg f2]
  show 2 < 1000
  decide
structure HierAt (C : Addr) (H : Hp) (x : Addr) (rows : List Row2) : Prop where
  ex : ∃ (dx r q u : Addr) (rvs : List V) (kvs : List (Key × V)), H x = some (.ins C dx (flds r q u)) ∧ H r = some (.lst rvs) ∧ RowsAre H rvs rows ∧
    H q = some (.dK (placeKV (fsts rows))) ∧ H u = some (.dK kvs) ∧ Entries H kvs (ancTab rows)
theorem HierAt.same {C : Addr} {H H' : Hp} {x : Addr} {rows : List Row2} (h : HierAt C H x rows) (s : Same H H') : HierAt C H' x rows := by
  obtain ⟨dx, r, q, u, rvs, kvs, h1, h2, h3, h4, h5, h6⟩ := h.ex
  exact ⟨dx, r, q, u, rvs, kvs, s _ _ h1, s _ _ h2, h3.same s, s _ _ h4, s _ _ h5, h6.mono fun d as e => s _ _ e⟩
theorem RowAt.wrX {H : Hp} {R : Addr} {o0 o : HO} (h : H R = some o0) (hn : ∀ xs, HO.tup xs ≠ o0) {v : V} {r : Row2} (a : RowAt H v r) : RowAt (upd H R o) v r := by
  obtain ⟨t, u, e, h1, h2⟩ := a
  exact ⟨t, u, e, by rw [upd_ne (ne_of h1 h (hn _))]; exact h1, by rw [upd_ne (ne_of h2 h (hn _))]; exact h2⟩
theorem RowsAre.wrX {H : Hp} {R : Addr} {o0 o : HO} (h : H R = some o0) (hn : ∀ xs, HO.tup xs ≠ o0) {vs : List V} {rows : List Row2} (a : RowsAre H vs rows) : RowsAre (upd H R o) vs rows :=
  Paired.mapP a fun _ _ z => z.wrX h hn
theorem RowAt.butX {H H' : Hp} {x : Addr} {o0 : HO} (h : H x = some o0) (hn : ∀ xs, HO.tup xs ≠ o0) (b : But x H H') {v : V} {r : Row2} (a : RowAt H v r) : RowAt H' v r := by
  obtain ⟨t, u, e, h1, h2⟩ := a
  exact ⟨t, u, e, b _ _ (ne_of h1 h (hn _)) h1, b _ _ (ne_of h2 h (hn _)) h2⟩
theorem Entries.wr {H : Hp} {R : Addr} {o : HO} : ∀ {kvs : List (Key × V)} {tab : Tab}, Entries H kvs tab → (∀ kv ∈ kvs, kv.2 ≠ .ref R) → Entries (upd H R o) kvs tab
  | _, _, .nil, _ => .nil
  | p :: r, _, .cons ⟨e1, d, e2, e3⟩ t, h => by
    have hd : d ≠ R := fun z => h p (List.mem_cons_self ..) (by rw [e2, z])
    exact .cons ⟨e1, d, e2, by rw [upd_ne hd]; exact e3⟩ (Entries.wr t fun kv hk => h kv (List.mem_cons_of_mem _ hk))
theorem tyL {K : PySem.W.Frag} {H : Hp} {a : Addr} {xs : List V} (h : SqL K H a xs) : TyX K H (.ref a) (.type "list") := by
  rcases h with (h | ⟨o, h⟩) | ⟨o, its, n, hk, hc, _⟩
  · exact .base (.lst h)
  · exact .base (.frz h)
  · exact .kList hk hc
theorem tyT {K : PySem.W.Frag} {H : Hp} {a : Addr} {xs : List V} (h : SqT K H a xs) : TyX K H (.ref a) (.type "tuple") := by
  rcases h with (h | ⟨o, h⟩) | ⟨o, its, n, hk, hc, _⟩
  · exact .base (.tup h)
  · exact .fTuple h
  · exact .kTuple hk hc
theorem sqL_but {K : PySem.W.Frag} {H H' : Hp} {x c : Addr} {us : List V} {C dx : Addr} {fs : List (Str × V)} (h : SqL K H c us) (hx : H x = some (.ins C dx fs)) (b : But x H H') : SqL K H' c us := by
  rcases h with (h | ⟨o, h⟩) | h
  · exact .inl (.inl (b _ _ (ne_of h hx (by intro z; cases z)) h))
  · exact .inl (.inr ⟨o, b _ _ (ne_of h hx (by intro z; cases z)) h⟩)
  · exact .inr h
theorem sqT_but {K : PySem.W.Frag} {H H' : Hp} {x c : Addr} {us : List V} {C dx : Addr} {fs : List (Str × V)} (h : SqT K H c us) (hx : H x = some (.ins C dx fs)) (b : But x H H') : SqT K H' c us := by
  rcases h with (h | ⟨o, h⟩) | h
  · exact .inl (.inl (b _ _ (ne_of h hx (by intro z; cases z)) h))
  · exact .inl (.inr ⟨o, b _ _ (ne_of h hx (by intro z; cases z)) h⟩)
  · exact .inr h
theorem sqT_same {K : PySem.W.Frag} {H H' : Hp} {c : Addr} {us : List V} (h : SqT K H c us) (s : Same H H') : SqT K H' c us := by
  rcases h with (h | ⟨o, h⟩) | h
  · exact .inl (.inl (s _ _ h))
  · exact .inl (.inr ⟨o, s _ _ h⟩)
  · exact .inr h
theorem walk_enumT {K : PySem.W.Frag} {a : Addr} {xs : List V} : Walk (Itet K a) xs.length (fun H => SqT K H a xs) (YPair (fun i => some (.int (i : Nat))) (fun i => xs[i]?)) := by
  refine ⟨fun i H hi q => ⟨xs, xs[i], q, by simp [hi]⟩, fun H q => ⟨xs, q, rfl⟩, fun i H v H2 hi q y => ?_⟩
  obtain ⟨T, x, e1, e2, e3, e4⟩ := y
  exact ⟨T, .int (i : Nat), x, e1, e2, e3, rfl, e4 xs q⟩
structure HTxt (K : PySem.W.Frag) (mg : Str → Option Value) (C : Addr) : Prop where
  cl : Cls K C
  nR : NoAttr K C "rows"
  nP : NoAttr K C "places"
  nA : NoAttr K C "above"
  mgC : mg "Hierarchy" = some (.ref C)
  lim : ∃ mc u, ClX.CRead K C mc ∧ ClX.CVal K C mc "LIMIT" (.int 20) u
end Kv
/-! New lists do not lie where sys.modules lies. -/
namespace Kv
open PySem PySem.Spec PyProof.Rows L2
section
variable {X : Cx} {es : List Expr} {t : TA} {pos : Pos}
end
def GoodN (n m : Nat) (K : PySem.W.Frag) (H : Hp) (v : V) : Prop := ∃ d : PyData, Sh K false H v d ∧ Fit n m d
theorem GoodN.same {n m : Nat} {K : PySem.W.Frag} {H H' : Hp} {v : V} (g : GoodN n m K H v) (s : Same H H') : GoodN n m K H' v := by
  obtain ⟨d, h, r⟩ := g
  exact ⟨d, h.same s, r⟩
mutual
/-- the value v is the datum d, all in the heap; its lists lie where ok tells -/
inductive ShO (ok : Addr → Prop) (H : Hp) : V → PyData → Prop
  | non : ShO ok H .non .none
  | bl (b : Bool) : ShO ok H (.bl b) (.bool b)
  | int (i : Int) : ShO ok H (.int i) (.int i)
  | str (x : Str) : ShO ok H (.str x) (.str x)
  | lst {a : Addr} {xs : List V} {ds : List PyData} : H a = some (.lst xs) → ok a → ShOs ok H xs ds → ShO ok H (.ref a) (.list ds)
  | tup {a : Addr} {xs : List V} {ds : List PyData} : H a = some (.tup xs) → ShOs ok H xs ds → ShO ok H (.ref a) (.tuple ds)
  | dict {a : Addr} {kvs : List (Key × V)} {ks vs : List PyData} : H a = some (.dK kvs) → ShOs ok H (kvs.map fun p => kV p.1) ks →
      ShOs ok H (kvs.map fun p => p.2) vs → ShO ok H (.ref a) (.dict (ks.zip vs))
inductive ShOs (ok : Addr → Prop) (H : Hp) : List V → List PyData → Prop
  | nil : ShOs ok H [] []
  | cons {v : V} {vs : List V} {d : PyData} {ds : List PyData} : ShO ok H v d → ShOs ok H vs ds → ShOs ok H (v :: vs) (d :: ds)
end
mutual
theorem ShO.keep {ok : Addr → Prop} {H H' : Hp} (kL : ∀ a xs, ok a → H a = some (.lst xs) → H' a = some (.lst xs)) (kT : ∀ a xs, H a = some (.tup xs) → H' a = some (.tup xs))
    (kD : ∀ a xs, H a = some (.dK xs) → H' a = some (.dK xs)) : ∀ {v : V} {d : PyData}, ShO ok H v d → ShO ok H' v d
  | _, _, .non => .non
  | _, _, .bl b => .bl b
  | _, _, .int i => .int i
  | _, _, .str x => .str x
  | _, _, .lst h1 h2 h3 => .lst (kL _ _ h2 h1) h2 (ShOs.keep kL kT kD h3)
  | _, _, .tup h1 h3 => .tup (kT _ _ h1) (ShOs.keep kL kT kD h3)
  | _, _, .dict h1 h2 h3 => .dict (kD _ _ h1) (ShOs.keep kL kT kD h2) (ShOs.keep kL kT kD h3)
theorem ShOs.keep {ok : Addr → Prop} {H H' : Hp} (kL : ∀ a xs, ok a → H a = some (.lst xs) → H' a = some (.lst xs)) (kT : ∀ a xs, H a = some (.tup xs) → H' a = some (.tup xs))
    (kD : ∀ a xs, H a = some (.dK xs) → H' a = some (.dK xs)) : ∀ {vs : List V} {ds : List PyData}, ShOs ok H vs ds → ShOs ok H' vs ds
  | _, _, .nil => .nil
  | _, _, .cons h1 h2 => .cons (ShO.keep kL kT kD h1) (ShOs.keep kL kT kD h2)
end
theorem ShO.same {ok : Addr → Prop} {H H' : Hp} (s : Same H H') {v : V} {d : PyData} (h : ShO ok H v d) : ShO ok H' v d :=
  h.keep (fun _ _ _ e => s _ _ e) (fun _ _ e => s _ _ e) (fun _ _ e => s _ _ e)
theorem ShOs.same {ok : Addr → Prop} {H H' : Hp} (s : Same H H') {v : List V} {d : List PyData} (h : ShOs ok H v d) : ShOs ok H' v d :=
  h.keep (fun _ _ _ e => s _ _ e) (fun _ _ e => s _ _ e) (fun _ _ e => s _ _ e)
theorem ShOs.snoc {ok : Addr → Prop} {H : Hp} : ∀ {vs : List V} {ds : List PyData} {v : V} {d : PyData}, ShOs ok H vs ds → ShO ok H v d → ShOs ok H (vs ++ [v]) (ds ++ [d])
  | _, _, _, _, .nil, h => .cons h .nil
  | _, _, _, _, .cons a b, h => .cons a (ShOs.snoc b h)
theorem ShOs.length {ok : Addr → Prop} {H : Hp} : ∀ {vs : List V} {ds : List PyData}, ShOs ok H vs ds → vs.length = ds.length
  | _, _, .nil => rfl
  | _, _, .cons _ t => by rw [List.length_cons, List.length_cons, t.length]
mutual
theorem ShO.sh {K : PySem.W.Frag} {ok : Addr → Prop} {H : Hp} (hok : ∀ a, ok a → a ≠ sysModules) : ∀ {v : V} {d : PyData}, ShO ok H v d → Sh K false H v d
  | _, _, .non => .non
  | _, _, .bl b => .bl b
  | _, _, .int i => .int i
  | _, _, .str x => .str x
  | _, _, .lst h1 h2 h3 => .lst (.inl (.inl h1)) (fun _ => hok _ h2) (ShOs.sh hok h3)
  | _, _, .tup h1 h3 => .tup (.inl (.inl h1)) (ShOs.sh hok h3)
  | _, _, .dict h1 h2 h3 => .dict rfl h1 (ShOs.sh hok h2) (ShOs.sh hok h3)
theorem ShOs.sh {K : PySem.W.Frag} {ok : Addr → Prop} {H : Hp} (hok : ∀ a, ok a → a ≠ sysModules) : ∀ {vs : List V} {ds : List PyData}, ShOs ok H vs ds → ShAll K false H vs ds
  | _, _, .nil => .nil
  | _, _, .cons h1 h2 => .cons (ShO.sh hok h1) (ShOs.sh hok h2)
end
def Apart (p : Addr) : Addr → Prop := fun a => a ≠ p ∧ a ≠ sysModules
def Drawn (n m : Nat) (p : Addr) (H : Hp) (v : V) : Prop := ∃ d : PyData, ShO (Apart p) H v d ∧ Fit n m d
theorem Drawn.same {n m : Nat} {p : Addr} {H H' : Hp} {v : V} (g : Drawn n m p H v) (s : Same H H') : Drawn n m p H' v := by
  obtain ⟨d, h, r⟩ := g
  exact ⟨d, h.same s, r⟩
theorem Drawn.mono {n m n' m' : Nat} {p : Addr} {H : Hp} {v : V} (g : Drawn n m p H v) (a : n ≤ n') (b : m ≤ m') : Drawn n' m' p H v := by
  obtain ⟨d, h, r⟩ := g
  exact ⟨d, h, r.mono a b⟩
theorem Drawn.non {n m : Nat} {p : Addr} {H : Hp} : Drawn n m p H .non := ⟨_, .non, fit_non.mono (Nat.zero_le _) (Nat.zero_le _)⟩
theorem Drawn.bl {n m : Nat} {p : Addr} {H : Hp} {b : Bool} : Drawn n m p H (.bl b) := ⟨_, .bl b, fit_bl.mono (Nat.zero_le _) (Nat.zero_le _)⟩
theorem Drawn.int {n m : Nat} {p : Addr} {H : Hp} {i : Int} (h : i.natAbs ≤ 10 ^ 60) (hn : 200 ≤ n := by decide) : Drawn n m p H (.int i) := ⟨_, .int i, (fit_int h).mono hn (Nat.zero_le _)⟩
theorem Drawn.str {n m k : Nat} {p : Addr} {H : Hp} {x : Str} (h : Sm k x) (hn : k ≤ n := by decide) : Drawn n m p H (.str x) := ⟨_, .str x, h.fit.mono hn (Nat.zero_le _)⟩
end Kv
/-! A tuple in the heap, or the text's own empty one. -/
namespace Kv
open PySem PySem.Spec PyProof.Rows L2
def KT0 (K : PySem.W.Frag) (a : Addr) : Prop := ∃ (o : Obj) (its : Array Value) (n : Nat), K.lookup a = some o ∧ o.cls = .type "tuple" ∧ o.dict = none ∧ o.data = .seq its n ∧ its.size ≤ sizeLine ∧ Vals [] its.toList
def TpO (K : PySem.W.Frag) (H : Hp) (a : Addr) (xs : List V) : Prop := H a = some (.tup xs) ∨ (xs = [] ∧ KT0 K a)
section
variable {K : PySem.W.Frag} {H H' : Hp} {a : Addr} {xs : List V}
theorem TpO.sq (h : TpO K H a xs) : SqT K H a xs := by
  rcases h with h | ⟨rfl, o, its, n, h1, h2, _, h3⟩
  · exact .inl (.inl h)
  · exact .inr ⟨o, its, n, h1, h2, h3⟩
theorem TpO.at (h : TpO K H a xs) (n : xs ≠ []) : H a = some (.tup xs) := by
  rcases h with h | ⟨rfl, _⟩
  · exact h
  · exact absurd rfl n
theorem TpO.map (h : TpO K H a xs) (f : H a = some (.tup xs) → H' a = some (.tup xs)) : TpO K H' a xs := by
  rcases h with h | h
  · exact .inl (f h)
  · exact .inr h
theorem TpO.same (h : TpO K H a xs) (s : Same H H') : TpO K H' a xs := h.map (s _ _)
theorem TpO.ty (h : TpO K H a xs) : TyX K H (.ref a) (.type "tuple") := by
  rcases h with h | ⟨_, o, its, n, hk, hc, _⟩
  · exact .base (.tup h)
  · exact .kTuple hk hc
def RowK (K : PySem.W.Frag) (H : Hp) (v : V) (r : Row2) : Prop := ∃ t s, v = .ref t ∧ H t = some (.tup [.str r.1, .ref s]) ∧ TpO K H s (r.2.map V.str)
def RowsK (K : PySem.W.Frag) (H : Hp) : List V → List Row2 → Prop := Paired (RowK K H)
theorem RowK.same (s : Same H H') {v : V} {r : Row2} (h : RowK K H v r) : RowK K H' v r := by
  obtain ⟨t, u, e, h1, h2⟩ := h
  exact ⟨t, u, e, s _ _ h1, h2.same s⟩
theorem RowsK.same (s : Same H H') {vs : List V} {rows : List Row2} (h : RowsK K H vs rows) : RowsK K H' vs rows :=
  Paired.mapP h fun _ _ z => z.same s
theorem RowsK.length {vs : List V} {rows : List Row2} (h : RowsK K H vs rows) : vs.length = rows.length := Paired.length h
theorem RowsK.snoc : ∀ {vs : List V} {rows : List Row2} {v : V} {r : Row2}, RowsK K H vs rows → RowK K H v r → RowsK K H (vs ++ [v]) (rows ++ [r])
  | _, _, _, _, .nil, h => .cons h .nil
  | _, _, _, _, .cons a b, h => .cons a (RowsK.snoc b h)
theorem RowsK.get : ∀ {vs : List V} {rows : List Row2} {i : Nat} {v : V}, RowsK K H vs rows → vs[i]? = some v → ∃ r, rows[i]? = some r ∧ RowK K H v r
  | _, _, _, _, .nil, e => by simp at e
  | _, _, 0, _, .cons a _, e => by
    simp at e
    subst e
    exact ⟨_, rfl, a⟩
  | _, _, i + 1, v, .cons _ b, e => by
    obtain ⟨r, h1, h2⟩ := RowsK.get (i := i) (v := v) b (by simpa using e)
    exact ⟨r, by simpa using h1, h2⟩
theorem RowK.wrX {R : Addr} {o0 o : HO} (h : H R = some o0) (hn : ∀ xs, HO.tup xs ≠ o0) {v : V} {r : Row2} (a : RowK K H v r) : RowK K (upd H R o) v r := by
  obtain ⟨t, u, e, h1, h2⟩ := a
  exact ⟨t, u, e, by rw [upd_ne (ne_of h1 h (hn _))]; exact h1, h2.map fun h2 => by rw [upd_ne (ne_of h2 h (hn _))]; exact h2⟩
theorem RowsK.wrX {R : Addr} {o0 o : HO} (h : H R = some o0) (hn : ∀ xs, HO.tup xs ≠ o0) {vs : List V} {rows : List Row2} (a : RowsK K H vs rows) : RowsK K (upd H R o) vs rows :=
  Paired.mapP a fun _ _ z => z.wrX h hn
theorem RowK.butX {x : Addr} {o0 : HO} (h : H x = some o0) (hn : ∀ xs, HO.tup xs ≠ o0) (b : But x H H') {v : V} {r : Row2} (a : RowK K H v r) : RowK K H' v r := by
  obtain ⟨t, u, e, h1, h2⟩ := a
  exact ⟨t, u, e, b _ _ (ne_of h1 h (hn _)) h1, h2.map fun h2 => b _ _ (ne_of h2 h (hn _)) h2⟩
end
end Kv
/-! Values as trees; which lists and dicts are still written; what a frame's names hold. -/
namespace Pu
open PySem PySem.Spec PyProof.Rows L2 Kv
inductive D where
  | non
  | bl (b : Bool)
  | int (i : Int)
  | str (x : Str)
  | lst (xs : List D)
  | tup (xs : List D)
  | flst (xs : List D)
  | ftup (xs : List D)
  | dic (ks : List Key) (vs : List D)
  | dct (ks : List (List Key)) (vs : List D)
  | obj (C : Addr) (ns : List Str) (vs : List D)
  | exn (a dx : Addr) (c : Value) (ns : List Str) (vs : List D)
  | opq (a : Addr)
  | typ (n : String)
  | lsta (a : Addr) (xs : List D)
  | clo (a : Addr) (vs : List V) (xs : List D)
def FzL (K : PySem.W.Frag) (H : Hp) (a : Addr) (xs : List V) : Prop :=
  (∃ o, H a = some (.frz o (.lst xs))) ∨
    ∃ (o : Obj) (its : Array Value) (n : Nat), K.lookup a = some o ∧ o.cls = .type "list" ∧ o.dict = none ∧ o.data = .seq its n ∧ its.size ≤ sizeLine ∧ Vals xs its.toList
def FzT (K : PySem.W.Frag) (H : Hp) (a : Addr) (xs : List V) : Prop :=
  (∃ o, H a = some (.frz o (.tup xs)) ∧ o.dict = none) ∨
    ∃ (o : Obj) (its : Array Value) (n : Nat), K.lookup a = some o ∧ o.cls = .type "tuple" ∧ o.dict = none ∧ o.data = .seq its n ∧ its.size ≤ sizeLine ∧ Vals xs its.toList
theorem FzT.sq {K : PySem.W.Frag} {H : Hp} {a : Addr} {xs : List V} (h : FzT K H a xs) : SqT K H a xs := by
  rcases h with ⟨o, h, _⟩ | ⟨o, its, n, h1, h2, _, h3⟩
  · exact .inl (.inr ⟨o, h⟩)
  · exact .inr ⟨o, its, n, h1, h2, h3⟩
theorem FzL.sq {K : PySem.W.Frag} {H : Hp} {a : Addr} {xs : List V} (h : FzL K H a xs) : SqL K H a xs := by
  rcases h with h | h
  · exact .inl (.inr h)
  · exact .inr h
def RdO (ok : Addr → Prop) (H : Hp) (a : Addr) (u : HO) : Prop := (H a = some u ∧ ok a) ∨ ∃ o, H a = some (.frz o u)
theorem RdO.rd {ok : Addr → Prop} {H : Hp} {a : Addr} {u : HO} (h : RdO ok H a u) : Rd H a u := h.imp (·.1) id
mutual
/-- the value v is the tree d; the lists and dicts in it lie where ok tells -/
inductive Rep (K : PySem.W.Frag) (ok : Addr → Prop) (H : Hp) : V → D → Prop
  | non : Rep K ok H .non .non
  | bl (b : Bool) : Rep K ok H (.bl b) (.bl b)
  | int (i : Int) : Rep K ok H (.int i) (.int i)
  | str (x : Str) : Rep K ok H (.str x) (.str x)
  | lst {a : Addr} {vs : List V} {ds : List D} : H a = some (.lst vs) → ok a → Reps K ok H vs ds → Rep K ok H (.ref a) (.lst ds)
  | lstF {a : Addr} {vs : List V} {ds : List D} : FzL K H a vs → Reps K ok H vs ds → Rep K ok H (.ref a) (.flst ds)
  | tupO {a : Addr} {vs : List V} {ds : List D} : TpO K H a vs → Reps K ok H vs ds → Rep K ok H (.ref a) (.tup ds)
  | tupF {a : Addr} {vs : List V} {ds : List D} : FzT K H a vs → Reps K ok H vs ds → Rep K ok H (.ref a) (.ftup ds)
  | dic {a : Addr} {kvs : List (Key × V)} {ds : List D} : RdO ok H a (.dK kvs) → Reps K ok H (kvs.map (·.2)) ds → Rep K ok H (.ref a) (.dic (kvs.map (·.1)) ds)
  | dct {a : Addr} {kvs : List (List Key × V)} {ds : List D} : RdO ok H a (.dT kvs) → Reps K ok H (kvs.map (·.2)) ds → Rep K ok H (.ref a) (.dct (kvs.map (·.1)) ds)
  | obj {a C dx : Addr} {fs : List (Str × V)} {ds : List D} : H a = some (.ins C dx fs) → ok a → Reps K ok H (fs.map (·.2)) ds → Rep K ok H (.ref a) (.obj C (fs.map (·.1)) ds)
  | exn {a dx : Addr} {c : Value} {fs : List (Str × V)} {ds : List D} : H dx = some (.xd fs) → Reps K ok H (fs.map (·.2)) ds → Rep K ok H (.ref a) (.exn a dx c (fs.map (·.1)) ds)
  | opq (a : Addr) : Rep K ok H (.ref a) (.opq a)
  | typ (n : String) : Rep K ok H (.ty n) (.typ n)
  | lsta {a : Addr} {vs : List V} {ds : List D} : H a = some (.lst vs) → ok a → Reps K ok H vs ds → Rep K ok H (.ref a) (.lsta a ds)
  | clo {a : Addr} {vs : List V} {ds : List D} : Reps K ok H vs ds → Rep K ok H (.ref a) (.clo a vs ds)
inductive Reps (K : PySem.W.Frag) (ok : Addr → Prop) (H : Hp) : List V → List D → Prop
  | nil : Reps K ok H [] []
  | cons {v : V} {vs : List V} {d : D} {ds : List D} : Rep K ok H v d → Reps K ok H vs ds → Reps K ok H (v :: vs) (d :: ds)
end
def Vol : HO → Prop
  | .lst _ => True
  | .dK _ => True
  | .dT _ => True
  | .ins _ _ _ => True
  | .tbl _ => True
  | _ => False
def isDct : HO → Bool
  | .dK _ => true
  | .dT _ => true
  | _ => false
def Kept (H' : Hp) (a : Addr) (o : HO) : Prop := H' a = some o ∨ (isDct o = true ∧ ∃ ob, H' a = some (.frz ob o))
theorem Kept.there {H' : Hp} {a : Addr} {o : HO} (k : Kept H' a o) : ∃ o', H' a = some o' := by
  rcases k with h | ⟨_, ob, h⟩
  · exact ⟨_, h⟩
  · exact ⟨_, h⟩
theorem Kept.same {H' : Hp} {a : Addr} {o : HO} (k : Kept H' a o) (n : isDct o = false) : H' a = some o := by
  rcases k with h | ⟨z, _⟩
  · exact h
  · rw [n] at z; cases z
theorem Kept.then {H1 H2 : Hp} {a : Addr} {o : HO} (k : Kept H1 a o) (f : ∀ o', H1 a = some o' → Kept H2 a o') : Kept H2 a o := by
  rcases k with h | ⟨z, ob, h⟩
  · exact f _ h
  · exact .inr ⟨z, ob, (f _ h).same rfl⟩
structure Fr (ok : Addr → Prop) (H : Hp) (ok' : Addr → Prop) (H' : Hp) : Prop where
  keep : ∀ a o, H a = some o → (Vol o → ok a) → Kept H' a o
  mono : ∀ a o, H a = some o → ok a → ok' a
  all : ∀ a, H' a = none → H a = none
theorem Fr.of {ok : Addr → Prop} {H : Hp} {ok' : Addr → Prop} {H' : Hp} (k : ∀ a o, H a = some o → (Vol o → ok a) → H' a = some o) (m : ∀ a o, H a = some o → ok a → ok' a) (l : ∀ a, H' a = none → H a = none) : Fr ok H ok' H' := ⟨fun a o h v => .inl (k a o h v), m, l⟩
theorem Fr.refl {ok : Addr → Prop} {H : Hp} : Fr ok H ok H := .of (fun _ _ h _ => h) (fun _ _ _ h => h) (fun _ h => h)
theorem Fr.mono' {ok ok1 : Addr → Prop} {H H1 : Hp} (a : Fr ok H ok1 H1) {c : Addr} {o : HO} (h : H c = some o) (k : ok c) : ∃ o', H1 c = some o' ∧ ok1 c := by
  obtain ⟨o', h'⟩ := (a.keep c o h fun _ => k).there
  exact ⟨o', h', a.mono c o h k⟩
theorem Fr.trans {ok ok1 ok2 : Addr → Prop} {H H1 H2 : Hp} (a : Fr ok H ok1 H1) (b : Fr ok1 H1 ok2 H2) : Fr ok H ok2 H2 :=
  ⟨fun c o h v => (a.keep c o h v).then fun o' h' => b.keep c o' h' fun z => by
      rcases a.keep c o h v with k | ⟨_, ob, k⟩
      · rw [k] at h'; cases h'; exact a.mono c o h (v z)
      · rw [k] at h'; cases h'; exact z.elim, fun c o h k => by
    obtain ⟨o', h', k'⟩ := a.mono' h k
    exact b.mono c o' h' k', fun c h => a.all c (b.all c h)⟩
theorem Fr.rd {ok ok' : Addr → Prop} {H H' : Hp} (f : Fr ok H ok' H') {a : Addr} {o : HO} (h : H a = some o) (n : ¬ Vol o) : H' a = some o := (f.keep a o h fun z => absurd z n).same (by
  cases o <;> first | rfl | exact absurd trivial n)
theorem Fr.rdO {ok ok' : Addr → Prop} {H H' : Hp} (f : Fr ok H ok' H') {a : Addr} {u : HO} (h : RdO ok H a u) : RdO ok' H' a u := by
  rcases h with ⟨h, k⟩ | ⟨o, h⟩
  · rcases f.keep a u h fun _ => k with z | ⟨_, ob, z⟩
    · exact .inl ⟨z, f.mono a u h k⟩
    · exact .inr ⟨ob, z⟩
  · exact .inr ⟨o, f.rd h (fun z => z)⟩
theorem Fr.fzT {K : PySem.W.Frag} {ok ok' : Addr → Prop} {H H' : Hp} (f : Fr ok H ok' H') {a : Addr} {xs : List V} (h : FzT K H a xs) : FzT K H' a xs := by
  rcases h with ⟨o, h, hd⟩ | h
  · exact .inl ⟨o, f.rd h (fun z => z), hd⟩
  · exact .inr h
theorem Fr.fzL {K : PySem.W.Frag} {ok ok' : Addr → Prop} {H H' : Hp} (f : Fr ok H ok' H') {a : Addr} {xs : List V} (h : FzL K H a xs) : FzL K H' a xs := by
  rcases h with ⟨o, h⟩ | h
  · exact .inl ⟨o, f.rd h (fun z => z)⟩
  · exact .inr h
theorem Fr.tpO {K : PySem.W.Frag} {ok ok' : Addr → Prop} {H H' : Hp} (f : Fr ok H ok' H') {a : Addr} {xs : List V} (h : TpO K H a xs) : TpO K H' a xs := by
  rcases h with h | ⟨e, h⟩
  · exact .inl (f.rd h fun z => z)
  · exact .inr ⟨e, h⟩
theorem Rep.tup {K : PySem.W.Frag} {ok : Addr → Prop} {H : Hp} {a : Addr} {vs : List V} {ds : List D} (h : H a = some (.tup vs)) (r : Reps K ok H vs ds) : Rep K ok H (.ref a) (.tup ds) := .tupO (.inl h) r
mutual
theorem Rep.fr {K : PySem.W.Frag} {ok ok' : Addr → Prop} {H H' : Hp} (f : Fr ok H ok' H') : ∀ {v : V} {d : D}, Rep K ok H v d → Rep K ok' H' v d
  | _, _, .non => .non
  | _, _, .bl b => .bl b
  | _, _, .int i => .int i
  | _, _, .str x => .str x
  | _, _, .lst h k r => .lst ((f.keep _ _ h fun _ => k).same rfl) (f.mono _ _ h k) (Reps.fr f r)
  | _, _, .lstF h r => .lstF (f.fzL h) (Reps.fr f r)
  | _, _, .tupO h r => .tupO (f.tpO h) (Reps.fr f r)
  | _, _, .tupF h r => .tupF (f.fzT h) (Reps.fr f r)
  | _, _, .dic h r => .dic (f.rdO h) (Reps.fr f r)
  | _, _, .dct h r => .dct (f.rdO h) (Reps.fr f r)
  | _, _, .obj h k r => .obj ((f.keep _ _ h fun _ => k).same rfl) (f.mono _ _ h k) (Reps.fr f r)
  | _, _, .exn h r => .exn (f.rd h (fun z => z)) (Reps.fr f r)
  | _, _, .opq v => .opq v
  | _, _, .typ v => .typ v
  | _, _, .lsta h k r => .lsta ((f.keep _ _ h fun _ => k).same rfl) (f.mono _ _ h k) (Reps.fr f r)
  | _, _, .clo r => .clo (Reps.fr f r)
theorem Reps.fr {K : PySem.W.Frag} {ok ok' : Addr → Prop} {H H' : Hp} (f : Fr ok H ok' H') : ∀ {vs : List V} {ds : List D}, Reps K ok H vs ds → Reps K ok' H' vs ds
  | _, _, .nil => .nil
  | _, _, .cons h t => .cons (Rep.fr f h) (Reps.fr f t)
end
section
variable {K : PySem.W.Frag} {ok : Addr → Prop} {H : Hp}
theorem Reps.length : ∀ {vs : List V} {ds : List D}, Reps K ok H vs ds → vs.length = ds.length
  | _, _, .nil => rfl
  | _, _, .cons _ t => congrArg (· + 1) (Reps.length t)
theorem Reps.get : ∀ {vs : List V} {ds : List D} {i : Nat} {v : V}, Reps K ok H vs ds → vs[i]? = some v → ∃ d, ds[i]? = some d ∧ Rep K ok H v d
  | _, _, _, _, .nil, e => by simp at e
  | _, _, 0, _, .cons a _, e => by
    simp at e
    subst e
    exact ⟨_, rfl, a⟩
  | _, _, i + 1, v, .cons _ b, e => by
    obtain ⟨r, h1, h2⟩ := Reps.get (i := i) (v := v) b (by simpa using e)
    exact ⟨r, by simpa using h1, h2⟩
theorem Reps.getD : ∀ {vs : List V} {ds : List D} {i : Nat} {d : D}, Reps K ok H vs ds → ds[i]? = some d → ∃ v, vs[i]? = some v ∧ Rep K ok H v d
  | _, _, _, _, .nil, e => by simp at e
  | _, _, 0, _, .cons a _, e => by
    simp at e
    subst e
    exact ⟨_, rfl, a⟩
  | _, _, i + 1, v, .cons _ b, e => by
    obtain ⟨r, h1, h2⟩ := Reps.getD (i := i) (d := v) b (by simpa using e)
    exact ⟨r, by simpa using h1, h2⟩
theorem Reps.app : ∀ {vs ws : List V} {ds es : List D}, Reps K ok H vs ds → Reps K ok H ws es → Reps K ok H (vs ++ ws) (ds ++ es)
  | _, _, _, _, .nil, h => h
  | _, _, _, _, .cons a t, h => .cons a (Reps.app t h)
theorem Reps.take : ∀ {vs : List V} {ds : List D} (n : Nat), Reps K ok H vs ds → Reps K ok H (vs.take n) (ds.take n)
  | _, _, 0, _ => by rw [List.take_zero, List.take_zero]; exact .nil
  | _, _, _ + 1, .nil => .nil
  | _, _, n + 1, .cons a t => .cons a (Reps.take n t)
theorem Reps.drop : ∀ {vs : List V} {ds : List D} (n : Nat), Reps K ok H vs ds → Reps K ok H (vs.drop n) (ds.drop n)
  | _, _, 0, h => h
  | _, _, _ + 1, .nil => .nil
  | _, _, n + 1, .cons _ t => Reps.drop n t
theorem Reps.rev : ∀ {vs : List V} {ds : List D}, Reps K ok H vs ds → Reps K ok H vs.reverse ds.reverse
  | _, _, .nil => .nil
  | _, _, .cons a t => by
    rw [List.reverse_cons, List.reverse_cons]
    exact (Reps.rev t).app (.cons a .nil)
end
inductive Slot where
  | un
  | val (d : D)
  | own (d : D)
abbrev En := List Slot
def OwnAt (K : PySem.W.Frag) (ok : Addr → Prop) (H : Hp) (q : Addr) : D → Prop
  | .lst ds => ∃ vs, H q = some (.lst vs) ∧ Reps K ok H vs ds
  | .dic ks ds => ∃ kvs, H q = some (.dK kvs) ∧ kvs.map (·.1) = ks ∧ Reps K ok H (kvs.map (·.2)) ds
  | .dct ks ds => ∃ kvs, H q = some (.dT kvs) ∧ kvs.map (·.1) = ks ∧ Reps K ok H (kvs.map (·.2)) ds
  | .obj C ns ds => ∃ dx fs, H q = some (.ins C dx fs) ∧ fs.map (·.1) = ns ∧ Reps K ok H (fs.map (·.2)) ds
  | .lsta a ds => q = a ∧ ∃ vs, H q = some (.lst vs) ∧ Reps K ok H vs ds
  | _ => False
theorem OwnAt.there {K : PySem.W.Frag} {ok : Addr → Prop} {H : Hp} {q : Addr} {d : D} (h : OwnAt K ok H q d) : ∃ o, H q = some o ∧ Vol o := by
  cases d with
  | lst ds => obtain ⟨vs, e, _⟩ := h; exact ⟨_, e, trivial⟩
  | dic ks ds => obtain ⟨vs, e, _⟩ := h; exact ⟨_, e, trivial⟩
  | dct ks ds => obtain ⟨vs, e, _⟩ := h; exact ⟨_, e, trivial⟩
  | obj C ns ds => obtain ⟨dx, fs, e, _⟩ := h; exact ⟨_, e, trivial⟩
  | lsta a ds => obtain ⟨_, vs, e, _⟩ := h; exact ⟨_, e, trivial⟩
  | _ => exact h.elim
theorem OwnAt.nt {K : PySem.W.Frag} {ok : Addr → Prop} {H : Hp} {q : Addr} {d : D} (h : OwnAt K ok H q d) (ps : Array Value) : H q ≠ some (.tbl ps) := fun z => by
  cases d with
  | lst ds => obtain ⟨vs, e, _⟩ := h; rw [e] at z; cases z
  | dic ks ds => obtain ⟨vs, e, _⟩ := h; rw [e] at z; cases z
  | dct ks ds => obtain ⟨vs, e, _⟩ := h; rw [e] at z; cases z
  | obj C ns ds => obtain ⟨dx, fs, e, _⟩ := h; rw [e] at z; cases z
  | lsta a ds => obtain ⟨_, vs, e, _⟩ := h; rw [e] at z; cases z
  | _ => exact h.elim
theorem OwnAt.fr {K : PySem.W.Frag} {ok ok' : Addr → Prop} {H H' : Hp} {q : Addr} {d : D} (f : Fr ok H ok' H') (e : H' q = H q) (h : OwnAt K ok H q d) : OwnAt K ok' H' q d := by
  cases d with
  | lst ds => obtain ⟨vs, e1, r⟩ := h; exact ⟨vs, e.trans e1, r.fr f⟩
  | dic ks ds => obtain ⟨vs, e1, k, r⟩ := h; exact ⟨vs, e.trans e1, k, r.fr f⟩
  | dct ks ds => obtain ⟨vs, e1, k, r⟩ := h; exact ⟨vs, e.trans e1, k, r.fr f⟩
  | obj C ns ds => obtain ⟨dx, vs, e1, k, r⟩ := h; exact ⟨dx, vs, e.trans e1, k, r.fr f⟩
  | lsta a ds => obtain ⟨ea, vs, e1, r⟩ := h; exact ⟨ea, vs, e.trans e1, r.fr f⟩
  | _ => exact h.elim
theorem own_tblX {K : PySem.W.Frag} {ok : Addr → Prop} {H : Hp} {q : Addr} {d : D} {u : HO} (h : OwnAt K ok H q d) (hu : H q = some u) (g : HO → Bool) (hg : ∀ o, g o = true → ∃ ps, o = .tbl ps) : g u = false := by
  cases e : g u with
  | false => rfl
  | true => obtain ⟨ps, rfl⟩ := hg u e; exact absurd hu (h.nt ps)
theorem OwnAt.rep {K : PySem.W.Frag} {ok ok' : Addr → Prop} {H : Hp} {q : Addr} {d : D} (f : Fr ok H ok' H) (k : ok' q) (h : OwnAt K ok H q d) : Rep K ok' H (.ref q) d := by
  cases d with
  | lst ds => obtain ⟨vs, e1, r⟩ := h; exact .lst e1 k (r.fr f)
  | dic ks ds => obtain ⟨vs, e1, kk, r⟩ := h; subst kk; exact .dic (.inl ⟨e1, k⟩) (r.fr f)
  | dct ks ds => obtain ⟨vs, e1, kk, r⟩ := h; subst kk; exact .dct (.inl ⟨e1, k⟩) (r.fr f)
  | obj C ns ds => obtain ⟨dx, vs, e1, kk, r⟩ := h; subst kk; exact .obj e1 k (r.fr f)
  | lsta a ds => obtain ⟨ea, vs, e1, r⟩ := h; subst ea; exact .lsta e1 k (r.fr f)
  | _ => exact h.elim
structure Gx where
  H0 : Hp
  B : List Nat
  T : List (Addr × Str)
def TbOk (T : List (Addr × Str)) (ok : Addr → Prop) (H : Hp) : Prop := ∀ p ∈ T, LamX.TabS H p.1 p.2 ∧ ¬ ok p.1
structure Wf (K : PySem.W.Frag) (g : Gx) (ok : Addr → Prop) (ρ : En) (σ : L2.St) (H : Hp) : Prop where
  len : σ.length = ρ.length
  fc : ∀ a, H a = none → ok a
  h0 : ∀ a, H a = none → g.H0 a = none
  val : ∀ (i : Nat) (d : D), ρ[i]? = some (.val d) → ∃ v, σ[i]? = some (some v) ∧ Rep K ok H v d
  own : ∀ (i : Nat) (d : D), ρ[i]? = some (.own d) → ∃ q, σ[i]? = some (some (.ref q)) ∧ OwnAt K ok H q d ∧ ¬ ok q ∧ (i ∈ g.B ∨ g.H0 q = none)
  apart : ∀ (i j : Nat) (d e : D) (q : Addr), ρ[i]? = some (.own d) → ρ[j]? = some (.own e) → σ[i]? = some (some (.ref q)) → σ[j]? = some (some (.ref q)) → i = j
  tb : TbOk g.T ok H
theorem TbOk.nil {ok : Addr → Prop} {H : Hp} : TbOk [] ok H := fun _ h => nomatch h
theorem TbOk.fr {T : List (Addr × Str)} {ok ok' : Addr → Prop} {H H' : Hp} (t : TbOk T ok H) (f : Fr ok H ok' H') (k : ∀ a ps, H a = some (.tbl ps) → H' a = some (.tbl ps)) (n : ∀ a ps, H a = some (.tbl ps) → ¬ ok a → ¬ ok' a) : TbOk T ok' H' := fun p hp => by
  obtain ⟨⟨ps, h1, h2, h3⟩, h4⟩ := t p hp
  refine ⟨⟨ps, k _ _ h1, h2, fun pos cv hc => ?_⟩, n _ _ h1 h4⟩
  obtain ⟨c, e1, e2⟩ := h3 pos cv hc
  exact ⟨c, e1, f.rd e2 (fun z => by unfold LamX.CodeO at z; exact z)⟩
section
variable {K : PySem.W.Frag} {g : Gx} {ok ok' : Addr → Prop} {ρ : En} {σ : L2.St} {H H' : Hp}
theorem Wf.step (w : Wf K g ok ρ σ H) (f : Fr ok H ok' H') (fc : ∀ a, H' a = none → ok' a) (tb : TbOk g.T ok' H')
    (ho : ∀ (i : Nat) (d : D) (q : Addr), ρ[i]? = some (.own d) → σ[i]? = some (some (.ref q)) → H' q = H q ∧ ¬ ok' q) : Wf K g ok' ρ σ H' := by
  refine ⟨w.len, fc, fun a h => w.h0 a (f.all a h), fun i d h => ?_, fun i d h => ?_, w.apart, tb⟩
  · obtain ⟨v, e, r⟩ := w.val i d h
    exact ⟨v, e, r.fr f⟩
  · obtain ⟨q, e, r, n, b⟩ := w.own i d h
    obtain ⟨h1, h2⟩ := ho i d q h e
    exact ⟨q, e, r.fr f h1, h2, b⟩
theorem fr_new {p : Addr} {o : HO} (n : H p = none) : Fr ok H ok (upd H p o) :=
  ⟨fun a u h _ => .inl (by rw [upd_ne (ne_of_none h n)]; exact h), fun _ _ _ h => h, fun a h => by
    by_cases z : a = p
    · rw [z]; exact n
    · rw [upd_ne z] at h; exact h⟩
theorem upd_tbl {p : Addr} {o : HO} (n : ∀ ps, H p ≠ some (.tbl ps)) : ∀ a ps, H a = some (.tbl ps) → upd H p o a = some (.tbl ps) := fun a ps h => by
  have hz : a ≠ p := fun z => n ps (by rw [← z]; exact h)
  rw [upd_ne hz]; exact h
theorem new_tbl {p : Addr} {o : HO} (n : H p = none) : ∀ a ps, H a = some (.tbl ps) → upd H p o a = some (.tbl ps) := upd_tbl fun ps z => by rw [n] at z; cases z
theorem Wf.new {p : Addr} {o : HO} (w : Wf K g ok ρ σ H) (n : H p = none) : Wf K g ok ρ σ (upd H p o) := by
  refine w.step (fr_new n) (fun a h => w.fc a ((fr_new (ok := ok) n).all a h)) (w.tb.fr (fr_new n) (new_tbl n) fun _ _ _ h => h) fun i d q h e => ?_
  obtain ⟨q', e', r, nk, _⟩ := w.own i d h
  rw [e] at e'
  cases e'
  obtain ⟨u, hu, _⟩ := r.there
  exact ⟨upd_ne (ne_of_none hu n), nk⟩
def sub1 (ok : Addr → Prop) (p : Addr) : Addr → Prop := fun a => ok a ∧ a ≠ p
def add1 (ok : Addr → Prop) (p : Addr) : Addr → Prop := fun a => ok a ∨ a = p
theorem fr_sub {p : Addr} {o : HO} (n : H p = none) : Fr ok H (sub1 ok p) (upd H p o) :=
  ⟨fun a u h _ => .inl (by rw [upd_ne (ne_of_none h n)]; exact h), fun _ _ h k => ⟨k, ne_of_none h n⟩, (fr_new (ok := ok) n).all⟩
theorem Wf.newO {p : Addr} {o : HO} (w : Wf K g ok ρ σ H) (n : H p = none) : Wf K g (sub1 ok p) ρ σ (upd H p o) := by
  refine w.step (fr_sub n) (fun a h => ?_) (w.tb.fr (fr_sub n) (new_tbl n) fun _ _ _ h z => h z.1) fun i d q h e => ?_
  · by_cases z : a = p
    · rw [z, upd_same] at h; cases h
    · rw [upd_ne z] at h; exact ⟨w.fc a h, z⟩
  · obtain ⟨q', e', r, nk, _⟩ := w.own i d h
    rw [e] at e'
    cases e'
    obtain ⟨u, hu, _⟩ := r.there
    exact ⟨upd_ne (ne_of_none hu n), fun z => nk z.1⟩
theorem fr_add {p : Addr} : Fr ok H (add1 ok p) H := ⟨fun _ _ h _ => .inl h, fun _ _ _ h => .inl h, fun _ h => h⟩
theorem Wf.add {p : Addr} (w : Wf K g ok ρ σ H) (nt : ∀ ps, H p ≠ some (.tbl ps)) (np : ∀ (j : Nat) (e : D), ρ[j]? = some (.own e) → σ[j]? ≠ some (some (.ref p))) : Wf K g (add1 ok p) ρ σ H := by
  refine w.step fr_add (fun a h => .inl (w.fc a h)) (w.tb.fr fr_add (fun _ _ h => h) fun a ps h n z => z.elim n fun y => nt ps (y ▸ h)) fun i d q h e => ⟨rfl, ?_⟩
  obtain ⟨q', e', r, nk, _⟩ := w.own i d h
  rw [e] at e'
  cases e'
  rintro (z | z)
  · exact nk z
  · exact np i d h (by rw [e, z])
theorem get_set_self {α : Type} {l : List α} {i : Nat} {x y : α} (h : (l.set i x)[i]? = some y) : y = x := by
  rw [List.getElem?_set] at h
  rw [if_pos rfl] at h
  split at h
  · exact (Option.some.inj h).symm
  · cases h
theorem Wf.freeze {i : Nat} {d : D} {q : Addr} (w : Wf K g ok ρ σ H) (h : ρ[i]? = some (.own d)) (hq : σ[i]? = some (some (.ref q))) :
    Wf K g (add1 ok q) (ρ.set i (.val d)) σ H ∧ Rep K (add1 ok q) H (.ref q) d := by
  obtain ⟨q', e', r, nk, b⟩ := w.own i d h
  rw [hq] at e'
  cases e'
  have rp : Rep K (add1 ok q) H (.ref q) d := r.rep fr_add (.inr rfl)
  have f : Fr ok H (add1 ok q) H := fr_add
  refine ⟨⟨by rw [List.length_set]; exact w.len, fun a z => .inl (w.fc a z), w.h0, fun j e z => ?_, fun j e z => ?_, fun j k d1 d2 p h1 h2 e1 e2 => ?_, w.tb.fr f (fun _ _ h => h) fun a ps h n z => z.elim n fun y => r.nt ps (y ▸ h)⟩, rp⟩
  · by_cases hj : j = i
    · subst hj
      cases get_set_self z
      exact ⟨_, hq, rp⟩
    · rw [List.getElem?_set_ne (Ne.symm hj)] at z
      obtain ⟨v, e1, r1⟩ := w.val j e z
      exact ⟨v, e1, r1.fr f⟩
  · by_cases hj : j = i
    · subst hj
      cases get_set_self z
    · rw [List.getElem?_set_ne (Ne.symm hj)] at z
      obtain ⟨p, e1, r1, n1, b1⟩ := w.own j e z
      refine ⟨p, e1, r1.fr f rfl, ?_, b1⟩
      rintro (y | y)
      · exact n1 y
      · exact hj (w.apart j i e d p z h e1 (by rw [hq, y]))
  · have n1 : j ≠ i := fun z => by subst z; cases get_set_self h1
    have n2 : k ≠ i := fun z => by subst z; cases get_set_self h2
    rw [List.getElem?_set_ne (Ne.symm n1)] at h1
    rw [List.getElem?_set_ne (Ne.symm n2)] at h2
    exact w.apart j k d1 d2 p h1 h2 e1 e2
theorem Wf.write {i : Nat} {d e : D} {q : Addr} {o : HO} (w : Wf K g ok ρ σ H) (h : ρ[i]? = some (.own d)) (hq : σ[i]? = some (some (.ref q)))
    (ne : OwnAt K ok (upd H q o) q e) : Wf K g ok (ρ.set i (.own e)) σ (upd H q o) ∧ Fr ok H ok (upd H q o) := by
  obtain ⟨q', e', r, nk, b⟩ := w.own i d h
  rw [hq] at e'
  cases e'
  obtain ⟨u, hu, hv⟩ := r.there
  have f : Fr ok H ok (upd H q o) := .of (fun a x ha hk => by
      have : a ≠ q := fun z => by
        subst z
        rw [hu] at ha
        cases ha
        exact nk (hk hv)
      rw [upd_ne this]; exact ha) (fun _ _ _ k => k) (fun a ha => by
    by_cases z : a = q
    · rw [z, upd_same] at ha; cases ha
    · rw [upd_ne z] at ha; exact ha)
  refine ⟨⟨by rw [List.length_set]; exact w.len, fun a z => w.fc a (f.all a z), fun a z => w.h0 a (f.all a z), fun j x z => ?_, fun j x z => ?_, fun j k d1 d2 p h1 h2 e1 e2 => ?_, w.tb.fr f (upd_tbl r.nt) fun _ _ _ n => n⟩, f⟩
  · have hj : j ≠ i := fun y => by subst y; cases get_set_self z
    rw [List.getElem?_set_ne (Ne.symm hj)] at z
    obtain ⟨v, e1, r1⟩ := w.val j x z
    exact ⟨v, e1, r1.fr f⟩
  · by_cases hj : j = i
    · subst hj
      cases get_set_self z
      exact ⟨q, hq, ne, nk, b⟩
    · rw [List.getElem?_set_ne (Ne.symm hj)] at z
      obtain ⟨p, e1, r1, n1, b1⟩ := w.own j x z
      refine ⟨p, e1, r1.fr f ?_, n1, b1⟩
      refine upd_ne fun y => hj (w.apart j i x d p z h e1 (by rw [hq, y]))
  · have o1 : ∃ x, ρ[j]? = some (.own x) := by
      by_cases hj : j = i
      · exact ⟨d, by rw [hj]; exact h⟩
      · rw [List.getElem?_set_ne (Ne.symm hj)] at h1; exact ⟨_, h1⟩
    have o2 : ∃ x, ρ[k]? = some (.own x) := by
      by_cases hj : k = i
      · exact ⟨d, by rw [hj]; exact h⟩
      · rw [List.getElem?_set_ne (Ne.symm hj)] at h2; exact ⟨_, h2⟩
    obtain ⟨x1, h1⟩ := o1
    obtain ⟨x2, h2⟩ := o2
    exact w.apart j k x1 x2 p h1 h2 e1 e2
theorem Wf.set {i : Nat} {v : V} {d : D} (w : Wf K g ok ρ σ H) (r : Rep K ok H v d) : Wf K g ok (ρ.set i (.val d)) (σ.set i (some v)) H := by
  refine ⟨by rw [List.length_set, List.length_set]; exact w.len, w.fc, w.h0, fun j e z => ?_, fun j e z => ?_, fun j k d1 d2 p h1 h2 e1 e2 => ?_, w.tb⟩
  · by_cases hj : j = i
    · subst hj
      cases get_set_self z
      refine ⟨v, ?_, r⟩
      have := (List.getElem?_eq_some_iff.mp z).1
      rw [List.length_set] at this
      rw [List.getElem?_set_self (by rw [w.len]; exact this)]
    · rw [List.getElem?_set_ne (Ne.symm hj)] at z ⊢
      exact w.val j e z
  · have hj : j ≠ i := fun y => by subst y; cases get_set_self z
    rw [List.getElem?_set_ne (Ne.symm hj)] at z ⊢
    exact w.own j e z
  · have n1 : j ≠ i := fun z => by subst z; cases get_set_self h1
    have n2 : k ≠ i := fun z => by subst z; cases get_set_self h2
    rw [List.getElem?_set_ne (Ne.symm n1)] at h1 e1
    rw [List.getElem?_set_ne (Ne.symm n2)] at h2 e2
    exact w.apart j k d1 d2 p h1 h2 e1 e2
theorem Wf.setO {i : Nat} {d : D} {q : Addr} (w : Wf K g ok ρ σ H) (r : OwnAt K ok H q d) (nk : ¬ ok q) (n0 : g.H0 q = none)
    (np : ∀ (j : Nat) (e : D), ρ[j]? = some (.own e) → σ[j]? ≠ some (some (.ref q))) : Wf K g ok (ρ.set i (.own d)) (σ.set i (some (.ref q))) H := by
  refine ⟨by rw [List.length_set, List.length_set]; exact w.len, w.fc, w.h0, fun j e z => ?_, fun j e z => ?_, fun j k d1 d2 p h1 h2 e1 e2 => ?_, w.tb⟩
  · have hj : j ≠ i := fun y => by subst y; cases get_set_self z
    rw [List.getElem?_set_ne (Ne.symm hj)] at z ⊢
    exact w.val j e z
  · by_cases hj : j = i
    · subst hj
      cases get_set_self z
      refine ⟨q, ?_, r, nk, .inr n0⟩
      have := (List.getElem?_eq_some_iff.mp z).1
      rw [List.length_set] at this
      rw [List.getElem?_set_self (by rw [w.len]; exact this)]
    · rw [List.getElem?_set_ne (Ne.symm hj)] at z ⊢
      exact w.own j e z
  · by_cases hj : j = i
    · by_cases hk : k = i
      · rw [hj, hk]
      · subst hj
        rw [List.getElem?_set_ne (Ne.symm hk)] at h2 e2
        cases get_set_self e1
        exact absurd e2 (np k d2 h2)
    · rw [List.getElem?_set_ne (Ne.symm hj)] at h1 e1
      by_cases hk : k = i
      · subst hk
        cases get_set_self e2
        exact absurd e1 (np j d1 h1)
      · rw [List.getElem?_set_ne (Ne.symm hk)] at h2 e2
        exact w.apart j k d1 d2 p h1 h2 e1 e2
theorem Wf.drop {i : Nat} (w : Wf K g ok ρ σ H) : Wf K g ok (ρ.set i .un) σ H := by
  have back : ∀ {j : Nat} {s : Slot}, s ≠ .un → (ρ.set i .un)[j]? = some s → ρ[j]? = some s := fun {j s} ns h => by
    by_cases hj : j = i
    · subst hj
      exact absurd (get_set_self h) ns
    · rw [List.getElem?_set_ne (Ne.symm hj)] at h; exact h
  exact ⟨by rw [List.length_set]; exact w.len, w.fc, w.h0, fun j e z => w.val j e (back (fun y => by cases y) z), fun j e z => w.own j e (back (fun y => by cases y) z), fun j k d1 d2 p h1 h2 e1 e2 => w.apart j k d1 d2 p (back (fun y => by cases y) h1) (back (fun y => by cases y) h2) e1 e2, w.tb⟩
def wrs (ρ : En) (σ : L2.St) (a : Addr) : Prop := ∃ (i : Nat) (d : D), ρ[i]? = some (.own d) ∧ σ[i]? = some (some (.ref a))
def isTbl : HO → Bool
  | .tbl _ => true
  | _ => false
theorem own_tbl {K : PySem.W.Frag} {ok : Addr → Prop} {H : Hp} {q : Addr} {d : D} {u : HO} (h : OwnAt K ok H q d) (hu : H q = some u) : isTbl u = false := own_tblX h hu isTbl fun o e => by
  cases o <;> first | exact ⟨_, rfl⟩ | cases e
def KeptO (ok : Addr → Prop) (H' : Hp) (a : Addr) (o : HO) : Prop := H' a = some o ∨ (ok a ∧ isDct o = true ∧ ∃ ob, H' a = some (.frz ob o)) ∨ (isTbl o = true ∧ ∃ ps, H' a = some (.tbl ps))
theorem KeptO.same {ok : Addr → Prop} {H' : Hp} {a : Addr} {o : HO} (k : KeptO ok H' a o) (n : ¬ ok a) (nt : isTbl o = false := by rfl) : H' a = some o := by
  rcases k with h | ⟨z, _⟩ | ⟨z, _⟩
  · exact h
  · exact absurd z n
  · rw [nt] at z; cases z
theorem KeptO.then {ok ok1 : Addr → Prop} {H1 H2 : Hp} {a : Addr} {o : HO} (k : KeptO ok H1 a o) (b : ∀ o', H1 a = some o' → KeptO ok1 H2 a o') (g : ok1 a → ok a) : KeptO ok H2 a o := by
  rcases k with h | ⟨z, d, ob, h⟩ | ⟨z, ps, h⟩
  · rcases b _ h with q | ⟨y, d, q⟩ | q
    · exact .inl q
    · exact .inr (.inl ⟨g y, d, q⟩)
    · exact .inr (.inr q)
  · rcases b _ h with q | ⟨_, d', _⟩ | ⟨d', _⟩
    · exact .inr (.inl ⟨z, d, ob, q⟩)
    · cases d'
    · cases d'
  · rcases b _ h with q | ⟨_, d', _⟩ | ⟨_, q⟩
    · exact .inr (.inr ⟨z, ps, q⟩)
    · cases d'
    · exact .inr (.inr ⟨z, q⟩)
structure Sx (σ : L2.St) (ρ : En) (ok : Addr → Prop) (H : Hp) (ρ' : En) (ok' : Addr → Prop) (H' : Hp) : Prop where
  fr : Fr ok H ok' H'
  keep : ∀ a o, H a = some o → ¬ wrs ρ σ a → KeptO ok H' a o
  sub : ∀ a, wrs ρ' σ a → wrs ρ σ a
  grow : ∀ a o, H a = some o → ok' a → ok a ∨ wrs ρ σ a
theorem Sx.refl : Sx σ ρ ok H ρ ok H := ⟨Fr.refl, fun _ _ h _ => .inl h, fun _ h => h, fun _ _ _ h => .inl h⟩
theorem Fr.there {ok ok' : Addr → Prop} {H H' : Hp} (f : Fr ok H ok' H') {a : Addr} {o : HO} (h : H a = some o) : ∃ o', H' a = some o' := by
  cases e : H' a with
  | none => rw [f.all a e] at h; cases h
  | some o' => exact ⟨o', rfl⟩
theorem Sx.trans {ρ1 ρ2 : En} {ok1 ok2 : Addr → Prop} {H1 H2 : Hp} (a : Sx σ ρ ok H ρ1 ok1 H1) (b : Sx σ ρ1 ok1 H1 ρ2 ok2 H2) : Sx σ ρ ok H ρ2 ok2 H2 :=
  ⟨a.fr.trans b.fr, fun c o h n => (a.keep c o h n).then (fun o' h' => b.keep c o' h' fun z => n (a.sub c z)) (fun z => (a.grow c o h z).elim id fun y => absurd y n), fun c h => a.sub c (b.sub c h), fun c o h k => by
    obtain ⟨o', h'⟩ := a.fr.there h
    rcases b.grow c o' h' k with z | z
    · exact a.grow c o h z
    · exact .inr (a.sub c z)⟩
theorem Sx.new {p : Addr} {o : HO} (n : H p = none) : Sx σ ρ ok H ρ ok (upd H p o) := ⟨fr_new n, fun a u h _ => .inl (by rw [upd_ne (ne_of_none h n)]; exact h), fun _ h => h, fun _ _ _ h => .inl h⟩
theorem Sx.newO {p : Addr} {o : HO} (n : H p = none) : Sx σ ρ ok H ρ (sub1 ok p) (upd H p o) := ⟨fr_sub n, fun a u h _ => .inl (by rw [upd_ne (ne_of_none h n)]; exact h), fun _ h => h, fun _ _ _ h => .inl h.1⟩
theorem wrs_set {i : Nat} {s : Slot} {a : Addr} (ns : ∀ d, s ≠ .own d) (h : wrs (ρ.set i s) σ a) : wrs ρ σ a := by
  obtain ⟨j, d, h1, h2⟩ := h
  have hj : j ≠ i := fun z => by subst z; exact ns d (get_set_self h1).symm
  rw [List.getElem?_set_ne (Ne.symm hj)] at h1
  exact ⟨j, d, h1, h2⟩
theorem Sx.freeze {i : Nat} {d : D} {q : Addr} (hi : ρ[i]? = some (.own d)) (hq : σ[i]? = some (some (.ref q))) : Sx σ ρ ok H (ρ.set i (.val d)) (add1 ok q) H := ⟨fr_add, fun _ _ h _ => .inl h, fun _ h => wrs_set (fun _ z => by cases z) h, fun a _ _ h => h.elim .inl fun z => .inr ⟨i, d, hi, by rw [z]; exact hq⟩⟩
theorem Sx.add {ρ1 : En} {ok1 : Addr → Prop} {H1 : Hp} {p : Addr} (s : Sx σ ρ ok H ρ1 ok1 H1) (n : H p = none) : Sx σ ρ ok H ρ1 (add1 ok1 p) H1 := ⟨s.fr.trans fr_add, s.keep, s.sub, fun a o h k => k.elim (s.grow a o h) fun z => by rw [z, n] at h; cases h⟩
theorem Sx.drop {i : Nat} : Sx σ ρ ok H (ρ.set i .un) ok H := ⟨Fr.refl, fun _ _ h _ => .inl h, fun _ h => wrs_set (fun _ z => by cases z) h, fun _ _ _ h => .inl h⟩
theorem Wf.wr {a : Addr} (w : Wf K g ok ρ σ H) (h : wrs ρ σ a) : ¬ ok a ∧ ∃ o, H a = some o ∧ Vol o := by
  obtain ⟨i, d, h1, h2⟩ := h
  obtain ⟨q, e, r, nk, _⟩ := w.own i d h1
  rw [h2] at e
  cases e
  exact ⟨nk, r.there⟩
theorem Sx.write {i : Nat} {d e : D} {q : Addr} {o : HO} (w : Wf K g ok ρ σ H) (h : ρ[i]? = some (.own d)) (hq : σ[i]? = some (some (.ref q)))
    (ne : OwnAt K ok (upd H q o) q e) : Sx σ ρ ok H (ρ.set i (.own e)) ok (upd H q o) := by
  refine ⟨(w.write h hq ne).2, fun a u ha na => ?_, fun a ha => ?_, fun _ _ _ k => .inl k⟩
  · exact .inl (by rw [upd_ne (fun z => na ⟨i, d, h, by rw [hq, z]⟩)]; exact ha)
  · obtain ⟨j, x, h1, h2⟩ := ha
    by_cases hj : j = i
    · subst hj
      exact ⟨j, d, h, h2⟩
    · rw [List.getElem?_set_ne (Ne.symm hj)] at h1
      exact ⟨j, x, h1, h2⟩
end
end Pu
/-! Readings in the tree world. -/
namespace Pu
open PySem PySem.Spec PyProof.Rows L2 Kv
inductive Ex (α : Type) where
  | ok (a : α) (ρ : En)
  | er (c : Value) (ns : List Str) (ds : List D) (ρ : En)
abbrev P (α : Type) := En → Option (Ex α)
section
variable {α β : Type}
def prt (a : α) : P α := fun ρ => some (.ok a ρ)
def bnd (m : P α) (k : α → P β) : P β := fun ρ => match m ρ with
  | none => none
  | some (.er c ns ds ρ') => some (.er c ns ds ρ')
  | some (.ok a ρ') => k a ρ'
def lft (o : Option α) : P α := fun ρ => match o with
  | some a => some (.ok a ρ)
  | none => none
theorem bnd_ok {m : P α} {k : α → P β} {ρ ρ' : En} {a : α} (h : m ρ = some (.ok a ρ')) : bnd m k ρ = k a ρ' := by unfold bnd; rw [h]
theorem bnd_er {m : P α} {k : α → P β} {ρ ρ' : En} {c : Value} {ns : List Str} {ds : List D} (h : m ρ = some (.er c ns ds ρ')) : bnd m k ρ = some (.er c ns ds ρ') := by unfold bnd; rw [h]
theorem bnd_none {m : P α} {k : α → P β} {ρ : En} (h : m ρ = none) : bnd m k ρ = none := by unfold bnd; rw [h]
theorem lft_some {a : α} : lft (some a) = prt a := rfl
end
abbrev Wx := L2.St → XK
def noE : Wx := fun _ _ _ _ => False
abbrev Rl (γ α : Type) := Hp → (Addr → Prop) → Hp → En → L2.St → γ → α → Prop
def Mono {γ α : Type} (R : Rl γ α) : Prop := ∀ H H1 ok' H' ρ' σ v a, (∀ a, H1 a = none → H a = none) → R H1 ok' H' ρ' σ v a → R H ok' H' ρ' σ v a
def Rs {γ α : Type} (K : PySem.W.Frag) (g : Gx) (E : Wx) (Rel : Rl γ α) (σ : L2.St) (ρ : En) (ok : Addr → Prop) (H : Hp) (o : Option (Ex α)) (Q : γ → Hp → Prop) : Prop :=
  match o with
  | none => False
  | some (.ok a ρ') => ∀ v H' ok', Wf K g ok' ρ' σ H' → Sx σ ρ ok H ρ' ok' H' → Rel H ok' H' ρ' σ v a → Q v H'
  | some (.er c ns ds ρ') => ∀ dx fs H' ok', Wf K g ok' ρ' σ H' → Sx σ ρ ok H ρ' ok' H' → H' dx = some (.xd fs) → fs.map (·.1) = ns → Reps K ok' H' (fs.map (·.2)) ds → E σ c (some dx) H'
def tX {γ α : Type} (K : PySem.W.Frag) (g : Gx) (E : Wx) (Rel : Rl γ α) (f : P α) : L2.St → Hp → (γ → Hp → Prop) → Prop := fun σ H Q =>
  ∃ ok ρ, Wf K g ok ρ σ H ∧ Rs K g E Rel σ ρ ok H (f ρ) Q
abbrev relD (K : PySem.W.Frag) : Rl V D := fun _ ok H _ _ v d => Rep K ok H v d
def Pk (K : PySem.W.Frag) (ok : Addr → Prop) (H : Hp) (v : V) (d : D) : Prop := Rep K ok H v d ∨ ∃ q, v = .ref q ∧ OwnAt K ok H q d
abbrev relP (K : PySem.W.Frag) : Rl V D := fun _ ok H _ _ v d => Pk K ok H v d
abbrev relB : Rl Bool Bool := fun _ _ _ _ _ c b => c = b
abbrev relA (K : PySem.W.Frag) : Rl (List V) (List D) := fun _ ok H _ _ v d => Reps K ok H v d
inductive R where
  | val (d : D)
  | own (d : D)
@[reducible] def R.d : R → D
  | .val d => d
  | .own d => d
def relR (K : PySem.W.Frag) : Rl V R := fun H0 ok H ρ σ v r => match r with
  | .val d => Rep K ok H v d
  | .own d => ∃ q, v = .ref q ∧ OwnAt K ok H q d ∧ ¬ ok q ∧ H0 q = none ∧ ∀ (j : Nat) (e : D), ρ[j]? = some (.own e) → σ[j]? ≠ some (some (.ref q))
theorem monoD {K : PySem.W.Frag} : Mono (relD K) := fun _ _ _ _ _ _ _ _ _ r => r
theorem monoP {K : PySem.W.Frag} : Mono (relP K) := fun _ _ _ _ _ _ _ _ _ r => r
theorem monoA {K : PySem.W.Frag} : Mono (relA K) := fun _ _ _ _ _ _ _ _ _ r => r
theorem monoB : Mono relB := fun _ _ _ _ _ _ _ _ _ r => r
theorem monoR {K : PySem.W.Frag} : Mono (relR K) := fun H H1 ok' H' ρ' σ v a h r => by
  cases a with
  | val d => exact r
  | own d => obtain ⟨q, e, o, nk, n0, np⟩ := r; exact ⟨q, e, o, nk, h q n0, np⟩
section
variable {γ δ α β : Type} {K : PySem.W.Frag} {g : Gx} {E : Wx} {σ : L2.St} {ok ok1 : Addr → Prop} {H H1 : Hp} {ρ : En}
theorem Rs.mono {Rel : Rl γ α} {o : Option (Ex α)} {Q Q' : γ → Hp → Prop} (h : Rs K g E Rel σ ρ ok H o Q) (q : ∀ v H', Q v H' → Q' v H') : Rs K g E Rel σ ρ ok H o Q' := by
  match o, h with
  | some (.ok a ρ'), h => exact fun v H' ok' w f r => q v H' (h v H' ok' w f r)
  | some (.er c ns ds ρ'), h => exact h
theorem Rs.shift {Rel : Rl γ α} {ρ1 : En} {o : Option (Ex α)} {Q : γ → Hp → Prop} (h : Rs K g E Rel σ ρ ok H o Q) (f : Sx σ ρ ok H ρ1 ok1 H1) (mo : Mono Rel) : Rs K g E Rel σ ρ1 ok1 H1 o Q := by
  match o, h with
  | some (.ok a ρ'), h => exact fun v H' ok' w f' r => h v H' ok' w (f.trans f') (mo _ _ _ _ _ _ _ _ f.fr.all r)
  | some (.er c ns ds ρ'), h => exact fun dx fs H' ok' w f' => h dx fs H' ok' w (f.trans f')
theorem Rs.bnd {RA : Rl γ α} {RB : Rl δ β} {m : P α} {k : α → P β} {Q : δ → Hp → Prop} (h : Rs K g E RB σ ρ ok H (bnd m k ρ) Q) (mo : Mono RB := by first | exact monoD | exact monoB | exact monoA | exact monoP | exact monoR | assumption) :
    Rs K g E RA σ ρ ok H (m ρ) (fun v1 H1 => ∃ ok1 ρ1 a, Wf K g ok1 ρ1 σ H1 ∧ Sx σ ρ ok H ρ1 ok1 H1 ∧ RA H ok1 H1 ρ1 σ v1 a ∧ Rs K g E RB σ ρ1 ok1 H1 (k a ρ1) Q) := by
  cases e : m ρ with
  | none => unfold Pu.bnd at h; rw [e] at h; exact h
  | some x =>
    cases x with
    | ok a ρ' =>
      rw [bnd_ok e] at h
      exact fun v H' ok' w f r => ⟨ok', ρ', a, w, f, r, h.shift f mo⟩
    | er c ns ds ρ' => rw [bnd_er e] at h; exact h
end
abbrev EV (X : Cx) (g : Gx) (E : Wx) (e : Expr) (f : P D) : Prop := PE X e (tX X.K g E (relD X.K) f)
abbrev EP (X : Cx) (g : Gx) (E : Wx) (e : Expr) (f : P D) : Prop := PE X e (tX X.K g E (relP X.K) f)
abbrev ER (X : Cx) (g : Gx) (E : Wx) (e : Expr) (f : P R) : Prop := PE X e (tX X.K g E (relR X.K) f)
abbrev ET (X : Cx) (g : Gx) (E : Wx) (e : Expr) (f : P Bool) : Prop := PT X e (tX X.K g E relB f)
abbrev EA (X : Cx) (g : Gx) (E : Wx) (es : List Expr) (f : P (List D)) : Prop := PA X es (tX X.K g E (relA X.K) f)
section
variable {X : Cx} {g : Gx} {E : Wx} {a b c e : Expr} {es : List Expr} {pos : Pos} {fa fb fc : P D}
theorem PE_imp {t t' : TE} (h : PE X e t) (q : ∀ σ H Q, t' σ H Q → t σ H Q) : PE X e t' := ⟨fun pins s σ H Q I z => h.run pins s σ H Q I (q σ H Q z)⟩
theorem PT_imp {t t' : TT} (h : PT X e t) (q : ∀ σ H Q, t' σ H Q → t σ H Q) : PT X e t' := ⟨fun pins s σ H Q I z => h.run pins s σ H Q I (q σ H Q z)⟩
theorem PA_imp {t t' : TA} (h : PA X es t) (q : ∀ σ H Q, t' σ H Q → t σ H Q) : PA X es t' := ⟨fun po pins s σ H Q I z => h.run po pins s σ H Q I (q σ H Q z)⟩
theorem relR.toD {K : PySem.W.Frag} {ok ok1 : Addr → Prop} {H H1 : Hp} {ρ ρ1 : En} {σ : L2.St} {v : V} {r : R} (w : Wf K g ok1 ρ1 σ H1) (s : Sx σ ρ ok H ρ1 ok1 H1) (h : relR K H ok1 H1 ρ1 σ v r) :
    ∃ ok', Wf K g ok' ρ1 σ H1 ∧ Sx σ ρ ok H ρ1 ok' H1 ∧ Rep K ok' H1 v r.d := by
  cases r with
  | val d => exact ⟨ok1, w, s, h⟩
  | own d =>
    obtain ⟨q, rfl, o, nk, n0, np⟩ := h
    exact ⟨add1 ok1 q, w.add o.nt np, s.add n0, o.rep fr_add (.inr rfl)⟩
def fz (f : P R) : P D := bnd f fun r => prt r.d
def vl (f : P D) : P R := bnd f fun d => prt (.val d)
theorem ev_fz {f : P R} (h : ER X g E e f) : EV X g E e (fz f) := by
  refine PE_imp h fun σ H Q hq => ?_
  obtain ⟨ok, ρ, w, h⟩ := hq
  refine ⟨ok, ρ, w, ?_⟩
  unfold fz at h
  cases e : f ρ with
  | none => rw [bnd_none e] at h; exact h
  | some x =>
    cases x with
    | er c ns ds ρ' => rw [bnd_er e] at h; exact h
    | ok r ρ' =>
      rw [bnd_ok e] at h
      intro v H1 ok1 w1 s1 r1
      obtain ⟨ok2, w2, s2, r2⟩ := relR.toD w1 s1 r1
      exact h v H1 ok2 w2 s2 r2
theorem er_vl {f : P D} (h : EV X g E e f) : ER X g E e (vl f) := by
  refine PE_imp h fun σ H Q hq => ?_
  obtain ⟨ok, ρ, w, h⟩ := hq
  refine ⟨ok, ρ, w, (Rs.bnd (RA := relD X.K) h).mono fun v H1 hq => ?_⟩
  obtain ⟨ok1, ρ1, r, w1, f1, r1, h1⟩ := hq
  exact h1 v H1 ok1 w1 Sx.refl r1
def rd (i : Nat) : P D := fun ρ => match ρ[i]? with
  | some (.val d) => some (.ok d ρ)
  | some (.own d) => some (.ok d (ρ.set i (.val d)))
  | _ => none
theorem ev_name {i : Nat} {x : Str} (hN : X.N[i]? = some x) (hv : Vis X.env.scope x) (hd : (x == ("__debug__" : Str)) = false := by decide) (hcd : (x == ("__classdict__" : Str)) = false := by decide) : EV X g E (.Name x pos) (rd i) := by
  refine PE_imp (pe_var hN hv hd hcd) fun σ H Q hq => ?_
  obtain ⟨ok, ρ, w, h⟩ := hq
  unfold rd at h
  cases e : ρ[i]? with
  | none => rw [e] at h; exact h.elim
  | some s =>
    rw [e] at h
    cases s with
    | un => exact h.elim
    | val d =>
      obtain ⟨v, ev, r⟩ := w.val i d e
      exact ⟨v, ev, h v H ok w Sx.refl r⟩
    | own d =>
      obtain ⟨q, eq, _⟩ := w.own i d e
      obtain ⟨w2, r2⟩ := w.freeze e eq
      exact ⟨_, eq, h _ H _ w2 (Sx.freeze e eq) r2⟩
theorem ev_const {v : V} {d : D} (h : PE X e (tC v)) (r : ∀ ok H, Rep X.K ok H v d) : EV X g E e (prt d) := by
  refine PE_imp h fun σ H Q hq => ?_
  obtain ⟨ok, ρ, w, h⟩ := hq
  exact h v H ok w Sx.refl (r ok H)
theorem ev_int {i : Int} {j} : EV X g E (.Constant (.int i) j pos) (prt (.int i)) := ev_const pe_int fun _ _ => .int i
theorem ev_bl {b : Bool} {j} : EV X g E (.Constant (.bool b) j pos) (prt (.bl b)) := ev_const pe_bl fun _ _ => .bl b
theorem ev_non {j} : EV X g E (.Constant .none j pos) (prt .non) := ev_const pe_non fun _ _ => .non
theorem ev_str {x : Str} {j} : EV X g E (.Constant (.str x) j pos) (prt (.str x)) := ev_const pe_str fun _ _ => .str x
theorem ep_of {f : P D} (h : EV X g E e f) : EP X g E e f := by
  refine PE_imp h fun σ H Q hq => ?_
  obtain ⟨ok, ρ, w, h⟩ := hq
  refine ⟨ok, ρ, w, ?_⟩
  match f ρ, h with
  | some (.ok a ρ'), h => exact fun v H' ok' w f r => h v H' ok' w f (.inl r)
  | some (.er c ns ds ρ'), h => exact h
def pk (i : Nat) : P D := fun ρ => match ρ[i]? with
  | some (.val d) => some (.ok d ρ)
  | some (.own d) => some (.ok d ρ)
  | _ => none
theorem pk_wf {K : PySem.W.Frag} {ok : Addr → Prop} {ρ : En} {σ : L2.St} {H : Hp} {i : Nat} {d : D} (w : Wf K g ok ρ σ H) (h : ρ[i]? = some (.val d) ∨ ρ[i]? = some (.own d)) : ∃ v, σ[i]? = some (some v) ∧ Pk K ok H v d := by
  rcases h with h | h
  · obtain ⟨v, e, r⟩ := w.val i d h
    exact ⟨v, e, .inl r⟩
  · obtain ⟨q, e, r, _⟩ := w.own i d h
    exact ⟨_, e, .inr ⟨q, rfl, r⟩⟩
theorem pk_inv {ρ : En} {i : Nat} {x : Ex D} (h : pk i ρ = some x) : ∃ d, x = .ok d ρ ∧ (ρ[i]? = some (.val d) ∨ ρ[i]? = some (.own d)) := by
  unfold pk at h
  cases e : ρ[i]? with
  | none => rw [e] at h; cases h
  | some s =>
    rw [e] at h
    cases s with
    | un => cases h
    | val d => cases h; exact ⟨d, rfl, .inl rfl⟩
    | own d => cases h; exact ⟨d, rfl, .inr rfl⟩
theorem ep_name {i : Nat} {x : Str} (hN : X.N[i]? = some x) (hv : Vis X.env.scope x) (hd : (x == ("__debug__" : Str)) = false := by decide) (hcd : (x == ("__classdict__" : Str)) = false := by decide) : EP X g E (.Name x pos) (pk i) := by
  refine PE_imp (pe_var hN hv hd hcd) fun σ H Q hq => ?_
  obtain ⟨ok, ρ, w, h⟩ := hq
  cases e : pk i ρ with
  | none => rw [e] at h; exact h.elim
  | some x =>
    rw [e] at h
    obtain ⟨d, rfl, h2⟩ := pk_inv e
    obtain ⟨v, ev, r⟩ := pk_wf w h2
    exact ⟨v, ev, h v H ok w Sx.refl r⟩
/-! ### two values -/
def Can (K : PySem.W.Frag) (g : Gx) (ρ : En) (σ : L2.St) (ok : Addr → Prop) (H : Hp) (d : D) (Q : VK) : Prop :=
  ∀ v H' ok', Wf K g ok' ρ σ H' → Sx σ ρ ok H ρ ok' H' → Rep K ok' H' v d → Q v H'
theorem Can.at {K : PySem.W.Frag} {ρ : En} {σ : L2.St} {ok : Addr → Prop} {H : Hp} {d : D} {Q : VK} {v : V} (h : Can K g ρ σ ok H d Q) (w : Wf K g ok ρ σ H) (r : Rep K ok H v d) : Q v H := h v H ok w Sx.refl r
theorem Can.new {K : PySem.W.Frag} {ρ : En} {σ : L2.St} {ok : Addr → Prop} {H : Hp} {d : D} {Q : VK} {p : Addr} {o : HO} (h : Can K g ρ σ ok H d Q) (w : Wf K g ok ρ σ H) (n : H p = none)
    (r : ok p → (upd H p o) p = some o → Fr ok H ok (upd H p o) → Rep K ok (upd H p o) (.ref p) d) : Q (.ref p) (upd H p o) :=
  h (.ref p) _ ok (w.new n) (Sx.new n) (r (w.fc p n) upd_same (fr_new n))
def Op2 (K : PySem.W.Frag) (r : R2) (op : D → D → Option D) : Prop := ∀ (g : Gx) (ρ : En) (σ : L2.St) (ok : Addr → Prop) (H : Hp) (u v : V) (x y z : D) (Q : VK), Wf K g ok ρ σ H → Rep K ok H u x → Pk K ok H v y → op x y = some z → Can K g ρ σ ok H z Q → r u v H Q
def op2 (o : D → D → Option D) (fa fb : P D) : P D := bnd fa fun x => bnd fb fun y => lft (o x y)
theorem tX_op2 {r : R2} {o : D → D → Option D} (h2 : Op2 X.K r o) {σ : L2.St} {H : Hp} {Q : VK} (hq : tX X.K g E (relD X.K) (op2 o fa fb) σ H Q) :
    tOp r (tX X.K g E (relD X.K) fa) (tX X.K g E (relP X.K) fb) σ H Q := by
  obtain ⟨ok, ρ, w, h⟩ := hq
  refine ⟨ok, ρ, w, (Rs.bnd (RA := relD X.K) h).mono fun v1 H1 hq => ?_⟩
  obtain ⟨ok1, ρ1, x, w1, f1, r1, h1⟩ := hq
  refine ⟨ok1, ρ1, w1, (Rs.bnd (RA := relP X.K) h1).mono fun v2 H2 hq => ?_⟩
  obtain ⟨ok2, ρ2, y, w2, f2, r2, h2'⟩ := hq
  unfold lft at h2'
  cases e : o x y with
  | none => rw [e] at h2'; exact h2'.elim
  | some z => rw [e] at h2'; exact h2 g ρ2 σ ok2 H2 v1 v2 x y z Q w2 (Rep.fr f2.fr r1) r2 e h2'
theorem ev_bin {op : Operator} {r : R2} {o : D → D → Option D} (ho : OpR X (binaryOp op) r) (h2 : Op2 X.K r o) (ha : EV X g E a fa) (hb : EP X g E b fb) : EV X g E (.BinOp a op b pos) (op2 o fa fb) :=
  PE_imp (pe_op ho ha hb) fun σ H Q hq => tX_op2 h2 hq
theorem ev_cmp {op : CmpOp} {r : R2} {o : D → D → Option D} (ho : OpR X (compareOp op) r) (h2 : Op2 X.K r o) (ha : EV X g E a fa) (hb : EP X g E b fb) (hm : behindInMarks op b = false) : EV X g E (.Compare a [op] [b] pos) (op2 o fa fb) :=
  PE_imp (pe_cmpR ho ha hb hm) fun σ H Q hq => tX_op2 h2 hq
def asB : D → Option Bool
  | .bl b => some b
  | _ => none
def tst (f : P D) : P Bool := bnd f fun d => lft (asB d)
theorem tX_tst {t : TE} {f : P D} (ht : ∀ σ H Q, tX X.K g E (relD X.K) f σ H Q → t σ H Q) {σ : L2.St} {H : Hp} {Q : Bool → Hp → Prop} (hq : tX X.K g E relB (tst f) σ H Q) :
    t σ H (fun x H' => ∃ k, x = .bl k ∧ Q k H') := by
  obtain ⟨ok, ρ, w, h⟩ := hq
  refine ht σ H _ ⟨ok, ρ, w, (Rs.bnd (RA := relD X.K) h).mono fun v1 H1 hq => ?_⟩
  obtain ⟨ok1, ρ1, x, w1, f1, r1, h1⟩ := hq
  unfold lft at h1
  have r1 : Rep X.K ok1 H1 v1 x := r1
  cases r1 with
  | bl b => exact ⟨b, rfl, h1 b H1 ok1 w1 Sx.refl rfl⟩
  | _ => exact h1.elim
theorem et_cmp {op : CmpOp} {r : R2} {o : D → D → Option D} (ho : OpR X (compareOp op) r) (h2 : Op2 X.K r o) (ha : EV X g E a fa) (hb : EP X g E b fb) (hm : behindInMarks op b = false) : ET X g E (.Compare a [op] [b] pos) (tst (op2 o fa fb)) :=
  PT_imp (pt_cmpR ho ha hb hm) fun σ H Q hq => tX_tst (fun σ H Q h => tX_op2 h2 h) hq
theorem et_val {f : P D} (h : EV X g E e f) (he : ∀ whole, isTrue e X.env whole = (do let v ← whole; standAt e.pos; holding [v] (truthy v)) := by intro _; rfl) : ET X g E e (tst f) :=
  PT_imp (pt_val h he) fun σ H Q hq => tX_tst (fun σ H Q h => h) hq
/-! ### and, or, not, if else -/
variable {A B : P Bool} {rest : List Expr}
def andB (A B : P Bool) : P Bool := bnd A fun c => if c = true then B else prt false
def orB (A B : P Bool) : P Bool := bnd A fun c => if c = true then prt true else B
def notB (A : P Bool) : P Bool := bnd A fun c => prt (!c)
theorem et_not (ha : ET X g E a A) : ET X g E (.UnaryOp .Not a pos) (notB A) := by
  refine PT_imp (pt_not ha) fun σ H Q hq => ?_
  obtain ⟨ok, ρ, w, h⟩ := hq
  refine ⟨ok, ρ, w, (Rs.bnd (RA := relB) h).mono fun v1 H1 hq => ?_⟩
  obtain ⟨ok1, ρ1, x, w1, f1, r1, h1⟩ := hq
  have r1 : v1 = x := r1
  subst r1
  exact h1 _ H1 ok1 w1 Sx.refl rfl
def andV (fa fb : P D) : P D := bnd (tst fa) fun c => if c = true then fb else prt (.bl false)
def orV (fa fb : P D) : P D := bnd (tst fa) fun c => if c = true then prt (.bl true) else fb
def notV (fa : P D) : P D := bnd (tst fa) fun c => prt (.bl (!c))
theorem tX_tst2 {β : Type} {δ : Type} {RB : Rl δ β} {f : P D} {k : Bool → P β} {σ : L2.St} {H : Hp} {Q : δ → Hp → Prop} (hq : tX X.K g E RB (bnd (tst f) k) σ H Q) (mo : Mono RB := by first | exact monoD | exact monoB | exact monoA | exact monoP | exact monoR | assumption) :
    tX X.K g E (relD X.K) f σ H (fun x H1 => ∃ c, x = .bl c ∧ tX X.K g E RB (k c) σ H1 Q) := by
  obtain ⟨ok, ρ, w, h⟩ := hq
  refine tX_tst (X := X) (t := tX X.K g E (relD X.K) f) (Q := fun c H1 => tX X.K g E RB (k c) σ H1 Q) (fun σ H Q h => h) ⟨ok, ρ, w, (Rs.bnd (RA := relB) h).mono fun v1 H1 hq => ?_⟩
  obtain ⟨ok1, ρ1, x, w1, f1, r1, h1⟩ := hq
  have r1 : v1 = x := r1
  subst r1
  exact ⟨ok1, ρ1, w1, h1⟩
theorem tX_ret {γ α : Type} {Rel : Rl γ α} {d : α} {σ : L2.St} {H : Hp} {Q : γ → Hp → Prop} {v : γ} (hq : tX X.K g E Rel (prt d) σ H Q) (r : ∀ ok ρ, Wf X.K g ok ρ σ H → Rel H ok H ρ σ v d) : Q v H := by
  obtain ⟨ok, ρ, w, h⟩ := hq
  exact h v H ok w Sx.refl (r ok ρ w)
theorem ev_one {op} (h : EV X g E a fa) : EV X g E (.BoolOp op [a] pos) fa := pe_one h
theorem ev_and (ha : EV X g E a fa) (hb : EV X g E (.BoolOp .And (b :: rest) pos) fb) : EV X g E (.BoolOp .And (a :: b :: rest) pos) (andV fa fb) := by
  refine PE_imp (pe_and ha hb) fun σ H Q hq => ?_
  obtain ⟨ok, ρ, w, h⟩ := tX_tst2 hq
  refine ⟨ok, ρ, w, h.mono fun v H1 h1 => ?_⟩
  obtain ⟨c, e, h1⟩ := h1
  refine ⟨c, e, ?_⟩
  cases c with
  | true => exact h1
  | false => exact tX_ret (v := .bl false) h1 fun _ _ _ => .bl _
theorem ev_or (ha : EV X g E a fa) (hb : EV X g E (.BoolOp .Or (b :: rest) pos) fb) : EV X g E (.BoolOp .Or (a :: b :: rest) pos) (orV fa fb) := by
  refine PE_imp (pe_or ha hb) fun σ H Q hq => ?_
  obtain ⟨ok, ρ, w, h⟩ := tX_tst2 hq
  refine ⟨ok, ρ, w, h.mono fun v H1 h1 => ?_⟩
  obtain ⟨c, e, h1⟩ := h1
  refine ⟨c, e, ?_⟩
  cases c with
  | true => exact tX_ret (v := .bl true) h1 fun _ _ _ => .bl _
  | false => exact h1
def ifV {α : Type} (A : P Bool) (fa fb : P α) : P α := bnd A fun c => if c = true then fa else fb
theorem ev_if (hc : ET X g E c A) (ha : EV X g E a fa) (hb : EV X g E b fb) : EV X g E (.IfExp c a b pos) (ifV A fa fb) := by
  refine PE_imp (pe_ifExp hc ha hb) fun σ H Q hq => ?_
  obtain ⟨ok, ρ, w, h⟩ := hq
  refine ⟨ok, ρ, w, (Rs.bnd (RA := relB) h).mono fun v1 H1 hq => ?_⟩
  obtain ⟨ok1, ρ1, x, w1, f1, r1, h1⟩ := hq
  have r1 : v1 = x := r1
  subst r1
  cases v1 with
  | true => exact ⟨ok1, ρ1, w1, h1⟩
  | false => exact ⟨ok1, ρ1, w1, h1⟩
theorem er_if {ra rb : P R} (hc : ET X g E c A) (ha : ER X g E a ra) (hb : ER X g E b rb) : ER X g E (.IfExp c a b pos) (ifV A ra rb) := by
  refine PE_imp (pe_ifExp hc ha hb) fun σ H Q hq => ?_
  obtain ⟨ok, ρ, w, h⟩ := hq
  refine ⟨ok, ρ, w, (Rs.bnd (RA := relB) h).mono fun v1 H1 hq => ?_⟩
  obtain ⟨ok1, ρ1, x, w1, f1, r1, h1⟩ := hq
  have r1 : v1 = x := r1
  subst r1
  cases v1 with
  | true => exact ⟨ok1, ρ1, w1, h1⟩
  | false => exact ⟨ok1, ρ1, w1, h1⟩
/-! ### argument lists, displays -/
theorem ea_nil : EA X g E [] (prt []) := PA_imp pa_nil fun σ H Q hq => tX_ret (v := ([] : List V)) hq fun _ _ _ => .nil
def consA (fa : P D) (fr : P (List D)) : P (List D) := bnd fa fun x => bnd fr fun xs => prt (x :: xs)
theorem ea_cons {fr : P (List D)} (ha : EV X g E e fa) (hr : EA X g E es fr) (hs : starEach (e :: es) X.env = (false, eval e X.env) :: starEach es X.env := by rfl) : EA X g E (e :: es) (consA fa fr) := by
  refine PA_imp (pa_cons ha hr hs) fun σ H Q hq => ?_
  obtain ⟨ok, ρ, w, h⟩ := hq
  refine ⟨ok, ρ, w, (Rs.bnd (RA := relD X.K) h).mono fun v1 H1 hq => ?_⟩
  obtain ⟨ok1, ρ1, x, w1, f1, r1, h1⟩ := hq
  refine ⟨ok1, ρ1, w1, (Rs.bnd (RA := relA X.K) h1).mono fun v2 H2 hq => ?_⟩
  obtain ⟨ok2, ρ2, y, w2, f2, r2, h2⟩ := hq
  exact h2 _ H2 ok2 w2 Sx.refl (.cons (Rep.fr f2.fr r1) r2)
def fits (xs : List D) : Option (List D) := if xs.length ≤ sizeLine then some xs else none
theorem fits_eq {xs ys : List D} (h : fits xs = some ys) : ys = xs ∧ xs.length ≤ sizeLine := by
  unfold fits at h
  split at h
  · exact ⟨(Option.some.inj h).symm, by assumption⟩
  · cases h
theorem fits_of {xs : List D} (h : xs.length ≤ sizeLine) : fits xs = some xs := if_pos h
def mkT (f : P (List D)) : P D := bnd f fun xs => lft ((fits xs).map D.tup)
def mkL (f : P (List D)) : P R := bnd f fun xs => lft ((fits xs).map fun ys => .own (.lst ys))
theorem ev_tup {x1} {fr : P (List D)} (h : EA X g E es fr) : EV X g E (.Tuple es x1 pos) (mkT fr) := by
  refine PE_imp (pe_tup h) fun σ H Q hq => ?_
  obtain ⟨ok, ρ, w, h⟩ := hq
  refine ⟨ok, ρ, w, (Rs.bnd (RA := relA X.K) h).mono fun vs H1 hq => ?_⟩
  obtain ⟨ok1, ρ1, x, w1, f1, r1, h1⟩ := hq
  cases e : fits x with
  | none => rw [e] at h1; exact h1.elim
  | some y =>
    rw [e] at h1
    obtain ⟨rfl, hz⟩ := fits_eq e
    have r1 : Reps X.K ok1 H1 vs y := r1
    refine ⟨by rw [r1.length]; exact hz, fun p np => ?_⟩
    exact h1 _ _ ok1 (w1.new np) (Sx.new np) (.tup upd_same (r1.fr (fr_new np)))
theorem own_new {K : PySem.W.Frag} {ok : Addr → Prop} {H : Hp} {ρ : En} {σ : L2.St} {p : Addr} {o : HO} {d : D} (w : Wf K g ok ρ σ H) (n : H p = none) (h : OwnAt K (sub1 ok p) (upd H p o) p d) :
    relR K H (sub1 ok p) (upd H p o) ρ σ (.ref p) (.own d) := by
  refine ⟨p, rfl, h, fun z => z.2 rfl, n, fun j e hj z => ?_⟩
  obtain ⟨q, eq, r, _⟩ := w.own j e hj
  rw [z] at eq
  cases eq
  obtain ⟨u, hu, _⟩ := r.there
  rw [n] at hu
  cases hu
theorem er_lst {fr : P (List D)} (h : EA X g E es fr) : ER X g E (.List es pos) (mkL fr) := by
  refine PE_imp (pe_lst h) fun σ H Q hq => ?_
  obtain ⟨ok, ρ, w, h⟩ := hq
  refine ⟨ok, ρ, w, (Rs.bnd (RA := relA X.K) h).mono fun vs H1 hq => ?_⟩
  obtain ⟨ok1, ρ1, x, w1, f1, r1, h1⟩ := hq
  cases e : fits x with
  | none => rw [e] at h1; exact h1.elim
  | some y =>
    rw [e] at h1
    obtain ⟨rfl, hz⟩ := fits_eq e
    have r1 : Reps X.K ok1 H1 vs y := r1
    refine ⟨by rw [r1.length]; exact hz, fun p np => ?_⟩
    exact h1 _ _ (sub1 ok1 p) (w1.newO np) (Sx.newO np) (own_new w1 np ⟨vs, upd_same, r1.fr (fr_sub np)⟩)
end
end Pu
/-! Operations on trees. -/
namespace Pu
open PySem PySem.Spec PyProof.Rows L2 Kv
section
variable {K : PySem.W.Frag} {ok : Addr → Prop} {H : Hp}
def flV : D → Option V
  | .non => some .non
  | .bl b => some (.bl b)
  | .int i => some (.int i)
  | .str x => some (.str x)
  | _ => none
def flVs : List D → Option (List V)
  | [] => some []
  | d :: ds => match flV d, flVs ds with
    | some v, some vs => some (v :: vs)
    | _, _ => none
theorem Rep.flat {v u : V} {d : D} (r : Rep K ok H v d) (h : flV d = some u) : v = u := by
  cases r <;> first | (cases h; rfl) | (cases h)
theorem flV_flat {u : V} {d : D} (h : flV d = some u) : flatV u = true := by
  cases d <;> first | (cases h; rfl) | (cases h)
theorem Reps.flat : ∀ {vs us : List V} {ds : List D}, Reps K ok H vs ds → flVs ds = some us → vs = us ∧ us.all flatV = true
  | _, _, _, .nil, h => by cases h; exact ⟨rfl, rfl⟩
  | _, _, _, .cons (d := d) (ds := ds) r t, h => by
    unfold flVs at h
    cases e1 : flV d with
    | none => rw [e1] at h; cases h
    | some v =>
      cases e2 : flVs ds with
      | none => rw [e1, e2] at h; cases h
      | some vs =>
        rw [e1, e2] at h
        cases h
        obtain ⟨h1, h2⟩ := t.flat e2
        rw [r.flat e1, h1]
        exact ⟨rfl, by rw [List.all_cons, flV_flat e1, h2]; rfl⟩
theorem Pk.lst {v : V} {ds : List D} (h : Pk K ok H v (.lst ds)) : ∃ a vs, v = .ref a ∧ H a = some (.lst vs) ∧ Reps K ok H vs ds := by
  rcases h with h | ⟨q, e, vs, h, r⟩
  · cases h with
    | lst h k r => exact ⟨_, _, rfl, h, r⟩
  · exact ⟨q, vs, e, h, r⟩
theorem Pk.dic {v : V} {ks : List Key} {ds : List D} (h : Pk K ok H v (.dic ks ds)) : ∃ a kvs, v = .ref a ∧ Rd H a (.dK kvs) ∧ kvs.map (·.1) = ks ∧ Reps K ok H (kvs.map (·.2)) ds := by
  rcases h with h | ⟨q, e, vs, h, k, r⟩
  · cases h with
    | dic h r => exact ⟨_, _, rfl, h.rd, rfl, r⟩
  · exact ⟨q, vs, e, .inl h, k, r⟩
theorem Pk.dct {v : V} {ks : List (List Key)} {ds : List D} (h : Pk K ok H v (.dct ks ds)) : ∃ a kvs, v = .ref a ∧ Rd H a (.dT kvs) ∧ kvs.map (·.1) = ks ∧ Reps K ok H (kvs.map (·.2)) ds := by
  rcases h with h | ⟨q, e, vs, h, k, r⟩
  · cases h with
    | dct h r => exact ⟨_, _, rfl, h.rd, rfl, r⟩
  · exact ⟨q, vs, e, .inl h, k, r⟩
theorem Pk.rep {v : V} {d : D} (h : Pk K ok H v d) (n1 : ∀ ds, d ≠ .lst ds) (n2 : ∀ ks ds, d ≠ .dic ks ds) (n3 : ∀ ks ds, d ≠ .dct ks ds) (n4 : ∀ C ns ds, d ≠ .obj C ns ds := by intro _ _ _ z; cases z) (n5 : ∀ a ds, d ≠ .lsta a ds := by intro _ _ z; cases z) : Rep K ok H v d := by
  rcases h with h | ⟨q, e, o⟩
  · exact h
  · cases d with
    | lst ds => exact absurd rfl (n1 ds)
    | dic ks ds => exact absurd rfl (n2 ks ds)
    | dct ks ds => exact absurd rfl (n3 ks ds)
    | obj C ns ds => exact absurd rfl (n4 C ns ds)
    | lsta a ds => exact absurd rfl (n5 a ds)
    | _ => exact o.elim
theorem Pk.int {v : V} {i : Int} (h : Pk K ok H v (.int i)) : v = .int i := by
  cases h.rep (fun _ z => by cases z) (fun _ _ z => by cases z) (fun _ _ z => by cases z); rfl
theorem Pk.str {v : V} {i : Str} (h : Pk K ok H v (.str i)) : v = .str i := by
  cases h.rep (fun _ z => by cases z) (fun _ _ z => by cases z) (fun _ _ z => by cases z); rfl
theorem Pk.tup {v : V} {ds : List D} (h : Pk K ok H v (.tup ds)) : ∃ a vs, v = .ref a ∧ TpO K H a vs ∧ Reps K ok H vs ds := by
  cases h.rep (fun _ z => by cases z) (fun _ _ z => by cases z) (fun _ _ z => by cases z) with
  | tupO h1 r => exact ⟨_, _, rfl, h1, r⟩
def seqD : D → Option (List D)
  | .lst xs => some xs
  | .tup xs => some xs
  | .flst xs => some xs
  | .ftup xs => some xs
  | _ => none
theorem Pk.seq {v : V} {d : D} {xs : List D} (h : Pk K ok H v d) (e : seqD d = some xs) : ∃ a vs, v = .ref a ∧ (SqL K H a vs ∨ SqT K H a vs) ∧ Reps K ok H vs xs := by
  cases d with
  | lst ds => cases e; obtain ⟨a, vs, e1, e2, r⟩ := h.lst; exact ⟨a, vs, e1, .inl (.inl (.inl e2)), r⟩
  | tup ds => cases e; obtain ⟨a, vs, e1, e2, r⟩ := h.tup; exact ⟨a, vs, e1, .inr e2.sq, r⟩
  | flst ds =>
    cases e
    cases h.rep (fun _ z => by cases z) (fun _ _ z => by cases z) (fun _ _ z => by cases z) with
    | lstF h1 r => exact ⟨_, _, rfl, .inl h1.sq, r⟩
  | ftup ds =>
    cases e
    cases h.rep (fun _ z => by cases z) (fun _ _ z => by cases z) (fun _ _ z => by cases z) with
    | tupF h1 r => exact ⟨_, _, rfl, .inr h1.sq, r⟩
  | _ => cases e
/-! ### keys -/
def asKey : D → Option Key
  | .int i => some (Sum.inl i)
  | .str x => some (Sum.inr x)
  | _ => none
def asKeys : List D → Option (List Key)
  | [] => some []
  | d :: ds => match asKey d, asKeys ds with
    | some v, some vs => some (v :: vs)
    | _, _ => none
theorem Rep.key {v : V} {d : D} {k : Key} (r : Rep K ok H v d) (h : asKey d = some k) : v = kV k := by
  cases r <;> first | (cases h; rfl) | (cases h)
theorem Reps.keys : ∀ {vs : List V} {ds : List D} {ks : List Key}, Reps K ok H vs ds → asKeys ds = some ks → vs = ks.map kV
  | _, _, _, .nil, h => by cases h; rfl
  | _, _, _, .cons (d := d) (ds := ds) r t, h => by
    unfold asKeys at h
    cases e1 : asKey d with
    | none => rw [e1] at h; cases h
    | some v =>
      cases e2 : asKeys ds with
      | none => rw [e1, e2] at h; cases h
      | some vs =>
        rw [e1, e2] at h
        cases h
        rw [r.key e1, t.keys e2]
        rfl
def asKeysN (ds : List D) : Option (List Key) := if ds.isEmpty then none else asKeys ds
theorem asKeysN_of {ds : List D} {k : List Key} (h : asKeysN ds = some k) : asKeys ds = some k := by
  unfold asKeysN at h
  split at h
  · cases h
  · exact h
theorem Reps.keysN {vs : List V} {ds : List D} {ks : List Key} (r : Reps K ok H vs ds) (h : asKeysN ds = some ks) : vs = ks.map kV := r.keys (asKeysN_of h)
theorem Reps.ne {vs : List V} {ds : List D} {ks : List Key} (r : Reps K ok H vs ds) (h : asKeysN ds = some ks) : vs ≠ [] := by
  rintro rfl
  cases r
  cases h
def valD {κ : Type} [DecidableEq κ] : List κ → List D → κ → Option D
  | a :: ks, d :: vs, k => if a = k then some d else valD ks vs k
  | _, _, _ => none
theorem valD_rep {κ : Type} [DecidableEq κ] (k : κ) : ∀ {kvs : List (κ × V)} {ds : List D}, Reps K ok H (kvs.map (·.2)) ds →
    (∀ d, valD (kvs.map (·.1)) ds k = some d → ∃ v, valV kvs k = some v ∧ Rep K ok H v d) ∧ (valD (kvs.map (·.1)) ds k = none → valV kvs k = none)
  | [], _, .nil => ⟨fun d h => (nomatch h), fun _ => rfl⟩
  | p :: r, _, .cons (d := d) (ds := ds) h t => by
    obtain ⟨i1, i2⟩ := valD_rep k t
    by_cases e : p.1 = k
    · have e1 : valD ((p :: r).map (·.1)) (d :: ds) k = some d := if_pos e
      rw [valV_pos e, e1]
      exact ⟨fun d' z => by cases z; exact ⟨_, rfl, h⟩, fun z => by cases z⟩
    · have e1 : valD ((p :: r).map (·.1)) (d :: ds) k = valD (r.map (·.1)) ds k := if_neg e
      rw [valV_neg e, e1]
      exact ⟨i1, i2⟩
def getD : D → D → Option (Option D)
  | .dic ks vs, x => (asKey x).map fun k => valD ks vs k
  | .dct ks vs, .tup xs => (asKeysN xs).map fun k => valD ks vs k
  | _, _ => none
theorem getD_rep {u v : V} {d x : D} {o : Option D} (h : Pk K ok H u d) (hx : Rep K ok H v x) (e : getD d x = some o) :
    ∃ a ov, u = .ref a ∧ DGet H a v ov ∧ (∀ y, o = some y → ∃ w, ov = some w ∧ Rep K ok H w y) ∧ ov.isSome = o.isSome := by
  cases d with
  | dic ks vs =>
    obtain ⟨a, kvs, rfl, e1, rfl, r⟩ := h.dic
    have e : (asKey x).map (fun k => valD (kvs.map (·.1)) vs k) = some o := e
    cases ek : asKey x with
    | none => rw [ek] at e; cases e
    | some k =>
      rw [ek] at e
      cases e
      obtain ⟨i1, i2⟩ := valD_rep k r
      refine ⟨a, valV kvs k, rfl, .inl ⟨kvs, k, e1, hx.key ek, rfl⟩, fun y hy => i1 y hy, ?_⟩
      cases q : valD (kvs.map (·.1)) vs k with
      | none => rw [i2 q]; show _ = (valD (kvs.map (·.1)) vs k).isSome; rw [q]; rfl
      | some y => obtain ⟨w, ew, _⟩ := i1 y q; rw [ew]; show _ = (valD (kvs.map (·.1)) vs k).isSome; rw [q]; rfl
  | dct ks vs =>
    obtain ⟨a, kvs, rfl, e1, rfl, r⟩ := h.dct
    cases hx with
    | tupO ht rt =>
      rename_i b ws ds
      have e : (asKeysN ds).map (fun k => valD (kvs.map (·.1)) vs k) = some o := e
      cases ek : asKeysN ds with
      | none => rw [ek] at e; cases e
      | some k =>
        rw [ek] at e
        cases e
        obtain ⟨i1, i2⟩ := valD_rep k r
        refine ⟨a, valV kvs k, rfl, .inr ⟨kvs, k, b, e1, rfl, by rw [← rt.keysN ek]; exact ht.at (rt.ne ek), rfl⟩, fun y hy => i1 y hy, ?_⟩
        cases q : valD (kvs.map (·.1)) vs k with
        | none => rw [i2 q]; show _ = (valD (kvs.map (·.1)) vs k).isSome; rw [q]; rfl
        | some y => obtain ⟨w, ew, _⟩ := i1 y q; rw [ew]; show _ = (valD (kvs.map (·.1)) vs k).isSome; rw [q]; rfl
    | _ => cases e
  | _ => cases e
end
section
variable {X : Cx}
/-! ### arithmetic -/
def opAdd : D → D → Option D
  | .int i, .int j => some (.int (i + j))
  | .str a, .str b => if a.length + b.length ≤ sizeLine then some (.str (a ++ b)) else none
  | .lst xs, .lst ys => if xs.length + ys.length ≤ sizeLine then some (.lst (xs ++ ys)) else none
  | .tup xs, .tup ys => if xs.isEmpty = false ∧ xs.length + ys.length ≤ sizeLine then some (.tup (xs ++ ys)) else none
  | _, _ => none
def rAddA (K : PySem.W.Frag) : R2 := fun x y H Q => rI0 (fun i j => .int (i + j)) x y H Q ∨ (∃ i j, x = .str i ∧ y = .str j ∧ i.length + j.length ≤ sizeLine ∧ Q (.str (i ++ j)) H) ∨ rCat x y H Q ∨ rCatT K x y H Q
theorem op_addA : OpR X (binaryOp .Add) (rAddA X.K) := op_add.or (op_add_str.or (op_cat.or op_catT))
theorem o2_add : Op2 X.K (rAddA X.K) opAdd := by
  intro g ρ σ ok H u v x y z Q w r1 r2 e q
  cases r1 with
  | int i =>
    cases y with
    | int j => cases e; exact .inl ⟨i, j, rfl, r2.int, q.at w (.int _)⟩
    | _ => cases e
  | str s =>
    cases y with
    | str t =>
      have e : (if s.length + t.length ≤ sizeLine then some (D.str (s ++ t)) else none) = some z := e
      split at e
      · cases e; exact .inr (.inl ⟨s, t, rfl, r2.str, by assumption, q.at w (.str _)⟩)
      · cases e
    | _ => cases e
  | lst h1 k1 t1 =>
    rename_i xs
    cases y with
    | lst ys =>
      have e : (if xs.length + ys.length ≤ sizeLine then some (D.lst (xs ++ ys)) else none) = some z := e
      split at e
      · cases e
        obtain ⟨b, ws, rfl, h2, t2⟩ := r2.lst
        refine .inr (.inr (.inl ⟨_, b, _, ws, rfl, rfl, h1, h2, ?_, fun p np => q.new w np fun kp ep f => .lst ep kp ((t1.app t2).fr f)⟩))
        rw [t1.length, t2.length]; assumption
      · cases e
    | _ => cases e
  | tupO h1 t1 =>
    rename_i xs
    cases y with
    | tup ys =>
      have e : (if xs.isEmpty = false ∧ xs.length + ys.length ≤ sizeLine then some (D.tup (xs ++ ys)) else none) = some z := e
      split at e
      · rename_i hh
        cases e
        obtain ⟨b, ws, rfl, h2, t2⟩ := r2.tup
        refine .inr (.inr (.inr ⟨_, b, _, ws, rfl, rfl, h1.sq, h2.sq, (fun z => ?_), ?_, fun hz => ?_, fun _ p np => q.new w np fun kp ep f => .tup ep ((t1.app t2).fr f)⟩))
        · subst z
          cases t1
          exact absurd hh.1 (by decide)
        · rw [t1.length, t2.length]; exact hh.2
        · subst hz
          cases t2
          rw [List.append_nil] at q
          exact q.at w (.tupO h1 t1)
      · cases e
    | _ => cases e
  | _ => cases y <;> cases e
def oI (C : Int → Int → Bool) (f : Int → Int → D) : D → D → Option D
  | .int i, .int j => if C i j = true then some (f i j) else none
  | _, _ => none
theorem o2_int {C : Int → Int → Prop} {C' : Int → Int → Bool} {G : Int → Int → V} {f : Int → Int → D} (hC : ∀ i j, C' i j = true → C i j) (hf : ∀ i j ok H, Rep X.K ok H (G i j) (f i j)) : Op2 X.K (rI C G) (oI C' f) := by
  intro g ρ σ ok H u v x y z Q w r1 r2 e q
  cases r1 with
  | int i =>
    cases y with
    | int j =>
      have e : (if C' i j = true then some (f i j) else none) = some z := e
      split at e
      · cases e; exact ⟨i, j, rfl, r2.int, hC i j (by assumption), q.at w (hf i j _ _)⟩
      · cases e
    | _ => cases e
  | _ => cases y <;> cases e
def oI0 (f : Int → Int → D) : D → D → Option D
  | .int i, .int j => some (f i j)
  | _, _ => none
theorem o2_int0 {G : Int → Int → V} {f : Int → Int → D} (hf : ∀ i j ok H, Rep X.K ok H (G i j) (f i j)) : Op2 X.K (rI0 G) (oI0 f) := by
  intro g ρ σ ok H u v x y z Q w r1 r2 e q
  cases r1 with
  | int i =>
    cases y with
    | int j => cases e; exact ⟨i, j, rfl, r2.int, q.at w (hf i j _ _)⟩
    | _ => cases e
  | _ => cases y <;> cases e
theorem Op2.or {r r' : R2} {o o' : D → D → Option D} (h : Op2 X.K r o) (h' : Op2 X.K r' o') : Op2 X.K (fun x y H Q => r x y H Q ∨ r' x y H Q) (fun x y => (o x y).orElse fun _ => o' x y) := by
  intro g ρ σ ok H u v x y z Q w r1 r2 e q
  have e : (o x y).orElse (fun _ => o' x y) = some z := e
  cases e1 : o x y with
  | none => rw [e1] at e; exact .inr (h' g ρ σ ok H u v x y z Q w r1 r2 e q)
  | some z' => rw [e1] at e; cases e; exact .inl (h g ρ σ ok H u v x y _ Q w r1 r2 e1 q)
def cMul (i j : Int) : Bool := decide ((-(2 ^ 64) < i ∧ i < 2 ^ 64) ∨ (-(2 ^ 64) < j ∧ j < 2 ^ 64))
def opMulI : D → D → Option D := oI cMul fun i j => .int (i * j)
def opRep : D → D → Option D
  | .lst xs, .int k => if -(2 ^ 63) ≤ k ∧ k < 2 ^ 63 ∧ xs.length * k.toNat ≤ sizeLine then some (.lst (List.replicate k.toNat xs).flatten) else none
  | _, _ => none
theorem Reps.rep {K : PySem.W.Frag} {ok : Addr → Prop} {H : Hp} {vs : List V} {ds : List D} (h : Reps K ok H vs ds) : ∀ n, Reps K ok H (List.replicate n vs).flatten (List.replicate n ds).flatten
  | 0 => .nil
  | n + 1 => by
    rw [List.replicate_succ, List.replicate_succ, List.flatten_cons, List.flatten_cons]
    exact h.app (Reps.rep h n)
theorem o2_rep : Op2 X.K rRep opRep := by
  intro g ρ σ ok H u v x y z Q w r1 r2 e q
  cases r1 with
  | lst h1 k1 t1 =>
    rename_i xs
    cases y with
    | int k =>
      have e : (if -(2 ^ 63) ≤ k ∧ k < 2 ^ 63 ∧ xs.length * k.toNat ≤ sizeLine then some (D.lst (List.replicate k.toNat xs).flatten) else none) = some z := e
      split at e
      · cases e
        rename_i hh
        refine ⟨_, k, _, rfl, r2.int, h1, hh.1, hh.2.1, by rw [t1.length]; exact hh.2.2, fun p np => q.new w np fun kp ep f => .lst ep kp ((t1.rep _).fr f)⟩
      · cases e
    | _ => cases e
  | _ => cases y <;> cases e
def opMul (x y : D) : Option D := (opMulI x y).orElse fun _ => opRep x y
theorem op_mulA : OpR X (binaryOp .Mult) (fun x y H Q => rI CMul (fun i j => .int (i * j)) x y H Q ∨ rRep x y H Q) := op_mul.or op_rep
theorem o2_mul : Op2 X.K (fun x y H Q => rI CMul (fun i j => .int (i * j)) x y H Q ∨ rRep x y H Q) opMul :=
  (o2_int (C := CMul) (C' := cMul) (fun i j h => (of_decide_eq_true h : (-(2 ^ 64) < i ∧ i < 2 ^ 64) ∨ (-(2 ^ 64) < j ∧ j < 2 ^ 64))) fun _ _ _ _ => .int _).or o2_rep
def opSub : D → D → Option D := oI0 fun i j => .int (i - j)
theorem o2_sub : Op2 X.K (rI0 fun i j => .int (i - j)) opSub := o2_int0 fun _ _ _ _ => .int _
def opMod : D → D → Option D := oI (fun _ j => decide (0 < j)) fun i j => .int (i % j)
theorem o2_mod : Op2 X.K (rI (fun _ j => 0 < j) fun i j => .int (i % j)) opMod := o2_int (fun i j h => of_decide_eq_true h) fun _ _ _ _ => .int _
def opFdiv : D → D → Option D := oI (fun _ j => decide (0 < j ∧ j < 1073741824)) fun i j => .int (i / j)
theorem o2_fdiv : Op2 X.K (rI CDiv fun i j => .int (i / j)) opFdiv := o2_int (fun i j h => (of_decide_eq_true h : 0 < j ∧ j < 1073741824)) fun _ _ _ _ => .int _
def opPow : D → D → Option D := oI (fun i j => decide (0 ≤ j ∧ j ≤ 1000000 ∧ i.natAbs < 2 ^ 64)) fun i j => .int (i ^ j.toNat)
theorem o2_pow : Op2 X.K (rI CPow fun i j => .int (i ^ j.toNat)) opPow := o2_int (fun i j h => (of_decide_eq_true h : 0 ≤ j ∧ j ≤ 1000000 ∧ i.natAbs < 2 ^ 64)) fun _ _ _ _ => .int _
def opLt : D → D → Option D := oI0 fun i j => .bl (decide (i < j))
theorem o2_lt : Op2 X.K (rI0 fun i j => .bl (decide (i < j))) opLt := o2_int0 fun _ _ _ _ => .bl _
def opLe : D → D → Option D := oI0 fun i j => .bl (decide (i ≤ j))
def opGt : D → D → Option D := oI0 fun i j => .bl (decide (j < i))
theorem o2_gt : Op2 X.K (rI0 fun i j => .bl (decide (j < i))) opGt := o2_int0 fun _ _ _ _ => .bl _
def opGe : D → D → Option D := oI0 fun i j => .bl (decide (j ≤ i))
/-! ### is None -/
def isN : D → Bool
  | .non => true
  | _ => false
def opIs : D → D → Option D
  | x, .non => some (.bl (isN x))
  | _, _ => none
def opIsNot : D → D → Option D
  | x, .non => some (.bl (!isN x))
  | _, _ => none
theorem Pk.non {K : PySem.W.Frag} {ok : Addr → Prop} {H : Hp} {v : V} (h : Pk K ok H v .non) : v = .non := by
  cases h.rep (fun _ z => by cases z) (fun _ _ z => by cases z) (fun _ _ z => by cases z); rfl
/-! ### in -/
def inD (x : D) : D → Option Bool
  | .str t => match x with
    | .str s => some (!(Builtin.Str.occurrences t s 0 t.length 1).isEmpty)
    | _ => none
  | .dic ks vs => (getD (.dic ks vs) x).map (·.isSome)
  | .dct ks vs => (getD (.dct ks vs) x).map (·.isSome)
  | d => match seqD d, flV x with
    | some xs, some u => (flVs xs).map fun us => inV u us
    | _, _ => none
def rInA (K : PySem.W.Frag) (neg : Bool) : R2 := fun x y H Q => (∃ i j, x = .str i ∧ y = .str j ∧ Q (.bl (if neg then !(!(Builtin.Str.occurrences j i 0 j.length 1).isEmpty) else (!(Builtin.Str.occurrences j i 0 j.length 1).isEmpty))) H) ∨
  (∃ a o, y = .ref a ∧ DGet H a x o ∧ Q (.bl (if neg then !o.isSome else o.isSome)) H) ∨ rIn K neg x y H Q
theorem op_in_dict (hu : X.A.units + 1 < cLine) : OpR X (compareOp .In) (fun x y H Q => ∃ a o, y = .ref a ∧ DGet H a x o ∧ Q (.bl o.isSome) H) := by
  intro pins s σ H x y v u Q I rx ry h
  obtain ⟨a, o, rfl, g, q⟩ := h
  cases ry
  exact d_in hu I g rx fun s3 I3 => ⟨.bl o.isSome, H, I3, rfl, q⟩
theorem op_notIn_dict (hu : X.A.units + 1 < cLine) : OpR X (compareOp .NotIn) (fun x y H Q => ∃ a o, y = .ref a ∧ DGet H a x o ∧ Q (.bl (!o.isSome)) H) := by
  intro pins s σ H x y v u Q I rx ry h
  obtain ⟨a, o, rfl, g, q⟩ := h
  cases ry
  exact d_notIn hu I g rx fun s3 I3 => ⟨.bl (!o.isSome), H, I3, rfl, q⟩
theorem op_inA (hu : X.A.units + 1 < cLine) : OpR X (compareOp .In) (rInA X.K false) := op_in_str.or ((op_in_dict hu).or op_in_seq)
theorem op_notInA (hu : X.A.units + 1 < cLine) : OpR X (compareOp .NotIn) (rInA X.K true) := op_notin_str.or ((op_notIn_dict hu).or op_notIn_seq)
def opIn (x y : D) : Option D := (inD x y).map D.bl
def opNotIn (x y : D) : Option D := (inD x y).map fun b => D.bl (!b)
theorem o2_inN (neg : Bool) : Op2 X.K (rInA X.K neg) (fun x y => (inD x y).map fun b => D.bl (if neg then !b else b)) := by
  intro g ρ σ ok H u v x y z Q w r1 r2 e q
  have e : (inD x y).map (fun b => D.bl (if neg then !b else b)) = some z := e
  cases eb : inD x y with
  | none => rw [eb] at e; cases e
  | some b =>
    rw [eb] at e
    cases e
    have seq : ∀ xs, seqD y = some xs → (∃ u', flV x = some u' ∧ ∃ us, flVs xs = some us ∧ b = inV u' us) → rInA X.K neg u v H Q := fun xs es hh => by
      obtain ⟨u', e1, us, e2, rfl⟩ := hh
      obtain ⟨a, vs, rfl, sq, rp⟩ := r2.seq es
      obtain ⟨rfl, fl⟩ := rp.flat e2
      have e0 := r1.flat e1
      subst e0
      exact .inr (.inr ⟨a, vs, rfl, sq, flV_flat e1, fl, q.at w (.bl _)⟩)
    have dct : getD y x = getD y x → ∀ o, getD y x = some o → b = o.isSome → rInA X.K neg u v H Q := fun _ o eo hb => by
      obtain ⟨a, ov, rfl, dg, _, hs⟩ := getD_rep r2 r1 eo
      refine .inr (.inl ⟨a, ov, rfl, dg, ?_⟩)
      rw [hs, ← hb]
      exact q.at w (.bl _)
    have fl : ∀ xs, (match some xs, flV x with
      | some xs, some u => (flVs xs).map fun us => inV u us
      | _, _ => none) = some b → ∃ u', flV x = some u' ∧ ∃ us, flVs xs = some us ∧ b = inV u' us := fun xs hh => by
      cases e1 : flV x with
      | none => rw [e1] at hh; cases hh
      | some u' =>
        rw [e1] at hh
        cases e2 : flVs xs with
        | none => simp only [e2] at hh; cases hh
        | some us => simp only [e2] at hh; cases hh; exact ⟨u', rfl, us, rfl, rfl⟩
    cases y with
    | str t =>
      cases r1 with
      | str s => cases eb; exact .inl ⟨s, t, rfl, r2.str, q.at w (.bl _)⟩
      | _ => cases eb
    | dic ks vs =>
      have eb : (getD (.dic ks vs) x).map (·.isSome) = some b := eb
      cases eo : getD (.dic ks vs) x with
      | none => rw [eo] at eb; cases eb
      | some o => rw [eo] at eb; cases eb; exact dct rfl o eo rfl
    | dct ks vs =>
      have eb : (getD (.dct ks vs) x).map (·.isSome) = some b := eb
      cases eo : getD (.dct ks vs) x with
      | none => rw [eo] at eb; cases eb
      | some o => rw [eo] at eb; cases eb; exact dct rfl o eo rfl
    | lst xs => exact seq xs rfl (fl xs eb)
    | tup xs => exact seq xs rfl (fl xs eb)
    | flst xs => exact seq xs rfl (fl xs eb)
    | ftup xs => exact seq xs rfl (fl xs eb)
    | _ => cases eb
theorem o2_in : Op2 X.K (rInA X.K false) opIn := o2_inN false
/-! ### a[i] -/
def ixD : D → D → Option D
  | .str z, .int i => if z.length ≤ sizeLine then (atI z.cps.toList i).map fun c => .str ⟨#[c]⟩ else none
  | .dic ks vs, x => (getD (.dic ks vs) x).bind id
  | .dct ks vs, x => (getD (.dct ks vs) x).bind id
  | d, .int i => (seqD d).bind fun xs => atI xs i
  | _, _ => none
def rIxA (K : PySem.W.Frag) : R2 := fun x y H Q => rIxL K x y H Q ∨ rIxT K x y H Q ∨ rIxS x y H Q ∨ ∃ a v, x = .ref a ∧ DGet H a y (some v) ∧ Q v H
theorem ix_dict (hu : X.A.units + 1 < cLine) : IxR X (fun x y H Q => ∃ a v, x = .ref a ∧ DGet H a y (some v) ∧ Q v H) := by
  intro value slice pins s σ H x y v u Q I rx ry h hs
  obtain ⟨a, w, rfl, g, q⟩ := h
  cases rx
  exact tail_any (dict_typeIs I g) PySem.F.slot_dict_getitem.lookup (d_getItem hu I g ry fun w' s3 I3 rw' => ⟨w, H, I3, rw', q⟩) hs
theorem ix_all (hu : X.A.units + 1 < cLine) : IxR X (rIxA X.K) := ix_list.or (ix_tup.or (ix_str.or (ix_dict hu)))
theorem Reps.atI {K : PySem.W.Frag} {ok : Addr → Prop} {H : Hp} {vs : List V} {ds : List D} {i : Int} {d : D} (r : Reps K ok H vs ds) (h : L2.atI ds i = some d) : ∃ v, L2.atI vs i = some v ∧ Rep K ok H v d := by
  unfold L2.atI at h ⊢
  rw [r.length]
  cases e : ixN ds.length i with
  | none => rw [e] at h; cases h
  | some j =>
    rw [e] at h
    obtain ⟨v, ev, rv⟩ := r.getD h
    exact ⟨v, ev, rv⟩
theorem ixD_ok {K : PySem.W.Frag} {g : Gx} {ρ : En} {σ : L2.St} {ok : Addr → Prop} {H : Hp} {u v : V} {x y z : D} {Q : VK} (w : Wf K g ok ρ σ H) (r1 : Pk K ok H u x) (r2 : Rep K ok H v y) (e : ixD x y = some z) (q : Can K g ρ σ ok H z Q) : rIxA K u v H Q := by
  have seq : ∀ xs i, seqD x = some xs → y = .int i → atI xs i = some z → rIxA K u v H Q := fun xs i es ey ea => by
    subst ey
    cases r2
    obtain ⟨a, vs, rfl, sq, rp⟩ := r1.seq es
    obtain ⟨z', ez, rz⟩ := rp.atI ea
    rcases sq with sq | sq
    · exact .inl ⟨a, vs, i, z', rfl, rfl, sq, ez, q.at w rz⟩
    · exact .inr (.inl ⟨a, vs, i, z', rfl, rfl, sq, ez, q.at w rz⟩)
  have dct : ∀ o, getD x y = some o → o = some z → rIxA K u v H Q := fun o eo hz => by
    obtain ⟨a, ov, rfl, dg, hh, _⟩ := getD_rep r1 r2 eo
    obtain ⟨w', rfl, rw'⟩ := hh z hz
    exact .inr (.inr (.inr ⟨a, w', rfl, dg, q.at w rw'⟩))
  cases x with
  | str s =>
    cases y with
    | int i =>
      cases r2
      have e : (if s.length ≤ sizeLine then (atI s.cps.toList i).map (fun c => D.str ⟨#[c]⟩) else none) = some z := e
      split at e
      · cases ea : atI s.cps.toList i with
        | none => rw [ea] at e; cases e
        | some c => rw [ea] at e; cases e; exact .inr (.inr (.inl ⟨s, i, c, r1.str, rfl, by assumption, ea, q.at w (.str _)⟩))
      · cases e
    | _ => cases e
  | dic ks vs =>
    have e : (getD (.dic ks vs) y).bind id = some z := e
    cases eo : getD (.dic ks vs) y with
    | none => rw [eo] at e; cases e
    | some o => rw [eo] at e; exact dct o eo e
  | dct ks vs =>
    have e : (getD (.dct ks vs) y).bind id = some z := e
    cases eo : getD (.dct ks vs) y with
    | none => rw [eo] at e; cases e
    | some o => rw [eo] at e; exact dct o eo e
  | lst xs =>
    cases y with
    | int i => exact seq xs i rfl rfl e
    | _ => cases e
  | tup xs =>
    cases y with
    | int i => exact seq xs i rfl rfl e
    | _ => cases e
  | flst xs =>
    cases y with
    | int i => exact seq xs i rfl rfl e
    | _ => cases e
  | ftup xs =>
    cases y with
    | int i => exact seq xs i rfl rfl e
    | _ => cases e
  | _ => cases y <;> cases e
variable {g : Gx} {E : Wx} {a b c e : Expr} {pos : Pos} {fa fb fc : P D}
theorem ev_ix (hu : X.A.units + 1 < cLine) (ha : EV X g E a fa) (hb : EV X g E b fb) (hs : PlainIx b) : EV X g E (.Subscript a b pos) (op2 ixD fa fb) := by
  refine PE_imp (pe_ix (ix_all hu) ha hb hs) fun σ H Q hq => ?_
  obtain ⟨ok, ρ, w, h⟩ := hq
  refine ⟨ok, ρ, w, (Rs.bnd (RA := relD X.K) h).mono fun v1 H1 hq => ?_⟩
  obtain ⟨ok1, ρ1, x, w1, f1, r1, h1⟩ := hq
  refine ⟨ok1, ρ1, w1, (Rs.bnd (RA := relD X.K) h1).mono fun v2 H2 hq => ?_⟩
  obtain ⟨ok2, ρ2, y, w2, f2, r2, h2⟩ := hq
  unfold lft at h2
  cases ez : ixD x y with
  | none => rw [ez] at h2; exact h2.elim
  | some z => rw [ez] at h2; exact ixD_ok w2 (.inl (Rep.fr f2.fr r1)) r2 ez h2
def ixN' (i : Nat) (fb : P D) : P D := bnd (pk i) fun _ => bnd fb fun y => bnd (pk i) fun x => lft (ixD x y)
theorem ev_ixN {i : Nat} {x : Str} {p : Pos} (hu : X.A.units + 1 < cLine) (hN : X.N[i]? = some x) (hv : Vis X.env.scope x) (hb : EV X g E b fb) (hs : PlainIx b) (hd : (x == ("__debug__" : Str)) = false := by decide) (hcd : (x == ("__classdict__" : Str)) = false := by decide) :
    EV X g E (.Subscript (.Name x p) b pos) (ixN' i fb) := by
  refine PE_imp (pe_ix (ix_all hu) (pe_var hN hv hd hcd) hb hs) fun σ H Q hq => ?_
  obtain ⟨ok, ρ, w, h⟩ := hq
  unfold ixN' at h
  cases e : pk i ρ with
  | none => unfold bnd at h; rw [e] at h; exact h.elim
  | some t =>
    obtain ⟨d, rfl, hi⟩ := pk_inv e
    rw [bnd_ok e] at h
    obtain ⟨v, ev, _⟩ := pk_wf w hi
    refine ⟨v, ev, ok, ρ, w, (Rs.bnd (RA := relD X.K) h).mono fun v2 H2 hq => ?_⟩
    obtain ⟨ok2, ρ2, y, w2, f2, r2, h2⟩ := hq
    cases e2 : pk i ρ2 with
    | none => unfold bnd at h2; rw [e2] at h2; exact h2.elim
    | some t2 =>
      obtain ⟨d2, rfl, hi2⟩ := pk_inv e2
      rw [bnd_ok e2] at h2
      obtain ⟨v2', ev2, r0⟩ := pk_wf w2 hi2
      rw [ev] at ev2
      cases ev2
      unfold lft at h2
      cases ez : ixD d2 y with
      | none => rw [ez] at h2; exact h2.elim
      | some z => rw [ez] at h2; exact ixD_ok w2 r0 r2 ez h2
/-! ### x.f -/
def fldD (C : Addr) (f : Str) : D → Option D
  | .obj C' ns vs => if C' = C then valD ns vs f else none
  | _ => none
theorem lookup_valV (f : Str) : ∀ fs : List (Str × V), fs.lookup f = valV fs f
  | [] => rfl
  | p :: r => by
    obtain ⟨k, v⟩ := p
    rw [List.lookup_cons]
    by_cases e : k = f
    · subst e
      rw [beq_self_eq_true, valV_pos rfl]
    · rw [beq_eq_false_iff_ne.mpr (fun z => e z.symm), valV_neg e]
      exact lookup_valV f r
theorem ev_fld {C : Addr} {f : Str} (c : Cls X.K C) (n : NoAttr X.K C f) (ha : EV X g E a fa) (hb : attributeBase a f X.env (eval a X.env) = eval a X.env := by rfl) : EV X g E (.Attribute a f pos) (bnd fa fun x => lft (fldD C f x)) := by
  refine PE_imp (pe_fld ha hb) fun σ H Q hq => ?_
  obtain ⟨ok, ρ, w, h⟩ := hq
  refine ⟨ok, ρ, w, (Rs.bnd (RA := relD X.K) h).mono fun v1 H1 hq => ?_⟩
  obtain ⟨ok1, ρ1, x, w1, f1, r1, h1⟩ := hq
  unfold lft at h1
  have r1 : Rep X.K ok1 H1 v1 x := r1
  cases r1 with
  | obj ho ko rs =>
    rename_i a' C' dx fs ds
    by_cases e : C' = C
    · subst e
      have ef : fldD C' f (.obj C' (fs.map (·.1)) ds) = valD (fs.map (·.1)) ds f := if_pos rfl
      rw [ef] at h1
      obtain ⟨i1, i2⟩ := valD_rep f rs
      cases ez : valD (fs.map (·.1)) ds f with
      | none => rw [ez] at h1; exact h1.elim
      | some z =>
        rw [ez] at h1
        obtain ⟨v, ev, rv⟩ := i1 z ez
        exact ⟨_, C', dx, fs, v, rfl, ho, c, n, by rw [lookup_valV]; exact ev, h1 v H1 ok1 w1 Sx.refl rv⟩
    · have ef : fldD C f (.obj C' (fs.map (·.1)) ds) = none := if_neg e
      rw [ef] at h1
      exact h1.elim
  | _ => exact h1.elim
end
end Pu
/-! Walks, targets, comprehensions. -/
namespace Pu
open PySem PySem.Spec PyProof.Rows L2 Kv
/-! ### targets -/
inductive Tg where
  | one (i : Nat)
  | many (is : List Nat)
def Tg.ix : Tg → List Nat
  | .one i => [i]
  | .many is => is
def sets : List Nat → List D → En → Option En
  | [], [], ρ => some ρ
  | i :: is, d :: ds, ρ => sets is ds (ρ.set i (.val d))
  | _, _, _ => none
def gset : Tg → D → En → Option En
  | .one i, d, ρ => some (ρ.set i (.val d))
  | .many is, .tup ds, ρ => sets is ds ρ
  | _, _, _ => none
def TgOk (K : PySem.W.Frag) (gt : TG) (T : Tg) : Prop := ∀ (g : Gx) (ok : Addr → Prop) (ρ : En) (σ : L2.St) (H : Hp) (v : V) (d : D) (ρ' : En) (Q : L2.St → Hp → Prop), Wf K g ok ρ σ H → Rep K ok H v d → gset T d ρ = some ρ' →
  (∀ σ', Wf K g ok ρ' σ' H → σ'.length = σ.length → (∀ k, k ∉ T.ix → σ'[k]? = σ[k]?) → Q σ' H) → gt v σ H Q
theorem tg_one {K : PySem.W.Frag} {i : Nat} : TgOk K (gName i) (.one i) := by
  intro g ok ρ σ H v d ρ' Q w r e q
  cases e
  refine q _ (w.set r) (List.length_set ..) fun k hk => ?_
  rw [List.getElem?_set_ne (fun z => hk (by rw [z]; exact List.mem_singleton.mpr rfl))]
def gNames : List Nat → TGs
  | [] => gNil
  | i :: is => gCons (gName i) (gNames is)
theorem gNames_ok {K : PySem.W.Frag} : ∀ (is : List Nat) (g : Gx) (ok : Addr → Prop) (ρ : En) (σ : L2.St) (H : Hp) (vs : List V) (ds : List D) (ρ' : En) (Q : L2.St → Hp → Prop), Wf K g ok ρ σ H → Reps K ok H vs ds → sets is ds ρ = some ρ' →
    (∀ σ', Wf K g ok ρ' σ' H → σ'.length = σ.length → (∀ k, k ∉ is → σ'[k]? = σ[k]?) → Q σ' H) → gNames is vs σ H Q
  | [], g, ok, ρ, σ, H, vs, ds, ρ', Q, w, r, e, q => by
    cases r with
    | nil => cases e; exact ⟨rfl, q σ w rfl fun _ _ => rfl⟩
    | cons _ _ => cases e
  | i :: is, g, ok, ρ, σ, H, vs, ds, ρ', Q, w, r, e, q => by
    cases r with
    | nil => cases e
    | cons r1 rr =>
      refine ⟨_, _, rfl, ?_⟩
      refine gNames_ok is g ok _ _ H _ _ ρ' Q (w.set r1) rr e fun σ' w' hl hk => q σ' w' (hl.trans (List.length_set ..)) fun k hk2 => ?_
      rw [hk k (fun z => hk2 (List.mem_cons_of_mem _ z)), List.getElem?_set_ne (fun z => hk2 (by rw [z]; exact List.mem_cons_self ..))]
theorem sets_len : ∀ {is : List Nat} {ds : List D} {ρ ρ' : En}, sets is ds ρ = some ρ' → is.length = ds.length
  | [], [], _, _, _ => rfl
  | i :: is, d :: ds, ρ, ρ', h => congrArg (· + 1) (sets_len (is := is) h)
  | [], _ :: _, _, _, h => by cases h
  | _ :: _, [], _, _, h => by cases h
theorem tg_many {K : PySem.W.Frag} {is : List Nat} : TgOk K (gTup K is.length (gNames is)) (.many is) := by
  intro g ok ρ σ H v d ρ' Q w r e q
  cases r with
  | tupO h rs => exact ⟨_, _, rfl, h.sq, by rw [rs.length]; exact (sets_len e).symm, gNames_ok is g ok ρ σ H _ _ ρ' Q w rs e q⟩
  | _ => cases e
/-! ### walks -/
def WkOk (K : PySem.W.Frag) (g : Gx) (L : List Nat) (σ : L2.St) (ρ : En) (J : It) (ds : List D) (ok : Addr → Prop) (H : Hp) : Prop :=
  ∀ (ok2 : Addr → Prop) (ρ2 : En) (σ2 : L2.St) (H2 : Hp), Wf K g ok2 ρ2 σ2 H2 → Fr ok H ok2 H2 → (∀ l ∈ L, ρ2[l]? = ρ[l]? ∧ σ2[l]? = σ[l]?) →
    (∀ i, i < ds.length → J.go i H2) ∧ J.stop ds.length H2 ∧ ∀ i d x H3, ds[i]? = some d → J.yld i H2 x H3 → (H3 = H2 ∨ ∃ p o, H2 p = none ∧ H3 = upd H2 p o) ∧ Rep K ok2 H3 x d
def tI (K : PySem.W.Frag) (g : Gx) (E : Wx) (L : List Nat) (f : P (List D)) : TI := fun σ H R => ∃ ok ρ, Wf K g ok ρ σ H ∧
  match f ρ with
  | none => False
  | some (.ok ds ρ') => ∀ J H' ok', Wf K g ok' ρ' σ H' → Sx σ ρ ok H ρ' ok' H' → WkOk K g L σ ρ' J ds ok' H' → R J H'
  | some (.er c ns ds ρ') => ∀ dx fs H' ok', Wf K g ok' ρ' σ H' → Sx σ ρ ok H ρ' ok' H' → H' dx = some (.xd fs) → fs.map (·.1) = ns → Reps K ok' H' (fs.map (·.2)) ds → E σ c (some dx) H'
abbrev EI (X : Cx) (g : Gx) (E : Wx) (L : List Nat) (tg e : Expr) (f : P (List D)) : Prop := PI X tg e (tI X.K g E L f)
section
variable {X : Cx} {g : Gx} {E : Wx} {tg a b c e : Expr} {pos : Pos} {fa fb fc : P D}
theorem PI_imp {t t' : TI} (h : PI X tg e t) (q : ∀ σ H R, t' σ H R → t σ H R) : PI X tg e t' := ⟨fun pins s σ H R I z => h.run pins s σ H R I (q σ H R z)⟩
theorem PI_or {w1 w2 : TI} (h1 : PI X tg e w1) (h2 : PI X tg e w2) : PI X tg e (fun σ H R => w1 σ H R ∨ w2 σ H R) := ⟨fun pins s σ H R I z => z.elim (fun z => h1.run pins s σ H R I z) fun z => h2.run pins s σ H R I z⟩
def isLst : D → Bool
  | .lst _ => true
  | .flst _ => true
  | _ => false
def seqP (f : P D) : P (List D) := bnd f fun d => lft (seqD d)
theorem wk_lst {K : PySem.W.Frag} {L : List Nat} {σ : L2.St} {ρ : En} {ok : Addr → Prop} {H : Hp} {p : Addr} {ds : List D} (h : ∀ ok2 ρ2 σ2 H2, Wf K g ok2 ρ2 σ2 H2 → Fr ok H ok2 H2 → (∀ l ∈ L, ρ2[l]? = ρ[l]? ∧ σ2[l]? = σ[l]?) → ∃ vs, SqL K H2 p vs ∧ Reps K ok2 H2 vs ds) :
    WkOk K g L σ ρ (Itl K p) ds ok H := by
  intro ok2 ρ2 σ2 H2 w2 f2 k2
  obtain ⟨vs, sq, r⟩ := h ok2 ρ2 σ2 H2 w2 f2 k2
  refine ⟨fun i hi => ?_, ⟨vs, sq, Nat.le_of_eq r.length⟩, fun i d x H3 hd y => ?_⟩
  · have hv : i < vs.length := by rw [r.length]; exact hi
    exact ⟨vs, vs[i], sq, List.getElem?_eq_getElem hv⟩
  · obtain ⟨rfl, y⟩ := y
    obtain ⟨d', e1, r1⟩ := r.get (y vs sq)
    rw [hd] at e1
    cases e1
    exact ⟨.inl rfl, r1⟩
theorem wk_tup {K : PySem.W.Frag} {L : List Nat} {σ : L2.St} {ρ : En} {ok : Addr → Prop} {H : Hp} {p : Addr} {ds : List D} (h : ∀ ok2 ρ2 σ2 H2, Wf K g ok2 ρ2 σ2 H2 → Fr ok H ok2 H2 → (∀ l ∈ L, ρ2[l]? = ρ[l]? ∧ σ2[l]? = σ[l]?) → ∃ vs, SqT K H2 p vs ∧ Reps K ok2 H2 vs ds) :
    WkOk K g L σ ρ (Itt K p) ds ok H := by
  intro ok2 ρ2 σ2 H2 w2 f2 k2
  obtain ⟨vs, sq, r⟩ := h ok2 ρ2 σ2 H2 w2 f2 k2
  refine ⟨fun i hi => ?_, ⟨vs, sq, Nat.le_of_eq r.length⟩, fun i d x H3 hd y => ?_⟩
  · have hv : i < vs.length := by rw [r.length]; exact hi
    exact ⟨vs, vs[i], sq, List.getElem?_eq_getElem hv⟩
  · obtain ⟨rfl, y⟩ := y
    obtain ⟨d', e1, r1⟩ := r.get (y vs sq)
    rw [hd] at e1
    cases e1
    exact ⟨.inl rfl, r1⟩
theorem rep_walk {K : PySem.W.Frag} {L : List Nat} {σ : L2.St} {ρ : En} {ok : Addr → Prop} {H : Hp} {v : V} {d : D} {ds : List D} (r : Rep K ok H v d) (e : seqD d = some ds) :
    (∃ p, v = .ref p ∧ (∃ xs, SqL K H p xs) ∧ WkOk K g L σ ρ (Itl K p) ds ok H) ∨ (∃ p, v = .ref p ∧ (∃ xs, SqT K H p xs) ∧ WkOk K g L σ ρ (Itt K p) ds ok H) := by
  cases r with
  | lst h k t =>
    cases e
    refine .inl ⟨_, rfl, ⟨_, .inl (.inl h)⟩, wk_lst fun ok2 ρ2 σ2 H2 w2 f2 _ => ⟨_, .inl (.inl ((f2.keep _ _ h fun _ => k).same rfl)), t.fr f2⟩⟩
  | lstF h t =>
    cases e
    exact .inl ⟨_, rfl, ⟨_, h.sq⟩, wk_lst fun ok2 ρ2 σ2 H2 w2 f2 _ => ⟨_, (f2.fzL h).sq, t.fr f2⟩⟩
  | tupO h t =>
    cases e
    exact .inr ⟨_, rfl, ⟨_, h.sq⟩, wk_tup fun ok2 ρ2 σ2 H2 w2 f2 _ => ⟨_, (f2.tpO h).sq, t.fr f2⟩⟩
  | tupF h t =>
    cases e
    exact .inr ⟨_, rfl, ⟨_, h.sq⟩, wk_tup fun ok2 ρ2 σ2 H2 w2 f2 _ => ⟨_, (f2.fzT h).sq, t.fr f2⟩⟩
  | _ => cases e
theorem Rs.toI {K : PySem.W.Frag} {σ : L2.St} {ρ : En} {ok : Addr → Prop} {H : Hp} {L : List Nat} {f : P D} {R : It → Hp → Prop} (w : Wf K g ok ρ σ H)
    (h : match seqP f ρ with
      | none => False
      | some (.ok ds ρ') => ∀ J H' ok', Wf K g ok' ρ' σ H' → Sx σ ρ ok H ρ' ok' H' → WkOk K g L σ ρ' J ds ok' H' → R J H'
      | some (.er c ns ds ρ') => ∀ dx fs H' ok', Wf K g ok' ρ' σ H' → Sx σ ρ ok H ρ' ok' H' → H' dx = some (.xd fs) → fs.map (·.1) = ns → Reps K ok' H' (fs.map (·.2)) ds → E σ c (some dx) H') :
    iList K (tX K g E (relD K) f) σ H R ∨ iTup K (tX K g E (relD K) f) σ H R := by
  unfold seqP at h
  cases e : f ρ with
  | none => rw [bnd_none e] at h; exact h.elim
  | some x =>
    cases x with
    | er c ns ds ρ' =>
      rw [bnd_er e] at h
      refine .inl ⟨ok, ρ, w, ?_⟩
      rw [e]
      exact h
    | ok d ρ' =>
      rw [bnd_ok e] at h
      cases ed : seqD d with
      | none => rw [ed] at h; exact h.elim
      | some ds =>
        rw [ed] at h
        have go : ∀ v H' ok', Wf K g ok' ρ' σ H' → Sx σ ρ ok H ρ' ok' H' → Rep K ok' H' v d → (∃ p, v = .ref p ∧ (∃ xs, SqL K H' p xs) ∧ R (Itl K p) H') ∨ (∃ p, v = .ref p ∧ (∃ xs, SqT K H' p xs) ∧ R (Itt K p) H') := fun v H' ok' w' s' r' => by
          rcases rep_walk (g := g) (L := L) (σ := σ) (ρ := ρ') r' ed with ⟨p, e1, e2, wk⟩ | ⟨p, e1, e2, wk⟩
          · exact .inl ⟨p, e1, e2, h _ H' ok' w' s' wk⟩
          · exact .inr ⟨p, e1, e2, h _ H' ok' w' s' wk⟩
        have left : isLst d = true → iList K (tX K g E (relD K) f) σ H R := fun hl => by
          refine ⟨ok, ρ, w, ?_⟩
          rw [e]
          intro v H' ok' w' s' r'
          cases d with
          | lst xs =>
            have r' : Rep K ok' H' v (.lst xs) := r'
            cases r' with
            | lst h1 k1 t1 =>
              cases ed
              exact ⟨_, rfl, ⟨_, .inl (.inl h1)⟩, h _ H' ok' w' s' (wk_lst fun ok2 ρ2 σ2 H2 w2 f2 _ => ⟨_, .inl (.inl ((f2.keep _ _ h1 fun _ => k1).same rfl)), t1.fr f2⟩)⟩
          | flst xs =>
            have r' : Rep K ok' H' v (.flst xs) := r'
            cases r' with
            | lstF h1 t1 =>
              cases ed
              exact ⟨_, rfl, ⟨_, h1.sq⟩, h _ H' ok' w' s' (wk_lst fun ok2 ρ2 σ2 H2 w2 f2 _ => ⟨_, (f2.fzL h1).sq, t1.fr f2⟩)⟩
          | _ => cases hl
        have right : isLst d = false → iTup K (tX K g E (relD K) f) σ H R := fun hl => by
          refine ⟨ok, ρ, w, ?_⟩
          rw [e]
          intro v H' ok' w' s' r'
          cases d with
          | tup xs =>
            have r' : Rep K ok' H' v (.tup xs) := r'
            cases r' with
            | tupO h1 t1 =>
              cases ed
              exact ⟨_, rfl, ⟨_, h1.sq⟩, h _ H' ok' w' s' (wk_tup fun ok2 ρ2 σ2 H2 w2 f2 _ => ⟨_, (f2.tpO h1).sq, t1.fr f2⟩)⟩
          | ftup xs =>
            have r' : Rep K ok' H' v (.ftup xs) := r'
            cases r' with
            | tupF h1 t1 =>
              cases ed
              exact ⟨_, rfl, ⟨_, h1.sq⟩, h _ H' ok' w' s' (wk_tup fun ok2 ρ2 σ2 H2 w2 f2 _ => ⟨_, (f2.fzT h1).sq, t1.fr f2⟩)⟩
          | lst xs => cases hl
          | flst xs => cases hl
          | _ => cases ed
        cases hl : isLst d with
        | true => exact .inl (left hl)
        | false => exact .inr (right hl)
theorem ei_seq (ha : EV X g E a fa) : EI X g E [] tg a (seqP fa) := by
  refine PI_imp (PI_or (pi_list ha) (pi_tup ha)) fun σ H R hq => ?_
  obtain ⟨ok, ρ, w, h⟩ := hq
  exact Rs.toI w h
/-! ### what the block's own names are -/
theorem wipe_get {σ : L2.St} {k : Nat} : ∀ {vs : List Nat}, k ∉ vs → (wipe σ vs)[k]? = σ[k]?
  | [], _ => rfl
  | v :: vs, h => by
    unfold wipe
    rw [List.getElem?_set_ne (fun z => h (by rw [z]; exact List.mem_cons_self ..))]
    exact wipe_get fun z => h (List.mem_cons_of_mem _ z)
theorem wipe_in {σ : L2.St} {k : Nat} : ∀ {vs : List Nat}, k ∈ vs → k < σ.length → (wipe σ vs)[k]? = some none
  | [], h, _ => by cases h
  | v :: vs, h, hl => by
    unfold wipe
    by_cases e : v = k
    · subst e
      rw [List.getElem?_set_self (by rw [wipe_length]; exact hl)]
    · rw [List.getElem?_set_ne e]
      rcases List.mem_cons.mp h with z | z
      · exact absurd z.symm e
      · exact wipe_in z hl
theorem wipe_ext {σ τ : L2.St} {vs : List Nat} (hl : σ.length = τ.length) (h : ∀ k, k ∉ vs → σ[k]? = τ[k]?) : wipe σ vs = wipe τ vs := by
  refine List.ext_getElem? fun k => ?_
  by_cases hk : k ∈ vs
  · by_cases hz : k < σ.length
    · rw [wipe_in hk hz, wipe_in hk (by omega)]
    · rw [List.getElem?_eq_none (by rw [wipe_length]; omega), List.getElem?_eq_none (by rw [wipe_length]; omega)]
  · rw [wipe_get hk, wipe_get hk, h k hk]
def wipeE (ρ : En) : List Nat → En
  | [] => ρ
  | v :: vs => (wipeE ρ vs).set v .un
theorem wipeE_get {ρ : En} {k : Nat} : ∀ {vs : List Nat}, k ∉ vs → (wipeE ρ vs)[k]? = ρ[k]?
  | [], _ => rfl
  | v :: vs, h => by
    unfold wipeE
    rw [List.getElem?_set_ne (fun z => h (by rw [z]; exact List.mem_cons_self ..))]
    exact wipeE_get fun z => h (List.mem_cons_of_mem _ z)
theorem wipeE_in {ρ : En} {k : Nat} {s : Slot} : ∀ {vs : List Nat}, k ∈ vs → (wipeE ρ vs)[k]? = some s → s = .un
  | [], h, _ => by cases h
  | v :: vs, h, e => by
    unfold wipeE at e
    by_cases z : v = k
    · subst z
      exact get_set_self e
    · rw [List.getElem?_set_ne z] at e
      rcases List.mem_cons.mp h with y | y
      · exact absurd y.symm z
      · exact wipeE_in y e
theorem wipeE_some {ρ : En} {k : Nat} {s : Slot} {vs : List Nat} (h : (wipeE ρ vs)[k]? = some s) (ns : s ≠ .un) : ρ[k]? = some s ∧ k ∉ vs := by
  by_cases hk : k ∈ vs
  · exact absurd (wipeE_in hk h) ns
  · rw [wipeE_get hk] at h; exact ⟨h, hk⟩
theorem Wf.agree {K : PySem.W.Frag} {ok : Addr → Prop} {ρ : En} {σ τ : L2.St} {H : Hp} (w : Wf K g ok ρ σ H) (hl : τ.length = σ.length) (h : ∀ (k : Nat) (s : Slot), ρ[k]? = some s → s ≠ .un → τ[k]? = σ[k]?) : Wf K g ok ρ τ H :=
  ⟨hl.trans w.len, w.fc, w.h0, fun i d e => by rw [h i _ e (fun z => by cases z)]; exact w.val i d e, fun i d e => by rw [h i _ e (fun z => by cases z)]; exact w.own i d e,
    fun i j d e q h1 h2 e1 e2 => w.apart i j d e q h1 h2 (by rw [← h i _ h1 (fun z => by cases z)]; exact e1) (by rw [← h j _ h2 (fun z => by cases z)]; exact e2), w.tb⟩
theorem Wf.wipe {K : PySem.W.Frag} {ok : Addr → Prop} {ρ : En} {σ : L2.St} {H : Hp} : ∀ {vs : List Nat}, Wf K g ok ρ σ H → Wf K g ok (wipeE ρ vs) σ H
  | [], w => w
  | v :: vs, w => (Wf.wipe (vs := vs) w).drop
theorem wrs_wipe {ρ : En} {σ τ : L2.St} {vs : List Nat} {a : Addr} (ht : ∀ k, k ∉ vs → τ[k]? = σ[k]?) (h : wrs (wipeE ρ vs) τ a) : wrs ρ σ a := by
  obtain ⟨i, d, h1, h2⟩ := h
  obtain ⟨h3, h4⟩ := wipeE_some h1 (fun z => by cases z)
  exact ⟨i, d, h3, by rw [← ht i h4]; exact h2⟩
/-! ### [e for t in i if c] -/
def lcL (T : Tg) (ft : P Bool) (fe : P D) : List D → En → List D → Option (List D × En)
  | [], ρ, acc => some (acc, ρ)
  | d :: ds, ρ, acc => match gset T d ρ with
    | none => none
    | some ρ1 => match ft ρ1 with
      | some (.ok true ρ2) => match fe ρ2 with
        | some (.ok y ρ3) => if acc.length < sizeLine then lcL T ft fe ds (wipeE ρ3 T.ix) (acc ++ [y]) else none
        | _ => none
      | some (.ok false ρ2) => lcL T ft fe ds (wipeE ρ2 T.ix) acc
      | _ => none
def lc (fi : P (List D)) (T : Tg) (ft : P Bool) (fe : P D) : P R := fun ρ => match fi ρ with
  | none => none
  | some (.er c ns ds ρ') => some (.er c ns ds ρ')
  | some (.ok ds ρ') => match lcL T ft fe ds (wipeE ρ' T.ix) [] with
    | none => none
    | some (ys, ρ2) => some (.ok (.own (.lst ys)) ρ2)
def Kp {α : Type} (L : List Nat) (f : P α) : Prop := ∀ ρ a ρ', f ρ = some (.ok a ρ') → ∀ l ∈ L, ρ'[l]? = ρ[l]?
theorem gset_keep {T : Tg} {d : D} {ρ ρ' : En} {l : Nat} (h : gset T d ρ = some ρ') (hl : l ∉ T.ix) : ρ'[l]? = ρ[l]? := by
  cases T with
  | one i =>
    cases h
    rw [List.getElem?_set_ne (fun z => hl (by rw [z]; exact List.mem_singleton.mpr rfl))]
  | many is =>
    cases d with
    | tup ds =>
      have h : sets is ds ρ = some ρ' := h
      have go : ∀ (is : List Nat) (ds : List D) (ρ ρ' : En), sets is ds ρ = some ρ' → l ∉ is → ρ'[l]? = ρ[l]? := by
        intro is
        induction is with
        | nil => intro ds ρ ρ' h _; cases ds with
          | nil => cases h; rfl
          | cons _ _ => cases h
        | cons i is ih => intro ds ρ ρ' h hn; cases ds with
          | nil => cases h
          | cons d ds =>
            rw [ih ds _ ρ' h (fun z => hn (List.mem_cons_of_mem _ z)), List.getElem?_set_ne (fun z => hn (by rw [z]; exact List.mem_cons_self ..))]
      exact go is ds ρ ρ' h hl
    | _ => cases h
theorem gset_own {T : Tg} {d : D} {ρ ρ' : En} {σ : L2.St} {a : Addr} (h : gset T d ρ = some ρ') (σ' : L2.St) (hs : ∀ k, k ∉ T.ix → σ'[k]? = σ[k]?) (hw : wrs ρ' σ' a) : wrs ρ σ a := by
  obtain ⟨i, x, h1, h2⟩ := hw
  have hi : i ∉ T.ix := fun z => by
    have go : ∀ (is : List Nat) (ds : List D) (ρ ρ' : En), sets is ds ρ = some ρ' → i ∈ is → ∃ d, ρ'[i]? = some (.val d) ∨ ρ'[i]? = none := by
      intro is
      induction is with
      | nil => intro ds ρ ρ' h hn; cases hn
      | cons j is ih => intro ds ρ ρ' h hn; cases ds with
        | nil => cases h
        | cons d ds =>
          by_cases hm : i ∈ is
          · exact ih ds _ ρ' h hm
          · have e : i = j := by
              rcases List.mem_cons.mp hn with y | y
              · exact y
              · exact absurd y hm
            subst e
            have k := gset_keep (T := .many is) (d := .tup ds) (l := i) h hm
            rw [k]
            by_cases hz : i < ρ.length
            · exact ⟨d, .inl (List.getElem?_set_self hz)⟩
            · exact ⟨d, .inr (List.getElem?_eq_none (by rw [List.length_set]; omega))⟩
    cases T with
    | one j =>
      cases h
      cases List.mem_singleton.mp z
      cases get_set_self h1
    | many is =>
      cases d with
      | tup ds =>
        obtain ⟨d, e | e⟩ := go is ds ρ ρ' h z
        · rw [e] at h1; cases h1
        · rw [e] at h1; cases h1
      | _ => cases h
  rw [gset_keep h hi] at h1
  rw [hs i hi] at h2
  exact ⟨i, x, h1, h2⟩
end
end Pu
/-! Comprehensions with one for. -/
namespace Pu
open PySem PySem.Spec PyProof.Rows L2 Kv
section
variable {X : Cx} {g : Gx} {E : Wx}
theorem lcL_cons {T : Tg} {ft : P Bool} {fe : P D} {d : D} {ds acc : List D} {ρ : En} {z : List D × En} (h : lcL T ft fe (d :: ds) ρ acc = some z) :
    ∃ ρ1, gset T d ρ = some ρ1 ∧ ((∃ ρ2, ft ρ1 = some (.ok false ρ2) ∧ lcL T ft fe ds (wipeE ρ2 T.ix) acc = some z) ∨
      ∃ ρ2 y ρ3, ft ρ1 = some (.ok true ρ2) ∧ fe ρ2 = some (.ok y ρ3) ∧ acc.length < sizeLine ∧ lcL T ft fe ds (wipeE ρ3 T.ix) (acc ++ [y]) = some z) := by
  unfold lcL at h
  cases e1 : gset T d ρ with
  | none => simp only [e1] at h; cases h
  | some ρ1 =>
    simp only [e1] at h
    refine ⟨ρ1, rfl, ?_⟩
    cases e2 : ft ρ1 with
    | none => simp only [e2] at h; cases h
    | some x =>
      cases x with
      | er c ns ds' ρ' => simp only [e2] at h; cases h
      | ok b ρ2 =>
        cases b with
        | false => simp only [e2] at h; exact .inl ⟨ρ2, rfl, h⟩
        | true =>
          simp only [e2] at h
          cases e3 : fe ρ2 with
          | none => simp only [e3] at h; cases h
          | some x =>
            cases x with
            | er c ns ds' ρ' => simp only [e3] at h; cases h
            | ok y ρ3 =>
              simp only [e3] at h
              split at h
              · exact .inr ⟨ρ2, y, ρ3, rfl, e3, by assumption, h⟩
              · cases h
theorem lc_read {fi : P (List D)} {T : Tg} {ft : P Bool} {fe : P D} {gt : TG} {L : List Nat} {σ : L2.St} {H : Hp} {Q : VK}
    (hT : TgOk X.K gt T) (kL : ∀ l ∈ L, l ∉ T.ix) (kt : Kp L ft) (ke : Kp L fe) (hq : tX X.K g E (relR X.K) (lc fi T ft fe) σ H Q) :
    tLc (tI X.K g E L fi) gt (tX X.K g noE relB ft) (tX X.K g noE (relD X.K) fe) T.ix σ H Q := by
  obtain ⟨ok, ρ, w, h⟩ := hq
  refine ⟨ok, ρ, w, ?_⟩
  unfold lc at h
  cases e : fi ρ with
  | none => rw [e] at h; exact h
  | some x =>
    cases x with
    | er c ns ds ρ' => rw [e] at h; exact h
    | ok ds ρ1 =>
      rw [e] at h
      intro J H1 ok1 w1 s1 wk Dd nD
      cases el : lcL T ft fe ds (wipeE ρ1 T.ix) [] with
      | none => simp only [el] at h; exact h.elim
      | some z =>
        obtain ⟨ys, ρz⟩ := z
        simp only [el] at h
        have wgt : ∀ k, k ∉ T.ix → (wipe σ T.ix)[k]? = σ[k]? := fun k hk => wipe_get hk
        let Pv : Nat → Hp → Prop := fun i H2 => ∃ ok2 ρ0 acc vs, lcL T ft fe (ds.drop i) (wipeE ρ0 T.ix) acc = some (ys, ρz) ∧ Wf X.K g ok2 (wipeE ρ0 T.ix) (wipe σ T.ix) H2 ∧ Fr ok1 H1 ok2 H2 ∧
          (∀ a o, H1 a = some o → ¬ wrs ρ1 σ a → KeptO ok1 H2 a o) ∧ (∀ a, wrs (wipeE ρ0 T.ix) (wipe σ T.ix) a → wrs ρ1 σ a) ∧ (∀ a o, H1 a = some o → ok2 a → ok1 a ∨ wrs ρ1 σ a) ∧ (∀ l ∈ L, (wipeE ρ0 T.ix)[l]? = ρ1[l]?) ∧
          H2 Dd = some (.lst vs) ∧ Reps X.K ok2 H2 vs acc ∧ ¬ ok2 Dd
        have nwD : ¬ wrs ρ1 σ Dd := fun z => by
          obtain ⟨_, o, ho, _⟩ := w1.wr z
          rw [nD] at ho; cases ho
        have back : ∀ {ρ0 : En} {ok2 : Addr → Prop} {H2 : Hp}, Wf X.K g ok2 (wipeE ρ0 T.ix) (wipe σ T.ix) H2 → Wf X.K g ok2 (wipeE ρ0 T.ix) σ H2 := fun {ρ0 ok2 H2} w2 =>
          w2.agree (by rw [wipe_length]) fun k s hk ns => (wipe_get (wipeE_some hk ns).2).symm
        refine ⟨fun i m H2 => m = ds.length - i ∧ i ≤ ds.length ∧ Pv i H2, ⟨ds.length, by simp, Nat.zero_le _, ?_⟩, ?_⟩
        · refine ⟨sub1 ok1 Dd, ρ1, [], [], el, ((w1.newO nD).wipe).agree (by rw [wipe_length]) (fun k s hk ns => wipe_get (wipeE_some hk ns).2), fr_sub nD, fun a o ha _ => ?_, fun a ha => wrs_wipe wgt ha, fun _ _ _ k => .inl k.1, fun l hl => wipeE_get (kL l hl), upd_same, .nil, fun z => z.2 rfl⟩
          exact .inl (by rw [upd_ne (ne_of_none ha nD)]; exact ha)
        · rintro i m H2 ⟨rfl, hi2, ok2, ρ0, acc, vs, hl, w2, f2, k2, b2, gr2, l2, eD, rv, nk⟩
          have wk2 := wk ok2 _ _ H2 w2 f2 fun l hl => ⟨l2 l hl, wipe_get (kL l hl)⟩
          by_cases hlt : i < ds.length
          · refine .inr ⟨wk2.1 i hlt, Pv (i + 1), fun H' p' => ⟨ds.length - (i + 1), by omega, rfl, hlt, p'⟩, fun x H3 hy => ?_⟩
            have hd : ds[i]? = some ds[i] := List.getElem?_eq_getElem hlt
            obtain ⟨h3, rx⟩ := wk2.2.2 i _ x H3 hd hy
            rw [List.drop_eq_getElem_cons hlt] at hl
            obtain ⟨ρ3, eg, hl⟩ := lcL_cons hl
            -- the item is there
            have s23 : Wf X.K g ok2 (wipeE ρ0 T.ix) (wipe σ T.ix) H3 ∧ Sx (wipe σ T.ix) (wipeE ρ0 T.ix) ok2 H2 (wipeE ρ0 T.ix) ok2 H3 := by
              rcases h3 with rfl | ⟨p, o, np, rfl⟩
              · exact ⟨w2, Sx.refl⟩
              · exact ⟨w2.new np, Sx.new np⟩
            obtain ⟨w3, s3⟩ := s23
            have nwD2 : ¬ wrs (wipeE ρ0 T.ix) (wipe σ T.ix) Dd := fun z => nwD (b2 Dd z)
            have eD3 := (s3.keep _ _ eD nwD2).same nk
            refine hT g ok2 _ _ H3 x _ ρ3 _ w3 rx eg fun σ2 w4 ln2 ag2 => ?_
            have wr4 : ∀ a, wrs ρ3 σ2 a → wrs (wipeE ρ0 T.ix) (wipe σ T.ix) a := fun a ha => gset_own eg σ2 ag2 ha
            refine ⟨wipe_ext (by rw [ln2, wipe_length]) fun k hk => by rw [ag2 k hk, wipe_get hk], ok2, ρ3, w4, ?_⟩
            have l3 : ∀ l ∈ L, ρ3[l]? = ρ1[l]? := fun l hl => by rw [gset_keep eg (kL l hl)]; exact l2 l hl
            -- the end of a turn
            have fin : ∀ {ρ5 : En} {ok5 : Addr → Prop} {H5 : Hp} {vs5 : List V} {acc5 : List D}, Wf X.K g ok5 ρ5 σ2 H5 → Fr ok1 H1 ok5 H5 → (∀ a o, H1 a = some o → ¬ wrs ρ1 σ a → KeptO ok1 H5 a o) → (∀ a, wrs ρ5 σ2 a → wrs ρ1 σ a) →
                (∀ a o, H1 a = some o → ok5 a → ok1 a ∨ wrs ρ1 σ a) → (∀ l ∈ L, ρ5[l]? = ρ1[l]?) → H5 Dd = some (.lst vs5) → Reps X.K ok5 H5 vs5 acc5 → ¬ ok5 Dd → lcL T ft fe (ds.drop (i + 1)) (wipeE ρ5 T.ix) acc5 = some (ys, ρz) → Pv (i + 1) H5 :=
              fun {ρ5 ok5 H5 vs5 acc5} w5 f5 k5 b5 g5 l5 e5 r5 n5 hl5 => ⟨ok5, ρ5, acc5, vs5, hl5, (w5.wipe).agree (by rw [ln2]) (fun k s hk ns => by rw [wipe_get (wipeE_some hk ns).2, ← wgt k (wipeE_some hk ns).2, ag2 k (wipeE_some hk ns).2]), f5, k5,
                fun a ha => b5 a (wrs_wipe (fun k hk => by rw [wipe_get hk, ag2 k hk, wipe_get hk]) ha), g5, fun l hl => by rw [wipeE_get (kL l hl)]; exact l5 l hl, e5, r5, n5⟩
            have kk : ∀ {ρ5 : En} {ok5 : Addr → Prop} {H5 : Hp}, Sx σ2 ρ3 ok2 H3 ρ5 ok5 H5 → Fr ok1 H1 ok5 H5 ∧ (∀ a o, H1 a = some o → ¬ wrs ρ1 σ a → KeptO ok1 H5 a o) ∧ (∀ a, wrs ρ5 σ2 a → wrs ρ1 σ a) ∧ (∀ a o, H1 a = some o → ok5 a → ok1 a ∨ wrs ρ1 σ a) ∧ H5 Dd = some (.lst vs) ∧ ¬ ok5 Dd := fun {ρ5 ok5 H5} s5 => by
              refine ⟨f2.trans (s3.fr.trans s5.fr), fun a o ha na => ?_, fun a ha => b2 a (wr4 a (s5.sub a ha)), fun a o ha ka => ?_, (s5.keep _ _ eD3 (fun z => nwD2 (wr4 _ z))).same nk, fun z => ?_⟩
              · exact (k2 a o ha na).then (fun o2 h2 => (s3.keep a o2 h2 fun z => na (b2 a z)).then (fun o3 h3 => s5.keep a o3 h3 fun z => na (b2 a (wr4 a z))) id) (fun z => (gr2 a o ha z).elim id fun y => absurd y na)
              · obtain ⟨o2, h2⟩ := f2.there ha
                obtain ⟨o3, h3⟩ := s3.fr.there h2
                rcases s5.grow a o3 h3 ka with z | z
                · exact gr2 a o ha z
                · exact .inr (b2 a (wr4 a z))
              · rcases s5.grow Dd _ eD3 z with z | z
                · exact nk z
                · exact nwD2 (wr4 _ z)
            rcases hl with ⟨ρ4, et, hl⟩ | ⟨ρ4, y, ρ5, et, ee, hz, hl⟩
            · rw [et]
              intro b H5 ok5 w5 s5 eb
              have eb : b = false := eb
              subst eb
              obtain ⟨c1, c2, c3, c4, c5, c6⟩ := kk s5
              rw [if_neg Bool.false_ne_true]
              exact fin w5 c1 c2 c3 c4 (fun l hl => by rw [kt _ _ _ et l hl]; exact l3 l hl) c5 (rv.fr (s3.fr.trans s5.fr)) c6 hl
            · rw [et]
              intro b H5 ok5 w5 s5 eb
              have eb : b = true := eb
              subst eb
              rw [if_pos rfl]
              refine ⟨ok5, ρ4, w5, ?_⟩
              rw [ee]
              intro yv H6 ok6 w6 s6 ry
              obtain ⟨c1, c2, c3, c4, c5, c6⟩ := kk (s5.trans s6)
              have rv6 := rv.fr (s3.fr.trans (s5.fr.trans s6.fr))
              have nw6 : ¬ wrs ρ5 σ2 Dd := fun z => nwD (c3 _ z)
              refine ⟨vs, c5, by rw [rv.length]; exact hz, ?_⟩
              -- the new item is put down
              have fr7 : Fr ok6 H6 ok6 (upd H6 Dd (.lst (vs ++ [yv]))) := .of (fun a o ha ho => by
                  have : a ≠ Dd := fun z => by
                    subst z
                    rw [c5] at ha
                    cases ha
                    exact c6 (ho trivial)
                  rw [upd_ne this]; exact ha) (fun _ _ _ k => k) (fun a ha => by
                  by_cases z : a = Dd
                  · rw [z, upd_same] at ha; cases ha
                  · rw [upd_ne z] at ha; exact ha)
              have w7 : Wf X.K g ok6 ρ5 σ2 (upd H6 Dd (.lst (vs ++ [yv]))) := w6.step fr7 (fun a ha => w6.fc a (fr7.all a ha)) (w6.tb.fr fr7 (upd_tbl fun ps z => by rw [c5] at z; cases z) fun _ _ _ n => n) fun k d q hk hq => ⟨upd_ne fun z => nw6 ⟨k, d, hk, by rw [hq, z]⟩, by
                obtain ⟨q', e', _, n', _⟩ := w6.own k d hk
                rw [hq] at e'
                cases e'
                exact n'⟩
              refine fin w7 (c1.trans fr7) (fun a o ha na => ?_) c3 c4 (fun l hl => by rw [ke _ _ _ ee l hl, kt _ _ _ et l hl]; exact l3 l hl) upd_same ((rv6.app (.cons ry .nil)).fr fr7) c6 hl
              have c2' := c2 a o ha na
              unfold KeptO at c2' ⊢
              rw [upd_ne (ne_of_none ha nD)]
              exact c2'
          · have hi3 : i = ds.length := by omega
            subst hi3
            rw [List.drop_length] at hl
            cases hl
            refine .inl ⟨wk2.2.1, h (.ref Dd) H2 ok2 (back w2) ?_ ?_⟩
            · refine s1.trans ⟨f2, k2, fun a ha => b2 a ?_, gr2⟩
              obtain ⟨k, d, hk, hq⟩ := ha
              exact ⟨k, d, hk, by rw [wipe_get (wipeE_some hk (fun z => by cases z)).2]; exact hq⟩
            · refine ⟨Dd, rfl, ⟨vs, eD, rv⟩, nk, s1.fr.all Dd nD, fun j d hj z => nwD (b2 Dd ⟨j, d, hj, ?_⟩)⟩
              rw [wipe_get (wipeE_some hj (fun z => by cases z)).2]; exact z
theorem er_lc {elt tg iter : Expr} {ifs : List Expr} {scope : Scope} {own : List (Str × Nat)} {pos : Pos} {fi : P (List D)} {T : Tg} {ft : P Bool} {fe : P D} {gt : TG} {L : List Nat}
    (hc : X.calm = true) (hN : X.N.Nodup) (hi : EI X g E L tg iter fi) (ok : BlkOk X.N X.env.scope scope own) (hT : TgOk X.K gt T) (hown : own.map (·.2) = T.ix)
    (hg : ∀ (s : Shared) (H : Hp) (C : Addr) (cl : List (Str × Addr)) (fp : List Addr), PG (X.blk s H scope (compEnvC scope cl C X.env) fp) tg gt)
    (ht : ∀ (s : Shared) (H : Hp) (C : Addr) (cl : List (Str × Addr)) (fp : List Addr), PTs (X.blk s H scope (compEnvC scope cl C X.env) fp) ifs (tX X.K g noE relB ft))
    (he : ∀ (s : Shared) (H : Hp) (C : Addr) (cl : List (Str × Addr)) (fp : List Addr), EV (X.blk s H scope (compEnvC scope cl C X.env) fp) g noE elt fe)
    (kL : ∀ l ∈ L, l ∉ T.ix) (kt : Kp L ft) (ke : Kp L fe) (hs : ∀ x, foldedSetIterable iter X.env x = pure x := by intro _; rfl) :
    ER X g E (.ListComp elt [⟨tg, iter, ifs, 0⟩] scope pos) (lc fi T ft fe) := by
  refine PE_imp (pe_lc (te := tX X.K g noE (relD X.K) fe) hc hN hi ok hg ht he hs) fun σ H Q hq => ?_
  rw [hown]
  exact lc_read hT kL kt ke hq
end
end Pu
/-! Statements. -/
namespace Pu
open PySem PySem.Spec PyProof.Rows L2 Kv
inductive Fl where
  | nx (ρ : En)
  | rt (r : R) (ρ : En)
  | bk (ρ : En)
  | ct (ρ : En)
  | er (c : Value) (ns : List Str) (ds : List D) (ρ : En)
abbrev S := En → Option Fl
structure Sy (g : Gx) (σ : L2.St) (ρ : En) (ok : Addr → Prop) (H : Hp) (σ' : L2.St) (ρ' : En) (ok' : Addr → Prop) (H' : Hp) : Prop where
  fr : Fr ok H ok' H'
  keep : ∀ a o, H a = some o → ¬ wrs ρ σ a → KeptO ok H' a o
  sub : ∀ a, wrs ρ' σ' a → wrs ρ σ a ∨ H a = none
  grow : ∀ a o, H a = some o → ok' a → ok a ∨ wrs ρ σ a
  bor : ∀ i ∈ g.B, σ'[i]? = σ[i]?
  len : σ'.length = σ.length
section
variable {g : Gx} {σ : L2.St} {ρ : En} {ok : Addr → Prop} {H : Hp}
theorem Sx.y {ρ' : En} {ok' : Addr → Prop} {H' : Hp} (s : Sx σ ρ ok H ρ' ok' H') : Sy g σ ρ ok H σ ρ' ok' H' := ⟨s.fr, s.keep, fun a h => .inl (s.sub a h), s.grow, fun _ _ => rfl, rfl⟩
theorem Sy.refl : Sy g σ ρ ok H σ ρ ok H := Sx.refl.y
theorem Sy.trans {σ1 σ2 : L2.St} {ρ1 ρ2 : En} {ok1 ok2 : Addr → Prop} {H1 H2 : Hp} (a : Sy g σ ρ ok H σ1 ρ1 ok1 H1) (b : Sy g σ1 ρ1 ok1 H1 σ2 ρ2 ok2 H2) : Sy g σ ρ ok H σ2 ρ2 ok2 H2 := by
  refine ⟨a.fr.trans b.fr, fun c o h n => (a.keep c o h n).then (fun o' h' => b.keep c o' h' fun z => ?_) (fun z => (a.grow c o h z).elim id fun y => absurd y n), fun c h => ?_, fun c o h k => ?_, fun i hi => (b.bor i hi).trans (a.bor i hi), b.len.trans a.len⟩
  · rcases a.sub c z with z | z
    · exact n z
    · rw [z] at h; cases h
  · rcases b.sub c h with z | z
    · exact a.sub c z
    · exact .inr (a.fr.all c z)
  · obtain ⟨o', h'⟩ := a.fr.there h
    rcases b.grow c o' h' k with z | z
    · exact a.grow c o h z
    · rcases a.sub c z with z | z
      · exact .inr z
      · rw [z] at h; cases h
end
def Ss (K : PySem.W.Frag) (g : Gx) (E : Wx) (σ : L2.St) (ρ : En) (ok : Addr → Prop) (H : Hp) (o : Option Fl) (Dn : Ends) : Prop :=
  match o with
  | none => False
  | some (.nx ρ') => ∀ σ' H' ok', Wf K g ok' ρ' σ' H' → Sy g σ ρ ok H σ' ρ' ok' H' → Dn.nx σ' H'
  | some (.bk ρ') => ∀ σ' H' ok', Wf K g ok' ρ' σ' H' → Sy g σ ρ ok H σ' ρ' ok' H' → Dn.bk σ' H'
  | some (.ct ρ') => ∀ σ' H' ok', Wf K g ok' ρ' σ' H' → Sy g σ ρ ok H σ' ρ' ok' H' → Dn.ct σ' H'
  | some (.rt r ρ') => ∀ v σ' H' ok', Wf K g ok' ρ' σ' H' → Sy g σ ρ ok H σ' ρ' ok' H' → relR K g.H0 ok' H' ρ' σ' v r → Dn.rt v H'
  | some (.er c ns ds ρ') => ∀ dx fs σ' H' ok', Wf K g ok' ρ' σ' H' → Sy g σ ρ ok H σ' ρ' ok' H' → H' dx = some (.xd fs) → fs.map (·.1) = ns → Reps K ok' H' (fs.map (·.2)) ds → E σ' c (some dx) H'
def tS (K : PySem.W.Frag) (g : Gx) (E : Wx) (f : S) : TS := fun Dn σ H => ∃ ok ρ, Wf K g ok ρ σ H ∧ Ss K g E σ ρ ok H (f ρ) Dn
abbrev ES (X : Cx) (g : Gx) (E : Wx) (st : Stmt) (f : S) : Prop := PS X st (tS X.K g E f)
abbrev ESs (X : Cx) (g : Gx) (E : Wx) (st : List Stmt) (f : S) : Prop := PSs X st (tS X.K g E f)
section
variable {K : PySem.W.Frag} {g : Gx} {E : Wx} {σ σ1 : L2.St} {ρ ρ1 : En} {ok ok1 : Addr → Prop} {H H1 : Hp}
theorem Ss.shift {o : Option Fl} {Dn : Ends} (h : Ss K g E σ ρ ok H o Dn) (s : Sy g σ ρ ok H σ1 ρ1 ok1 H1) : Ss K g E σ1 ρ1 ok1 H1 o Dn := by
  match o, h with
  | some (.nx ρ'), h => exact fun σ' H' ok' w f => h σ' H' ok' w (s.trans f)
  | some (.bk ρ'), h => exact fun σ' H' ok' w f => h σ' H' ok' w (s.trans f)
  | some (.ct ρ'), h => exact fun σ' H' ok' w f => h σ' H' ok' w (s.trans f)
  | some (.rt r ρ'), h => exact fun v σ' H' ok' w f => h v σ' H' ok' w (s.trans f)
  | some (.er c ns ds ρ'), h => exact fun dx fs σ' H' ok' w f => h dx fs σ' H' ok' w (s.trans f)
end
/-! ### blocks -/
def sk : S := fun ρ => some (.nx ρ)
def sq (f k : S) : S := fun ρ => match f ρ with
  | some (.nx ρ') => k ρ'
  | o => o
def sb {α : Type} (f : P α) (k : α → S) : S := fun ρ => match f ρ with
  | none => none
  | some (.er c ns ds ρ') => some (.er c ns ds ρ')
  | some (.ok a ρ') => k a ρ'
theorem sb_ok {α : Type} {m : P α} {k : α → S} {ρ ρ' : En} {a : α} (h : m ρ = some (.ok a ρ')) : sb m k ρ = k a ρ' := by unfold sb; rw [h]
theorem sb_er {α : Type} {m : P α} {k : α → S} {ρ ρ' : En} {c : Value} {ns : List Str} {ds : List D} (h : m ρ = some (.er c ns ds ρ')) : sb m k ρ = some (.er c ns ds ρ') := by unfold sb; rw [h]
theorem sb_none {α : Type} {m : P α} {k : α → S} {ρ : En} (h : m ρ = none) : sb m k ρ = none := by unfold sb; rw [h]
section
variable {X : Cx} {g : Gx} {E : Wx} {st : Stmt} {rest : List Stmt} {f k : S} {e : Expr} {pos : Pos}
theorem PS_imp {t t' : TS} (h : PS X st t) (q : ∀ Dn σ H, t' Dn σ H → t Dn σ H) : PS X st t' := ⟨fun pins s σ H Dn I z => h.run pins s σ H Dn I (q Dn σ H z)⟩
theorem PSs_imp {t t' : TS} (h : PSs X rest t) (q : ∀ Dn σ H, t' Dn σ H → t Dn σ H) : PSs X rest t' := ⟨fun pins s σ H Dn I z => h.run pins s σ H Dn I (q Dn σ H z)⟩
theorem ess_nil : ESs X g E [] sk := PSs_imp pss_nil fun Dn σ H hq => by
  obtain ⟨ok, ρ, w, h⟩ := hq
  exact h σ H ok w Sy.refl
theorem ess_cons (h1 : ES X g E st f) (h2 : ESs X g E rest k) : ESs X g E (st :: rest) (sq f k) := by
  refine PSs_imp (pss_cons h1 h2) fun Dn σ H hq => ?_
  obtain ⟨ok, ρ, w, h⟩ := hq
  refine ⟨ok, ρ, w, ?_⟩
  unfold sq at h
  cases e : f ρ with
  | none => simp only [e] at h; exact h
  | some x =>
    cases x with
    | nx ρ' => simp only [e] at h; exact fun σ' H' ok' w' s' => ⟨ok', ρ', w', h.shift s'⟩
    | rt r ρ' => simp only [e] at h; exact h
    | bk ρ' => simp only [e] at h; exact h
    | ct ρ' => simp only [e] at h; exact h
    | er c ns ds ρ' => simp only [e] at h; exact h
theorem ess_one (h1 : ES X g E st f) : ESs X g E [st] f := pss_one h1
theorem Ss.sb {γ α : Type} {K : PySem.W.Frag} {σ : L2.St} {ρ : En} {ok : Addr → Prop} {H : Hp} {RA : Rl γ α} {m : P α} {k : α → S} {Dn : Ends} (h : Ss K g E σ ρ ok H (sb m k ρ) Dn) :
    Rs K g E RA σ ρ ok H (m ρ) (fun v1 H1 => ∃ ok1 ρ1 a, Wf K g ok1 ρ1 σ H1 ∧ Sx σ ρ ok H ρ1 ok1 H1 ∧ RA H ok1 H1 ρ1 σ v1 a ∧ Ss K g E σ ρ1 ok1 H1 (k a ρ1) Dn) := by
  cases e : m ρ with
  | none => rw [sb_none e] at h; exact h
  | some x =>
    cases x with
    | ok a ρ' =>
      rw [sb_ok e] at h
      exact fun v H' ok' w f r => ⟨ok', ρ', a, w, f, r, h.shift f.y⟩
    | er c ns ds ρ' => rw [sb_er e] at h; exact fun dx fs H' ok' w f => h dx fs σ H' ok' w f.y
theorem es_expr {fe : P D} (he : EV X g E e fe) (hs : swapsWith e none pos.line X.env = pure false := by rfl) : ES X g E (.Expr e pos) (sb fe fun _ => sk) := by
  refine PS_imp (ps_expr he hs) fun Dn σ H hq => ?_
  obtain ⟨ok, ρ, w, h⟩ := hq
  refine ⟨ok, ρ, w, (Ss.sb (RA := relD X.K) h).mono fun v H1 hq => ?_⟩
  obtain ⟨ok1, ρ1, a, w1, s1, r1, h1⟩ := hq
  exact h1 σ H1 ok1 w1 Sy.refl
theorem es_if {c : Expr} {a b : List Stmt} {A : P Bool} {fa fb : S} (hc : ET X g E c A) (ha : ESs X g E a fa) (hb : ESs X g E b fb) : ES X g E (.If c a b pos) (sb A fun c => if c = true then fa else fb) := by
  refine PS_imp (ps_if hc ha hb) fun Dn σ H hq => ?_
  obtain ⟨ok, ρ, w, h⟩ := hq
  refine ⟨ok, ρ, w, (Ss.sb (RA := relB) h).mono fun v H1 hq => ?_⟩
  obtain ⟨ok1, ρ1, x, w1, s1, r1, h1⟩ := hq
  have r1 : v = x := r1
  subst r1
  cases v with
  | true => exact ⟨ok1, ρ1, w1, h1⟩
  | false => exact ⟨ok1, ρ1, w1, h1⟩
/-! ### return -/
theorem es_ret {fe : P R} (he : ER X g E e fe) : ES X g E (.Return (some e) pos) (sb fe fun r ρ => some (.rt r ρ)) := by
  refine PS_imp (ps_ret he) fun Dn σ H hq => ?_
  obtain ⟨ok, ρ, w, h⟩ := hq
  refine ⟨ok, ρ, w, ?_⟩
  cases e : fe ρ with
  | none => rw [sb_none e] at h; exact h
  | some x =>
    cases x with
    | ok r ρ' =>
      rw [sb_ok e] at h
      exact fun v H' ok' w' s' r' => h v σ H' ok' w' s'.y (monoR _ _ _ _ _ _ _ _ (fun a ha => w.h0 a ha) r')
    | er c ns ds ρ' => rw [sb_er e] at h; exact fun dx fs H' ok' w' s' => h dx fs σ H' ok' w' s'.y
def mv (i : Nat) : P R := fun ρ => match ρ[i]? with
  | some (.val d) => some (.ok (.val d) ρ)
  | some (.own d) => some (.ok (.own d) (ρ.set i .un))
  | _ => none
theorem es_retV {i : Nat} {x : Str} {p : Pos} (hN : X.N[i]? = some x) (hv : Vis X.env.scope x) (hB : i ∉ g.B) (hd : (x == ("__debug__" : Str)) = false := by decide) (hcd : (x == ("__classdict__" : Str)) = false := by decide) :
    ES X g E (.Return (some (.Name x p)) pos) (sb (mv i) fun r ρ => some (.rt r ρ)) := by
  refine PS_imp (ps_ret (pe_var hN hv hd hcd)) fun Dn σ H hq => ?_
  obtain ⟨ok, ρ, w, h⟩ := hq
  unfold sb mv at h
  cases e : ρ[i]? with
  | none => rw [e] at h; exact h.elim
  | some s =>
    rw [e] at h
    cases s with
    | un => exact h.elim
    | val d =>
      obtain ⟨v, ev, r⟩ := w.val i d e
      exact ⟨v, ev, h v σ H ok w Sy.refl r⟩
    | own d =>
      obtain ⟨q, eq, o, nk, hb⟩ := w.own i d e
      refine ⟨_, eq, h _ σ H ok w.drop Sx.drop.y ⟨q, rfl, o, nk, hb.elim (fun z => absurd z hB) id, fun j d' hj z => ?_⟩⟩
      have nj : j ≠ i := fun y => by subst y; cases get_set_self hj
      rw [List.getElem?_set_ne (Ne.symm nj)] at hj
      exact nj (w.apart j i d' d q hj e z eq)
/-! ### name = value -/
def put (i : Nat) (r : R) : S := fun ρ => some (.nx (ρ.set i (match r with | .val d => .val d | .own d => .own d)))
theorem put_ok {K : PySem.W.Frag} {i : Nat} {r : R} {ok : Addr → Prop} {H0 H : Hp} {ρ : En} {σ : L2.St} {v : V} {Dn : Ends} (w : Wf K g ok ρ σ H) (hr : relR K H0 ok H ρ σ v r) (h0 : ∀ a, H0 a = none → g.H0 a = none)
    (ha : ∀ a, H0 a = none → ∀ o, H a = some o → True) (hB : i ∉ g.B) (hn : ∀ q, v = .ref q → r = .own r.d → H0 q = none) {H1 : Hp} {ok1 : Addr → Prop} {ρ1 : En} (s : Sx σ ρ1 ok1 H1 ρ ok H) (e1 : H0 = H1) (h : Ss K g E σ ρ1 ok1 H1 (put i r ρ) Dn) :
    Dn.nx (σ.set i (some v)) H := by
  subst e1
  have bor : ∀ j ∈ g.B, (σ.set i (some v))[j]? = σ[j]? := fun j hj => by rw [List.getElem?_set_ne (fun z => hB (by rw [z]; exact hj))]
  cases r with
  | val d =>
    refine h _ H ok (w.set hr) ⟨s.fr, s.keep, fun a ha => ?_, s.grow, bor, List.length_set ..⟩
    obtain ⟨j, d', h1, h2⟩ := ha
    have nj : j ≠ i := fun y => by subst y; cases get_set_self h1
    rw [List.getElem?_set_ne (Ne.symm nj)] at h1 h2
    exact .inl (s.sub a ⟨j, d', h1, h2⟩)
  | own d =>
    obtain ⟨q, rfl, o, nk, n0, np⟩ := hr
    refine h _ H ok (w.setO o nk (h0 q n0) np) ⟨s.fr, s.keep, fun a ha => ?_, s.grow, bor, List.length_set ..⟩
    obtain ⟨j, d', h1, h2⟩ := ha
    by_cases nj : j = i
    · subst nj
      have := get_set_self h2
      cases this
      exact .inr n0
    · rw [List.getElem?_set_ne (Ne.symm nj)] at h1 h2
      exact .inl (s.sub a ⟨j, d', h1, h2⟩)
theorem tX_put {fe : P R} {i : Nat} {σ : L2.St} {H : Hp} {Dn : Ends} (hB : i ∉ g.B) (hq : tS X.K g E (sb fe fun r => put i r) Dn σ H) : tX X.K g E (relR X.K) fe σ H (fun x H1 => gName i x σ H1 Dn.nx) := by
  obtain ⟨ok, ρ, w, h⟩ := hq
  refine ⟨ok, ρ, w, ?_⟩
  cases e : fe ρ with
  | none => rw [sb_none e] at h; exact h
  | some x =>
    cases x with
    | ok r ρ' =>
      rw [sb_ok e] at h
      intro v H' ok' w' s' r'
      exact put_ok w' r' (fun a ha => w.h0 a ha) (fun _ _ _ _ => trivial) hB (fun q hv hr => by
        cases r with
        | val d => cases hr
        | own d => obtain ⟨q', e', _, _, n0, _⟩ := r'; rw [hv] at e'; cases e'; exact n0) s' rfl h
    | er c ns ds ρ' => rw [sb_er e] at h; exact fun dx fs H' ok' w' s' => h dx fs σ H' ok' w' s'.y
theorem es_set {i : Nat} {x : Str} {fe : P R} {pos' : Pos} (hN : X.N.Nodup) (hi : X.N[i]? = some x) (hx : Loc X.env.scope x) (hB : i ∉ g.B) (he : ER X g E e fe) (hs : swapsWith e (some (.Name x pos')) pos.line X.env = pure false := by rfl)
    (hf : X.fn x = true ∨ X.env.scope.names.lookup x = some .local := by first | exact .inl rfl | exact .inr rfl | assumption) : ES X g E (.Assign [.Name x pos'] e pos) (sb fe fun r => put i r) :=
  PS_imp (ps_set hN hi hx he hs hf) fun Dn σ H hq => tX_put hB hq
theorem es_setLc {i : Nat} {y : Str} {py : Pos} {elt tg iter : Expr} {ifs : List Expr} {scope : Scope} {own : List (Str × Nat)} {pos spos : Pos} {fi : P (List D)} {T : Tg} {ft : P Bool} {fe : P D} {gt : TG} {L : List Nat}
    (hc : X.calm = true) (hN : X.N.Nodup) (hy : X.N[i]? = some y) (hyl : X.env.scope.names.lookup y = some .local) (hB : i ∉ g.B)
    (hsw : swapsWith (.ListComp elt [⟨tg, iter, ifs, 0⟩] scope pos) (some (.Name y py)) spos.line X.env = pure true) (hi : EI X g E L tg iter fi) (ok : BlkOk X.N X.env.scope scope own) (hT : TgOk X.K gt T) (hown : own.map (·.2) = T.ix)
    (hg : ∀ (s : Shared) (H : Hp) (C : Addr) (cl : List (Str × Addr)) (fp : List Addr), PG (X.blk s H scope (compEnvC scope cl C X.env) fp) tg gt)
    (ht : ∀ (s : Shared) (H : Hp) (C : Addr) (cl : List (Str × Addr)) (fp : List Addr), PTs (X.blk s H scope (compEnvC scope cl C X.env) fp) ifs (tX X.K g noE relB ft))
    (he : ∀ (s : Shared) (H : Hp) (C : Addr) (cl : List (Str × Addr)) (fp : List Addr), EV (X.blk s H scope (compEnvC scope cl C X.env) fp) g noE elt fe)
    (kL : ∀ l ∈ L, l ∉ T.ix) (kt : Kp L ft) (ke : Kp L fe) (hs : ∀ x, foldedSetIterable iter X.env x = pure x := by intro _; rfl) :
    ES X g E (.Assign [.Name y py] (.ListComp elt [⟨tg, iter, ifs, 0⟩] scope pos) spos) (sb (lc fi T ft fe) fun r => put i r) := by
  refine PS_imp (ps_setLc (te := tX X.K g noE (relD X.K) fe) hc hN hy hyl hsw hi ok hg ht he hs) fun Dn σ H hq => ?_
  rw [hown]
  exact lc_read (X := X) (E := E) (Q := fun x H1 => gName i x σ H1 Dn.nx) hT kL kt ke (tX_put hB hq)
def unp (T : Tg) (d : D) : S := fun ρ => (gset T d ρ).map .nx
theorem es_tup {tg : Expr} {T : Tg} {gt : TG} {fe : P D} (he : EV X g E e fe) (hg : PG X tg gt) (hT : TgOk X.K gt T) (hB : ∀ i ∈ g.B, i ∉ T.ix) (hs : swapsWithSole [tg] e pos.line X.env = pure false := by rfl) (hw : swappedStores [tg] e X.env = pure none := by rfl)
    (h1 : (assignEach [tg] X.env).map (·.2) = [assign tg X.env] := by rfl) : ES X g E (.Assign [tg] e pos) (sb fe fun d => unp T d) := by
  refine PS_imp (ps_asg he hg hs hw h1) fun Dn σ H hq => ?_
  obtain ⟨ok, ρ, w, h⟩ := hq
  refine ⟨ok, ρ, w, (Ss.sb (RA := relD X.K) h).mono fun v H1 hq => ?_⟩
  obtain ⟨ok1, ρ1, d, w1, s1, r1, h1⟩ := hq
  unfold unp at h1
  cases eg : gset T d ρ1 with
  | none => rw [eg] at h1; exact h1.elim
  | some ρ2 =>
    rw [eg] at h1
    refine hT g ok1 ρ1 σ H1 v d ρ2 _ w1 r1 eg fun σ' w' hl hk => h1 σ' H1 ok1 w' ⟨Fr.refl, fun _ _ h _ => .inl h, fun a ha => .inl (gset_own eg σ' hk ha), fun _ _ _ k => .inl k, fun i hi => hk i (hB i hi), hl⟩
end
end Pu
/-! Loops; lists and dicts that are written. -/
namespace Pu
open PySem PySem.Spec PyProof.Rows L2 Kv
def frL (T : Tg) (body : S) : List D → En → Option Fl
  | [], ρ => some (.nx ρ)
  | d :: ds, ρ => match gset T d ρ with
    | none => none
    | some ρ1 => match body ρ1 with
      | none => none
      | some (.nx ρ2) => frL T body ds ρ2
      | some (.ct ρ2) => frL T body ds ρ2
      | some (.bk ρ2) => some (.nx ρ2)
      | some (.rt r ρ2) => some (.rt r ρ2)
      | some (.er c ns es ρ2) => some (.er c ns es ρ2)
def Kps (L : List Nat) (f : S) : Prop := ∀ ρ ρ', (f ρ = some (.nx ρ') ∨ f ρ = some (.ct ρ')) → ∀ l ∈ L, ρ'[l]? = ρ[l]?
def Fl.en : Fl → En
  | .nx ρ' => ρ'
  | .rt _ ρ' => ρ'
  | .bk ρ' => ρ'
  | .ct ρ' => ρ'
  | .er _ _ _ ρ' => ρ'
def Kow (L : List Nat) (f : S) : Prop := ∀ l ∈ L, ∀ (ρ : En) (o : Fl), f ρ = some o → ∀ (d : D), o.en[l]? = some (.own d) → ∃ d', ρ[l]? = some (.own d')
abbrev Gx.plus (g : Gx) (L : List Nat) : Gx := ⟨g.H0, L ++ g.B, g.T⟩
section
variable {X : Cx} {g : Gx} {E : Wx}
theorem Sy.plus {L : List Nat} {σ σ' : L2.St} {ρ ρ' : En} {ok ok' : Addr → Prop} {H H' : Hp} (s : Sy (g.plus L) σ ρ ok H σ' ρ' ok' H') : Sy g σ ρ ok H σ' ρ' ok' H' :=
  ⟨s.fr, s.keep, s.sub, s.grow, fun i hi => s.bor i (List.mem_append_right _ hi), s.len⟩
theorem Wf.plus {K : PySem.W.Frag} {L : List Nat} {σ : L2.St} {ρ : En} {ok : Addr → Prop} {H : Hp} (w : Wf K g ok ρ σ H) : Wf K (g.plus L) ok ρ σ H :=
  ⟨w.len, w.fc, w.h0, w.val, fun i d h => by
    obtain ⟨q, e, o, n, b⟩ := w.own i d h
    exact ⟨q, e, o, n, b.imp (fun z => List.mem_append_right _ z) id⟩, w.apart, w.tb⟩
theorem Wf.minus {K : PySem.W.Frag} {L : List Nat} {σ σ' : L2.St} {ρ ρ' : En} {ok ok' : Addr → Prop} {H H' : Hp} (w : Wf K g ok ρ σ H) (hs : ∀ l ∈ L, σ'[l]? = σ[l]?) (hr : ∀ l ∈ L, ∀ d, ρ'[l]? = some (.own d) → ∃ d', ρ[l]? = some (.own d')) (w' : Wf K (g.plus L) ok' ρ' σ' H') : Wf K g ok' ρ' σ' H' :=
  ⟨w'.len, w'.fc, w'.h0, w'.val, fun i d h => by
    obtain ⟨q, e, o, n, b⟩ := w'.own i d h
    refine ⟨q, e, o, n, ?_⟩
    rcases b with b | b
    · rcases List.mem_append.mp b with z | z
      · obtain ⟨d', h'⟩ := hr i z d h
        obtain ⟨q', e', _, _, b'⟩ := w.own i d' h'
        rw [hs i z, e'] at e
        cases e
        exact b'
      · exact .inl z
    · exact .inr b, w'.apart, w'.tb⟩
theorem frL_cons {T : Tg} {body : S} {d : D} {ds : List D} {ρ ρ1 : En} (h : gset T d ρ = some ρ1) : frL T body (d :: ds) ρ = match body ρ1 with
      | none => none
      | some (.nx ρ2) => frL T body ds ρ2
      | some (.ct ρ2) => frL T body ds ρ2
      | some (.bk ρ2) => some (.nx ρ2)
      | some (.rt r ρ2) => some (.rt r ρ2)
      | some (.er c ns es ρ2) => some (.er c ns es ρ2) := by
  show (match gset T d ρ with
    | none => none
    | some ρ1 => _) = _
  rw [h]
theorem es_for {iter tg : Expr} {body : List Stmt} {pos : Pos} {fi : P (List D)} {T : Tg} {gt : TG} {fb : S} {L : List Nat} (hp : PassesOwn (model X.prog X.w) X.A X.env X.xe) (hc : X.calm = true) (hi : EI X g E L tg iter fi) (hg : PG X tg gt) (hT : TgOk X.K gt T)
    (hb : ESs X (g.plus L) E body fb) (hB : ∀ i ∈ L ++ g.B, i ∉ T.ix) (kb : Kps L fb) (ko : Kow L fb)
    (hs : ∀ x, foldedSetIterable iter X.env x = pure x := by intro _; rfl) : ES X g E (.For tg iter body [] pos) (sb fi fun ds => frL T fb ds) := by
  refine PS_imp (ps_for hp hc hi hg hb hs) fun Dn σ H hq => ?_
  obtain ⟨ok, ρ, w, h⟩ := hq
  refine ⟨ok, ρ, w, ?_⟩
  cases e : fi ρ with
  | none => rw [sb_none e] at h; exact h
  | some x =>
    cases x with
    | er c ns ds ρ' => rw [sb_er e] at h; exact fun dx fs H' ok' w' s' => h dx fs σ H' ok' w' s'.y
    | ok ds ρ1 =>
      rw [sb_ok e] at h
      intro J H1 ok1 w1 s1 wk
      have h1 := h.shift s1.y
      generalize ho : frL T fb ds ρ1 = o at h1
      let Pv : Nat → L2.St → Hp → Prop := fun i σi Hi => ∃ oki ρi, frL T fb (ds.drop i) ρi = o ∧ Wf X.K (g.plus L) oki ρi σi Hi ∧ Sy (g.plus L) σ ρ1 ok1 H1 σi ρi oki Hi ∧ ∀ l ∈ L, ρi[l]? = ρ1[l]?
      refine ⟨fun i m σi Hi => m = ds.length - i ∧ i ≤ ds.length ∧ Pv i σi Hi, ⟨ds.length, by simp, Nat.zero_le _, ok1, ρ1, ho, w1.plus, Sy.refl, fun _ _ => rfl⟩, ?_⟩
      rintro i m σi Hi ⟨rfl, hi2, oki, ρi, hl, wi, si, li⟩
      have sL : ∀ l ∈ L, σi[l]? = σ[l]? := fun l hl => si.bor l (List.mem_append_left _ hl)
      have wk2 := wk oki ρi σi Hi (w1.minus sL (fun l hl d hd => ⟨d, by rw [← li l hl]; exact hd⟩) wi) si.fr fun l hl => ⟨li l hl, sL l hl⟩
      by_cases hlt : i < ds.length
      · refine .inr ⟨wk2.1 i hlt, Pv (i + 1), fun σ' H' p' => ⟨ds.length - (i + 1), by omega, rfl, hlt, p'⟩, fun x H3 hy => ?_⟩
        have hd : ds[i]? = some ds[i] := List.getElem?_eq_getElem hlt
        obtain ⟨h3, rx⟩ := wk2.2.2 i _ x H3 hd hy
        rw [List.drop_eq_getElem_cons hlt] at hl
        have s23 : Wf X.K (g.plus L) oki ρi σi H3 ∧ Sx σi ρi oki Hi ρi oki H3 := by
          rcases h3 with rfl | ⟨p, o', np, rfl⟩
          · exact ⟨wi, Sx.refl⟩
          · exact ⟨wi.new np, Sx.new np⟩
        obtain ⟨w3, s3⟩ := s23
        cases eg : gset T ds[i] ρi with
        | none =>
          have : frL T fb (ds[i] :: ds.drop (i + 1)) ρi = none := by
            show (match gset T ds[i] ρi with
              | none => none
              | some ρ1 => _) = none
            rw [eg]
          rw [this] at hl
          rw [← hl] at h1
          exact h1.elim
        | some ρ3 =>
          rw [frL_cons eg] at hl
          refine hT (g.plus L) oki _ _ H3 x _ ρ3 _ w3 rx eg fun σ2 w4 ln2 ag2 => ⟨oki, ρ3, w4, ?_⟩
          have l3 : ∀ l ∈ L, ρ3[l]? = ρ1[l]? := fun l hl => by rw [gset_keep eg (hB l (List.mem_append_left _ hl))]; exact li l hl
          have s4 : Sy (g.plus L) σ ρ1 ok1 H1 σ2 ρ3 oki H3 := si.trans (s3.y.trans ⟨Fr.refl, fun _ _ h _ => .inl h, fun a ha => .inl (gset_own eg σ2 ag2 ha), fun _ _ _ k => .inl k, fun j hj => ag2 j (hB j hj), ln2⟩)
          have dn : ∀ {ρ5 : En} {σ5 : L2.St} {ok5 : Addr → Prop} {H5 : Hp}, (∀ l ∈ L, ∀ d, ρ5[l]? = some (.own d) → ∃ d', ρ3[l]? = some (.own d')) → Wf X.K (g.plus L) ok5 ρ5 σ5 H5 → Sy (g.plus L) σ2 ρ3 oki H3 σ5 ρ5 ok5 H5 → Wf X.K g ok5 ρ5 σ5 H5 ∧ Sy g σ ρ1 ok1 H1 σ5 ρ5 ok5 H5 := fun {ρ5 σ5 ok5 H5} ho5 w5 s5 => by
            have s6 := s4.trans s5
            refine ⟨w1.minus (fun l hl => s6.bor l (List.mem_append_left _ hl)) (fun l hl d hd => ?_) w5, s6.plus⟩
            obtain ⟨d', hd'⟩ := ho5 l hl d hd
            exact ⟨d', by rw [← l3 l hl]; exact hd'⟩
          cases eb : fb ρ3 with
          | none => simp only [eb] at hl; rw [← hl] at h1; exact h1.elim
          | some fl =>
            have ko3 := fun l hl => ko l hl ρ3 fl eb
            cases fl with
            | nx ρ4 => simp only [eb] at hl; exact fun σ' H' ok' w' s' => ⟨ok', ρ4, hl, w', s4.trans s', fun l hl => by rw [kb ρ3 ρ4 (.inl eb) l hl]; exact l3 l hl⟩
            | ct ρ4 => simp only [eb] at hl; exact fun σ' H' ok' w' s' => ⟨ok', ρ4, hl, w', s4.trans s', fun l hl => by rw [kb ρ3 ρ4 (.inr eb) l hl]; exact l3 l hl⟩
            | bk ρ4 =>
              simp only [eb] at hl
              rw [← hl] at h1
              exact fun σ' H' ok' w' s' => h1 σ' H' ok' (dn ko3 w' s').1 (dn ko3 w' s').2
            | rt r ρ4 =>
              simp only [eb] at hl
              rw [← hl] at h1
              exact fun v σ' H' ok' w' s' r' => h1 v σ' H' ok' (dn ko3 w' s').1 (dn ko3 w' s').2 r'
            | er c ns es ρ4 =>
              simp only [eb] at hl
              rw [← hl] at h1
              exact fun dx fs σ' H' ok' w' s' => h1 dx fs σ' H' ok' (dn ko3 w' s').1 (dn ko3 w' s').2
      · have hi3 : i = ds.length := by omega
        subst hi3
        rw [List.drop_length] at hl
        have hl : some (Fl.nx ρi) = o := hl
        rw [← hl] at h1
        exact .inl ⟨wk2.2.1, h1 σi Hi oki (w1.minus sL (fun l hl d hd => ⟨d, by rw [← li l hl]; exact hd⟩) wi) si.plus⟩
theorem es_for0 {iter tg : Expr} {body : List Stmt} {pos : Pos} {fi : P (List D)} {T : Tg} {gt : TG} {fb : S} (hp : PassesOwn (model X.prog X.w) X.A X.env X.xe) (hc : X.calm = true) (hi : EI X g E [] tg iter fi) (hg : PG X tg gt) (hT : TgOk X.K gt T)
    (hb : ESs X g E body fb) (hB : ∀ i ∈ g.B, i ∉ T.ix) (hs : ∀ x, foldedSetIterable iter X.env x = pure x := by intro _; rfl) : ES X g E (.For tg iter body [] pos) (sb fi fun ds => frL T fb ds) :=
  es_for (L := []) hp hc hi hg hT hb hB (fun _ _ _ l hl => by cases hl) (fun l hl => by cases hl) hs
/-! ### a list of one's own, written -/
def OwM (K : PySem.W.Frag) (r : V → List V → Hp → VK → Prop) (step : List D → List D → Option (D × List D)) : Prop := ∀ (ok : Addr → Prop) (H : Hp) (q : Addr) (vs : List V) (xs : List D) (ws : List V) (ds : List D) (d : D) (xs' : List D) (Q : VK),
  H q = some (.lst vs) → Reps K ok H vs xs → Reps K ok H ws ds → step xs ds = some (d, xs') → (∀ v vs', Reps K ok H vs' xs' → Rep K ok H v d → Q v (upd H q (.lst vs'))) → r (.ref q) ws H Q
def ownL (i : Nat) : P Unit := fun ρ => match ρ[i]? with
  | some (.own (.lst _)) => some (.ok () ρ)
  | _ => none
def mutL (i : Nat) (step : List D → List D → Option (D × List D)) (ds : List D) : P D := fun ρ => match ρ[i]? with
  | some (.own (.lst xs)) => match step xs ds with
    | some (d, xs') => some (.ok d (ρ.set i (.own (.lst xs'))))
    | none => none
  | _ => none
def mtt (i : Nat) (fr : P (List D)) (step : List D → List D → Option (D × List D)) : P D := bnd (ownL i) fun _ => bnd fr fun ds => mutL i step ds
theorem ownL_inv {i : Nat} {ρ : En} {x : Ex Unit} (h : ownL i ρ = some x) : x = .ok () ρ ∧ ∃ xs, ρ[i]? = some (.own (.lst xs)) := by
  unfold ownL at h
  split at h
  · cases h; exact ⟨rfl, _, by assumption⟩
  · cases h
theorem mutL_inv {i : Nat} {step : List D → List D → Option (D × List D)} {ds : List D} {ρ : En} {x : Ex D} (h : mutL i step ds ρ = some x) : ∃ xs d xs', ρ[i]? = some (.own (.lst xs)) ∧ step xs ds = some (d, xs') ∧ x = .ok d (ρ.set i (.own (.lst xs'))) := by
  unfold mutL at h
  split at h
  · split at h
    · cases h; exact ⟨_, _, _, by assumption, by assumption, rfl⟩
    · cases h
  · cases h
theorem mut_end {K : PySem.W.Frag} {r : V → List V → Hp → VK → Prop} {step : List D → List D → Option (D × List D)} (hm : OwM K r step) {i : Nat} {ds : List D} {ok : Addr → Prop} {ρ : En} {σ : L2.St} {H : Hp} {q : Addr} {ws : List V} {Q : VK} (w : Wf K g ok ρ σ H) (hq : σ[i]? = some (some (.ref q)))
    (rw' : Reps K ok H ws ds) (h : Rs K g E (relD K) σ ρ ok H (mutL i step ds ρ) Q) : r (.ref q) ws H Q := by
  cases e : mutL i step ds ρ with
  | none => rw [e] at h; exact h.elim
  | some x =>
    rw [e] at h
    obtain ⟨xs, d, xs', hi, hs, rfl⟩ := mutL_inv e
    obtain ⟨q', e', o, nk, _⟩ := w.own i _ hi
    rw [hq] at e'
    cases e'
    obtain ⟨vs, hv, rv⟩ := id o
    refine hm ok H q vs xs ws ds d xs' Q hv rv rw' hs fun v vs' r1 r2 => ?_
    have f : Fr ok H ok (upd H q (.lst vs')) := .of (fun a x ha hk => by
        have : a ≠ q := fun z => by
          subst z
          rw [hv] at ha
          cases ha
          exact nk (hk trivial)
        rw [upd_ne this]; exact ha) (fun _ _ _ k => k) (fun a ha => by
      by_cases z : a = q
      · rw [z, upd_same] at ha; cases ha
      · rw [upd_ne z] at ha; exact ha)
    have ow : OwnAt K ok (upd H q (.lst vs')) q (.lst xs') := ⟨vs', upd_same, r1.fr f⟩
    exact h v _ ok (w.write hi hq ow).1 (Sx.write w hi hq ow) (r2.fr f)
theorem ev_mut {i : Nat} {x m : Str} {id : String} {p apos cpos : Pos} {e : Expr} {es : List Expr} {fr : P (List D)} {r : V → List V → Hp → VK → Prop} {step : List D → List D → Option (D × List D)} (hN : X.N[i]? = some x) (hv : Vis X.env.scope x)
    (slot : PySem.Slot "list" m id) (hty : typeOf (.builtin id) = pure (.type "method_descriptor")) (hr : MtR X id r) (hm : OwM X.K r step) (ha : EA X g E (e :: es) fr)
    (hd : (x == ("__debug__" : Str)) = false := by decide) (hcd : (x == ("__classdict__" : Str)) = false := by decide)
    (hbase : attributeBase (.Name x p) m X.env (eval (.Name x p) X.env) = eval (.Name x p) X.env := by rfl)
    (hfew : ((backTo cpos (starEach (e :: es) X.env)).all (fun x => !x.1) && (backToKw cpos (keywordEach [] X.env)).all (fun x => x.1.isSome)
      && decide ((e :: es).length + ([] : List Keyword).length + (if ([] : List Keyword).isEmpty then 0 else 1) < 30)) = true := by rfl)
    (hline : (apos.endLine == cpos.line) = true := by rfl) (hs : starEach (e :: es) X.env = (false, eval e X.env) :: starEach es X.env := by rfl) (hplain : (backTo cpos (starEach es X.env)).any (·.1) = false := by rfl) :
    EV X g E (.Call (.Attribute (.Name x p) m apos) (e :: es) [] cpos) (mtt i fr step) := by
  refine PE_imp (pe_bm PySem.F.plainAttrs_list slot hty hr (pe_var hN hv hd hcd) ha hbase hfew hline hs hplain) fun σ H Q hq => ?_
  obtain ⟨ok, ρ, w, h⟩ := hq
  unfold mtt at h
  cases e0 : ownL i ρ with
  | none => rw [bnd_none e0] at h; exact h.elim
  | some t =>
    obtain ⟨rfl, xs, hi⟩ := ownL_inv e0
    rw [bnd_ok e0] at h
    obtain ⟨q, eq, o, nk, _⟩ := w.own i _ hi
    obtain ⟨vs, hvs, _⟩ := o
    refine ⟨_, eq, .inl ⟨rfl, vs, .inl (.inl hvs)⟩, ok, ρ, w, (Rs.bnd (RA := relA X.K) h).mono fun ws H1 hq => ?_⟩
    obtain ⟨ok1, ρ1, ds, w1, s1, r1, h1⟩ := hq
    exact mut_end hm w1 eq r1 h1
theorem Reps.erase {K : PySem.W.Frag} {ok : Addr → Prop} {H : Hp} : ∀ {vs : List V} {ds : List D} (n : Nat), Reps K ok H vs ds → Reps K ok H (vs.eraseIdx n) (ds.eraseIdx n)
  | _, _, _, .nil => .nil
  | _, _, 0, .cons _ t => t
  | _, _, n + 1, .cons a t => .cons a (Reps.erase n t)
def stPop (xs : List D) : List D → Option (D × List D)
  | [x] => match x with
    | .int i => if -(2 ^ 63) ≤ i ∧ i < 2 ^ 63 then (seqIndex? i xs.length).bind fun k => (xs[k]?).map fun y => (y, xs.eraseIdx k) else none
    | _ => none
  | _ => none
theorem om_pop {K : PySem.W.Frag} : OwM K rPopAt stPop := by
  intro ok H q vs xs ws ds d xs' Q hv rv rw' hs k
  cases rw' with
  | nil => cases hs
  | cons r1 rr =>
    cases rr with
    | nil =>
      cases r1 with
      | int i =>
        have hs : (if -(2 ^ 63) ≤ i ∧ i < 2 ^ 63 then (seqIndex? i xs.length).bind (fun k => (xs[k]?).map fun y => (y, xs.eraseIdx k)) else none) = some (d, xs') := hs
        split at hs
        · rename_i hz
          cases e1 : seqIndex? i xs.length with
          | none => rw [e1] at hs; cases hs
          | some j =>
            rw [e1] at hs
            have hs : (xs[j]?).map (fun y => (y, xs.eraseIdx j)) = some (d, xs') := hs
            cases e2 : xs[j]? with
            | none => rw [e2] at hs; cases hs
            | some y =>
              rw [e2] at hs
              cases hs
              obtain ⟨v, ev, rv2⟩ := rv.getD e2
              exact ⟨q, vs, i, j, v, rfl, rfl, hv, hz.1, hz.2, by rw [rv.length]; exact e1, ev, k _ _ (rv.erase j) rv2⟩
        · cases hs
      | _ => cases hs
    | cons _ _ => cases hs
end
end Pu
/-! Defs and their calls. -/
namespace Pu
open PySem PySem.Spec PyProof.Rows L2 Kv
def outs : En → En → En
  | .own _ :: as, s :: ρ => s :: outs as ρ
  | _ :: as, _ :: ρ => .un :: outs as ρ
  | _ :: as, [] => .un :: outs as []
  | [], _ => []
def lent (B : List Nat) : Nat → En → Bool
  | _, [] => true
  | i, .own _ :: as => decide (i ∈ B) && lent B (i + 1) as
  | i, _ :: as => lent B (i + 1) as
def fnP (n : Nat) (B : List Nat) (body : S) : P R := fun as =>
  if lent B 0 as = true then match body (as ++ List.replicate (n - as.length) .un) with
    | some (.nx ρ) => some (.ok (.val .non) (outs as ρ))
    | some (.rt r ρ) => some (.ok r (outs as ρ))
    | some (.er c ns ds ρ) => some (.er c ns ds (outs as ρ))
    | _ => none
  else none
def spP (K : PySem.W.Frag) (T : List (Addr × Str)) (n : Nat) (F : P R) : Sp := fun vs H Q E => ∃ ok as, vs.length = n ∧ Wf K ⟨H, List.range n, T⟩ ok as (vs.map some) H ∧ Rs K ⟨H, List.range n, T⟩ (fun _ => E) (relR K) (vs.map some) as ok H (F as) Q
theorem outs_length : ∀ (as ρ : En), (outs as ρ).length = as.length
  | [], _ => by unfold outs; rfl
  | .own _ :: as, s :: ρ => congrArg (· + 1) (outs_length as ρ)
  | .un :: as, s :: ρ => congrArg (· + 1) (outs_length as ρ)
  | .val _ :: as, s :: ρ => congrArg (· + 1) (outs_length as ρ)
  | .own _ :: as, [] => congrArg (· + 1) (outs_length as [])
  | .un :: as, [] => congrArg (· + 1) (outs_length as [])
  | .val _ :: as, [] => congrArg (· + 1) (outs_length as [])
theorem outs_get : ∀ {as ρ : En} {j : Nat} {s : Slot}, (outs as ρ)[j]? = some s → s ≠ .un → ρ[j]? = some s ∧ ∃ d, as[j]? = some (.own d)
  | [], _, j, s, h, _ => by unfold outs at h; simp at h
  | .own d :: as, t :: ρ, 0, s, h, _ => by
    have h : some t = some s := h
    cases h
    exact ⟨rfl, d, rfl⟩
  | .own d :: as, t :: ρ, j + 1, s, h, n => outs_get (as := as) (ρ := ρ) (j := j) h n
  | .un :: as, t :: ρ, 0, s, h, n => by cases h; exact absurd rfl n
  | .un :: as, t :: ρ, j + 1, s, h, n => outs_get (as := as) (ρ := ρ) (j := j) h n
  | .val _ :: as, t :: ρ, 0, s, h, n => by cases h; exact absurd rfl n
  | .val _ :: as, t :: ρ, j + 1, s, h, n => outs_get (as := as) (ρ := ρ) (j := j) h n
  | .own d :: as, [], 0, s, h, n => by cases h; exact absurd rfl n
  | .own d :: as, [], j + 1, s, h, n => by
    obtain ⟨z, _⟩ := outs_get (as := as) (ρ := []) (j := j) h n
    simp at z
  | .un :: as, [], 0, s, h, n => by cases h; exact absurd rfl n
  | .un :: as, [], j + 1, s, h, n => by
    obtain ⟨z, _⟩ := outs_get (as := as) (ρ := []) (j := j) h n
    simp at z
  | .val _ :: as, [], 0, s, h, n => by cases h; exact absurd rfl n
  | .val _ :: as, [], j + 1, s, h, n => by
    obtain ⟨z, _⟩ := outs_get (as := as) (ρ := []) (j := j) h n
    simp at z
theorem lent_at {B : List Nat} : ∀ {as : En} {i j : Nat} {d : D}, lent B i as = true → as[j]? = some (.own d) → i + j ∈ B
  | [], _, j, d, _, h => by simp at h
  | s :: as, i, 0, d, hl, h => by
    have h : some s = some (.own d) := h
    cases h
    have hl : (decide (i ∈ B) && lent B (i + 1) as) = true := hl
    rw [Bool.and_eq_true] at hl
    exact of_decide_eq_true hl.1
  | s :: as, i, j + 1, d, hl, h => by
    have h2 : lent B (i + 1) as = true := by
      cases s with
      | own _ =>
        have hl : (decide (i ∈ B) && lent B (i + 1) as) = true := hl
        rw [Bool.and_eq_true] at hl
        exact hl.2
      | un => exact hl
      | val _ => exact hl
    have := lent_at (as := as) (j := j) h2 h
    rw [show i + (j + 1) = i + 1 + j by omega]
    exact this
theorem pad_get {as : En} {m j : Nat} {s : Slot} (h : (as ++ List.replicate m Slot.un)[j]? = some s) (n : s ≠ .un) : as[j]? = some s := by
  by_cases hj : j < as.length
  · rw [List.getElem?_append_left hj] at h; exact h
  · rw [List.getElem?_append_right (by omega), List.getElem?_replicate] at h
    split at h
    · cases h; exact absurd rfl n
    · cases h
theorem start_get {N : List Str} {vs : List V} {j : Nat} (hj : j < vs.length) : (start N vs)[j]? = (vs.map some)[j]? := by
  unfold L2.start
  rw [List.getElem?_append_left (by rw [List.length_map]; exact hj)]
section
variable {P' : Program} {w : World} {K : PySem.W.Frag} {mg : Str → Option Value} {base : Heap} {CX : CXT} {T : List (Addr × Str)}
theorem okGX {x qual : Str} {st : Stmt} {f : Addr} {fd : FuncData} {N ps : List Str} {k : Nat} {sp : Sp}
    (F : Fun K x qual st f fd) (S : FnScope N ps (defScope st))
    (many : ∀ vs H Q E, sp vs H Q E → vs.length = ps.length)
    (hb : ∀ (cdv : Value) (A : Around) (fr : List Env) (s : Shared) (H : Hp) (vs : List V) (Q : VK) (E : XK),
      A.guards = some [] →
      Room k (A.deeper (envOfC qual (defScope st) s.heap.objs.size f cdv)) → sp vs H Q E →
      ∃ t, PSs (cxOf CX P' w K mg base N qual (defScope st) f cdv A fr s H E) (defBody st) t ∧
        t { nx := fun _ H' => Q .non H', rt := Q } (start N vs) H) :
    FnG P' w K mg base CX (k + 1) f fd ps sp := by
  obtain ⟨oc, od, kV, doc, pm, an, cdv, ct, osl, rfl, lk, hcd⟩ := F.ex
  refine ⟨many, ?_⟩
  intro A fr s H ar us vs Q E hg hr e0 hbd rv hsp
  have kin : K.In s.heap :=
    e0.mod.kin.keeps fun b o e => (e0.bs b o e).1
  have nol : s.heap.NoLimit :=
    e0.mod.nolimit.keeps fun b o e => (e0.bs b o e).1
  refine codeAny_call_function hr.depth (kin _ _ lk) rfl S.co S.gen rfl
    (PySem.W.codeRec_of kin hcd) (hbd _ _ _ _ ?_)
  refine wpAny_newFunctionEnv_cells S.kind (fun y hy => ?_) fun env he s1 ic => ?_
  · obtain ⟨n, v⟩ := y
    rcases S.par n (List.of_mem_zip hy).1 with q | q
    · exact Or.inl q
    · exact Or.inr ⟨q, PySem.W.cellsFrom_some _ _ _ (Or.inl q)⟩
  · subst he
    refine ⟨nol.keeps ic.toInCall.keep, codeAny_func ?_⟩
    obtain ⟨t, ht, hq⟩ := hb cdv A fr s H vs Q E hg (hr.deeper _) hsp
    have I : Inv (cxOf CX P' w K mg base N qual (defScope st) f cdv A fr s H E) [] (start N vs) H s1 :=
      inv_start S hr.hd e0 (many _ _ _ _ hsp) rv ic
    refine wpAny_mono (ht.run [] s1 (start N vs) H _ I hq) (fun fl s2 hs => ?_) (fun e s2 hs => hs)
    cases fl with
    | brk => exact hs.elim fun _ h => h.elim fun _ h => h.2.elim
    | cont => exact hs.elim fun _ h => h.elim fun _ h => h.2.elim
    | ret u =>
      obtain ⟨v, σ2, H2, J, r2, q2⟩ := hs
      exact ⟨v, H2, J.os, J.bare, J.base, J.hok, r2, q2⟩
    | next =>
      obtain ⟨σ2, H2, J, q2⟩ := hs
      exact ⟨V.non, H2, J.os, J.bare, J.base, J.hok, rfl, q2⟩
theorem fn_enter {N : List Str} {B : List Nat} {n : Nat} {ok : Addr → Prop} {as : En} {vs : List V} {H : Hp} (hn : vs.length = n) (hN : n ≤ N.length) (w : Wf K ⟨H, List.range n, T⟩ ok as (vs.map some) H) (hl : lent B 0 as = true) :
    Wf K ⟨H, B, T⟩ ok (as ++ List.replicate (N.length - as.length) .un) (start N vs) H ∧ ∀ a, wrs (as ++ List.replicate (N.length - as.length) .un) (start N vs) a ↔ wrs as (vs.map some) a := by
  have la : as.length = vs.length := by have := w.len; rw [List.length_map] at this; exact this.symm
  have lt : ∀ {j : Nat} {s : Slot}, as[j]? = some s → j < vs.length := fun h => by rw [← la]; exact (List.getElem?_eq_some_iff.mp h).1
  refine ⟨⟨?_, w.fc, w.h0, fun i d h => ?_, fun i d h => ?_, fun i j d e q h1 h2 e1 e2 => ?_, w.tb⟩, fun a => ⟨fun h => ?_, fun h => ?_⟩⟩
  · unfold L2.start
    rw [List.length_append, List.length_map, List.length_replicate, List.length_append, List.length_replicate, la]
  · have h := pad_get h (fun z => by cases z)
    rw [start_get (lt h)]
    exact w.val i d h
  · have h := pad_get h (fun z => by cases z)
    rw [start_get (lt h)]
    obtain ⟨q, e, o, nk, _⟩ := w.own i d h
    have := lent_at hl h
    rw [Nat.zero_add] at this
    exact ⟨q, e, o, nk, .inl this⟩
  · have h1 := pad_get h1 (fun z => by cases z)
    have h2 := pad_get h2 (fun z => by cases z)
    rw [start_get (lt h1)] at e1
    rw [start_get (lt h2)] at e2
    exact w.apart i j d e q h1 h2 e1 e2
  · obtain ⟨i, d, h1, h2⟩ := h
    have h1 := pad_get h1 (fun z => by cases z)
    rw [start_get (lt h1)] at h2
    exact ⟨i, d, h1, h2⟩
  · obtain ⟨i, d, h1, h2⟩ := h
    exact ⟨i, d, by rw [List.getElem?_append_left (by rw [la]; exact lt h1)]; exact h1, by rw [start_get (lt h1)]; exact h2⟩
theorem fn_leave {N : List Str} {B : List Nat} {n : Nat} {ok ok' : Addr → Prop} {as ρ' : En} {vs : List V} {H H' : Hp} {σ' : L2.St} (hn : vs.length = n) (w : Wf K ⟨H, List.range n, T⟩ ok as (vs.map some) H) (hl : lent B 0 as = true)
    (hw : ∀ a, wrs (as ++ List.replicate (N.length - as.length) .un) (start N vs) a ↔ wrs as (vs.map some) a)
    (w' : Wf K ⟨H, B, T⟩ ok' ρ' σ' H') (s : Sy ⟨H, B, T⟩ (start N vs) (as ++ List.replicate (N.length - as.length) .un) ok H σ' ρ' ok' H') :
    Wf K ⟨H, List.range n, T⟩ ok' (outs as ρ') (vs.map some) H' ∧ Sx (vs.map some) as ok H (outs as ρ') ok' H' ∧ (∀ (j : Nat) (d : D), (outs as ρ')[j]? = some (.own d) → ρ'[j]? = some (.own d) ∧ σ'[j]? = (vs.map some)[j]?) := by
  have la : as.length = vs.length := by have := w.len; rw [List.length_map] at this; exact this.symm
  have og : ∀ {j : Nat} {s : Slot}, (outs as ρ')[j]? = some s → s ≠ .un → ρ'[j]? = some s ∧ σ'[j]? = (vs.map some)[j]? ∧ j < n ∧ ∃ d, as[j]? = some (.own d) := fun {j s'} h ns => by
    obtain ⟨h1, d, h2⟩ := outs_get h ns
    have hj : j < vs.length := by rw [← la]; exact (List.getElem?_eq_some_iff.mp h2).1
    have hB := lent_at hl h2
    rw [Nat.zero_add] at hB
    exact ⟨h1, by rw [s.bor j hB, start_get hj], by omega, d, h2⟩
  refine ⟨⟨by rw [outs_length, la, List.length_map], w'.fc, w'.h0, fun i d h => ?_, fun i d h => ?_, fun i j d e q h1 h2 e1 e2 => ?_, w'.tb⟩, ⟨s.fr, fun a o ha na => s.keep a o ha fun z => na ((hw a).mp z), fun a ha => ?_, fun a o ha ka => (s.grow a o ha ka).imp id (hw a).mp⟩, fun j d h => ?_⟩
  · obtain ⟨h1, h2, _⟩ := og h (fun z => by cases z)
    rw [← h2]
    exact w'.val i d h1
  · obtain ⟨h1, h2, h3, _⟩ := og h (fun z => by cases z)
    obtain ⟨q, e, o, nk, _⟩ := w'.own i d h1
    exact ⟨q, by rw [← h2]; exact e, o, nk, .inl (List.mem_range.mpr h3)⟩
  · obtain ⟨h3, h4, _⟩ := og h1 (fun z => by cases z)
    obtain ⟨h5, h6, _⟩ := og h2 (fun z => by cases z)
    exact w'.apart i j d e q h3 h5 (by rw [h4]; exact e1) (by rw [h6]; exact e2)
  · obtain ⟨j, d, h1, h2⟩ := ha
    obtain ⟨_, _, _, d', h4⟩ := og h1 (fun z => by cases z)
    exact ⟨j, d', h4, h2⟩
  · obtain ⟨h1, h2, _⟩ := og h (fun z => by cases z)
    exact ⟨h1, h2⟩
theorem fn_pure {x qual : Str} {st : Stmt} {f : Addr} {fd : FuncData} {N ps : List Str} {k : Nat} {B : List Nat} {body : S} (F : Fun K x qual st f fd) (S : FnScope N ps (defScope st))
    (hb : ∀ (cdv : Value) (A : Around) (fr : List Env) (s : Shared) (H : Hp) (E : XK), A.guards = some [] → Room k (A.deeper (envOfC qual (defScope st) s.heap.objs.size f cdv)) →
      ESs (cxOf CX P' w K mg base N qual (defScope st) f cdv A fr s H E) ⟨H, B, T⟩ (fun _ => E) (defBody st) body) :
    FnG P' w K mg base CX (k + 1) f fd ps (spP K T ps.length (fnP N.length B body)) := by
  have hpl : ps.length ≤ N.length := by have := congrArg List.length S.pre; rw [List.length_take] at this; omega
  refine okGX F S (fun vs H Q E h => ?_) fun cdv A fr s H vs Q E hg hr hsp => ⟨_, hb cdv A fr s H E hg hr, ?_⟩
  · obtain ⟨ok, as, hl, _⟩ := h
    exact hl
  · obtain ⟨ok, as, hn, w0, h⟩ := hsp
    unfold fnP at h
    split at h
    · rename_i hl
      obtain ⟨w1, hw⟩ := fn_enter (N := N) hn hpl w0 hl
      refine ⟨ok, _, w1, ?_⟩
      have la : as.length = vs.length := by have := w0.len; rw [List.length_map] at this; exact this.symm
      cases eb : body (as ++ List.replicate (N.length - as.length) .un) with
      | none => rw [eb] at h; exact h
      | some fl =>
        rw [eb] at h
        cases fl with
        | nx ρ' =>
          intro σ' H' ok' w' s'
          obtain ⟨w2, s2, _⟩ := fn_leave hn w0 hl hw w' s'
          exact h .non H' ok' w2 s2 .non
        | rt r ρ' =>
          intro v σ' H' ok' w' s' r'
          obtain ⟨w2, s2, hs⟩ := fn_leave hn w0 hl hw w' s'
          refine h v H' ok' w2 s2 ?_
          cases r with
          | val d => exact r'
          | own d =>
            obtain ⟨q, e, o, nk, n0, np⟩ := r'
            refine ⟨q, e, o, nk, n0, fun j e' hj z => ?_⟩
            obtain ⟨h1, h2⟩ := hs j e' hj
            exact np j e' h1 (by rw [h2]; exact z)
        | bk ρ' => exact h.elim
        | ct ρ' => exact h.elim
        | er c ns ds ρ' =>
          intro dx fs σ' H' ok' w' s' e1 e2 e3
          obtain ⟨w2, s2, _⟩ := fn_leave hn w0 hl hw w' s'
          exact h dx fs H' ok' w2 s2 e1 e2 e3
    · exact h.elim
end
/-! ### calls -/
section
variable {X : Cx} {g : Gx} {E : Wx} {CX : CXT} {k : Nat} {f C : Addr} {fd : FuncData} {ps : List Str} {sp : Sp} {x m : Str} {p pos apos : Pos} {e o : Expr} {es : List Expr} {ta : TE} {t : TA}
theorem runGS {pins : List (Addr × Obj)} {σ : L2.St} {H : Hp} {s : Shared} {Q : VK} {us : List Value} {vs : List V} (F : FnG X.prog X.w X.K X.mg X.base CX k f fd ps sp) (hgd : X.A.guards = some []) (hr : Room k X.A) (hb : Binds X.K fd ps []) (hx : PassesAt CX X σ (E σ))
    (I : Inv X pins σ H s) (r : Vals vs us) (h : sp vs H Q (E σ)) : wpAny (model X.prog X.w) X.A (call (.ref f) us) (L2.EP X pins σ Q) X.xe s := by
  have hl : us.length = ps.length := by rw [← r.length]; exact F.many _ _ _ _ h
  have b := hb s us I.kIn (by rw [List.append_nil]; exact hl)
  rw [List.append_nil] at b
  refine wpAny_call (codeAny_mono (F.goes X.A X.stack s H ⟨us, []⟩ us vs Q (E σ) hgd hr I.env0 b r h) fun r s' hq => ?_)
  cases r with
  | error e => exact hx pins H s e s' I hq
  | ok fl =>
    cases fl with
    | ret u => exact I.after hq
    | next => exact False.elim hq
    | brk => exact False.elim hq
    | cont => exact False.elim hq
theorem pe_callGS (F : FnG X.prog X.w X.K X.mg X.base CX k f fd ps sp) (hgd : X.A.guards = some []) (hr : Room k X.A) (hg : Gl X x) (hm : X.mg x = some (.ref f)) (hk : PySem.W.keepIn X.K (.ref f) = true) (hb : Binds X.K fd ps []) (hx : ∀ σ, PassesAt CX X σ (E σ))
    (ha : PA X (e :: es) t) (hdb : (x == ("__debug__" : Str)) = false := by decide) (he : starEach (e :: es) X.env = (false, eval e X.env) :: starEach es X.env := by rfl) (hpl : (backTo pos (starEach es X.env)).any (·.1) = false := by rfl) :
    PE X (.Call (.Name x p) (e :: es) [] pos) (tCallS sp E t) := by
  refine ⟨fun pins s σ H Q I h => ?_⟩
  refine wpAny_Call_Name_kw (ld_glob I hg hm ?_ hdb)
  refine PySem.W.callWith_K (h₀ := X.base) I.ok.mod.kin hk (thn (ha.run pos pins s σ H _ I h) fun us s1 ⟨vs, H1, I1, r, q⟩ => ⟨I1.kIn, ?_⟩) he hpl
  exact runGS F hgd hr hb (hx σ) I1 r q
def tMethS (C : Addr) (m : Str) (sp : Sp) (E : Wx) (ta : TE) (t : TA) : TE := fun σ H Q => ta σ H fun x H1 => ∃ a dx fs, x = .ref a ∧ H1 a = some (.ins C dx fs) ∧ fs.lookup m = none ∧ t σ H1 fun vs H2 => sp (x :: vs) H2 Q (E σ)
theorem pe_methGS {pl : Sem Bool} (he : PE X o ta) (c : Cls X.K C) (hm : Meth X.K C m f) (F : FnG X.prog X.w X.K X.mg X.base CX k f fd ps sp) (hgd : X.A.guards = some []) (hr : Room k X.A) (hb : Binds X.K fd ps []) (hx : ∀ σ, PassesAt CX X σ (E σ)) (ha : PA X (e :: es) t)
    (hst : starEach (e :: es) X.env = (false, eval e X.env) :: starEach es X.env := by rfl) (hpl : (backTo pos (starEach es X.env)).any (·.1) = false := by rfl)
    (ht : eval (.Call (.Attribute o m apos) (e :: es) [] pos) X.env = (do
      let ov ← eval o X.env
      standAt apos.atName
      let (f, first) ← holding [ov] (getMethod ov m pl)
      callWith pos f first (backTo pos (starEach (e :: es) X.env)) (backToKw pos (keywordEach [] X.env))) := by rfl) :
    PE X (.Call (.Attribute o m apos) (e :: es) [] pos) (tMethS C m sp E ta t) := by
  refine ⟨fun pins s σ H Q I h => ?_⟩
  refine PySem.W.methodCall_KW (pl := pl) (thn (he.run pins s σ H _ I h) fun u s1 ⟨x, H1, I1, rx, a, dx, fs, ex, ea, l, q⟩ => ?_) ht
  subst ex
  obtain rfl : u = Value.ref a := rx
  refine getmeth_ok I1 ea c hm l ?_
  refine PySem.W.callWith_K (first := [.ref a]) (h₀ := X.base) I.ok.mod.kin hm.kp (thn (ha.run pos pins s1 σ H1 _ I1 q) fun us s2 ⟨vs, H2, I2, r, q2⟩ => ⟨I2.kIn, ?_⟩) hst hpl
  exact runGS (us := .ref a :: us) (vs := .ref a :: vs) F hgd hr hb (hx σ) I2 (.cons rfl r) q2
theorem pe_methGS0 {pl : Sem Bool} (he : PE X o ta) (c : Cls X.K C) (hm : Meth X.K C m f) (F : FnG X.prog X.w X.K X.mg X.base CX k f fd ps sp) (hgd : X.A.guards = some []) (hr : Room k X.A) (hb : Binds X.K fd ps []) (hx : ∀ σ, PassesAt CX X σ (E σ))
    (ht : eval (.Call (.Attribute o m apos) [] [] pos) X.env = (do
      let ov ← eval o X.env
      standAt apos.atName
      let (f, first) ← holding [ov] (getMethod ov m pl)
      callWith pos f first (backTo pos (starEach [] X.env)) (backToKw pos (keywordEach [] X.env))) := by rfl) :
    PE X (.Call (.Attribute o m apos) [] [] pos) (tMethS C m sp E ta tNil) := by
  refine ⟨fun pins s σ H Q I h => ?_⟩
  refine PySem.W.methodCall_KW (pl := pl) (thn (he.run pins s σ H _ I h) fun u s1 ⟨x, H1, I1, rx, a, dx, fs, ex, ea, l, q⟩ => ?_) ht
  subst ex
  obtain rfl : u = Value.ref a := rx
  refine getmeth_ok I1 ea c hm l ?_
  exact PySem.W.callWith_K0 (first := [.ref a]) I1.kIn hm.kp (runGS (us := [.ref a]) (vs := [.ref a]) F hgd hr hb (hx σ) I1 (.cons rfl .nil) q)
/-! ### all arguments values -/
@[reducible] def vals (ds : List D) : En := ds.map .val
def app (F : P R) (ds : List D) : P R := fun ρ => match F (vals ds) with
  | none => none
  | some (.ok r _) => some (.ok r ρ)
  | some (.er c ns es _) => some (.er c ns es ρ)
theorem vals_own {ds : List D} {j : Nat} {d : D} : (vals ds)[j]? ≠ some (.own d) := fun h => by
  unfold vals at h
  rw [List.getElem?_map] at h
  cases e : ds[j]? with
  | none => rw [e] at h; cases h
  | some x => rw [e] at h; cases h
theorem wf_vals {K : PySem.W.Frag} {ok : Addr → Prop} {H : Hp} {vs : List V} {ds : List D} {n : Nat} {T : List (Addr × Str)} (fc : ∀ a, H a = none → ok a) (tb : TbOk T ok H) (r : Reps K ok H vs ds) : Wf K ⟨H, List.range n, T⟩ ok (vals ds) (vs.map some) H :=
  ⟨by unfold vals; rw [List.length_map, List.length_map, r.length], fc, fun _ h => h, fun i d h => by
    unfold vals at h
    rw [List.getElem?_map] at h
    cases e : ds[i]? with
    | none => rw [e] at h; cases h
    | some x =>
      rw [e] at h
      cases h
      obtain ⟨v, ev, rv⟩ := r.getD e
      exact ⟨v, by rw [List.getElem?_map, ev]; rfl, rv⟩, fun i d h => absurd h vals_own, fun i j d e q h => absurd h vals_own, tb⟩
theorem app_ok {K : PySem.W.Frag} {n : Nat} {F : P R} {ok : Addr → Prop} {ρ : En} {σ : L2.St} {H : Hp} {vs : List V} {ds : List D} {Q : VK} (w : Wf K g ok ρ σ H) (r : Reps K ok H vs ds) (hn : vs.length = n) (h : Rs K g E (relR K) σ ρ ok H (app F ds ρ) Q) : spP K g.T n F vs H Q (E σ) := by
  refine ⟨ok, vals ds, hn, wf_vals w.fc w.tb r, ?_⟩
  have nw : ∀ a, ¬ wrs (vals ds) (vs.map some) a := fun a ⟨i, d, h1, _⟩ => vals_own h1
  have up : ∀ {as' : En} {ok' : Addr → Prop} {H' : Hp}, (∀ a, H' a = none → ok' a) → TbOk g.T ok' H' → Sx (vs.map some) (vals ds) ok H as' ok' H' → Wf K g ok' ρ σ H' ∧ Sx σ ρ ok H ρ ok' H' := fun {as' ok' H'} fc tb s => by
    refine ⟨w.step s.fr fc tb fun i d q h1 h2 => ?_, ⟨s.fr, fun a o ha _ => s.keep a o ha (nw a), fun _ h => h, fun a o ha ka => (s.grow a o ha ka).elim .inl fun z => absurd z (nw a)⟩⟩
    obtain ⟨q', e', o, nk, _⟩ := w.own i d h1
    rw [h2] at e'
    cases e'
    obtain ⟨u, hu, _⟩ := o.there
    refine ⟨by rw [hu]; exact (s.keep q u hu (nw q)).same nk (own_tbl o hu), fun z => ?_⟩
    rcases s.grow q u hu z with z | z
    · exact nk z
    · exact nw q z
  unfold app at h
  cases e : F (vals ds) with
  | none => rw [e] at h; exact h
  | some y =>
    rw [e] at h
    cases y with
    | ok r' as' =>
      intro v H' ok' w' s' r1
      obtain ⟨w2, s2⟩ := up w'.fc w'.tb s'
      refine h v H' ok' w2 s2 ?_
      cases r' with
      | val d => exact r1
      | own d =>
        obtain ⟨q, e1, o1, nk, n0, _⟩ := r1
        refine ⟨q, e1, o1, nk, n0, fun j d' hj z => ?_⟩
        obtain ⟨q', e2, o2, _⟩ := w.own j d' hj
        rw [z] at e2
        cases e2
        obtain ⟨u, hu, _⟩ := o2.there
        rw [n0] at hu
        cases hu
    | er c ns es as' =>
      intro dx fs H' ok' w' s' e1 e2 e3
      obtain ⟨w2, s2⟩ := up w'.fc w'.tb s'
      exact h dx fs H' ok' w2 s2 e1 e2 e3
theorem er_call {n : Nat} {F : P R} {fr : P (List D)} (G : FnG X.prog X.w X.K X.mg X.base CX k f fd ps (spP X.K g.T n F)) (hn : ps.length = n) (hgd : X.A.guards = some []) (hr : Room k X.A) (hg : Gl X x) (hm : X.mg x = some (.ref f)) (hk : PySem.W.keepIn X.K (.ref f) = true) (hb : Binds X.K fd ps []) (hx : ∀ σ, PassesAt CX X σ (E σ))
    (ha : EA X g E (e :: es) fr) (hdb : (x == ("__debug__" : Str)) = false := by decide) (he : starEach (e :: es) X.env = (false, eval e X.env) :: starEach es X.env := by rfl) (hpl : (backTo pos (starEach es X.env)).any (·.1) = false := by rfl) :
    ER X g E (.Call (.Name x p) (e :: es) [] pos) (bnd fr fun ds => if ds.length = n then app F ds else fun _ => none) := by
  refine PE_imp (pe_callGS G hgd hr hg hm hk hb hx ha hdb he hpl) fun σ H Q hq => ?_
  obtain ⟨ok, ρ, w, h⟩ := hq
  refine ⟨ok, ρ, w, (Rs.bnd (RA := relA X.K) h).mono fun vs H1 hq => ?_⟩
  obtain ⟨ok1, ρ1, ds, w1, s1, r1, h1⟩ := hq
  by_cases hd : ds.length = n
  · rw [if_pos hd] at h1
    exact app_ok w1 r1 (by rw [Reps.length r1]; exact hd) h1
  · rw [if_neg hd] at h1
    exact h1.elim
theorem lookup_none {K : PySem.W.Frag} {ok : Addr → Prop} {H : Hp} (m : Str) {fs : List (Str × V)} (h : m ∉ fs.map (·.1)) : fs.lookup m = none := by
  induction fs with
  | nil => rfl
  | cons p r ih =>
    obtain ⟨k, v⟩ := p
    rw [List.lookup_cons]
    have e : (m == k) = false := beq_eq_false_iff_ne.mpr fun z => h (by rw [z]; exact List.mem_cons_self ..)
    rw [e]
    exact ih fun z => h (List.mem_cons_of_mem _ z)
def isObj (C : Addr) (m : Str) : D → Bool
  | .obj C' ns _ => decide (C' = C) && decide (m ∉ ns)
  | _ => false
theorem isObj_rep {K : PySem.W.Frag} {ok : Addr → Prop} {H : Hp} {v : V} {d : D} (r : Rep K ok H v d) (h : isObj C m d = true) : ∃ a dx fs, v = .ref a ∧ H a = some (.ins C dx fs) ∧ fs.lookup m = none := by
  cases r with
  | obj ho ko rs =>
    have h : (decide (_ = C) && decide (m ∉ _)) = true := h
    rw [Bool.and_eq_true] at h
    have e := of_decide_eq_true h.1
    subst e
    exact ⟨_, _, _, rfl, ho, lookup_none (K := K) (ok := ok) (H := H) m (of_decide_eq_true h.2)⟩
  | _ => cases h
theorem er_meth {n : Nat} {F : P R} {fo : P D} {fr : P (List D)} {pl : Sem Bool} (ho : EV X g E o fo) (c : Cls X.K C) (hm : Meth X.K C m f) (G : FnG X.prog X.w X.K X.mg X.base CX k f fd ps (spP X.K g.T n F)) (hgd : X.A.guards = some []) (hr : Room k X.A) (hb : Binds X.K fd ps []) (hx : ∀ σ, PassesAt CX X σ (E σ)) (ha : EA X g E (e :: es) fr)
    (hst : starEach (e :: es) X.env = (false, eval e X.env) :: starEach es X.env := by rfl) (hpl : (backTo pos (starEach es X.env)).any (·.1) = false := by rfl)
    (ht : eval (.Call (.Attribute o m apos) (e :: es) [] pos) X.env = (do
      let ov ← eval o X.env
      standAt apos.atName
      let (f, first) ← holding [ov] (getMethod ov m pl)
      callWith pos f first (backTo pos (starEach (e :: es) X.env)) (backToKw pos (keywordEach [] X.env))) := by rfl) :
    ER X g E (.Call (.Attribute o m apos) (e :: es) [] pos) (bnd fo fun d => if isObj C m d = true then bnd fr fun ds => if ds.length + 1 = n then app F (d :: ds) else fun _ => none else fun _ => none) := by
  refine PE_imp (pe_methGS ho c hm G hgd hr hb hx ha hst hpl ht) fun σ H Q hq => ?_
  obtain ⟨ok, ρ, w, h⟩ := hq
  refine ⟨ok, ρ, w, (Rs.bnd (RA := relD X.K) h).mono fun v H1 hq => ?_⟩
  obtain ⟨ok1, ρ1, d, w1, s1, r1, h1⟩ := hq
  by_cases hi : isObj C m d = true
  · rw [if_pos hi] at h1
    obtain ⟨a, dx, fs, rfl, ea, el⟩ := isObj_rep r1 hi
    refine ⟨a, dx, fs, rfl, ea, el, ok1, ρ1, w1, (Rs.bnd (RA := relA X.K) h1).mono fun vs H2 hq => ?_⟩
    obtain ⟨ok2, ρ2, ds, w2, s2, r2, h2⟩ := hq
    by_cases hd : ds.length + 1 = n
    · rw [if_pos hd] at h2
      exact app_ok w2 (.cons (Rep.fr s2.fr r1) r2) (by rw [List.length_cons, Reps.length r2]; exact hd) h2
    · rw [if_neg hd] at h2
      exact h2.elim
  · rw [if_neg hi] at h1
    exact h1.elim
theorem er_meth0 {n : Nat} {F : P R} {fo : P D} {pl : Sem Bool} (ho : EV X g E o fo) (c : Cls X.K C) (hm : Meth X.K C m f) (G : FnG X.prog X.w X.K X.mg X.base CX k f fd ps (spP X.K g.T n F)) (hgd : X.A.guards = some []) (hr : Room k X.A) (hb : Binds X.K fd ps []) (hx : ∀ σ, PassesAt CX X σ (E σ))
    (ht : eval (.Call (.Attribute o m apos) [] [] pos) X.env = (do
      let ov ← eval o X.env
      standAt apos.atName
      let (f, first) ← holding [ov] (getMethod ov m pl)
      callWith pos f first (backTo pos (starEach [] X.env)) (backToKw pos (keywordEach [] X.env))) := by rfl) :
    ER X g E (.Call (.Attribute o m apos) [] [] pos) (bnd fo fun d => if isObj C m d = true ∧ 1 = n then app F [d] else fun _ => none) := by
  refine PE_imp (pe_methGS0 ho c hm G hgd hr hb hx ht) fun σ H Q hq => ?_
  obtain ⟨ok, ρ, w, h⟩ := hq
  refine ⟨ok, ρ, w, (Rs.bnd (RA := relD X.K) h).mono fun v H1 hq => ?_⟩
  obtain ⟨ok1, ρ1, d, w1, s1, r1, h1⟩ := hq
  by_cases hi : isObj C m d = true ∧ 1 = n
  · rw [if_pos hi] at h1
    obtain ⟨a, dx, fs, rfl, ea, el⟩ := isObj_rep r1 hi.1
    exact ⟨a, dx, fs, rfl, ea, el, app_ok w1 (.cons r1 .nil) (by rw [List.length_singleton]; exact hi.2) h1⟩
  · rw [if_neg hi] at h1
    exact h1.elim
end
end Pu
/-! C.m(e, ..), m a plain def of the class C: the def itself is called. -/
namespace Kv
open PySem PySem.Spec PyProof.Rows L2
def tCF (C : Addr) (sp : Sp) (dvs : List V) (E : XK) (ta : TE) (t : TA) : TE := fun σ H Q => ta σ H fun x H1 => x = .ref C ∧ tCall sp dvs E t σ H1 Q
section
variable {X : Cx} {CX : CXT} {k : Nat} {f C : Addr} {fd : FuncData} {ps : List Str} {sp : Sp} {dvs : List V} {ds : List Value} {E : XK} {m : Str} {apos pos : Pos} {o e : Expr} {es : List Expr} {ta : TE} {t : TA} {mc : Value}
theorem pe_clsFn {pl : Sem Bool} (he : PE X o ta) (r : ClX.CRead X.K C mc) (c : PySem.W.findCls X.K (.ref C) mc m = some (.val (.ref f))) (hk : PySem.W.keepIn X.K (.ref f) = true)
    (F : FnOk X.prog X.w X.K X.mg X.base CX k f fd ps sp) (hr : Room k X.A) (hb : Binds X.K fd ps ds) (hd : Vals dvs ds) (hx : Passes CX X E) (ha : PA X (e :: es) t)
    (hst : starEach (e :: es) X.env = (false, eval e X.env) :: starEach es X.env := by rfl) (hpl : (backTo pos (starEach es X.env)).any (·.1) = false := by rfl)
    (ht : eval (.Call (.Attribute o m apos) (e :: es) [] pos) X.env = (do
      let ov ← eval o X.env
      standAt apos.atName
      let (g, first) ← holding [ov] (getMethod ov m pl)
      callWith pos g first (backTo pos (starEach (e :: es) X.env)) (backToKw pos (keywordEach [] X.env))) := by rfl) :
    PE X (.Call (.Attribute o m apos) (e :: es) [] pos) (tCF C sp dvs E ta t) := by
  constructor
  intro pins s σ H Q I h
  refine PySem.W.methodCall_KW (pl := pl) (thn (he.run pins s σ H _ I h) fun u s1 ⟨x, H1, I1, rx, ex, q⟩ => ?_) ht
  subst ex
  obtain rfl : u = Value.ref C := rx
  refine PySem.W.method_cls I1.kIn r.ga (PySem.W.cls_value I1.kIn r.rd c rfl ?_)
  exact PySem.W.callWith_K (h₀ := X.base) I1.ok.mod.kin hk (thn (ha.run pos pins _ σ H1 _ (I1.tok _) q) fun us s2 ⟨vs, H2, I2, rv, q2⟩ => ⟨I2.kIn, run_fn F hr hb hd hx I2 rv q2⟩) hst hpl
end
end Kv
/-! A datum of any kind against a text; a tuple of such against a tuple of texts. -/
namespace Kv
open PySem PySem.Spec PyProof.Rows L2
section
open PySem.SeqAt PySem.MeetsSeq AutoSeq1
variable {A : Around} {s : Shared}
end
section
variable {X : Cx}
end
end Kv
/-! C(e, ..) that may raise, in a try; isinstance of a caught exception that has fields. -/
namespace Kv
open PySem PySem.Spec PyProof.Rows L2
section
variable {X : Cx} {CX : CXT} {k : Nat} {f C : Addr} {fd : FuncData} {ps : List Str} {sp : Sp} {dvs : List V} {ds : List Value} {E : L2.St → XK} {x : Str} {p pos : Pos} {e : Expr} {es : List Expr} {t : TA}
def tMakeS (C : Addr) (sp : Sp) (dvs : List V) (E : L2.St → XK) (t : TA) : TE := fun σ H Q => t σ H fun vs H1 => ∀ x dx, H1 x = none → H1 dx = none → dx ≠ x →
  sp (.ref x :: (vs ++ dvs)) (upd (upd H1 dx (.own x)) x (.ins C dx [])) (fun v H2 => v = .non ∧ Q (.ref x) H2) (E σ)
theorem run_makeS {pins : List (Addr × Obj)} {σ : L2.St} {H : Hp} {s : Shared} {Q : VK} {us : List Value} {vs : List V} (M : Mk X.K C f) (F : FnOk X.prog X.w X.K X.mg X.base CX k f fd ps sp) (hr : Room (k + 1) X.A) (hb : Binds X.K fd ps ds) (hd : Vals dvs ds)
    (hx : PassesAt CX X σ (E σ)) (I : Inv X pins σ H s) (r : Vals vs us)
    (h : ∀ x dx, H x = none → H dx = none → dx ≠ x → sp (.ref x :: (vs ++ dvs)) (upd (upd H dx (.own x)) x (.ins C dx [])) (fun v H2 => v = .non ∧ Q (.ref x) H2) (E σ)) :
    wpAny (model X.prog X.w) X.A (call (.ref C) us) (EP X pins σ Q) X.xe s := by
  have hq := h (s.heap.objs.size + 1) s.heap.objs.size (I.hok.fresh (Nat.le_succ _)) (I.hok.fresh (Nat.le_refl _)) (Nat.ne_of_lt (Nat.lt_succ_self _))
  have I2 := Inv.made (C := C) I
  have r2 : Vals (V.ref (s.heap.objs.size + 1) :: (vs ++ dvs)) (Value.ref (s.heap.objs.size + 1) :: (us ++ ds)) := .cons rfl (r.append hd)
  have hl : (Value.ref (s.heap.objs.size + 1) :: us ++ ds).length = ps.length := by
    have e := r2.length
    rw [F.len _ _ _ _ hq] at e
    exact e.symm
  refine wpAny_call (make_map (f := f) I.kIn M.makes M.init (beq_iff_eq.mp M.fn) (codeAny_mono (F.run _ X.stack _ _ ⟨Value.ref (s.heap.objs.size + 1) :: us, []⟩ (Value.ref (s.heap.objs.size + 1) :: (us ++ ds)) _ _ (E σ) (hr.make C us [])
    (I2.env0.make C us []) (hb _ (Value.ref (s.heap.objs.size + 1) :: us) I2.kIn hl) r2 hq) fun r s2 hq2 => ?_))
  cases r with
  | error e => exact hx pins _ _ e s2 I2 hq2
  | ok fl =>
    cases fl with
    | ret u =>
      obtain ⟨v, H3, I3, rv, ev, q3⟩ := I2.after hq2
      subst ev
      exact ⟨rv, ⟨V.ref (s.heap.objs.size + 1), H3, I3, rfl, q3⟩⟩
    | next => exact False.elim hq2
    | brk => exact False.elim hq2
    | cont => exact False.elim hq2
theorem pe_makeS (M : Mk X.K C f) (F : FnOk X.prog X.w X.K X.mg X.base CX k f fd ps sp) (hr : Room (k + 1) X.A) (hg : Gl X x) (hm : X.mg x = some (.ref C)) (hb : Binds X.K fd ps ds) (hd : Vals dvs ds) (hx : ∀ σ, PassesAt CX X σ (E σ))
    (ha : PA X (e :: es) t) (hdb : (x == ("__debug__" : Str)) = false := by decide) (he : starEach (e :: es) X.env = (false, eval e X.env) :: starEach es X.env := by rfl) (hpl : (backTo pos (starEach es X.env)).any (·.1) = false := by rfl) :
    PE X (.Call (.Name x p) (e :: es) [] pos) (tMakeS C sp dvs E t) := by
  constructor
  intro pins s σ H Q I h
  refine wpAny_Call_Name_kw (ld_glob I hg hm ?_ hdb)
  refine PySem.W.callWith_K (h₀ := X.base) I.ok.mod.kin M.kp (thn (ha.run pos pins s σ H _ I h) fun us s1 ⟨vs, H1, I1, r, q⟩ => ⟨I1.kIn, ?_⟩) he hpl
  exact run_makeS M F hr hb hd (hx σ) I1 r q
end
/-! isinstance of a caught exception with its dict -/
section
variable {X : Cx} {a D : Addr} {oe : Obj} {pn : List (Addr × Obj)} {cls : Value} {d : Option Addr}
end
end Kv
/-! What isinstance says of data; data that fit, part by part. -/
namespace Lw
open PySem PySem.Spec PyProof.Rows L2 Kv
/-! what isinstance says -/
def isStr : PyData → Bool
  | .str _ => true
  | _ => false
theorem ShO.mono {ok ok' : Addr → Prop} {H : Hp} (h : ∀ a, ok a → ok' a) : ∀ {v : V} {d : PyData}, ShO ok H v d → ShO ok' H v d := by
  intro v d s
  exact ShO.rec (motive_1 := fun v d _ => ShO ok' H v d) (motive_2 := fun vs ds _ => ShOs ok' H vs ds) .non .bl .int .str
    (fun h1 h2 _ ih => .lst h1 (h _ h2) ih) (fun h1 _ ih => .tup h1 ih) (fun h1 _ _ i1 i2 => .dict h1 i1 i2) .nil (fun _ _ i1 i2 => .cons i1 i2) s
theorem met_full {xs : List Str} : ∀ i, i ≤ xs.length → met xs i = i → (xs.take i).Nodup
  | 0, _, _ => by
    rw [List.take_zero]
    exact List.nodup_nil
  | i + 1, hi, h => by
    have hl := met_le xs i
    have h2 : (if (xs.take i).any (· == xs.getD i Str.empty) then met xs i else met xs i + 1) = i + 1 := h
    have e : xs[i]? = some xs[i] := List.getElem?_eq_getElem (by omega)
    split at h2
    · omega
    · rename_i hn
      have ih := met_full (xs := xs) i (by omega) (by omega)
      rw [List.take_add_one, e]
      refine List.nodup_append.mpr ⟨ih, List.pairwise_singleton _ _, fun x hx y hy => ?_⟩
      have hy2 : y = xs[i] := by simpa using hy
      intro z
      apply hn
      rw [List.any_eq_true]
      refine ⟨x, hx, ?_⟩
      rw [List.getD_eq_getElem?_getD, e, z, hy2]
      exact beq_self_eq_true _
theorem met_iff (xs : List Str) : decide (met xs xs.length = xs.length) = decide xs.Nodup := by
  by_cases h : xs.Nodup
  · rw [decide_eq_true h, decide_eq_true (met_nodup h _ (Nat.le_refl _))]
  · rw [decide_eq_false h, decide_eq_false]
    intro z
    have := met_full _ (Nat.le_refl _) z
    rw [List.take_length] at this
    exact h this
end Lw
/-! Built-ins. -/
namespace Pu
open PySem PySem.Spec PyProof.Rows L2 Kv
section
variable {X : Cx} {g : Gx} {E : Wx} {a b c e : Expr} {x : Str} {p pos : Pos} {fa fb fc : P D}
def Op1 (K : PySem.W.Frag) (r : List V → Hp → VK → Prop) (op : D → Option D) : Prop := ∀ (g : Gx) (ρ : En) (σ : L2.St) (ok : Addr → Prop) (H : Hp) (v : V) (x z : D) (Q : VK), Wf K g ok ρ σ H → Pk K ok H v x → op x = some z → Can K g ρ σ ok H z Q → r [v] H Q
theorem tX_op1 {r : List V → Hp → VK → Prop} {op : D → Option D} (h1 : Op1 X.K r op) {σ : L2.St} {H : Hp} {Q : VK} (hq : tX X.K g E (relD X.K) (bnd fa fun x => lft (op x)) σ H Q) : tCB r (tCons (tX X.K g E (relP X.K) fa) tNil) σ H Q := by
  obtain ⟨ok, ρ, w, h⟩ := hq
  refine ⟨ok, ρ, w, (Rs.bnd (RA := relP X.K) h).mono fun v1 H1 hq => ?_⟩
  obtain ⟨ok1, ρ1, d, w1, f1, r1, h2⟩ := hq
  unfold lft at h2
  cases e : op d with
  | none => rw [e] at h2; exact h2.elim
  | some z => rw [e] at h2; exact h1 g ρ1 σ ok1 H1 v1 d z Q w1 r1 e h2
theorem ev_call1 {id : String} {r : List V → Hp → VK → Prop} {op : D → Option D} (hc : CallR X (.builtin id) r) (h1 : Op1 X.K r op) (hg : Gl X x) (hm : X.mg x = none) (hv : bootBuiltins x = some (.builtin id)) (ha : EP X g E a fa) (hn : x ≠ "__name__" := by decide) (hdb : (x == ("__debug__" : Str)) = false := by decide)
    (hs : starEach [a] X.env = [(false, eval a X.env)] := by rfl) : EV X g E (.Call (.Name x p) [a] [] pos) (bnd fa fun x => lft (op x)) :=
  PE_imp (pe_callB hc hg hm hv (pa_cons ha pa_nil hs) hn hdb hs rfl) fun σ H Q hq => tX_op1 h1 hq
theorem ev_callT1 {T : String} {r : List V → Hp → VK → Prop} {op : D → Option D} (hc : CallR X (.type T) r) (h1 : Op1 X.K r op) (hg : Gl X x) (hm : X.mg x = none) (hv : bootBuiltins x = some (.type T)) (ha : EP X g E a fa) (hn : x ≠ "__name__" := by decide) (hdb : (x == ("__debug__" : Str)) = false := by decide)
    (hs : starEach [a] X.env = [(false, eval a X.env)] := by rfl) : EV X g E (.Call (.Name x p) [a] [] pos) (bnd fa fun x => lft (op x)) :=
  PE_imp (pe_callTy hc hg hm hv (pa_cons ha pa_nil hs) hn hdb hs rfl) fun σ H Q hq => tX_op1 h1 hq
theorem CallR.or {f : Value} {r r' : List V → Hp → VK → Prop} (h : CallR X f r) (h' : CallR X f r') : CallR X f (fun xs H Q => r xs H Q ∨ r' xs H Q) := by
  intro pins s σ H xs us Q I rv q
  rcases q with q | q
  · exact h pins s σ H xs us Q I rv q
  · exact h' pins s σ H xs us Q I rv q
/-! ### len -/
def lenD : D → Option D
  | .str z => if z.length ≤ sizeLine then some (.int z.length) else none
  | .dic ks _ => some (.int ks.length)
  | .dct ks _ => some (.int ks.length)
  | d => (seqD d).map fun xs => .int xs.length
def rLen (K : PySem.W.Frag) : List V → Hp → VK → Prop := fun xs H Q => (∃ x n, xs = [x] ∧ LenV K x H n ∧ Q (.int n) H) ∨ (∃ a kvs, xs = [V.ref a] ∧ Rd H a (.dK kvs) ∧ Q (.int kvs.length) H) ∨ (∃ a kvs, xs = [V.ref a] ∧ Rd H a (.dT kvs) ∧ Q (.int kvs.length) H)
theorem len_dK : CallR X (.builtin "len") (fun xs H Q => ∃ a kvs, xs = [V.ref a] ∧ Rd H a (.dK kvs) ∧ Q (.int kvs.length) H) := by
  intro pins s σ H xs us Q I rv ⟨a, kvs, ex, hd, hq⟩
  subst ex
  obtain ⟨u, rfl, z⟩ := vals1 rv
  cases z
  exact d_len I hd fun t _ J => ⟨.int kvs.length, H, J, ⟨t, rfl⟩, hq⟩
theorem len_dT : CallR X (.builtin "len") (fun xs H Q => ∃ a kvs, xs = [V.ref a] ∧ Rd H a (.dT kvs) ∧ Q (.int kvs.length) H) := by
  intro pins s σ H xs us Q I rv ⟨a, kvs, ex, hd, hq⟩
  subst ex
  obtain ⟨u, rfl, z⟩ := vals1 rv
  cases z
  obtain ⟨hz, hs, ys, hk, hdd⟩ := dt_rd I.hok hd
  have el : ys.length = kvs.length := (Paired.length hk).symm
  rw [sizeLine_eq] at hz
  refine call_len_dictH hs hdd (by omega) ?_
  rw [el]
  exact ⟨.int kvs.length, H, I.tok _, ⟨_, rfl⟩, hq⟩
theorem call_lenA : CallR X (.builtin "len") (rLen X.K) := CallR.or call_len (CallR.or len_dK len_dT)
theorem o1_len : Op1 X.K (rLen X.K) lenD := by
  intro g ρ σ ok H v x z Q w r e q
  have seq : ∀ xs, seqD x = some xs → z = .int xs.length → rLen X.K [v] H Q := fun xs es ez => by
    obtain ⟨a, vs, rfl, sq, rp⟩ := r.seq es
    refine .inl ⟨.ref a, vs.length, rfl, sq.imp (fun h => ⟨vs, h, rfl⟩) (fun h => ⟨vs, h, rfl⟩), ?_⟩
    subst ez
    rw [rp.length]
    exact q.at w (.int _)
  cases x with
  | str s =>
    have e : (if s.length ≤ sizeLine then some (D.int s.length) else none) = some z := e
    split at e
    · cases e
      rw [r.str]
      exact .inl ⟨.str s, s.length, rfl, ⟨by assumption, rfl⟩, q.at w (.int _)⟩
    · cases e
  | dic ks vs =>
    cases e
    obtain ⟨a, kvs, rfl, h1, rfl, rp⟩ := r.dic
    refine .inr (.inl ⟨a, kvs, rfl, h1, ?_⟩)
    rw [List.length_map] at q
    exact q.at w (.int _)
  | dct ks vs =>
    cases e
    obtain ⟨a, kvs, rfl, h1, rfl, rp⟩ := r.dct
    refine .inr (.inr ⟨a, kvs, rfl, h1, ?_⟩)
    rw [List.length_map] at q
    exact q.at w (.int _)
  | lst xs => cases e; exact seq xs rfl rfl
  | tup xs => cases e; exact seq xs rfl rfl
  | flst xs => cases e; exact seq xs rfl rfl
  | ftup xs => cases e; exact seq xs rfl rfl
  | _ => cases e
/-! ### all, any -/
def blsD : List D → Option (List Bool)
  | [] => some []
  | d :: ds => match asB d, blsD ds with
    | some b, some bs => some (b :: bs)
    | _, _ => none
theorem Reps.bls {K : PySem.W.Frag} {ok : Addr → Prop} {H : Hp} : ∀ {vs : List V} {ds : List D} {bs : List Bool}, Reps K ok H vs ds → blsD ds = some bs → vs = bs.map V.bl
  | _, _, _, .nil, h => by cases h; rfl
  | _, _, _, .cons (d := d) (ds := ds) r t, h => by
    unfold blsD at h
    cases r with
    | bl b =>
      cases e2 : blsD ds with
      | none => rw [e2] at h; cases h
      | some bs => rw [e2] at h; cases h; rw [t.bls e2]; rfl
    | _ => cases h
def allD (k : List Bool → Bool) : D → Option D
  | .lst xs => (blsD xs).map fun bs => .bl (k bs)
  | _ => none
theorem o1_any : Op1 X.K (rAny X.K) (allD fun bs => bs.any id) := by
  intro g ρ σ ok H v x z Q w r e q
  cases x with
  | lst xs =>
    obtain ⟨a, vs, rfl, h1, rp⟩ := r.lst
    have e : (blsD xs).map (fun bs => D.bl (bs.any id)) = some z := e
    cases eb : blsD xs with
    | none => rw [eb] at e; cases e
    | some bs =>
      rw [eb] at e
      cases e
      have ev := rp.bls eb
      subst ev
      exact ⟨a, bs, rfl, .inl (.inl h1), q.at w (.bl _)⟩
  | _ => cases e
/-! ### isinstance -/
def tyS : D → Option String
  | .non => some "NoneType"
  | .bl _ => some "bool"
  | .int _ => some "int"
  | .str _ => some "str"
  | .lst _ => some "list"
  | .flst _ => some "list"
  | .tup _ => some "tuple"
  | .ftup _ => some "tuple"
  | .dic _ _ => some "dict"
  | .dct _ _ => some "dict"
  | .obj _ _ _ => none
  | .exn _ _ _ _ _ => none
  | .opq _ => none
  | .typ _ => none
  | .lsta _ _ => none
  | .clo _ _ _ => none
def TyZ (K : PySem.W.Frag) (H : Hp) (v : V) (t : Value) : Prop := TyX K H v t ∨ ∃ a o kvs, v = .ref a ∧ H a = some (.frz o (.dT kvs)) ∧ t = .type "dict"
theorem call_isz : CallR X (.builtin "isinstance") (fun xs H Q => ∃ (v c : V) (t u : Value) (bb : Bool), xs = [v, c] ∧ ClsV c u ∧ TyZ X.K H v t ∧ PySem.W.kitOne X.K t u = some bb ∧ Q (.bl bb) H) := by
  intro pins s σ H xs us Q I rv ⟨v, c, t, u, bb, ex, hc, ty, hk, hq⟩
  rcases ty with ty | ⟨a, o, kvs, ev, ha, et⟩
  · exact call_isi pins s σ H xs us Q I rv ⟨v, c, t, u, bb, ex, hc, ty, hk, hq⟩
  · subst ex ev et
    obtain ⟨w1, w2, rfl, z1, z2⟩ := vals2 rv
    cases z1
    have e2 := hc.eq z2
    subst e2
    have there : ∃ ob, s.heap.get? a = some ob ∧ ob.cls = .type "dict" := by
      obtain ⟨_, _, _, _, ob, _, _, g1, g2, _⟩ := (show ObjOk X.prog X.w H s.heap a (.dT kvs) from Rd.ok (.inr ⟨o, ha⟩) I.hok)
      exact ⟨ob, g1, g2.1⟩
    exact PySem.W.kia_one PySem.W.kitx_dict I.kIn there hk (fun z => nomatch z) fun tk => ⟨.bl bb, H, I.tok tk, rfl, hq⟩
theorem Pk.ty {K : PySem.W.Frag} {ok : Addr → Prop} {H : Hp} {v : V} {d : D} {t : String} (r : Pk K ok H v d) (h : tyS d = some t) : TyZ K H v (.type t) := by
  rcases r with r | ⟨q, rfl, o⟩
  · cases r with
    | non => cases h; exact .inl (.base .non)
    | bl b => cases h; exact .inl (.base (.bl b))
    | int i => cases h; exact .inl (.base (.int i))
    | str x => cases h; exact .inl (.base (.str x))
    | lst h1 _ _ => cases h; exact .inl (.base (.lst h1))
    | lstF h1 _ =>
      cases h
      rcases h1 with ⟨o, h1⟩ | ⟨o, its, n, hk, hc, _⟩
      · exact .inl (.base (.frz h1))
      · exact .inl (.kList hk hc)
    | tupO h1 _ =>
      cases h
      rcases h1 with h1 | ⟨_, o, its, n, hk, hc, _⟩
      · exact .inl (.base (.tup h1))
      · exact .inl (.kTuple hk hc)
    | tupF h1 _ =>
      cases h
      rcases h1 with ⟨o, h1, _⟩ | ⟨o, its, n, hk, hc, _⟩
      · exact .inl (.fTuple h1)
      · exact .inl (.kTuple hk hc)
    | dic h1 _ =>
      cases h
      rcases h1 with ⟨h1, _⟩ | ⟨o, h1⟩
      · exact .inl (.base (.dK h1))
      · exact .inl (.fDict h1)
    | dct h1 _ =>
      cases h
      rcases h1 with ⟨h1, _⟩ | ⟨o, h1⟩
      · exact .inl (.base (.dT h1))
      · exact .inr ⟨_, o, _, rfl, h1, rfl⟩
    | obj _ _ _ => cases h
    | exn _ _ => cases h
    | opq _ => cases h
    | typ _ => cases h
    | lsta _ _ _ => cases h
    | clo _ => cases h
  · cases d with
    | lst ds => cases h; obtain ⟨vs, h1, _⟩ := o; exact .inl (.base (.lst h1))
    | dic ks ds => cases h; obtain ⟨vs, h1, _⟩ := o; exact .inl (.base (.dK h1))
    | dct ks ds => cases h; obtain ⟨vs, h1, _⟩ := o; exact .inl (.base (.dT h1))
    | obj _ _ _ => cases h
    | lsta _ _ => cases h
    | _ => exact o.elim
def isi (T : String) (d : D) : Option D := (tyS d).bind fun t => (kitB t T).map D.bl
theorem ev_isi {T : String} {y : Str} {p2 : Pos} (hg : Gl X "isinstance") (hm : X.mg "isinstance" = none) (hgT : Gl X y) (hmT : X.mg y = none) (hvT : bootBuiltins y = some (.type T)) (ha : EP X g E a fa) (hn : y ≠ "__name__" := by decide) (hdb : (y == ("__debug__" : Str)) = false := by decide)
    (hs : starEach [a, .Name y p2] X.env = [(false, eval a X.env), (false, eval (.Name y p2) X.env)] := by rfl) (hs2 : starEach [.Name y p2] X.env = [(false, eval (.Name y p2) X.env)] := by rfl) :
    EV X g E (.Call (.Name "isinstance" p) [a, .Name y p2] [] pos) (bnd fa fun x => lft (isi T x)) := by
  refine PE_imp (pe_callB (x := "isinstance") call_isz hg hm (by decide +kernel) (pa_cons ha (pa_cons (pe_bltn (v := .ty T) hgT hmT hvT rfl hn hdb) pa_nil hs2) (by rw [hs, hs2])) (by decide) (by decide) (by rw [hs, hs2]) (by rw [hs2]; rfl)) fun σ H Q hq => ?_
  obtain ⟨ok, ρ, w, h⟩ := hq
  refine ⟨ok, ρ, w, (Rs.bnd (RA := relP X.K) h).mono fun v1 H1 hq => ?_⟩
  obtain ⟨ok1, ρ1, d, w1, f1, r1, h1⟩ := hq
  unfold lft at h1
  have r1 : Pk X.K ok1 H1 v1 d := r1
  cases et : tyS d with
  | none =>
    have : isi T d = none := by unfold isi; rw [et]; rfl
    rw [this] at h1
    exact h1.elim
  | some t =>
    have e1 : isi T d = (kitB t T).map D.bl := by unfold isi; rw [et]; rfl
    rw [e1] at h1
    cases ek : kitB t T with
    | none => rw [ek] at h1; exact h1.elim
    | some bb =>
      rw [ek] at h1
      exact ⟨v1, .ty T, .type t, .type T, bb, rfl, .ty T, r1.ty et, kit_ty ek, h1 (.bl bb) H1 ok1 w1 Sx.refl (.bl bb)⟩
/-! ### a < b < c -/
def chn (o o' : D → D → Option D) (fa fb fc : P D) : P D := bnd fa fun x => bnd fb fun y => bnd (lft ((o x y).bind asB)) fun k => if k = true then bnd fc fun z => lft (o' y z) else prt (.bl false)
/-! ### range -/
def rngD (lo : Int) (n : Nat) : List D := (List.range n).map fun i => .int (lo + (i : Nat))
def rng1 : D → Option (List D)
  | .int j => if -(2 ^ 62) ≤ j ∧ j < 2 ^ 62 then some (rngD 0 j.toNat) else none
  | _ => none
theorem wk_range {K : PySem.W.Frag} {L : List Nat} {σ : L2.St} {ρ : En} {ok : Addr → Prop} {H : Hp} {lo : Int} {n : Nat} : WkOk K g L σ ρ (Itr lo n) (rngD lo n) ok H := by
  intro ok2 ρ2 σ2 H2 w2 f2 k2
  have ln : (rngD lo n).length = n := by unfold rngD; rw [List.length_map, List.length_range]
  refine ⟨fun i hi => ?_, ?_, fun i d x H3 hd y => ?_⟩
  · rw [ln] at hi; exact hi
  · rw [ln]; exact Nat.le_refl n
  · obtain ⟨rfl, rfl⟩ := y
    refine ⟨.inl rfl, ?_⟩
    unfold rngD at hd
    rw [List.getElem?_map] at hd
    cases e : (List.range n)[i]? with
    | none => rw [e] at hd; cases hd
    | some j =>
      rw [e] at hd
      cases hd
      have : j = i := by
        obtain ⟨h1, h2⟩ := List.getElem?_eq_some_iff.mp e
        rw [List.getElem_range] at h2
        exact h2.symm
      subst this
      exact .int _
theorem ei_range1 {tg : Expr} (hg : Gl X "range") (hm : X.mg "range" = none) (ha : EV X g E a fa) (hs : starEach [a] X.env = [(false, eval a X.env)] := by rfl) : EI X g E [] tg (.Call (.Name "range" p) [a] [] pos) (bnd fa fun d => lft (rng1 d)) := by
  refine PI_imp (pi_range1 hg hm (pa_cons ha pa_nil hs) hs) fun σ H R hq => ?_
  obtain ⟨ok, ρ, w, h⟩ := hq
  refine ⟨ok, ρ, w, ?_⟩
  cases e : fa ρ with
  | none => rw [bnd_none e] at h; exact h
  | some y =>
    cases y with
    | er c ns ds ρ' => rw [bnd_er e] at h; exact h
    | ok d ρ' =>
      rw [bnd_ok e] at h
      intro v H' ok' w' s' r'
      have r' : Rep X.K ok' H' v d := r'
      cases r' with
      | int j =>
        by_cases hz : -(2 ^ 62) ≤ j ∧ j < 2 ^ 62
        · have ez : rng1 (.int j) = some (rngD 0 j.toNat) := if_pos hz
          rw [ez] at h
          exact ⟨j, rfl, hz.1, hz.2, h _ H' ok' w' s' wk_range⟩
        · have ez : rng1 (.int j) = none := if_neg hz
          rw [ez] at h
          exact h.elim
      | _ => exact h.elim
/-! ### list(x), tuple(x) -/
def tupD : D → Option D
  | .lst xs => some (.tup xs)
  | .tup xs => some (.tup xs)
  | _ => none
theorem o1_tuple : Op1 X.K (fun xs H Q => ∃ p ys, xs = [.ref p] ∧ ((SqL X.K H p ys ∧ ∀ l, H l = none → Q (.ref l) (upd H l (.tup ys))) ∨ (SqT X.K H p ys ∧ Q (.ref p) H))) tupD := by
  intro g ρ σ ok H v x z Q w r e q
  cases x with
  | lst xs =>
    cases e
    obtain ⟨a, vs, rfl, h1, rp⟩ := r.lst
    exact ⟨a, vs, rfl, .inl ⟨.inl (.inl h1), fun l nl => q.new w nl fun kp ep f => .tup ep (rp.fr f)⟩⟩
  | tup xs =>
    cases e
    obtain ⟨a, vs, rfl, h1, rp⟩ := r.tup
    exact ⟨a, vs, rfl, .inr ⟨h1.sq, q.at w (.tupO h1 rp)⟩⟩
  | _ => cases e
end
end Pu
/-! What the printed texts use. -/
namespace Pu
open PySem PySem.Spec PyProof.Rows L2 Kv
structure Cal (P' : Program) (w : World) (K : PySem.W.Frag) (mg : Str → Option Value) (base : Heap) (T : List (Addr × Str)) (k n : Nat) (x : Str) (F : P R) : Prop where
  ex : ∃ f fd ps, FnG P' w K mg base (L2.CX P' w) k f fd ps (spP K T n F) ∧ ps.length = n ∧ mg x = some (.ref f) ∧ PySem.W.keepIn K (.ref f) = true ∧ Binds K fd ps []
structure CalM (P' : Program) (w : World) (K : PySem.W.Frag) (mg : Str → Option Value) (base : Heap) (T : List (Addr × Str)) (C : Addr) (k n : Nat) (m : Str) (F : P R) : Prop where
  ex : ∃ f fd ps, FnG P' w K mg base (L2.CX P' w) k f fd ps (spP K T n F) ∧ Meth K C m f ∧ Cls K C ∧ Binds K fd ps []
structure Def (K : PySem.W.Frag) (mg : Str → Option Value) (x : Str) (st : Stmt) (ps : List Str) : Prop where
  ex : ∃ f fd, Fun K x x st f fd ∧ Binds K fd ps [] ∧ mg x = some (.ref f)
structure DefM (K : PySem.W.Frag) (C : Addr) (x qual : Str) (st : Stmt) (ps : List Str) : Prop where
  ex : ∃ f fd, Fun K x qual st f fd ∧ Binds K fd ps [] ∧ Meth K C x f ∧ Cls K C
section
variable {P' : Program} {w : World} {K : PySem.W.Frag} {mg : Str → Option Value} {base : Heap} {T : List (Addr × Str)}
theorem cal_mk {x : Str} {st : Stmt} {N ps : List Str} {k n : Nat} {B : List Nat} {body : S} (d : Def K mg x st ps) (S : FnScope N ps (defScope st)) (hn : ps.length = n)
    (hb : ∀ (f : Addr) (cdv : Value) (A : Around) (fr : List Env) (s : Shared) (H : Hp) (E : XK), A.guards = some [] → Room k (A.deeper (envOfC x (defScope st) s.heap.objs.size f cdv)) →
      ESs (cxOf (L2.CX P' w) P' w K mg base N x (defScope st) f cdv A fr s H E) ⟨H, B, T⟩ (fun _ => E) (defBody st) body) :
    Cal P' w K mg base T (k + 1) n x (fnP N.length B body) := by
  obtain ⟨f, fd, F, b, m⟩ := d.ex
  subst hn
  exact ⟨f, fd, ps, fn_pure F S (hb f), rfl, m, F.kp, b⟩
theorem calM_mk {C : Addr} {x qual : Str} {st : Stmt} {N ps : List Str} {k n : Nat} {B : List Nat} {body : S} (d : DefM K C x qual st ps) (S : FnScope N ps (defScope st)) (hn : ps.length = n)
    (hb : ∀ (f : Addr) (cdv : Value) (A : Around) (fr : List Env) (s : Shared) (H : Hp) (E : XK), A.guards = some [] → Room k (A.deeper (envOfC qual (defScope st) s.heap.objs.size f cdv)) →
      ESs (cxOf (L2.CX P' w) P' w K mg base N qual (defScope st) f cdv A fr s H E) ⟨H, B, T⟩ (fun _ => E) (defBody st) body) :
    CalM P' w K mg base T C (k + 1) n x (fnP N.length B body) := by
  obtain ⟨f, fd, F, b, m, c⟩ := d.ex
  subst hn
  exact ⟨f, fd, ps, fn_pure F S (hb f), m, c, b⟩
end
section
variable {X : Cx} {g : Gx} {E : Wx} {k n : Nat} {C : Addr} {x m : Str} {F : P R} {p pos apos : Pos} {e o : Expr} {es : List Expr}
theorem er_callC {fr : P (List D)} (c : Cal X.prog X.w X.K X.mg X.base g.T k n x F) (hgd : X.A.guards = some []) (hr : Room k X.A) (hg : Gl X x) (hx : ∀ σ, PassesAt (L2.CX X.prog X.w) X σ (E σ)) (ha : EA X g E (e :: es) fr)
    (hdb : (x == ("__debug__" : Str)) = false := by decide) (he : starEach (e :: es) X.env = (false, eval e X.env) :: starEach es X.env := by rfl) (hpl : (backTo pos (starEach es X.env)).any (·.1) = false := by rfl) :
    ER X g E (.Call (.Name x p) (e :: es) [] pos) (bnd fr fun ds => if ds.length = n then app F ds else fun _ => none) := by
  obtain ⟨f, fd, ps, G, hn, m, kp, b⟩ := c.ex
  exact er_call G hn hgd hr hg m kp b hx ha hdb he hpl
theorem er_methC {fo : P D} {fr : P (List D)} {pl : Sem Bool} (c : CalM X.prog X.w X.K X.mg X.base g.T C k n m F) (ho : EV X g E o fo) (hgd : X.A.guards = some []) (hr : Room k X.A) (hx : ∀ σ, PassesAt (L2.CX X.prog X.w) X σ (E σ)) (ha : EA X g E (e :: es) fr)
    (hst : starEach (e :: es) X.env = (false, eval e X.env) :: starEach es X.env := by rfl) (hpl : (backTo pos (starEach es X.env)).any (·.1) = false := by rfl)
    (ht : eval (.Call (.Attribute o m apos) (e :: es) [] pos) X.env = (do
      let ov ← eval o X.env
      standAt apos.atName
      let (f, first) ← holding [ov] (getMethod ov m pl)
      callWith pos f first (backTo pos (starEach (e :: es) X.env)) (backToKw pos (keywordEach [] X.env))) := by rfl) :
    ER X g E (.Call (.Attribute o m apos) (e :: es) [] pos) (bnd fo fun d => if isObj C m d = true then bnd fr fun ds => if ds.length + 1 = n then app F (d :: ds) else fun _ => none else fun _ => none) := by
  obtain ⟨f, fd, ps, G, hm, cl, b⟩ := c.ex
  exact er_meth ho cl hm G hgd hr b hx ha hst hpl ht
theorem er_methC0 {fo : P D} {pl : Sem Bool} (c : CalM X.prog X.w X.K X.mg X.base g.T C k n m F) (ho : EV X g E o fo) (hgd : X.A.guards = some []) (hr : Room k X.A) (hx : ∀ σ, PassesAt (L2.CX X.prog X.w) X σ (E σ))
    (ht : eval (.Call (.Attribute o m apos) [] [] pos) X.env = (do
      let ov ← eval o X.env
      standAt apos.atName
      let (f, first) ← holding [ov] (getMethod ov m pl)
      callWith pos f first (backTo pos (starEach [] X.env)) (backToKw pos (keywordEach [] X.env))) := by rfl) :
    ER X g E (.Call (.Attribute o m apos) [] [] pos) (bnd fo fun d => if isObj C m d = true ∧ 1 = n then app F [d] else fun _ => none) := by
  obtain ⟨f, fd, ps, G, hm, cl, b⟩ := c.ex
  exact er_meth0 ho cl hm G hgd hr b hx ht
theorem pass_no {σ : L2.St} : PassesAt (L2.CX X.prog X.w) X σ (noE σ) := fun _ _ _ _ _ _ c => by
  obtain ⟨_, _, _, _, _, _, _, _, _, _, _, _, z⟩ := c
  exact z.elim
/-! names -/
theorem evn (i : Nat) {x : Str} {pos : Pos} (hN : X.N[i]? = some x := by rfl) (hv : Vis X.env.scope x := by first | exact Or.inl rfl | exact Or.inr (Or.inl rfl) | exact Or.inr (Or.inr rfl)) (hd : (x == ("__debug__" : Str)) = false := by decide)
    (hcd : (x == ("__classdict__" : Str)) = false := by decide) : EV X g E (.Name x pos) (rd i) := ev_name hN hv hd hcd
theorem epn (i : Nat) {x : Str} {pos : Pos} (hN : X.N[i]? = some x := by rfl) (hv : Vis X.env.scope x := by first | exact Or.inl rfl | exact Or.inr (Or.inl rfl) | exact Or.inr (Or.inr rfl)) (hd : (x == ("__debug__" : Str)) = false := by decide)
    (hcd : (x == ("__classdict__" : Str)) = false := by decide) : EP X g E (.Name x pos) (pk i) := ep_name hN hv hd hcd
theorem eixn (i : Nat) {x : Str} {b : Expr} {fb : P D} {pos p : Pos} (hu : X.A.units + 1 < cLine) (hb : EV X g E b fb) (hs : PlainIx b := by intro _ _; rfl) (hN : X.N[i]? = some x := by rfl) (hv : Vis X.env.scope x := by first | exact Or.inl rfl | exact Or.inr (Or.inl rfl) | exact Or.inr (Or.inr rfl)) (hd : (x == ("__debug__" : Str)) = false := by decide)
    (hcd : (x == ("__classdict__" : Str)) = false := by decide) : EV X g E (.Subscript (.Name x p) b pos) (ixN' i fb) := ev_ixN hu hN hv hb hs hd hcd
theorem eret (i : Nat) {x : Str} {pos p : Pos} (hB : i ∉ g.B := by decide) (hN : X.N[i]? = some x := by rfl) (hv : Vis X.env.scope x := by first | exact Or.inl rfl | exact Or.inr (Or.inl rfl) | exact Or.inr (Or.inr rfl)) (hd : (x == ("__debug__" : Str)) = false := by decide)
    (hcd : (x == ("__classdict__" : Str)) = false := by decide) : ES X g E (.Return (some (.Name x p)) pos) (sb (mv i) fun r ρ => some (.rt r ρ)) := es_retV hN hv hB hd hcd
theorem pts0 {K : PySem.W.Frag} {E : Wx} : PTs X [] (tX K g E relB (prt true)) := ⟨fun pins s σ H Q I h => by
  obtain ⟨ok, ρ, w, h⟩ := h
  exact (pts_nil (X := X)).run pins s σ H Q I (h true H ok w Sx.refl rfl)⟩
theorem pts1 {c : Expr} {E : Wx} {f : P Bool} (h : ET X g E c f) : PTs X [c] (tX X.K g E relB f) := pts_one h
/-! what stays -/
theorem kp_nil {α : Type} {f : P α} : Kp [] f := fun _ _ _ _ l hl => by cases hl
end
end Pu
/-! ==, slices, enumerate. -/
namespace Pu
open PySem PySem.Spec PyProof.Rows L2 Kv
mutual
def toPy : D → Option PyData
  | .non => some .none
  | .bl b => some (.bool b)
  | .int i => some (.int i)
  | .str x => some (.str x)
  | .lst xs => (toPys xs).map .list
  | .flst xs => (toPys xs).map .list
  | .tup xs => (toPys xs).map .tuple
  | .ftup xs => (toPys xs).map .tuple
  | .dic _ _ => none
  | .dct _ _ => none
  | .obj _ _ _ => none
  | .exn _ _ _ _ _ => none
  | .opq _ => none
  | .typ _ => none
  | .clo _ _ _ => none
  | .lsta _ xs => (toPys xs).map .list
def toPys : List D → Option (List PyData)
  | [] => some []
  | d :: ds => match toPy d, toPys ds with
    | some p, some ps => some (p :: ps)
    | _, _ => none
end
theorem map_some {α β : Type} {o : Option α} {f : α → β} {b : β} (h : o.map f = some b) : ∃ a, o = some a ∧ f a = b := by
  cases o with
  | none => cases h
  | some a => exact ⟨a, rfl, Option.some.inj h⟩
section
variable {K : PySem.W.Frag} {ok : Addr → Prop} {H : Hp}
mutual
theorem Rep.dp : ∀ {v : V} {d : D} {p : PyData}, Rep K ok H v d → toPy d = some p → Dp K H v p
  | _, _, _, .non, h => by cases h; exact .non
  | _, _, _, .bl b, h => by cases h; exact .bl b
  | _, _, _, .int i, h => by cases h; exact .int i
  | _, _, _, .str x, h => by cases h; exact .str x
  | _, _, _, .lst h1 _ r, h => by
    obtain ⟨ps, e, rfl⟩ := map_some (show (toPys _).map PyData.list = some _ from h)
    exact .lst (.inl (.inl h1)) (Reps.dp r e)
  | _, _, _, .lstF h1 r, h => by
    obtain ⟨ps, e, rfl⟩ := map_some (show (toPys _).map PyData.list = some _ from h)
    exact .lst h1.sq (Reps.dp r e)
  | _, _, _, .tupO h1 r, h => by
    obtain ⟨ps, e, rfl⟩ := map_some (show (toPys _).map PyData.tuple = some _ from h)
    exact .tup h1.sq (Reps.dp r e)
  | _, _, _, .tupF h1 r, h => by
    obtain ⟨ps, e, rfl⟩ := map_some (show (toPys _).map PyData.tuple = some _ from h)
    exact .tup h1.sq (Reps.dp r e)
  | _, _, _, .dic _ _, h => by cases h
  | _, _, _, .dct _ _, h => by cases h
  | _, _, _, .obj _ _ _, h => by cases h
  | _, _, _, .exn _ _, h => by cases h
  | _, _, _, .opq _, h => by cases h
  | _, _, _, .typ _, h => by cases h
  | _, _, _, .clo _, h => by cases h
  | _, _, _, .lsta h1 _ r, h => by
    obtain ⟨ps, e, rfl⟩ := map_some (show (toPys _).map PyData.list = some _ from h)
    exact .lst (.inl (.inl h1)) (Reps.dp r e)
theorem Reps.dp : ∀ {vs : List V} {ds : List D} {ps : List PyData}, Reps K ok H vs ds → toPys ds = some ps → DpAll K H vs ps
  | _, _, _, .nil, h => by cases h; exact .nil
  | _, _, _, .cons (d := d) (ds := ds) r t, h => by
    unfold toPys at h
    cases e1 : toPy d with
    | none => rw [e1] at h; cases h
    | some p =>
      cases e2 : toPys ds with
      | none => rw [e1, e2] at h; cases h
      | some ps => rw [e1, e2] at h; cases h; exact .cons (Rep.dp r e1) (Reps.dp t e2)
end
theorem Pk.dp {v : V} {d : D} {p : PyData} (r : Pk K ok H v d) (h : toPy d = some p) : Dp K H v p := by
  rcases r with r | ⟨q, rfl, o⟩
  · exact r.dp h
  · cases d with
    | lst ds =>
      obtain ⟨vs, h1, r⟩ := o
      obtain ⟨ps, e, rfl⟩ := map_some (show (toPys _).map PyData.list = some _ from h)
      exact .lst (.inl (.inl h1)) (Reps.dp r e)
    | dic ks ds => cases h
    | dct ks ds => cases h
    | obj _ _ _ => cases h
    | lsta a ds =>
      obtain ⟨_, vs, h1, r⟩ := o
      obtain ⟨ps, e, rfl⟩ := map_some (show (toPys _).map PyData.list = some _ from h)
      exact .lst (.inl (.inl h1)) (Reps.dp r e)
    | _ => exact o.elim
theorem Pk.flat {v u : V} {d : D} (r : Pk K ok H v d) (h : flV d = some u) : v = u := by
  rcases r with r | ⟨q, rfl, o⟩
  · exact r.flat h
  · cases d <;> first | exact o.elim | cases h
end
def eqS (x y : D) : Option Bool := match flV x, flV y with
  | some u, some v => if scal u v = true then some (decide (u = v)) else none
  | _, _ => none
def eqP (x y : D) : Option Bool := match toPy x, toPy y with
  | some p, some q => if (SeqAt.shaped p && SeqAt.shaped q) = true then some (PyData.eqv p q) else none
  | _, _ => none
def eqA (x y : D) : Option Bool := (eqS x y).orElse fun _ => eqP x y
def opEq (x y : D) : Option D := (eqA x y).map D.bl
def opNe (x y : D) : Option D := (eqA x y).map fun b => D.bl (!b)
def rEqA (K : PySem.W.Frag) : R2 := fun x y H Q => rEq x y H Q ∨ rEqD K x y H Q
def rNeA (K : PySem.W.Frag) : R2 := fun x y H Q => rNe x y H Q ∨ rNeD K x y H Q
section
variable {X : Cx} {g : Gx} {E : Wx} {a b c e : Expr} {x : Str} {p pos : Pos} {fa fb fc : P D}
theorem op_eqA (hu : X.A.units + 64 < cLine) : OpR X (compareOp .Eq) (rEqA X.K) := op_eq.or (op_eqD hu)
theorem op_neA (hu : X.A.units + 64 < cLine) : OpR X (compareOp .NotEq) (rNeA X.K) := op_ne.or (op_neD hu)
theorem eqA_cases {K : PySem.W.Frag} {ok : Addr → Prop} {H : Hp} {u v : V} {x y : D} {k : Bool} (r1 : Rep K ok H u x) (r2 : Pk K ok H v y) (h : eqA x y = some k) :
    (scal u v = true ∧ k = decide (u = v)) ∨ ∃ p q, Dp K H u p ∧ Dp K H v q ∧ SeqAt.shaped p = true ∧ SeqAt.shaped q = true ∧ k = PyData.eqv p q := by
  unfold eqA at h
  cases e : eqS x y with
  | some k' =>
    rw [e] at h
    cases h
    unfold eqS at e
    cases e1 : flV x with
    | none => rw [e1] at e; cases e
    | some u' =>
      cases e2 : flV y with
      | none => rw [e1, e2] at e; cases e
      | some v' =>
        rw [e1, e2] at e
        have e : (if scal u' v' = true then some (decide (u' = v')) else none) = some k := e
        split at e
        · cases e
          have h1 := r1.flat e1
          have h2 := r2.flat e2
          subst h1; subst h2
          exact .inl ⟨by assumption, rfl⟩
        · cases e
  | none =>
    rw [e] at h
    have h : eqP x y = some k := h
    unfold eqP at h
    cases e1 : toPy x with
    | none => rw [e1] at h; cases h
    | some p =>
      cases e2 : toPy y with
      | none => rw [e1, e2] at h; cases h
      | some q =>
        rw [e1, e2] at h
        have h : (if (SeqAt.shaped p && SeqAt.shaped q) = true then some (PyData.eqv p q) else none) = some k := h
        split at h
        · rename_i hs
          cases h
          rw [Bool.and_eq_true] at hs
          exact .inr ⟨p, q, r1.dp e1, r2.dp e2, hs.1, hs.2, rfl⟩
        · cases h
theorem o2_eq : Op2 X.K (rEqA X.K) opEq := by
  intro g ρ σ ok H u v x y z Q w r1 r2 e q
  obtain ⟨k, ek, rfl⟩ := map_some e
  rcases eqA_cases r1 r2 ek with ⟨h1, rfl⟩ | ⟨p', q', h1, h2, h3, h4, rfl⟩
  · exact .inl ⟨h1, q.at w (.bl _)⟩
  · exact .inr ⟨p', q', h1, h2, h3, h4, q.at w (.bl _)⟩
theorem o2_ne : Op2 X.K (rNeA X.K) opNe := by
  intro g ρ σ ok H u v x y z Q w r1 r2 e q
  obtain ⟨k, ek, rfl⟩ := map_some e
  rcases eqA_cases r1 r2 ek with ⟨h1, rfl⟩ | ⟨p', q', h1, h2, h3, h4, rfl⟩
  · exact .inl ⟨h1, q.at w (.bl _)⟩
  · exact .inr ⟨p', q', h1, h2, h3, h4, q.at w (.bl _)⟩
/-! ### chains as tests -/
end
end Pu
/-! A call to which a thing of one's own is lent. -/
namespace Pu
open PySem PySem.Spec PyProof.Rows L2 Kv
def appB (i : Nat) (F : P R) (n : Nat) (ds : List D) : P R := fun ρ => match ρ[i]? with
  | some (.own d) => if ds.length + 1 = n then match F (.own d :: vals ds) with
      | some (.ok r (.own d' :: _)) => some (.ok r (ρ.set i (.own d')))
      | some (.er c ns es (.own d' :: _)) => some (.er c ns es (ρ.set i (.own d')))
      | _ => none
    else none
  | _ => none
theorem lentS_get {ds : List D} {d : D} {j : Nat} {s : Slot} (h : (Slot.own d :: vals ds)[j]? = some s) : (j = 0 ∧ s = .own d) ∨ ∃ k x, j = k + 1 ∧ ds[k]? = some x ∧ s = .val x := by
  cases j with
  | zero => cases h; exact .inl ⟨rfl, rfl⟩
  | succ k =>
    have h : (vals ds)[k]? = some s := h
    unfold vals at h
    rw [List.getElem?_map] at h
    cases e : ds[k]? with
    | none => rw [e] at h; cases h
    | some x => rw [e] at h; cases h; exact .inr ⟨k, x, rfl, e, rfl⟩
section
variable {K : PySem.W.Frag} {g : Gx} {E : Wx} {ok : Addr → Prop} {ρ : En} {σ : L2.St} {H : Hp}
theorem lent_back {i : Nat} {q : Addr} {d d' : D} {ds : List D} {vs : List V} {tl : En} {ok' : Addr → Prop} {H' : Hp} {n : Nat} (w : Wf K g ok ρ σ H) (hi : ρ[i]? = some (.own d)) (hq : σ[i]? = some (some (.ref q)))
    (w' : Wf K ⟨H, List.range n, g.T⟩ ok' (.own d' :: tl) ((V.ref q :: vs).map some) H') (s : Sx ((V.ref q :: vs).map some) (.own d :: vals ds) ok H (.own d' :: tl) ok' H') :
    Wf K g ok' (ρ.set i (.own d')) σ H' ∧ Sx σ ρ ok H (ρ.set i (.own d')) ok' H' := by
  have wq : ∀ a, wrs (.own d :: vals ds) ((V.ref q :: vs).map some) a → a = q := fun a ⟨j, e, h1, h2⟩ => by
    rcases lentS_get h1 with ⟨rfl, _⟩ | ⟨k, x, rfl, _, z⟩
    · cases h2; rfl
    · cases z
  obtain ⟨q0, e0, o0, nk0, b0⟩ := w.own i d hi
  rw [hq] at e0
  cases e0
  obtain ⟨q1, e1, o1, nk1, _⟩ := w'.own 0 d' rfl
  cases e1
  have oth : ∀ {j : Nat} {e : D}, j ≠ i → ρ[j]? = some (.own e) → ∃ p, σ[j]? = some (some (.ref p)) ∧ OwnAt K ok' H' p e ∧ ¬ ok' p ∧ (j ∈ g.B ∨ g.H0 p = none) := fun {j e} nj hj => by
    obtain ⟨p, ep, op, nkp, bp⟩ := w.own j e hj
    have pq : p ≠ q := fun z => nj (w.apart j i e d p hj hi ep (by rw [hq, z]))
    obtain ⟨u, hu, _⟩ := op.there
    refine ⟨p, ep, op.fr s.fr ?_, fun z => ?_, bp⟩
    · rw [hu]; exact (s.keep p u hu fun z => pq (wq p z)).same nkp (own_tbl op hu)
    · rcases s.grow p u hu z with z | z
      · exact nkp z
      · exact pq (wq p z)
  have own1 : ∀ {j : Nat} {e : D}, (ρ.set i (.own d'))[j]? = some (.own e) → ∃ x, ρ[j]? = some (.own x) := fun {j e} h => by
    by_cases hj : j = i
    · exact ⟨d, by rw [hj]; exact hi⟩
    · rw [List.getElem?_set_ne (Ne.symm hj)] at h; exact ⟨_, h⟩
  refine ⟨⟨by rw [List.length_set]; exact w.len, w'.fc, fun a z => w.h0 a (s.fr.all a z), fun j e z => ?_, fun j e z => ?_, fun j k d1 d2 p h1 h2 e1 e2 => ?_, w'.tb⟩, ⟨s.fr, fun a o ha na => s.keep a o ha fun z => na ?_, fun a ha => ?_, fun a o ha ka => (s.grow a o ha ka).imp id fun z => ?_⟩⟩
  · have hj : j ≠ i := fun y => by subst y; cases get_set_self z
    rw [List.getElem?_set_ne (Ne.symm hj)] at z
    obtain ⟨v, e1, r1⟩ := w.val j e z
    exact ⟨v, e1, r1.fr s.fr⟩
  · by_cases hj : j = i
    · subst hj
      cases get_set_self z
      exact ⟨q, hq, o1, nk1, b0⟩
    · rw [List.getElem?_set_ne (Ne.symm hj)] at z
      exact oth hj z
  · obtain ⟨x1, h1⟩ := own1 h1
    obtain ⟨x2, h2⟩ := own1 h2
    exact w.apart j k x1 x2 p h1 h2 e1 e2
  · exact ⟨i, d, hi, by rw [wq a z]; exact hq⟩
  · obtain ⟨j, e, h1, h2⟩ := ha
    obtain ⟨x1, h1⟩ := own1 h1
    exact ⟨j, x1, h1, h2⟩
  · exact ⟨i, d, hi, by rw [wq a z]; exact hq⟩
theorem appB_ok {i n : Nat} {F : P R} {q : Addr} {vs : List V} {ds : List D} {Q : VK} (w : Wf K g ok ρ σ H) (hq : σ[i]? = some (some (.ref q))) (r : Reps K ok H vs ds) (h : Rs K g E (relR K) σ ρ ok H (appB i F n ds ρ) Q) : spP K g.T n F (.ref q :: vs) H Q (E σ) := by
  unfold appB at h
  cases hi : ρ[i]? with
  | none => rw [hi] at h; exact h.elim
  | some sl =>
    rw [hi] at h
    cases sl with
    | un => exact h.elim
    | val _ => exact h.elim
    | own d =>
      dsimp only at h
      split at h
      · rename_i hn
        obtain ⟨q0, e0, o0, nk0, b0⟩ := w.own i d hi
        rw [hq] at e0
        cases e0
        refine ⟨ok, .own d :: vals ds, by rw [List.length_cons, r.length]; exact hn, ⟨by unfold vals; simp [r.length], w.fc, fun _ h => h, fun j e z => ?_, fun j e z => ?_, fun j k d1 d2 p h1 h2 e1 e2 => ?_, w.tb⟩, ?_⟩
        · rcases lentS_get z with ⟨_, y⟩ | ⟨k, x, rfl, ex, y⟩
          · cases y
          · cases y
            obtain ⟨v, ev, rv⟩ := r.getD ex
            exact ⟨v, by rw [List.map_cons, List.getElem?_cons_succ, List.getElem?_map, ev]; rfl, rv⟩
        · rcases lentS_get z with ⟨rfl, y⟩ | ⟨k, x, rfl, ex, y⟩
          · cases y
            exact ⟨q, rfl, o0, nk0, .inl (List.mem_range.mpr (by omega))⟩
          · cases y
        · rcases lentS_get h1 with ⟨rfl, _⟩ | ⟨_, _, _, _, y⟩
          · rcases lentS_get h2 with ⟨rfl, _⟩ | ⟨_, _, _, _, y⟩
            · rfl
            · cases y
          · cases y
        · cases e : F (.own d :: vals ds) with
          | none => rw [e] at h; exact h
          | some y =>
            rw [e] at h
            cases y with
            | ok r' as' =>
              cases as' with
              | nil => exact h.elim
              | cons s0 tl =>
                cases s0 with
                | un => exact h.elim
                | val _ => exact h.elim
                | own d' =>
                  intro v H' ok' w' s' r1
                  obtain ⟨w2, s2⟩ := lent_back w hi hq w' s'
                  refine h v H' ok' w2 s2 ?_
                  cases r' with
                  | val d => exact r1
                  | own d2 =>
                    obtain ⟨q2, e2, o2, nk2, n2, _⟩ := r1
                    refine ⟨q2, e2, o2, nk2, n2, fun j x hj z => ?_⟩
                    have : ∃ y, ρ[j]? = some (.own y) := by
                      by_cases hj' : j = i
                      · exact ⟨d, by rw [hj']; exact hi⟩
                      · rw [List.getElem?_set_ne (Ne.symm hj')] at hj; exact ⟨_, hj⟩
                    obtain ⟨y, hy⟩ := this
                    obtain ⟨p, ep, op, _⟩ := w.own j y hy
                    rw [z] at ep
                    cases ep
                    obtain ⟨u, hu, _⟩ := op.there
                    rw [n2] at hu
                    cases hu
            | er c ns es as' =>
              cases as' with
              | nil => exact h.elim
              | cons s0 tl =>
                cases s0 with
                | un => exact h.elim
                | val _ => exact h.elim
                | own d' =>
                  intro dx fs H' ok' w' s' e1 e2 e3
                  obtain ⟨w2, s2⟩ := lent_back w hi hq w' s'
                  exact h dx fs H' ok' w2 s2 e1 e2 e3
      · exact h.elim
end
section
variable {X : Cx} {g : Gx} {E : Wx} {k n : Nat} {C : Addr} {x y m : Str} {F : P R} {p p' pos apos : Pos} {e o : Expr} {es : List Expr}
def lentP (i : Nat) (fr : P (List D)) : P (List D) := fun ρ => match ρ[i]? with
  | some (.own _) => fr ρ
  | _ => none
def relL (K : PySem.W.Frag) (i : Nat) : Rl (List V) (List D) := fun _ ok H _ σ vs ds => ∃ q vs', vs = .ref q :: vs' ∧ σ[i]? = some (some (.ref q)) ∧ Reps K ok H vs' ds
theorem pa_lent {i : Nat} {fr : P (List D)} (hN : X.N[i]? = some y) (hv : Vis X.env.scope y) (hr : EA X g E es fr) (hs : starEach (.Name y p' :: es) X.env = (false, eval (.Name y p') X.env) :: starEach es X.env := by rfl)
    (hd : (y == ("__debug__" : Str)) = false := by decide) (hcd : (y == ("__classdict__" : Str)) = false := by decide) : PA X (.Name y p' :: es) (tX X.K g E (relL X.K i) (lentP i fr)) := by
  refine PA_imp (pa_cons (pe_var hN hv hd hcd) hr hs) fun σ H Q hq => ?_
  obtain ⟨ok, ρ, w, h⟩ := hq
  unfold lentP at h
  cases hi : ρ[i]? with
  | none => rw [hi] at h; exact h.elim
  | some sl =>
    rw [hi] at h
    cases sl with
    | un => exact h.elim
    | val _ => exact h.elim
    | own d =>
      obtain ⟨q, eq, _⟩ := w.own i d hi
      refine ⟨_, eq, ok, ρ, w, ?_⟩
      have h : Rs X.K g E (relL X.K i) σ ρ ok H (fr ρ) Q := h
      cases e : fr ρ with
      | none => rw [e] at h; exact h
      | some z =>
        rw [e] at h
        cases z with
        | ok ds ρ' => exact fun vs H' ok' w' s' r' => h _ H' ok' w' s' ⟨q, vs, rfl, eq, r'⟩
        | er c ns ds ρ' => exact h
theorem er_callB {i : Nat} {fr : P (List D)} (c : Cal X.prog X.w X.K X.mg X.base g.T k n x F) (hgd : X.A.guards = some []) (hr : Room k X.A) (hg : Gl X x) (hx : ∀ σ, PassesAt (L2.CX X.prog X.w) X σ (E σ)) (hN : X.N[i]? = some y) (hv : Vis X.env.scope y) (ha : EA X g E es fr)
    (hdb : (x == ("__debug__" : Str)) = false := by decide) (hd : (y == ("__debug__" : Str)) = false := by decide) (hcd : (y == ("__classdict__" : Str)) = false := by decide) (he : starEach (.Name y p' :: es) X.env = (false, eval (.Name y p') X.env) :: starEach es X.env := by rfl) (hpl : (backTo pos (starEach es X.env)).any (·.1) = false := by rfl) :
    ER X g E (.Call (.Name x p) (.Name y p' :: es) [] pos) (bnd (lentP i fr) fun ds => appB i F n ds) := by
  obtain ⟨f, fd, ps, G, hn, m, kp, b⟩ := c.ex
  refine PE_imp (pe_callGS G hgd hr hg m kp b hx (pa_lent hN hv ha he hd hcd) hdb he hpl) fun σ H Q hq => ?_
  obtain ⟨ok, ρ, w, h⟩ := hq
  refine ⟨ok, ρ, w, (Rs.bnd (RA := relL X.K i) h).mono fun vs H1 hq => ?_⟩
  obtain ⟨ok1, ρ1, ds, w1, s1, ⟨q, vs', rfl, eq, r1⟩, h1⟩ := hq
  exact appB_ok w1 eq r1 h1
end
end Pu
/-! Errors of the program's own over any built-in error: made, filled, raised. -/
namespace Er
open PySem PySem.Spec PyProof.Rows L2 Kv Pu
structure Over (K : PySem.W.Frag) (C : Addr) (B newId initId : String) (bmB : List Value) : Prop where
  fb : ExcBaseFacts B newId initId bmB
  sf : StoreFacts B bmB "object.__setattr__" "object"
  ini : PySem.W.excInitIn K C bmB newId = true
  ovr : PySem.W.excOver K C bmB = true
  sa : PySem.W.findIn K (.ref C) "__setattr__" = some (some (.builtin "object.__setattr__"))
  hd : PySem.W.hasDictIn K C = true
  exC : PySem.W.subIn K (.ref C) (.type "BaseException") = some true
  tyC : PySem.W.typeIn K (.ref C) = some (.type "type")
  kC : PySem.W.keepIn K (.ref C) = true
theorem taker_of {K : PySem.W.Frag} {C : Addr} {f : Str} (h : PySem.W.findIn K (.ref C) f = some none) : PySem.W.takerIn K C f = some none := by
  unfold PySem.W.takerIn
  rw [h]
  rfl
section
variable {prog : Program} {w : World} {A : Around} {E : Value → Shared → Prop} {s : Shared} {K : PySem.W.Frag} {C : Addr} {B newId initId : String} {bmB : List Value}
theorem field_first {a t : Addr} {f : Str} {u : Value} {Q : Unit → Shared → Prop} (T : Over K C B newId initId bmB) (kin : K.In s.heap) (ho : s.heap.get? a = some (PySem.HandSPX.excO C t)) (hno : PySem.W.findIn K (.ref C) f = some none)
    (h : ∀ (mid h' : Heap) (tk : Nat), (∀ b, b ≠ a → mid.get? b = (s.heap.push (PySem.W.dictOf [] 0)).get? b) → mid.get? a = some { cls := .ref C, dict := some s.heap.objs.size, data := .fields #[.ref t, .none, .none, .none, .bool false, .none] } →
      (∀ b, b ≠ s.heap.objs.size → h'.get? b = mid.get? b) → h'.Ns1 s.heap.objs.size (fun y => if y = f then some u else none) → Q () { s with heap := h', toks := tk }) :
    wpAny (model prog w) A (setAttr (.ref a) f u) Q E s := by
  obtain ⟨cd, hc, hdd⟩ := PySem.W.any_some T.hd
  have lt : a < s.heap.objs.size := Heap.lt_size ho
  refine PySem.W.set_plain (od := none) kin ⟨ho, rfl, rfl, trivial⟩ T.sa (PySem.W.osa_openX (s := { s with toks := s.toks + 1 }) (od := none) (r := none) T.sf kin ⟨ho, rfl, rfl, trivial⟩ T.ovr (taker_of hno) fun b => ?_)
  refine wpAny_bind (wpAny_pure (wpAny_bind (PySem.W.instanceDict_exc (s := { s with toks := s.toks + 1 }) ho (PySem.W.looks_clsIn kin hc) hdd ?_)))
  obtain ⟨hp, g, d, t0, os⟩ := s
  have far : a ≠ hp.objs.size := Nat.ne_of_lt lt
  refine PySem.HandSPX.store_in_new ?_ ?_
  · exact ⟨_, #[], _, (Heap.get?_update_ne _ _ _ _ (Ne.symm far)).trans (Heap.get?_push_at rfl rfl), rfl, fun e he => absurd he (by simp), fun _ => rfl⟩
  · intro h' tk' hn' sb
    have ho1 : (hp.push (PySem.W.dictOf [] 0)).get? a = some (PySem.HandSPX.excO C t) := Heap.get?_push_of_some _ ho
    exact h _ h' tk' (fun b hb => Heap.get?_update_ne _ _ _ _ hb) (Heap.get?_update_self _ ho1 rfl) (fun b hb => sb.2 b hb) hn'
theorem field_next {a t dx : Addr} {f : Str} {u : Value} {m0 : Str → Option Value} {ns : List Str} {Q : Unit → Shared → Prop} (T : Over K C B newId initId bmB) (kin : K.In s.heap)
    (ho : s.heap.get? a = some { cls := .ref C, dict := some dx, data := .fields #[.ref t, .none, .none, .none, .bool false, .none] }) (hns : s.heap.Ns1 dx m0) (hw : Within m0 ns) (hz : ns.length ≤ 1000) (hno : PySem.W.findIn K (.ref C) f = some none)
    (h : ∀ h' tk, (∀ b o, b ≠ dx → s.heap.get? b = some o → h'.get? b = some o) → h'.Ns1 dx (fun y => if y = f then some u else m0 y) → Q () { s with heap := h', toks := tk }) :
    wpAny (model prog w) A (setAttr (.ref a) f u) Q E s := by
  obtain ⟨cd, hc, hdd⟩ := PySem.W.any_some T.hd
  obtain ⟨oD, _, _, hoD, _, _⟩ := hns.count hw
  obtain ⟨hp, g, d, t0, os⟩ := s
  have hcls : PySem.W.Looks (model prog w) hp (classData C) cd := PySem.W.looks_clsIn kin hc
  refine PySem.W.set_plain (od := some oD) kin ⟨ho, rfl, rfl, hoD⟩ T.sa (PySem.W.osa_openX (s := ⟨hp, g, d, t0 + 1, os⟩) (od := some oD) (r := none) T.sf kin ⟨ho, rfl, rfl, hoD⟩ T.ovr (taker_of hno) fun b => ?_)
  obtain ⟨nm, bs, mro, nsd, qn, hd, sn, sb, ab, col, del⟩ := cd
  dsimp only at hdd
  subst hdd
  dsimp only
  unfold Builtin.ObjectAttr.storeInOwnDict Builtin.ObjectAttr.ownDictForStores
  repeat (first | with_reducible refine PySem.OEX.store_in_old hns hw hz ?_ | with_reducible refine wpAny_loadPart_at ho ?_ | with_reducible refine hcls.at ?_ | wp_step)
  intro h' tk' hn' sb
  exact h h' tk' (fun b o hb he => (sb.2 b hb).trans he) hn'
end
end Er
/-! Errors of the program's own over any built-in error: the rules. -/
namespace Er
open PySem PySem.Spec PyProof.Rows L2 Kv Pu
theorem upd_there {H : Hp} {a : Addr} {o : HO} (h : H a = some o) : upd H a o = H := funext fun b => by
  by_cases z : b = a
  · rw [z, upd_same, h]
  · exact upd_ne z
theorem upd_swap {H : Hp} {a d : Addr} {o u v : HO} (n : d ≠ a) : upd (upd (upd H d u) a o) d v = upd (upd H d v) a o := funext fun b => by
  by_cases z : b = d
  · rw [z, upd_same, upd_ne n, upd_same]
  · rw [upd_ne z]
    by_cases y : b = a
    · rw [y, upd_same, upd_same]
    · rw [upd_ne y, upd_ne y, upd_ne z, upd_ne z]
section
variable {B newId initId : String} {bmB : List Value} {X : Cx} {pins : List (Addr × Obj)} {σ : L2.St} {H : Hp} {s : Shared} {a C : Addr} {f : Str} {A : Around} {E : Value → Shared → Prop}
theorem fill_first {y : V} {u : Value} {Q : Unit → Shared → Prop} (T : Over X.K C B newId initId bmB) (I : Inv X pins σ H s) (ea : H a = some (exo a C none)) (no : PySem.W.findIn X.K (.ref C) f = some none) (r : RelV y u)
    (fin : ∀ d s', H d = none → d ≠ a → Inv X pins σ (upd (upd H d (exd d [(f, y)])) a (exo a C (some d))) s' → Q () s') : wpAny (model X.prog X.w) A (setAttr (.ref a) f u) Q E s := by
  obtain ⟨t, at0⟩ := exo_at I.hok ea
  refine field_first T I.kIn at0 no fun mid h' tk m1 m2 m3 m4 => ?_
  have apart : s.heap.objs.size ≠ a := Nat.ne_of_gt (Heap.lt_size at0)
  have new0 : H s.heap.objs.size = none := I.hok.fresh (Nat.le_refl _)
  have J1 := I.laid (t' := s.toks) (a := s.heap.objs.size) (o := exd s.heap.objs.size []) (h' := s.heap.push (PySem.W.dictOf [] 0)) (fun b o q => Heap.get?_push_of_some _ q) (Nat.le_refl _)
    (exd_ok (mA := fun _ => none) (Heap.Ns1.of_empty ⟨_, #[], _, Heap.get?_push_at rfl rfl, rfl, fun e he => absurd he (by simp), fun _ => rfl⟩) fun _ => trivial)
  have J2 := J1.write (t' := s.toks) (x := a) (e := a) (o := exo a C (some s.heap.objs.size)) (h' := mid) (by rw [upd_ne (Ne.symm apart), ea]; trivial) (Or.inl rfl) (fun b o n q => (m1 b n).trans q) ⟨_, m2⟩ (exo_ok m2)
  have J3 := J2.write (t' := tk) (x := s.heap.objs.size) (e := s.heap.objs.size) (o := exd s.heap.objs.size [(f, y)]) (h' := h') (by rw [upd_ne apart, upd_same]; trivial) (Or.inl rfl) (fun b o n q => (m3 b n).trans q)
    (have ⟨o, _, _, q, _⟩ := m4; ⟨o, q⟩) (exd_ok m4 (relO_put (fs := []) r fun _ => trivial))
  rw [upd_swap apart] at J3
  exact fin _ _ new0 apart J3
theorem fill_more {y : V} {u : Value} {Q : Unit → Shared → Prop} {d : Addr} {fs : List (Str × V)} (T : Over X.K C B newId initId bmB) (I : Inv X pins σ H s) (ea : H a = some (exo a C (some d))) (ed : H d = some (exd d fs)) (few : fs.length ≤ 900)
    (no : PySem.W.findIn X.K (.ref C) f = some none) (r : RelV y u) (fin : ∀ s', Inv X pins σ (upd H d (exd d ((f, y) :: fs))) s' → Q () s') : wpAny (model X.prog X.w) A (setAttr (.ref a) f u) Q E s := by
  obtain ⟨t, at0⟩ := exo_at I.hok ea
  obtain ⟨held, names, tells⟩ := exd_at I.hok ed
  have few2 : (fs.map (·.1)).length ≤ 1000 := by rw [List.length_map]; omega
  refine field_next T I.kIn at0 names (within_of tells) few2 no fun h' tk stays now => ?_
  have there : ∃ o, h'.get? d = some o := have ⟨o, _, _, q, _⟩ := now; ⟨o, q⟩
  exact fin _ (I.write (t' := tk) (x := d) (e := d) (o := exd d ((f, y) :: fs)) (by rw [ed]; trivial) (Or.inl rfl) stays there (exd_ok now (relO_put r tells)))
theorem base_init {us : List Value} {Q : Value → Shared → Prop} (T : Over X.K C B newId initId bmB) (I : Inv X pins σ H s) (ea : H a = some (exo a C none)) (few : us.length ≤ sizeLine) (fin : ∀ s', Inv X pins σ H s' → Q .none s') :
    wpAny (model X.prog X.w) A (call (.builtin initId) (.ref a :: us)) Q E s := by
  obtain ⟨_, _, _, _, _, _, _, _, _, _, _, _, _, _, _, _, cls, tail⟩ := PySem.W.excInit_of I.kIn T.ini
  obtain ⟨t, at0⟩ := exo_at I.hok ea
  refine wpAny_call (PySem.HandSPX.init_base (t := s.toks) (g := s.gens) (d := s.drawn) (os := s.os) T.fb tail cls at0 few fun h' t2 stays at1 => fin _ ?_)
  have J := I.write (t' := s.toks) (x := a) (e := a) (o := exo a C none) (h' := h') (by rw [ea]; trivial) (Or.inl rfl) stays ⟨_, at1⟩ (exo_ok at1)
  rw [upd_there ea] at J
  exact J
end
def ExC (K : PySem.W.Frag) (C : Addr) : Prop := ∃ B newId initId bmB, Over K C B newId initId bmB
def tBeI (K : PySem.W.Frag) (B newId initId : String) (bmB : List Value) (ta : TA) : TE := fun σ H Q => ta σ H fun vs H1 => ∃ (a C : Addr) (ws : List V), vs = .ref a :: ws ∧ ws.length ≤ 1000 ∧ Over K C B newId initId bmB ∧ H1 a = some (exo a C none) ∧ Q .non H1
def tOst (K : PySem.W.Frag) (f : Str) (to te : TE) : TS := fun D σ H => te σ H fun y H1 => to σ H1 fun x H2 => ∃ a C : Addr, x = .ref a ∧ ExC K C ∧ PySem.W.findIn K (.ref C) f = some none ∧
  ((H2 a = some (exo a C none) ∧ ∀ d, H2 d = none → d ≠ a → D.nx σ (upd (upd H2 d (exd d [(f, y)])) a (exo a C (some d)))) ∨
    ∃ (d : Addr) (fs : List (Str × V)), H2 a = some (exo a C (some d)) ∧ H2 d = some (exd d fs) ∧ fs.length ≤ 900 ∧ D.nx σ (upd H2 d (exd d ((f, y) :: fs))))
section
variable {X : Cx} {o e : Expr} {es : List Expr} {to te : TE} {ta : TA} {f : Str} {p p' p1 p2 pos : Pos} {B newId initId : String} {bmB : List Value}
theorem pe_binit {pl : Sem Bool} {Bs : Str} (hg : Gl X Bs) (hm : X.mg Bs = none) (hbt : bootBuiltins Bs = some (.type B)) (hty : typeOf (.type B) = pure (.type "type")) (hst : Manifest.isStub B = false) (hh : PySem.W.handedIn (.builtin initId) = true)
    (vV : PySem.W.findCls X.K (.type B) (.type "type") "__init__" = some (.val (.builtin initId))) (args : PA X (e :: es) ta)
    (form : eval (.Call (.Attribute (.Name Bs p1) "__init__" p2) (e :: es) [] pos) X.env = (eval (.Name Bs p1) X.env >>= fun ov => standAt p2.atName >>= fun _ => holding [ov] (getMethod ov "__init__" pl) >>= fun m =>
      callWith pos m.1 m.2 (backTo pos (starEach (e :: es) X.env)) (backToKw pos (keywordEach [] X.env))) := by rfl)
    (nn : Bs ≠ "__name__" := by decide) (nd : (Bs == ("__debug__" : Str)) = false := by decide) (one : starEach (e :: es) X.env = (false, eval e X.env) :: starEach es X.env := by rfl) (plain : (backTo pos (starEach es X.env)).any (·.1) = false := by rfl) :
    PE X (.Call (.Attribute (.Name Bs p1) "__init__" p2) (e :: es) [] pos) (tBeI X.K B newId initId bmB ta) := ⟨fun pins s σ H Q I asked => by
  obtain ⟨m, fr⟩ := I.fr
  refine PySem.W.methodCall_KW (ld_blt I hg hm hbt (PySem.W.method_type fr I.ok.mod.kin hty hst vV hh ?_) nn nd) form
  have go := args.run pos pins _ σ H _ (I.tok (s.toks + 1)) asked
  refine (PyProof.Rows.callWith_method1 (thn go fun us s1 got => ?_) one plain : wpAny _ _ (callWith pos (Value.builtin initId) [] (backTo pos (starEach (e :: es) X.env)) []) _ _ _)
  obtain ⟨_, H1, I1, r1, a, C, ws, rfl, few, T, ea, q⟩ := got
  match us, r1 with
  | u0 :: ur, .cons ra rs =>
    cases ra
    exact base_init T I1 ea (by rw [← Paired.length rs, sizeLine_eq]; omega) fun s' J => ⟨.non, H1, J, rfl, q⟩⟩
theorem ps_ost (ho : PE X o to) (he : PE X e te) (hs : swapsWith e (some (.Attribute o f p')) pos.line X.env = pure false := by rfl) : PS X (.Assign [.Attribute o f p'] e pos) (tOst X.K f to te) := ⟨fun pins s σ H D I asked => by
  refine plainObj_wpAny_Assign_Attribute (thn (he.run pins s σ H _ I asked) fun v s1 got1 => ?_) hs
  obtain ⟨y, H1, I1, r1, asked1⟩ := got1
  refine thn (ho.run pins s1 σ H1 _ I1 asked1) fun u s2 got2 => ?_
  obtain ⟨_, H2, I2, r2, a, C, rfl, ⟨B, nw, ni, bm, T⟩, no, way⟩ := got2
  cases r2
  rcases way with ⟨ea, q⟩ | ⟨d, fs, ea, ed, few, q⟩
  · exact fill_first T I2 ea no r1 fun d s' n ne J => ⟨σ, _, J, q d n ne⟩
  · exact fill_more T I2 ea ed few no r1 fun s' J => ⟨σ, _, J, q⟩⟩
theorem pmk_ex {CX : CXT} {x : Str} {C fI : Addr} {k : Nat} {fd : FuncData} {ps : List Str} {sp : Sp} {ds : List Value} {dvs : List V} (T : ExC X.K C) (iC : PySem.W.findIn X.K (.ref C) "__init__" = some (some (.ref fI))) (tI : PySem.W.typeIn X.K (.ref fI) = some (.type "function"))
    (F1 : FnOk X.prog X.w X.K X.mg X.base CX k fI fd ps sp) (hr : Room (k + 1) X.A) (hb : Binds X.K fd ps ds) (hd : Vals dvs ds) (hx : Passes CX X (fun _ _ _ => False)) (hg : Gl X x) (hm : X.mg x = some (.ref C)) (args : PA X (e :: es) ta)
    (hdb : (x == ("__debug__" : Str)) = false := by decide) (one : starEach (e :: es) X.env = (false, eval e X.env) :: starEach es X.env := by rfl) (plain : (backTo pos (starEach es X.env)).any (·.1) = false := by rfl) :
    PMk X (.Call (.Name x p) (e :: es) [] pos) (tMkO C sp dvs ta) := fun pins s σ H Q I asked => by
  obtain ⟨B, newId, initId, bmB, T⟩ := T
  refine wpAny_Call_Name_kw (ld_glob I hg hm (PySem.W.callWith_K (h₀ := X.base) I.ok.mod.kin T.kC (thn (args.run pos pins s σ H _ I asked) fun us s1 got => ?_) one plain) hdb)
  obtain ⟨vs, H1, I1, r1, few, keeps⟩ := got
  refine ⟨I1.kIn, (?_ : wpAny _ _ (call (.ref C) us) _ _ _)⟩
  obtain ⟨hp, g, dr, tk, os⟩ := s1
  obtain ⟨_, _, _, _, _, _, _, _, _, _, _, _, _, _, _, _, cls, tail⟩ := PySem.W.excInit_of I1.kIn T.ini
  -- the new error's place
  generalize en : hp.objs.size + 1 = n
  have big : hp.objs.size ≤ n := by omega
  have asks := keeps n (I1.hok.fresh big)
  generalize eh : (hp.push (PySem.W.kdv_tup us)).push (PySem.HandSPX.excO C hp.objs.size) = hq
  have old : ∀ b o, hp.get? b = some o → hq.get? b = some o := fun b o q => by rw [← eh]; exact Heap.get?_push_of_some _ (Heap.get?_push_of_some _ q)
  have born : hq.get? n = some (PySem.HandSPX.excO C hp.objs.size) := by rw [← eh, ← en]; heap_get
  have I2 := I1.laid (t' := tk) (a := n) (o := exo n C none) (h' := hq) old big (exo_ok born)
  have all : Vals (V.ref n :: (vs ++ dvs)) (Value.ref n :: (us ++ ds)) := .cons rfl (r1.append hd)
  have fit : (Value.ref n :: us ++ ds).length = ps.length := all.length.symm.trans (F1.len _ _ _ _ asks)
  have few2 : us.length ≤ sizeLine := by rw [← Paired.length r1, sizeLine_eq]; omega
  have ran := F1.run _ X.stack _ _ ⟨Value.ref n :: us, []⟩ (Value.ref n :: (us ++ ds)) _ _ (fun _ _ _ => False) (hr.make C us []) (I2.env0.make C us []) (hb _ (Value.ref n :: us) I2.kIn fit) all asks
  subst en eh
  refine wpAny_call (PySem.HandSPX.call_own T.fb tail cls (PySem.W.looks_findIn I1.kIn iC) (fun self => PySem.W.bind_fn I1.kIn self tI) few2 (codeAny_mono ran fun r s' back => ?_))
  match r, back with
  | .error er, back => exact hx pins σ _ _ er s' I2 back
  | .ok (.ret u), back =>
    obtain ⟨_, H2, os2, bare2, un2, hok2, rv, rfl, d, fs, ea, ed, hd1, q2⟩ := back
    obtain ⟨h2, g2, d2, t2, os'⟩ := s'
    exact ⟨rv, mk_end (raises_own T.exC T.tyC) I1 big old un2 hok2 os2 bare2 ea ed hd1 q2⟩
  | .ok .next, back => exact back.elim
  | .ok .brk, back => exact back.elim
  | .ok .cont, back => exact back.elim
end
end Er
/-! raise, try and except, a caught error's fields. -/
namespace Pu
open PySem PySem.Spec PyProof.Rows L2 Kv
/-! ### raise C(e, ..) -/
def spEx (C : Addr) (ns : List Str) (cond : List V → Hp → Prop) : Sp := fun vs H Q _ => ∃ a ws, vs = .ref a :: ws ∧ ws.length = ns.length ∧ H a = some (exo a C none) ∧ cond ws H ∧
  ∀ d, H d = none → d ≠ a → Q .non (upd (upd H a (exo a C (some d))) d (exd d (ns.zip ws).reverse))
structure RsC (P' : Program) (w : World) (K : PySem.W.Frag) (mg : Str → Option Value) (base : Heap) (k : Nat) (x : Str) (C : Addr) (ns : List Str) (cd : List D → Bool) : Prop where
  ex : ∃ (f : Addr) (fd : FuncData) (ps : List Str) (cond : List V → Hp → Prop), Er.ExC K C ∧ PySem.W.findIn K (.ref C) "__init__" = some (some (.ref f)) ∧ PySem.W.typeIn K (.ref f) = some (.type "function") ∧
    FnOk P' w K mg base CX0 k f fd ps (spEx C ns cond) ∧ Binds K fd ps [] ∧ mg x = some (.ref C) ∧ ps.length = ns.length + 1 ∧ ns.length ≤ 900 ∧ ∀ ok H vs ds, Reps K ok H vs ds → cd ds = true → ∀ a o, H a = none → cond vs (upd H a o)
section
variable {X : Cx} {g : Gx} {E : Wx} {k : Nat} {C : Addr} {x : Str} {ns : List Str} {cd : List D → Bool} {p pos pos' : Pos} {e : Expr} {es : List Expr}
def rs (C : Addr) (ns : List Str) (cd : List D → Bool) (ds : List D) : S := fun ρ => if ds.length = ns.length ∧ cd ds = true then some (.er (.ref C) ns.reverse ds.reverse ρ) else none
theorem zip_fst {α β : Type} : ∀ {xs : List α} {ys : List β}, ys.length = xs.length → (xs.zip ys).map (·.1) = xs
  | [], _, _ => by simp
  | x :: xs, [], h => by cases h
  | x :: xs, y :: ys, h => by simp [zip_fst (xs := xs) (ys := ys) (Nat.succ.inj h)]
theorem zip_snd {α β : Type} : ∀ {xs : List α} {ys : List β}, ys.length = xs.length → (xs.zip ys).map (·.2) = ys
  | [], [], _ => by simp
  | [], y :: ys, h => by cases h
  | x :: xs, [], h => by cases h
  | x :: xs, y :: ys, h => by simp [zip_snd (xs := xs) (ys := ys) (Nat.succ.inj h)]
theorem es_raise {fr : P (List D)} (c : RsC X.prog X.w X.K X.mg X.base k x C ns cd) (hc : X.calm = true) (tk : Takes X (fun cls d σ H => E σ cls d H)) (hr : Room (k + 1) X.A) (hg : Gl X x) (ha : EA X g E (e :: es) fr)
    (hdb : (x == ("__debug__" : Str)) = false := by decide) (he : starEach (e :: es) X.env = (false, eval e X.env) :: starEach es X.env := by rfl) (hpl : (backTo pos (starEach es X.env)).any (·.1) = false := by rfl) :
    ES X g E (.Raise (some (.Call (.Name x p) (e :: es) [] pos)) none pos') (sb fr fun ds => rs C ns cd ds) := by
  obtain ⟨f, fd, ps, cond, T, iC, tI, F1, b, m, hl, hz, hcd⟩ := c.ex
  refine PS_imp (ps_raise hc tk (Er.pmk_ex T iC tI F1 hr b .nil pass0 hg m ha hdb he hpl)) fun Dn σ H hq => ?_
  obtain ⟨ok, ρ, w, h⟩ := hq
  refine ⟨ok, ρ, w, (Ss.sb (RA := relA X.K) h).mono fun vs H1 hq => ?_⟩
  obtain ⟨ok1, ρ1, ds, w1, s1, r1, h1⟩ := hq
  have r1 : Reps X.K ok1 H1 vs ds := r1
  unfold rs at h1
  split at h1
  · rename_i hn
    obtain ⟨hn, hcc⟩ := hn
    have hv : vs.length = ns.length := by rw [r1.length]; exact hn
    refine ⟨by omega, fun a na => ⟨a, vs, by rw [List.append_nil], hv, upd_same, hcd ok1 H1 vs ds r1 hcc a _ na, fun d nd da => ⟨rfl, d, (ns.zip vs).reverse, ?_, upd_same, ?_, ?_⟩⟩⟩
    · rw [upd_ne (Ne.symm da), upd_same]
    · rw [upd_ne da] at nd; exact nd
    · rw [upd_ne da] at nd
      have eH : upd (del (upd (upd (upd H1 a (exo a C none)) a (exo a C (some d))) d (exd d (ns.zip vs).reverse)) a) d (.xd (ns.zip vs).reverse) = upd H1 d (.xd (ns.zip vs).reverse) := by
        funext b
        by_cases hb : b = d
        · subst hb; rw [upd_same, upd_same]
        · rw [upd_ne hb, upd_ne hb]
          by_cases hba : b = a
          · subst hba; rw [del_same]; exact na.symm
          · rw [del_ne hba, upd_ne hb, upd_ne hba, upd_ne hba]
      rw [eH]
      refine h1 d (ns.zip vs).reverse σ _ ok1 (w1.new nd) (Sx.new nd).y upd_same (by rw [List.map_reverse, zip_fst hv]) (by rw [List.map_reverse, zip_snd hv]; exact (r1.fr (fr_new nd)).rev)
  · exact h1.elim
end
/-! ### try .. except x as n -/
def unI (i : Nat) : Option Fl → Option Fl
  | some (.nx ρ) => some (.nx (ρ.set i .un))
  | some (.rt r ρ) => some (.rt r ρ)
  | some (.bk ρ) => some (.bk (ρ.set i .un))
  | some (.ct ρ) => some (.ct (ρ.set i .un))
  | _ => none
open Classical in
noncomputable def tryS (K : PySem.W.Frag) (c : Value) (i : Nat) (fb : S) (fh : Addr → Addr → Value → S) : S := fun ρ => match fb ρ with
  | some (.er c0 ns ds ρ') => match PySem.W.exmOne K c0 c with
    | some true => if h : ∃ fl, ∀ a dx, unI i (fh a dx c0 (ρ'.set i (.val (.exn a dx c0 ns ds)))) = some fl then some h.choose else none
    | some false => some (.er c0 ns ds ρ')
    | none => none
  | o => o
theorem tryS_ok {K : PySem.W.Frag} {c : Value} {i : Nat} {fb : S} {fh : Addr → Addr → Value → S} {ρ : En} {o : Option Fl} (h : fb ρ = o) (hn : ∀ c ns ds ρ', o ≠ some (.er c ns ds ρ')) : tryS K c i fb fh ρ = o := by
  unfold tryS
  rw [h]
  cases o with
  | none => rfl
  | some fl =>
    cases fl with
    | er c ns ds ρ' => exact absurd rfl (hn c ns ds ρ')
    | _ => rfl
theorem tryS_caught {K : PySem.W.Frag} {c c0 : Value} {i : Nat} {fb : S} {fh : Addr → Addr → Value → S} {ρ ρ' : En} {ns : List Str} {ds : List D} {fl : Fl} (h : fb ρ = some (.er c0 ns ds ρ')) (hx : PySem.W.exmOne K c0 c = some true)
    (hf : ∀ a dx, unI i (fh a dx c0 (ρ'.set i (.val (.exn a dx c0 ns ds)))) = some fl) : tryS K c i fb fh ρ = some fl := by
  unfold tryS
  rw [h]
  dsimp only
  rw [hx]
  dsimp only
  have ex : ∃ fl, ∀ a dx, unI i (fh a dx c0 (ρ'.set i (.val (.exn a dx c0 ns ds)))) = some fl := ⟨fl, hf⟩
  rw [dif_pos ex]
  have := (ex.choose_spec 0 0).symm.trans (hf 0 0)
  exact this
section
variable {K : PySem.W.Frag} {g : Gx} {E : Wx} {σ : L2.St} {ρ : En} {ok : Addr → Prop} {H : Hp}
theorem Wf.forget {i : Nat} (w : Wf K g ok ρ σ H) : Wf K g ok (ρ.set i .un) (σ.set i none) H := by
  have back : ∀ {j : Nat} {s : Slot}, s ≠ .un → (ρ.set i .un)[j]? = some s → ρ[j]? = some s ∧ (σ.set i none)[j]? = σ[j]? := fun {j s} ns h => by
    by_cases hj : j = i
    · subst hj
      exact absurd (get_set_self h) ns
    · rw [List.getElem?_set_ne (Ne.symm hj)] at h ⊢; exact ⟨h, rfl⟩
  refine ⟨by rw [List.length_set, List.length_set]; exact w.len, w.fc, w.h0, fun j e z => ?_, fun j e z => ?_, fun j k d1 d2 p h1 h2 e1 e2 => ?_, w.tb⟩
  · obtain ⟨h1, h2⟩ := back (fun y => by cases y) z
    rw [h2]; exact w.val j e h1
  · obtain ⟨h1, h2⟩ := back (fun y => by cases y) z
    rw [h2]; exact w.own j e h1
  · obtain ⟨h3, h4⟩ := back (fun y => by cases y) h1
    obtain ⟨h5, h6⟩ := back (fun y => by cases y) h2
    rw [h4] at e1
    rw [h6] at e2
    exact w.apart j k d1 d2 p h3 h5 e1 e2
theorem Sy.set {i : Nat} {s : Slot} {v : Option V} (hB : i ∉ g.B) (ns : ∀ d, s ≠ .own d) : Sy g σ ρ ok H (σ.set i v) (ρ.set i s) ok H := by
  refine ⟨Fr.refl, fun _ _ h _ => .inl h, fun a ha => .inl ?_, fun _ _ _ k => .inl k, fun j hj => by rw [List.getElem?_set_ne (fun z => hB (by rw [z]; exact hj))], List.length_set ..⟩
  obtain ⟨j, d', h1, h2⟩ := ha
  have nj : j ≠ i := fun y => by subst y; exact ns d' (get_set_self h1).symm
  rw [List.getElem?_set_ne (Ne.symm nj)] at h1 h2
  exact ⟨j, d', h1, h2⟩
end
section
variable {X : Cx} {g : Gx} {E : Wx} {x n : Str} {c : Value} {i : Nat} {body suite : List Stmt} {b₀ : Stmt} {np pos pos' : Pos} {fb : S} {fh : Addr → Addr → Value → S}
def tHd (K : PySem.W.Frag) (g : Gx) (fh : Addr → Addr → Value → S) (a : Addr) (cls : Value) : Option Addr → TS
  | some dx => tS K g noE (fh a dx cls)
  | none => fun _ _ _ => False
theorem es_try (hs : X.stack = X.env :: X.outer) (hf : X.env.frame = some X.env.locals) (hN : X.N.Nodup) (hi : X.N[i]? = some n) (hln : X.env.kindOf n = some .local) (hc : Names X x c) (tk : Takes X (fun cls d σ H => E σ cls d H)) (hB : i ∉ g.B)
    (hb : ∀ (W : WX) (pn : List (Addr × Obj)) (xe : Value → Shared → Prop), Takes (X.tr pn xe) W → PassesOwn (model X.prog X.w) X.A X.env xe → ESs (X.tr pn xe) g (WE W) body fb)
    (hsu : ∀ (a : Addr) (oe : Obj) (cls : Value) (dx : Addr) (pn : List (Addr × Obj)), Zc cls (some dx) oe → (∃ vs, oe.data = .fields vs) → ESs (X.suite a ((a, oe) :: pn)) g noE (b₀ :: suite) (fh a dx cls)) :
    ES X g E (.Try body [.ExceptHandler (some (.Name x np)) (some n) (b₀ :: suite) pos'] [] [] pos) (tryS X.K c i fb fh) := by
  refine PS_imp (ps_try_as (tb := fun W => tS X.K g (WE W) fb) (ts := tHd X.K g fh) hs hf hN hi hln hc tk hb (fun a oe cls d pn hz ho => ?_)) fun Dn σ H hq => ?_
  · cases d with
    | none => exact PSs_imp pss_never fun _ _ _ z => z
    | some dx => exact hsu a oe cls dx pn hz ho
  · obtain ⟨ok, ρ, w, h⟩ := hq
    refine ⟨ok, ρ, w, ?_⟩
    unfold tryS at h
    cases e : fb ρ with
    | none => rw [e] at h; exact h
    | some fl =>
      rw [e] at h
      cases fl with
      | nx ρ' => exact h
      | rt r ρ' => exact h
      | bk ρ' => exact h
      | ct ρ' => exact h
      | er c0 ns ds ρ' =>
        dsimp only at h
        intro dx fs σ' H' ok' w' s' e1 e2 e3
        cases ex : PySem.W.exmOne X.K c0 c with
        | none => rw [ex] at h; exact h.elim
        | some b =>
          rw [ex] at h
          cases b with
          | false => exact ⟨false, ex, ⟨fun z => absurd z Bool.false_ne_true, fun _ => h dx fs σ' H' ok' w' s' e1 e2 e3⟩⟩
          | true =>
            dsimp only at h
            split at h
            · rename_i hh
              refine ⟨true, ex, fun _ a na => ?_, fun z => absurd z (fun y => Bool.false_ne_true y.symm)⟩
              have hfl := hh.choose_spec a dx
              generalize hh.choose = fl at h hfl
              have rp : Rep X.K ok' H' (.ref a) (.exn a dx c0 ns ds) := by subst e2; exact .exn e1 e3
              have w2 := w'.set (i := i) rp
              have s2 : Sy g σ ρ ok H (σ'.set i (some (.ref a))) (ρ'.set i (.val (.exn a dx c0 ns ds))) ok' H' := s'.trans (Sy.set hB (fun _ z => by cases z))
              refine ⟨ok', _, w2, ?_⟩
              cases ef : fh a dx c0 (ρ'.set i (.val (.exn a dx c0 ns ds))) with
              | none => rw [ef] at hfl; cases hfl
              | some f2 =>
                rw [ef] at hfl
                cases f2 with
                | nx ρ3 => cases hfl; exact fun σ3 H3 ok3 w3 s3 => h _ H3 ok3 w3.forget ((s2.trans s3).trans (Sy.set hB (fun _ z => by cases z)))
                | bk ρ3 => cases hfl; exact fun σ3 H3 ok3 w3 s3 => h _ H3 ok3 w3.forget ((s2.trans s3).trans (Sy.set hB (fun _ z => by cases z)))
                | ct ρ3 => cases hfl; exact fun σ3 H3 ok3 w3 s3 => h _ H3 ok3 w3.forget ((s2.trans s3).trans (Sy.set hB (fun _ z => by cases z)))
                | rt r ρ3 => cases hfl; exact fun v σ3 H3 ok3 w3 s3 r3 => h v σ3 H3 ok3 w3 (s2.trans s3) r3
                | er c4 n4 d4 ρ4 => cases hfl
            · exact h.elim
theorem es_tryK {K0 : PySem.W.Frag} (hK : X.K = K0) (hs : X.stack = X.env :: X.outer) (hf : X.env.frame = some X.env.locals) (hN : X.N.Nodup) (hi : X.N[i]? = some n) (hln : X.env.kindOf n = some .local) (hc : Names X x c) (tk : Takes X (fun cls d σ H => E σ cls d H)) (hB : i ∉ g.B)
    (hb : ∀ (W : WX) (pn : List (Addr × Obj)) (xe : Value → Shared → Prop), Takes (X.tr pn xe) W → PassesOwn (model X.prog X.w) X.A X.env xe → ESs (X.tr pn xe) g (WE W) body fb)
    (hsu : ∀ (a : Addr) (oe : Obj) (cls : Value) (dx : Addr) (pn : List (Addr × Obj)), Zc cls (some dx) oe → (∃ vs, oe.data = .fields vs) → ESs (X.suite a ((a, oe) :: pn)) g noE (b₀ :: suite) (fh a dx cls)) :
    ES X g E (.Try body [.ExceptHandler (some (.Name x np)) (some n) (b₀ :: suite) pos'] [] [] pos) (tryS K0 c i fb fh) := by
  subst hK
  exact es_try hs hf hN hi hln hc tk hB hb hsu
/-! ### the caught error's fields -/
def exf (a dx : Addr) (cls : Value) (C : Addr) (f : Str) : D → Option D
  | .exn a' dx' _ ns vs => if a' = a ∧ dx' = dx ∧ cls = .ref C then valD ns vs f else none
  | _ => none
theorem ev_exf {a C dx : Addr} {oe : Obj} {cls : Value} {pn : List (Addr × Obj)} {e : Expr} {fe : P D} {f : Str} (T : XfC X.K C) (hno : PySem.W.findIn X.K (.ref C) f = some none)
    (hz : Zc cls (some dx) oe) (hf : ∃ vs, oe.data = .fields vs) (he : EV (X.suite a ((a, oe) :: pn)) g E e fe) (hb : attributeBase e f X.env (eval e X.env) = eval e X.env := by rfl) :
    EV (X.suite a ((a, oe) :: pn)) g E (.Attribute e f pos) (bnd fe fun d => lft (exf a dx cls C f d)) := by
  refine PE_imp (pe_xf T hno hz hf he hb) fun σ H Q hq => ?_
  obtain ⟨ok, ρ, w, h⟩ := hq
  refine ⟨ok, ρ, w, (Rs.bnd (RA := relD X.K) h).mono fun v H1 hq => ?_⟩
  obtain ⟨ok1, ρ1, d, w1, s1, r1, h1⟩ := hq
  unfold lft at h1
  have r1 : Rep X.K ok1 H1 v d := r1
  cases r1 with
  | exn hx rs =>
    rename_i a' dx' c' fs ds'
    by_cases hh : a' = a ∧ dx' = dx ∧ cls = .ref C
    · obtain ⟨rfl, rfl, rfl⟩ := hh
      have ef : exf a' dx' (.ref C) C f (.exn a' dx' c' (fs.map (·.1)) ds') = valD (fs.map (·.1)) ds' f := if_pos ⟨rfl, rfl, rfl⟩
      rw [ef] at h1
      obtain ⟨i1, i2⟩ := valD_rep f rs
      cases ez : valD (fs.map (·.1)) ds' f with
      | none => rw [ez] at h1; exact h1.elim
      | some z =>
        rw [ez] at h1
        obtain ⟨v, ev, rv⟩ := i1 z ez
        exact ⟨rfl, rfl, dx', fs, v, rfl, hx, by rw [lookup_valV]; exact ev, h1 v H1 ok1 w1 Sx.refl rv⟩
    · have ef : exf a dx cls C f (.exn a' dx' c' (fs.map (·.1)) ds') = none := if_neg hh
      rw [ef] at h1
      exact h1.elim
  | _ => exact h1.elim
end
end Pu
/-! Built-ins of several arguments, methods of texts, x[i] = v, walks over texts. -/
namespace Pu
open PySem PySem.Spec PyProof.Rows L2 Kv
section
variable {X : Cx} {g : Gx} {E : Wx} {a b c e o : Expr} {es : List Expr} {x : Str} {p pos apos cpos : Pos} {fa fb fo : P D} {fr : P (List D)}
/-! ### f(e, ..), f a built-in -/
def OpA (K : PySem.W.Frag) (r : List V → Hp → VK → Prop) (op : List D → Option D) : Prop := ∀ (g : Gx) (ρ : En) (σ : L2.St) (ok : Addr → Prop) (H : Hp) (vs : List V) (xs : List D) (z : D) (Q : VK), Wf K g ok ρ σ H → Reps K ok H vs xs → op xs = some z → Can K g ρ σ ok H z Q → r vs H Q
theorem ev_callA {id : String} {r : List V → Hp → VK → Prop} {op : List D → Option D} (hc : CallR X (.builtin id) r) (h1 : OpA X.K r op) (hg : Gl X x) (hm : X.mg x = none) (hv : bootBuiltins x = some (.builtin id)) (ha : EA X g E (e :: es) fr) (hn : x ≠ "__name__" := by decide) (hdb : (x == ("__debug__" : Str)) = false := by decide)
    (he : starEach (e :: es) X.env = (false, eval e X.env) :: starEach es X.env := by rfl) (hpl : (backTo pos (starEach es X.env)).any (·.1) = false := by rfl) :
    EV X g E (.Call (.Name x p) (e :: es) [] pos) (bnd fr fun ds => lft (op ds)) := by
  refine PE_imp (pe_callB hc hg hm hv ha hn hdb he hpl) fun σ H Q hq => ?_
  obtain ⟨ok, ρ, w, h⟩ := hq
  refine ⟨ok, ρ, w, (Rs.bnd (RA := relA X.K) h).mono fun vs H1 hq => ?_⟩
  obtain ⟨ok1, ρ1, ds, w1, s1, r1, h1'⟩ := hq
  unfold lft at h1'
  cases ez : op ds with
  | none => rw [ez] at h1'; exact h1'.elim
  | some z => rw [ez] at h1'; exact h1 g ρ1 σ ok1 H1 vs ds z Q w1 r1 ez h1'
def i2 (f : Int → Int → Option D) : List D → Option D
  | [.int i, .int j] => f i j
  | _ => none
theorem reps2 {K : PySem.W.Frag} {ok : Addr → Prop} {H : Hp} {vs : List V} {i j : Int} (r : Reps K ok H vs [.int i, .int j]) : vs = [.int i, .int j] := by
  cases r with
  | cons r1 rr =>
    cases rr with
    | cons r2 r3 =>
      cases r3
      cases r1
      cases r2
      rfl
theorem i2_inv {f : Int → Int → Option D} {ds : List D} {z : D} (h : i2 f ds = some z) : ∃ i j, ds = [.int i, .int j] ∧ f i j = some z := by
  unfold i2 at h
  split at h
  · exact ⟨_, _, rfl, h⟩
  · cases h
def maxI : List D → Option D := i2 fun i j => some (.int (if j > i then j else i))
def minI : List D → Option D := i2 fun i j => some (.int (if j < i then j else i))
def dvm : List D → Option D := i2 fun i j => if 0 < j ∧ j ≤ 1000000000000 then some (.tup [.int (i / j), .int (i % j)]) else none
def absI : List D → Option D
  | [.int i] => some (.int (if i < 0 then -i else i))
  | _ => none
theorem oa_max : OpA X.K (fun xs H Q => ∃ i j, xs = [.int i, .int j] ∧ Q (.int (if j > i then j else i)) H) maxI := by
  intro g ρ σ ok H vs ds z Q w r h q
  obtain ⟨i, j, rfl, h⟩ := i2_inv h
  cases h
  exact ⟨i, j, reps2 r, q.at w (.int _)⟩
theorem oa_min : OpA X.K (fun xs H Q => ∃ i j, xs = [.int i, .int j] ∧ Q (.int (if j < i then j else i)) H) minI := by
  intro g ρ σ ok H vs ds z Q w r h q
  obtain ⟨i, j, rfl, h⟩ := i2_inv h
  cases h
  exact ⟨i, j, reps2 r, q.at w (.int _)⟩
theorem oa_abs : OpA X.K (fun xs H Q => ∃ i, xs = [.int i] ∧ Q (.int (if i < 0 then -i else i)) H) absI := by
  intro g ρ σ ok H vs ds z Q w r h q
  unfold absI at h
  split at h
  · cases h
    cases r with
    | cons r1 rr => cases rr; cases r1; exact ⟨_, rfl, q.at w (.int _)⟩
  · cases h
theorem oa_divmod : OpA X.K (fun xs H Q => ∃ i j, xs = [.int i, .int j] ∧ CDivP i j ∧ ∀ p, H p = none → Q (.ref p) (upd H p (.tup [.int (i / j), .int (i % j)]))) dvm := by
  intro g ρ σ ok H vs ds z Q w r h q
  obtain ⟨i, j, rfl, h'⟩ := i2_inv (f := fun i j => if 0 < j ∧ j ≤ 1000000000000 then some (.tup [.int (i / j), .int (i % j)]) else none) h
  split at h'
  · rename_i hz
    cases h'
    exact ⟨i, j, reps2 r, divp_small hz.1 (Nat.lt_of_lt_of_le (show j.natAbs < 2 ^ 41 by omega) (Nat.pow_le_pow_right (by decide) (by decide))), fun p np => q.new w np fun _ e f => .tup e (.cons (.int _) (.cons (.int _) .nil))⟩
  · cases h'
/-! ### methods of texts -/
def mts (op : Str → List D → Option D) (fo : P D) (fr : P (List D)) : P D := bnd fo fun d => match d with
  | .str t => bnd fr fun ds => lft (op t ds)
  | _ => fun _ => none
/-! ### targets that may be written things -/
def tG (K : PySem.W.Frag) (g : Gx) (E : Wx) (h : D → S) : TG := fun v σ H Q => ∃ ok ρ d, Wf K g ok ρ σ H ∧ Rep K ok H v d ∧ Ss K g E σ ρ ok H (h d ρ) { nx := Q, rt := fun _ _ => False, bk := fun _ _ => False, ct := fun _ _ => False }
abbrev EG (X : Cx) (g : Gx) (E : Wx) (tg : Expr) (h : D → S) : Prop := PG X tg (tG X.K g E h)
theorem PG_imp {tg : Expr} {t t' : TG} (h : PG X tg t) (q : ∀ v σ H Q, t' v σ H Q → t v σ H Q) : PG X tg t' := ⟨fun pins s σ H v u Q I r z => h.run pins s σ H v u Q I r (q v σ H Q z)⟩
theorem eg_name {i : Nat} {y : Str} (hN : X.N.Nodup) (hi : X.N[i]? = some y) (hx : Loc X.env.scope y) (hB : i ∉ g.B) (hf : X.fn y = true ∨ X.env.scope.names.lookup y = some .local := by first | exact .inl rfl | exact .inr rfl | assumption) : EG X g E (.Name y pos) (fun d => put i (.val d)) := by
  refine PG_imp (pg_name hN hi hx hf) fun v σ H Q hq => ?_
  obtain ⟨ok, ρ, d, w, r, h⟩ := hq
  exact put_ok (Dn := { nx := Q, rt := fun _ _ => False, bk := fun _ _ => False, ct := fun _ _ => False }) (H0 := H) (r := .val d) w r (fun a ha => w.h0 a ha) (fun _ _ _ _ => trivial) hB (fun q hv hr => by cases hr) Sx.refl rfl h
def gdO (i : Nat) (f : S) : S := fun ρ => match ρ[i]? with
  | some (.own _) => f ρ
  | _ => none
def stIx (i : Nat) (j d : D) : S := fun ρ => match ρ[i]?, j with
  | some (.own (.lst xs)), .int k => match L2.ixN xs.length k with
    | some n => some (.nx (ρ.set i (.own (.lst (xs.set n d)))))
    | none => none
  | _, _ => none
theorem Reps.set {K : PySem.W.Frag} {ok : Addr → Prop} {H : Hp} : ∀ {vs : List V} {ds : List D} {n : Nat} {v : V} {d : D}, Reps K ok H vs ds → Rep K ok H v d → Reps K ok H (vs.set n v) (ds.set n d)
  | _, _, _, _, _, .nil, _ => .nil
  | _, _, 0, _, _, .cons _ t, r => .cons r t
  | _, _, n + 1, _, _, .cons a t, r => .cons a (Reps.set (n := n) t r)
theorem eg_sub {i : Nat} {y : Str} {ie : Expr} {fi : P D} (hN : X.N[i]? = some y) (hv : Vis X.env.scope y) (hi : EV X g E ie fi) (hd : (y == ("__debug__" : Str)) = false := by decide) (hcd : (y == ("__classdict__" : Str)) = false := by decide)
    (ha : ∀ v, assign (.Subscript (.Name y p) ie pos) X.env v = (do
      let ov ← holding [v] (eval (.Name y p) X.env)
      let iv ← holding [v, ov] (eval ie X.env)
      standAt pos
      holding [v, ov, iv] (setItem ov iv v)
      release [v, ov, iv] []) := by intro _; rfl) : EG X g E (.Subscript (.Name y p) ie pos) (fun d => gdO i (sb fi fun j => stIx i j d)) := by
  refine PG_imp (pg_sub (pe_var hN hv hd hcd) hi set_list ha) fun v σ H Q hq => ?_
  obtain ⟨ok, ρ, d, w, r, h⟩ := hq
  unfold gdO at h
  cases e0 : ρ[i]? with
  | none => simp only [e0] at h; exact h.elim
  | some s0 =>
    cases s0 with
    | un => simp only [e0] at h; exact h.elim
    | val _ => simp only [e0] at h; exact h.elim
    | own d00 =>
      simp only [e0] at h
      obtain ⟨u, hu, _⟩ := w.own i d00 e0
      refine ⟨.ref u, hu, ok, ρ, w, (Ss.sb (RA := relD X.K) h).mono fun jv H2 hq => ?_⟩
      obtain ⟨ok1, ρ1, j, w1, s1, r1, h1⟩ := hq
      have r1 : Rep X.K ok1 H2 jv j := r1
      unfold stIx at h1
      cases e1 : ρ1[i]? with
      | none => rw [e1] at h1; exact h1.elim
      | some sl =>
        rw [e1] at h1
        cases sl with
        | un => exact h1.elim
        | val _ => exact h1.elim
        | own d0 =>
          cases d0 with
          | lst xs =>
            cases r1 with
            | int k =>
              dsimp only at h1
              cases e2 : L2.ixN xs.length k with
              | none => rw [e2] at h1; exact h1.elim
              | some n =>
                rw [e2] at h1
                obtain ⟨q, eq, o, nk, _⟩ := w1.own i _ e1
                rw [hu] at eq
                cases eq
                obtain ⟨vs, hvs, rv⟩ := id o
                refine ⟨u, vs, k, n, rfl, rfl, hvs, by rw [rv.length]; exact e2, ?_⟩
                have rd : Rep X.K ok1 H2 v d := r.fr s1.fr
                have f : Fr ok1 H2 ok1 (upd H2 u (.lst (vs.set n v))) := .of (fun a x ha hk => by
                    have : a ≠ u := fun z => by
                      subst z
                      rw [hvs] at ha
                      cases ha
                      exact nk (hk trivial)
                    rw [upd_ne this]; exact ha) (fun _ _ _ k => k) (fun a ha => by
                  by_cases z : a = u
                  · rw [z, upd_same] at ha; cases ha
                  · rw [upd_ne z] at ha; exact ha)
                have ow : OwnAt X.K ok1 (upd H2 u (.lst (vs.set n v))) u (.lst (xs.set n d)) := ⟨_, upd_same, (rv.set rd).fr f⟩
                exact h1 σ _ ok1 (w1.write e1 hu ow).1 (Sx.write w1 e1 hu ow).y
            | _ => exact h1.elim
          | _ => exact h1.elim
def asgs : List (D → S) → List D → S
  | [], [] => sk
  | h :: hs, d :: ds => sq (h d) (asgs hs ds)
  | _, _ => fun _ => none
def tGs (K : PySem.W.Frag) (g : Gx) (E : Wx) (hs : List (D → S)) : TGs := fun vs σ H Q => ∃ ok ρ ds, Wf K g ok ρ σ H ∧ Reps K ok H vs ds ∧ Ss K g E σ ρ ok H (asgs hs ds ρ) { nx := Q, rt := fun _ _ => False, bk := fun _ _ => False, ct := fun _ _ => False }
abbrev EGs (X : Cx) (g : Gx) (E : Wx) (tgs : List Expr) (hs : List (D → S)) : Prop := PGs X tgs (tGs X.K g E hs)
theorem PGs_imp {tgs : List Expr} {t t' : TGs} (h : PGs X tgs t) (q : ∀ v σ H Q, t' v σ H Q → t v σ H Q) : PGs X tgs t' := ⟨fun pins s σ H v u Q I r z => h.run pins s σ H v u Q I r (q v σ H Q z)⟩
theorem egs_nil : EGs X g E [] [] := by
  refine PGs_imp pgs_nil fun vs σ H Q hq => ?_
  obtain ⟨ok, ρ, ds, w, r, h⟩ := hq
  cases r with
  | nil => exact ⟨rfl, h σ H ok w Sy.refl⟩
  | cons _ _ => exact h.elim
theorem egs_cons {tg : Expr} {tgs : List Expr} {h1 : D → S} {hs : List (D → S)} (a1 : EG X g E tg h1) (a2 : EGs X g E tgs hs) (hx : (assignEach (tg :: tgs) X.env).map (·.2) = assign tg X.env :: (assignEach tgs X.env).map (·.2) := by rfl) : EGs X g E (tg :: tgs) (h1 :: hs) := by
  refine PGs_imp (pgs_cons a1 a2 hx) fun vs σ H Q hq => ?_
  obtain ⟨ok, ρ, ds, w, r, h⟩ := hq
  cases r with
  | nil => exact h.elim
  | cons r1 rr =>
    rename_i v vs d ds
    refine ⟨v, vs, rfl, ok, ρ, d, w, r1, ?_⟩
    have h : Ss X.K g E σ ρ ok H (sq (h1 d) (asgs hs ds) ρ) { nx := Q, rt := fun _ _ => False, bk := fun _ _ => False, ct := fun _ _ => False } := h
    unfold sq at h
    cases e : h1 d ρ with
    | none => simp only [e] at h; exact h
    | some fl =>
      cases fl with
      | nx ρ' => simp only [e] at h; exact fun σ' H' ok' w' s' => ⟨ok', ρ', ds, w', rr.fr s'.fr, h.shift s'⟩
      | rt r ρ' => simp only [e] at h; exact h
      | bk ρ' => simp only [e] at h; exact h
      | ct ρ' => simp only [e] at h; exact h
      | er c ns ds ρ' => simp only [e] at h; exact h
def tupOf : D → Option (List D)
  | .tup xs => some xs
  | .ftup xs => some xs
  | _ => none
theorem eg_tup {tgs : List Expr} {hs : List (D → S)} {k : Nat} (hc : X.calm = true) (h : EGs X g E tgs hs) (hn : (assignEach tgs X.env).length = hs.length := by rfl) (hst : (assignEach tgs X.env).findIdx? (·.1) = none := by rfl) :
    EG X g E (.Tuple tgs k pos) (fun d => sb (lft (tupOf d)) fun ds => if ds.length = hs.length then asgs hs ds else fun _ => none) := by
  refine PG_imp (pg_tup hc h hn hst) fun v σ H Q hq => ?_
  obtain ⟨ok, ρ, d, w, r, h⟩ := hq
  cases r with
  | tupO ht rs =>
    rename_i a vs ds
    have h : Ss X.K g E σ ρ ok H ((if ds.length = hs.length then asgs hs ds else fun _ => none) ρ) _ := h
    by_cases hl : ds.length = hs.length
    · rw [if_pos hl] at h
      exact ⟨a, vs, rfl, ht.sq, by rw [rs.length]; exact hl, ok, ρ, ds, w, rs, h⟩
    · rw [if_neg hl] at h
      exact h.elim
  | tupF ht rs =>
    rename_i a vs ds
    have h : Ss X.K g E σ ρ ok H ((if ds.length = hs.length then asgs hs ds else fun _ => none) ρ) _ := h
    by_cases hl : ds.length = hs.length
    · rw [if_pos hl] at h
      exact ⟨a, vs, rfl, ht.sq, by rw [rs.length]; exact hl, ok, ρ, ds, w, rs, h⟩
    · rw [if_neg hl] at h
      exact h.elim
  | _ => exact h.elim
theorem es_asg {tg : Expr} {h : D → S} {fe : P D} (he : EV X g E e fe) (hg : EG X g E tg h) (hs : swapsWithSole [tg] e pos.line X.env = pure false := by rfl) (hw : swappedStores [tg] e X.env = pure none := by rfl)
    (h1 : (assignEach [tg] X.env).map (·.2) = [assign tg X.env] := by rfl) : ES X g E (.Assign [tg] e pos) (fun ρ => match sb fe h ρ with | some (.nx ρ') => some (.nx ρ') | some (.er c ns ds ρ') => some (.er c ns ds ρ') | _ => none) := by
  refine PS_imp (ps_asg he hg hs hw h1) fun Dn σ H hq => ?_
  obtain ⟨ok, ρ, w, hq⟩ := hq
  have hq : Ss X.K g E σ ρ ok H (sb fe h ρ) { nx := Dn.nx, rt := fun _ _ => False, bk := fun _ _ => False, ct := fun _ _ => False } := by
    cases e0 : sb fe h ρ with
    | none => simp only [e0] at hq; exact hq
    | some fl =>
      cases fl with
      | nx ρ' => simp only [e0] at hq; exact hq
      | er c ns ds ρ' => simp only [e0] at hq; exact hq
      | rt r ρ' => simp only [e0] at hq; exact hq.elim
      | bk ρ' => simp only [e0] at hq; exact hq.elim
      | ct ρ' => simp only [e0] at hq; exact hq.elim
  refine ⟨ok, ρ, w, (Ss.sb (RA := relD X.K) hq).mono fun v H1 hq => ?_⟩
  obtain ⟨ok1, ρ1, d, w1, s1, r1, h1'⟩ := hq
  exact ⟨ok1, ρ1, d, w1, r1, h1'⟩
/-! ### a text's letters -/
def lettersD (x : Str) : List D := x.cps.toList.map fun c => .str ⟨#[c]⟩
def strP : D → Option (List D)
  | .str x => some (lettersD x)
  | _ => none
end
end Pu
/-! Slices, repr, join, upper, dict(pairs). -/
namespace Pu
open PySem PySem.Spec PyProof.Rows L2 Kv
section
variable {X : Cx} {g : Gx} {E : Wx} {a b c e o : Expr} {es : List Expr} {x : Str} {p p2 pos apos cpos : Pos} {fa fb fo fe : P D} {fr : P (List D)}
/-! ### slices -/
abbrev relO : Rl (Option Int) (Option Int) := fun _ _ _ _ _ v d => v = d
theorem monoO : Mono relO := fun _ _ _ _ _ _ _ _ _ r => r
abbrev EO (X : Cx) (g : Gx) (E : Wx) (e : Option Expr) (f : P (Option Int)) : Prop := PO X e (tX X.K g E relO f)
theorem PO_imp {e : Option Expr} {t t' : TO} (h : PO X e t) (q : ∀ σ H Q, t' σ H Q → t σ H Q) : PO X e t' := ⟨fun pins s σ H Q I z => h.run pins s σ H Q I (q σ H Q z)⟩
theorem eo_none : EO X g E none (prt none) := PO_imp po_none fun σ H Q hq => tX_ret (X := X) (v := (none : Option Int)) hq fun _ _ _ => rfl
def asI : D → Option (Option Int)
  | .int i => some (some i)
  | _ => none
theorem eo_some (h : EV X g E e fe) : EO X g E (some e) (bnd fe fun d => lft (asI d)) := by
  refine PO_imp (po_some h) fun σ H Q hq => ?_
  obtain ⟨ok, ρ, w, h⟩ := hq
  refine ⟨ok, ρ, w, (Rs.bnd (RA := relD X.K) h (mo := monoO)).mono fun v H1 hq => ?_⟩
  obtain ⟨ok1, ρ1, d, w1, s1, r1, h1⟩ := hq
  have r1 : Rep X.K ok1 H1 v d := r1
  cases r1 with
  | int i => exact ⟨i, rfl, h1 _ H1 ok1 w1 Sx.refl rfl⟩
  | _ => exact h1.elim
def cutD (xs : List D) (lo hi : Option Int) : List D := (xs.drop (HT.sIx xs.length 0 lo)).take (HT.sIx xs.length xs.length hi - HT.sIx xs.length 0 lo)
theorem Reps.cut {K : PySem.W.Frag} {ok : Addr → Prop} {H : Hp} {vs : List V} {ds : List D} {lo hi : Option Int} (r : Reps K ok H vs ds) : Reps K ok H (cutV vs lo hi) (cutD ds lo hi) := by
  unfold cutV cutD
  rw [r.length]
  exact (r.drop _).take _
def lstOf : D → Option (List D)
  | .lst xs => some xs
  | .flst xs => some xs
  | _ => none
/-! ### repr -/
mutual
theorem Rep.sh {K : PySem.W.Frag} {ok : Addr → Prop} {H : Hp} : ∀ {v : V} {d : D} {p : PyData}, Rep K ok H v d → toPy d = some p → Sh K true H v p
  | _, _, _, .non, h => by cases h; exact .non
  | _, _, _, .bl b, h => by cases h; exact .bl b
  | _, _, _, .int i, h => by cases h; exact .int i
  | _, _, _, .str x, h => by cases h; exact .str x
  | _, _, _, .lst h1 _ r, h => by
    obtain ⟨ps, e, rfl⟩ := map_some (show (toPys _).map PyData.list = some _ from h)
    exact .lst (.inl (.inl h1)) (fun z => by cases z) (Reps.sh r e)
  | _, _, _, .lstF h1 r, h => by
    obtain ⟨ps, e, rfl⟩ := map_some (show (toPys _).map PyData.list = some _ from h)
    exact .lst h1.sq (fun z => by cases z) (Reps.sh r e)
  | _, _, _, .tupO h1 r, h => by
    obtain ⟨ps, e, rfl⟩ := map_some (show (toPys _).map PyData.tuple = some _ from h)
    exact .tup h1.sq (Reps.sh r e)
  | _, _, _, .tupF h1 r, h => by
    obtain ⟨ps, e, rfl⟩ := map_some (show (toPys _).map PyData.tuple = some _ from h)
    exact .tup h1.sq (Reps.sh r e)
  | _, _, _, .dic _ _, h => by cases h
  | _, _, _, .dct _ _, h => by cases h
  | _, _, _, .obj _ _ _, h => by cases h
  | _, _, _, .exn _ _, h => by cases h
  | _, _, _, .opq _, h => by cases h
  | _, _, _, .typ _, h => by cases h
  | _, _, _, .clo _, h => by cases h
  | _, _, _, .lsta h1 _ r, h => by
    obtain ⟨ps, e, rfl⟩ := map_some (show (toPys _).map PyData.list = some _ from h)
    exact .lst (.inl (.inl h1)) (fun z => by cases z) (Reps.sh r e)
theorem Reps.sh {K : PySem.W.Frag} {ok : Addr → Prop} {H : Hp} : ∀ {vs : List V} {ds : List D} {ps : List PyData}, Reps K ok H vs ds → toPys ds = some ps → ShAll K true H vs ps
  | _, _, _, .nil, h => by cases h; exact .nil
  | _, _, _, .cons (d := d) (ds := ds) r t, h => by
    unfold toPys at h
    cases e1 : toPy d with
    | none => rw [e1] at h; cases h
    | some p =>
      cases e2 : toPys ds with
      | none => rw [e1, e2] at h; cases h
      | some ps => rw [e1, e2] at h; cases h; exact .cons (Rep.sh r e1) (Reps.sh t e2)
end
def showP (p : PyData) : Option D := if p.showable = true ∧ p.shown.length ≤ sizeLine ∧ p.depth ≤ 60 then some (.str p.shown) else none
def shD : D → Option D
  | .dic [] [] => showP (.dict [])
  | d => (toPy d).bind showP
theorem repr_dict0 (hg : X.A.guards = some []) (hu : X.A.units + 64 < cLine) : CallR X (.builtin "repr") (fun xs H Q => ∃ a, xs = [.ref a] ∧ Rd H a (.dK []) ∧ (PyData.dict []).showable = true ∧ (PyData.dict []).shown.length ≤ sizeLine ∧ Q (.str (PyData.dict []).shown) H) := by
  intro pins s σ H xs us Q I rv ⟨a, ex, hd, hs, hz, hq⟩
  subst ex
  obtain ⟨u, rfl, z⟩ := vals1 rv
  cases z
  obtain ⟨_, hne, vs, kv, o, es, ep, g1, g2, g3, _, g5, _⟩ := (show ObjOk X.prog X.w H s.heap a (.dK []) from Rd.ok hd I.hok)
  obtain ⟨v1, v2⟩ := pairs_vals kv g5
  have rd : Reads s.heap (.ref a) (.dict []) ((a :: []) ++ []) := Reads.dict (kvs := []) g1 g2.1 g3 (by cases h : es.toList.map (·.key) with
    | nil => exact .nil
    | cons x xs => rw [h] at v1; cases v1) (by cases h : es.toList.map (·.val) with
    | nil => exact .nil
    | cons x xs => rw [h] at v2; cases v2)
  refine repr_of_reads' rd hs (fun _ hm => ?_) hg (by show _ + _ < _; have : (PyData.dict []).depth ≤ 60 := by decide +kernel
                                                      omega) (fun _ _ e => e) (fun h2 u tk hk => ⟨.str _, H, I.kept hk, ⟨_, rfl⟩, hq⟩) hz
  rcases List.mem_cons.mp hm with y | y
  · rw [← y] at hne
    simp at hne
  · cases y
def rReprA (K : PySem.W.Frag) : List V → Hp → VK → Prop := fun xs H Q => rRepr K xs H Q ∨ ∃ a, xs = [.ref a] ∧ Rd H a (.dK []) ∧ (PyData.dict []).showable = true ∧ (PyData.dict []).shown.length ≤ sizeLine ∧ Q (.str (PyData.dict []).shown) H
theorem call_reprA (hg : X.A.guards = some []) (hu : X.A.units + 64 < cLine) : CallR X (.builtin "repr") (rReprA X.K) := CallR.or (call_reprD hg hu) (repr_dict0 hg hu)
theorem o1_repr : Op1 X.K (rReprA X.K) shD := by
  intro g ρ σ ok H v d z Q w r h q
  have key : ∀ p, toPy d = some p → showP p = some z → rRepr X.K [v] H Q := fun p e1 e2 => by
    unfold showP at e2
    split at e2
    · rename_i hz
      cases e2
      have sh : Sh X.K true H v p := by
        rcases r with r | ⟨q, rfl, o⟩
        · exact r.sh e1
        · cases d with
          | lst ds =>
            obtain ⟨vs, hv, rv⟩ := o
            obtain ⟨ps, e, rfl⟩ := map_some (show (toPys _).map PyData.list = some _ from e1)
            exact .lst (.inl (.inl hv)) (fun z => by cases z) (rv.sh e)
          | dic _ _ => cases e1
          | dct _ _ => cases e1
          | obj _ _ _ => cases e1
          | lsta a ds =>
            obtain ⟨_, vs, hv, rv⟩ := o
            obtain ⟨ps, e, rfl⟩ := map_some (show (toPys _).map PyData.list = some _ from e1)
            exact .lst (.inl (.inl hv)) (fun z => by cases z) (rv.sh e)
          | _ => exact o.elim
      exact ⟨true, v, p, rfl, sh, hz.1, hz.2.1, hz.2.2, q.at w (.str _)⟩
    · cases e2
  unfold shD at h
  split at h
  · unfold showP at h
    split at h
    · rename_i hz
      cases h
      obtain ⟨a, kvs, rfl, ha, hk, _⟩ := Pk.dic r
      cases kvs with
      | nil => exact .inr ⟨a, rfl, ha, hz.1, hz.2.1, q.at w (.str _)⟩
      | cons _ _ => cases hk
    · cases h
  · cases e : toPy d with
    | none => rw [e] at h; cases h
    | some p => rw [e] at h; exact .inl (key p e h)
/-! ### join, upper -/
def strsD : List D → Option (List Str)
  | [] => some []
  | .str x :: ds => (strsD ds).map (x :: ·)
  | _ :: _ => none
theorem Reps.strs {K : PySem.W.Frag} {ok : Addr → Prop} {H : Hp} : ∀ {vs : List V} {ds : List D} {ys : List Str}, Reps K ok H vs ds → strsD ds = some ys → vs = ys.map V.str
  | _, _, _, .nil, h => by cases h; rfl
  | _, _, _, .cons r t, h => by
    cases r with
    | str x =>
      obtain ⟨zs, e, rfl⟩ := map_some (show (strsD _).map (x :: ·) = some _ from h)
      rw [Reps.strs t e]; rfl
    | _ => cases h
end
end Pu
/-! Dicts: walked, listed, made of pairs, written. -/
namespace Pu
open PySem PySem.Spec PyProof.Rows L2 Kv
section
variable {K : PySem.W.Frag} {g : Gx} {ok : Addr → Prop} {ρ : En} {σ : L2.St} {H : Hp} {d : Addr} {u : HO} {od : Obj}
end
section
variable {X : Cx} {g : Gx} {E : Wx} {a b c e o tg : Expr} {es : List Expr} {x : Str} {p p2 pos apos cpos : Pos} {fa fb fo fe : P D} {fr : P (List D)}
def keyD : Key → D
  | .inl i => .int i
  | .inr x => .str x
theorem rep_key {K : PySem.W.Frag} {ok : Addr → Prop} {H : Hp} (k : Key) : Rep K ok H (kV k) (keyD k) := by
  cases k with
  | inl i => exact .int i
  | inr x => exact .str x
theorem reps_keys {K : PySem.W.Frag} {ok : Addr → Prop} {H : Hp} : ∀ ks : List Key, Reps K ok H (ks.map kV) (ks.map keyD)
  | [] => .nil
  | k :: ks => .cons (rep_key k) (reps_keys ks)
def keysD : D → Option (List D)
  | .dic ks _ => some (ks.map keyD)
  | .dct ks _ => some (ks.map fun k => .tup (k.map keyD))
  | _ => none
/-! ### d.values(), d.items() -/
def itemsD : D → Option (List D)
  | .dic ks vs => some ((ks.zip vs).map fun p => .tup [keyD p.1, p.2])
  | _ => none
/-! ### dict(pairs) -/
def putD {κ : Type} [DecidableEq κ] (ks : List κ) (vs : List D) (k : κ) (v : D) : List κ × List D :=
  if (ks.any fun a => decide (a = k)) = true then (ks, (ks.zip vs).map fun p => if p.1 = k then v else p.2) else (ks ++ [k], vs ++ [v])
/-! ### list(d) -/
theorem list_dK (hc : X.calm = true) : CallR X (.type "list") (fun xs H Q => ∃ d kvs, xs = [V.ref d] ∧ Rd H d (.dK kvs) ∧ ∀ q, H q = none → Q (.ref q) (upd H q (.lst ((kvs.map (·.1)).map kV)))) := by
  intro pins s σ H xs us Q I rv ⟨d, kvs, ex, hd, hq⟩
  subst ex
  obtain ⟨w1, rfl, z⟩ := vals1 rv
  cases z
  obtain ⟨hz, hne, ws, hkv, hD⟩ := dk_rd I.hok hd
  obtain ⟨ep, hA⟩ := hD.dictAt
  have hlen : ws.length = kvs.length := (Paired.length hkv).symm
  refine PySem.W.kdl_call (PySem.W.kdl_dict (knd := mixKind X.prog X.w) (kvs := ws) (ep := ep) hne) (I.ok.hd hc) hA (hlen ▸ hz) fun h' tk its c hkp hnew hits => ?_
  have hv : Vals ((kvs.map (·.1)).map kV) its.toList := by
    refine vals_of_at (by simp only [List.length_map, Array.length_toList]; have := hits.1; omega) fun j y u h1 h2 => ?_
    rw [Array.getElem?_toList] at h2
    obtain ⟨k, y', e1, e2⟩ := hits.2 j u h2
    rw [KV.keys hkv, List.getElem?_map, List.getElem?_map, e1] at h1
    cases h1
    exact keyIs_rel e2
  have hok : ObjOk X.prog X.w (upd H s.heap.objs.size (.lst ((kvs.map (·.1)).map kV))) h' s.heap.objs.size (.lst ((kvs.map (·.1)).map kV)) := ⟨by rw [List.length_map, List.length_map]; exact hz, its.toList, c, hv, by rw [Array.toArray_toList]; exact hnew⟩
  exact ⟨.ref s.heap.objs.size, _, I.laid hkp (Nat.le_refl _) hok, rfl, hq _ (I.hok.fresh (Nat.le_refl _))⟩
def listP (d : D) : Option R := match d with
  | .dic ks _ => some (.own (.lst (ks.map keyD)))
  | .dct ks _ => some (.own (.lst (ks.map fun k => .tup (k.map keyD))))
  | d => (seqD d).map fun xs => .own (.lst xs)
theorem keysT_reps {K : PySem.W.Frag} {ok : Addr → Prop} {H : Hp} : ∀ {kvs : List (List Key × V)} {bs : List Addr}, IsKeys H kvs bs → Reps K ok H (bs.map V.ref) ((kvs.map (·.1)).map fun k => .tup (k.map keyD))
  | [], _, h => by cases h; exact .nil
  | p :: ps, _, h => by
    cases h with
    | cons h1 t => exact .cons (.tup h1 (reps_keys p.1)) (keysT_reps t)
def rListA (K : PySem.W.Frag) : List V → Hp → VK → Prop := fun xs H Q => (∃ p ys, xs = [V.ref p] ∧ (SqL K H p ys ∨ SqT K H p ys) ∧ ∀ l, H l = none → Q (.ref l) (upd H l (.lst ys))) ∨
  (∃ d kvs, xs = [V.ref d] ∧ Rd H d (.dK kvs) ∧ ∀ q, H q = none → Q (.ref q) (upd H q (.lst ((kvs.map (·.1)).map kV)))) ∨ (∃ d kvs, xs = [V.ref d] ∧ Rd H d (.dT kvs) ∧ ∀ p bs, H p = none → IsKeys H kvs bs → Q (.ref p) (upd H p (.lst (bs.map V.ref))))
theorem call_listA (hc : X.calm = true) : CallR X (.type "list") (rListA X.K) := CallR.or call_list_of (CallR.or (list_dK hc) (call_list_dT hc))
theorem er_listA (hc : X.calm = true) (hg : Gl X "list") (hm : X.mg "list" = none) (ha : EP X g E a fa) (hs : starEach [a] X.env = [(false, eval a X.env)] := by rfl) : ER X g E (.Call (.Name "list" p) [a] [] pos) (bnd fa fun x => lft (listP x)) := by
  refine PE_imp (pe_callTy (x := "list") (call_listA hc) hg hm (by decide +kernel) (pa_cons ha pa_nil hs) (by decide) (by decide) hs rfl) fun σ H Q hq => ?_
  obtain ⟨ok, ρ, w, h⟩ := hq
  refine ⟨ok, ρ, w, (Rs.bnd (RA := relP X.K) h).mono fun v1 H1 hq => ?_⟩
  obtain ⟨ok1, ρ1, d, w1, f1, r1, h1⟩ := hq
  unfold lft at h1
  have r1 : Pk X.K ok1 H1 v1 d := r1
  show rListA X.K [v1] H1 Q
  have seq : ∀ xs, seqD d = some xs → listP d = some (.own (.lst xs)) → rListA X.K [v1] H1 Q := fun xs es el => by
    rw [el] at h1
    obtain ⟨q, vs, rfl, sq, rp⟩ := r1.seq es
    refine .inl ⟨q, vs, rfl, sq, fun l nl => ?_⟩
    exact h1 _ _ (sub1 ok1 l) (w1.newO nl) (Sx.newO nl) (own_new w1 nl ⟨vs, upd_same, rp.fr (fr_sub nl)⟩)
  cases d with
  | lst xs => exact seq xs rfl rfl
  | tup xs => exact seq xs rfl rfl
  | flst xs => exact seq xs rfl rfl
  | ftup xs => exact seq xs rfl rfl
  | dic ks vs =>
    obtain ⟨q, kvs, rfl, hd, rfl, rp⟩ := r1.dic
    exact .inr (.inl ⟨q, kvs, rfl, hd, fun l nl => h1 _ _ (sub1 ok1 l) (w1.newO nl) (Sx.newO nl) (own_new w1 nl ⟨_, upd_same, reps_keys _⟩)⟩)
  | dct ks vs =>
    obtain ⟨q, kvs, rfl, hd, rfl, rp⟩ := r1.dct
    exact .inr (.inr ⟨q, kvs, rfl, hd, fun l bs nl hb => h1 _ _ (sub1 ok1 l) (w1.newO nl) (Sx.newO nl) (own_new w1 nl ⟨_, upd_same, (keysT_reps hb).fr (fr_sub nl)⟩)⟩)
  | _ => exact h1.elim
end
end Pu
/-! Defs with a star parameter; stars in displays and calls; dicts that are written. -/
namespace Pu
open PySem PySem.Spec PyProof.Rows L2 Kv
section
variable {P' : Program} {w : World} {K : PySem.W.Frag} {mg : Str → Option Value} {base : Heap} {k : Nat} {f : Addr} {name qual : Str} {params : Arguments} {body : List Stmt} {scope : Scope} {dV kV doc pm cdv ct oc : Value} {an od : Option Addr}
  {osl : Array (Option Value)} {N ps : List Str} {sp : Sp}
end
def starF (n : Nat) (F : P R) : List D → P R := fun ds => if n ≤ ds.length ∧ ds.length ≤ sizeLine then app F (ds.take n ++ [.tup (ds.drop n)]) else fun _ => none
section
variable {P' : Program} {w : World} {K : PySem.W.Frag} {mg : Str → Option Value} {base : Heap} {T : List (Addr × Str)}
theorem body_ok {qual : Str} {sc : Scope} {f : Addr} {cdv : Value} {N : List Str} {n : Nat} {B : List Nat} {body : S} {bs : List Stmt} {A : Around} {fr : List Env} {s : Shared} {H : Hp} {vs : List V} {Q : VK} {E : XK} (hpl : n ≤ N.length)
    (hb : ESs (cxOf (L2.CX P' w) P' w K mg base N qual sc f cdv A fr s H E) ⟨H, B, T⟩ (fun _ => E) bs body) (hsp : spP K T n (fnP N.length B body) vs H Q E) :
    ∃ t, PSs (cxOf (L2.CX P' w) P' w K mg base N qual sc f cdv A fr s H E) bs t ∧ t { nx := fun _ H' => Q .non H', rt := Q } (start N vs) H := by
  refine ⟨_, hb, ?_⟩
  obtain ⟨ok, as, hn, w0, h⟩ := hsp
  unfold fnP at h
  split at h
  · rename_i hl
    obtain ⟨w1, hw⟩ := fn_enter (N := N) hn hpl w0 hl
    refine ⟨ok, _, w1, ?_⟩
    cases eb : body (as ++ List.replicate (N.length - as.length) .un) with
    | none => rw [eb] at h; exact h
    | some fl =>
      rw [eb] at h
      cases fl with
      | nx ρ' =>
        intro σ' H' ok' w' s'
        obtain ⟨w2, s2, _⟩ := fn_leave hn w0 hl hw w' s'
        exact h .non H' ok' w2 s2 .non
      | rt r ρ' =>
        intro v σ' H' ok' w' s' r'
        obtain ⟨w2, s2, hs⟩ := fn_leave hn w0 hl hw w' s'
        refine h v H' ok' w2 s2 ?_
        cases r with
        | val d => exact r'
        | own d =>
          obtain ⟨q, e, o, nk, n0, np⟩ := r'
          refine ⟨q, e, o, nk, n0, fun j e' hj z => ?_⟩
          obtain ⟨h1, h2⟩ := hs j e' hj
          exact np j e' h1 (by rw [h2]; exact z)
      | bk ρ' => exact h.elim
      | ct ρ' => exact h.elim
      | er c ns ds ρ' =>
        intro dx fs σ' H' ok' w' s' e1 e2 e3
        obtain ⟨w2, s2, _⟩ := fn_leave hn w0 hl hw w' s'
        exact h dx fs H' ok' w2 s2 e1 e2 e3
  · exact h.elim
end
section
variable {X : Cx} {g : Gx} {E : Wx} {k n : Nat} {C : Addr} {x m : Str} {F : P R} {p pos apos : Pos} {e o : Expr} {es : List Expr} {fe : P D} {fr : P (List D)}
/-! ### *e in a display -/
/-! ### dicts that are written -/
theorem er_dict0 : ER X g E (.Dict [] [] pos) (prt (.own (.dic [] []))) := by
  refine PE_imp pe_dnewK fun σ H Q hq => ?_
  obtain ⟨ok, ρ, w, h⟩ := hq
  exact fun p np => h _ _ (sub1 ok p) (w.newO np) (Sx.newO np) (own_new w np ⟨[], upd_same, rfl, .nil⟩)
def stPut (i : Nat) (k d : D) : S := fun ρ => match ρ[i]? with
  | some (.own (.dic ks vs)) => match asKey k with
    | some k' => if ks.length < sizeLine then (let q := putD ks vs k' d; some (.nx (ρ.set i (.own (.dic q.1 q.2))))) else none
    | none => none
  | some (.own (.dct ks vs)) => match k with
    | .tup xs => match asKeysN xs with
      | some k' => if ks.length < sizeLine then (let q := putD ks vs k' d; some (.nx (ρ.set i (.own (.dct q.1 q.2))))) else none
      | none => none
    | _ => none
  | _ => none
end
end Pu
/-! More walks: enumerate, reversed, zip of two; -i; insert; a written tuple. -/
namespace Pu
open PySem PySem.Spec PyProof.Rows L2 Kv
section
variable {X : Cx} {g : Gx} {E : Wx} {tg a b c e : Expr} {x : Str} {p pos : Pos} {fa fb fc : P D}
/-! ### -i -/
def negD : D → Option D
  | .int i => some (.int (-i))
  | _ => none
theorem ev_neg (ha : EV X g E a fa) : EV X g E (.UnaryOp .USub a pos) (bnd fa fun d => lft (negD d)) := by
  refine PE_imp (pe_un un_neg ha) fun σ H Q hq => ?_
  obtain ⟨ok, ρ, w, h⟩ := hq
  refine ⟨ok, ρ, w, (Rs.bnd (RA := relD X.K) h).mono fun v H1 hq => ?_⟩
  obtain ⟨ok1, ρ1, d, w1, s1, r1, h1⟩ := hq
  have r1 : Rep X.K ok1 H1 v d := r1
  unfold lft negD at h1
  cases r1 with
  | int i => exact ⟨i, rfl, h1 _ H1 ok1 w1 Sx.refl (.int _)⟩
  | _ => exact h1.elim
/-! ### xs.insert(i, y) -/
/-! ### walks over what one value tells -/
theorem tI_one {K : PySem.W.Frag} {kf : D → Option (List D)} {σ : L2.St} {H : Hp} {R : It → Hp → Prop} {G : V → Hp → Prop} (hq : tI K g E [] (bnd fa fun d => lft (kf d)) σ H R)
    (walk : ∀ v d ds ok' ρ' H', Wf K g ok' ρ' σ H' → Rep K ok' H' v d → kf d = some ds → (∀ J, WkOk K g [] σ ρ' J ds ok' H' → R J H') → G v H') : tX K g E (relD K) fa σ H G := by
  obtain ⟨ok, ρ, w, h⟩ := hq
  refine ⟨ok, ρ, w, ?_⟩
  cases e : fa ρ with
  | none => rw [bnd_none e] at h; exact h
  | some y =>
    cases y with
    | er c ns ds ρ' => rw [bnd_er e] at h; exact h
    | ok d ρ' =>
      rw [bnd_ok e] at h
      intro v H' ok' w' s' r'
      unfold lft at h
      cases ek : kf d with
      | none => rw [ek] at h; exact h.elim
      | some ds => rw [ek] at h; exact walk v d ds ok' ρ' H' w' r' ek fun J wk => h J H' ok' w' s' wk
theorem rep_seq {K : PySem.W.Frag} {ok : Addr → Prop} {H : Hp} {v : V} {d : D} {ds : List D} (r : Rep K ok H v d) (e : seqD d = some ds) :
    (∃ q, v = .ref q ∧ (∃ xs, SqL K H q xs ∧ xs.length = ds.length) ∧ ∀ ok2 H2, Fr ok H ok2 H2 → ∃ vs, SqL K H2 q vs ∧ Reps K ok2 H2 vs ds) ∨ (∃ q, v = .ref q ∧ (∃ xs, SqT K H q xs ∧ xs.length = ds.length) ∧ ∀ ok2 H2, Fr ok H ok2 H2 → ∃ vs, SqT K H2 q vs ∧ Reps K ok2 H2 vs ds) := by
  cases r with
  | lst h k t => cases e; exact .inl ⟨_, rfl, ⟨_, .inl (.inl h), t.length⟩, fun ok2 H2 f2 => ⟨_, .inl (.inl ((f2.keep _ _ h fun _ => k).same rfl)), t.fr f2⟩⟩
  | lstF h t => cases e; exact .inl ⟨_, rfl, ⟨_, h.sq, t.length⟩, fun ok2 H2 f2 => ⟨_, (f2.fzL h).sq, t.fr f2⟩⟩
  | tupO h t => cases e; exact .inr ⟨_, rfl, ⟨_, h.sq, t.length⟩, fun ok2 H2 f2 => ⟨_, (f2.tpO h).sq, t.fr f2⟩⟩
  | tupF h t => cases e; exact .inr ⟨_, rfl, ⟨_, h.sq, t.length⟩, fun ok2 H2 f2 => ⟨_, (f2.fzT h).sq, t.fr f2⟩⟩
  | _ => cases e
/-! ### enumerate -/
def enumL (ds : List D) : List D := ds.zipIdx.map fun p => .tup [.int (p.2 : Nat), p.1]
theorem enumL_len (ds : List D) : (enumL ds).length = ds.length := by unfold enumL; rw [List.length_map, List.length_zipIdx]
theorem enumL_at {ds : List D} {i : Nat} {d : D} (h : (enumL ds)[i]? = some d) : ∃ x, ds[i]? = some x ∧ d = .tup [.int (i : Nat), x] := by
  unfold enumL at h
  rw [List.getElem?_map, List.getElem?_zipIdx] at h
  cases e : ds[i]? with
  | none => rw [e] at h; cases h
  | some x =>
    rw [e] at h
    refine ⟨x, rfl, ?_⟩
    have := Option.some.inj h
    rw [← this]
    simp
theorem ei_enum {elts : List Expr} {kk : Nat} {tpos : Pos} (hg : Gl X "enumerate") (hm : X.mg "enumerate" = none) (ha : EV X g E a fa) (hs : starEach [a] X.env = [(false, eval a X.env)] := by rfl) :
    EI X g E [] (.Tuple elts kk tpos) (.Call (.Name "enumerate" p) [a] [] pos) (bnd fa fun d => lft ((seqD d).map enumL)) := by
  refine PI_imp (pi_enumS hg hm (pa_cons ha pa_nil hs) hs) fun σ H R hq => ?_
  refine tI_one hq fun v d ds ok' ρ' H' w' r' e k => ?_
  obtain ⟨xs, ex, rfl⟩ := map_some e
  rcases rep_seq r' ex with ⟨q, rfl, ⟨us, sq, _⟩, stay⟩ | ⟨q, rfl, ⟨us, sq, _⟩, stay⟩
  · refine .inl ⟨q, us, rfl, sq, k _ fun ok2 ρ2 σ2 H2 w2 f2 _ => ?_⟩
    obtain ⟨vs, s2, r2⟩ := stay ok2 H2 f2
    have hl := r2.length
    refine ⟨fun i hi => ?_, ⟨vs, s2, by rw [enumL_len]; omega⟩, fun i d x H3 hd y => ?_⟩
    · rw [enumL_len] at hi
      exact ⟨vs, vs[i], s2, List.getElem?_eq_getElem (by omega)⟩
    · obtain ⟨T, u, rfl, nT, rfl, at_⟩ := y
      obtain ⟨dx, e1, rfl⟩ := enumL_at hd
      obtain ⟨d', e2, ru⟩ := r2.get (at_ vs s2)
      rw [e1] at e2
      cases e2
      exact ⟨.inr ⟨T, _, nT, rfl⟩, .tup upd_same (.cons (.int _) (.cons (ru.fr (fr_new nT)) .nil))⟩
  · refine .inr ⟨q, us, rfl, sq, k _ fun ok2 ρ2 σ2 H2 w2 f2 _ => ?_⟩
    obtain ⟨vs, s2, r2⟩ := stay ok2 H2 f2
    have hl := r2.length
    refine ⟨fun i hi => ?_, ⟨vs, s2, by rw [enumL_len]; omega⟩, fun i d x H3 hd y => ?_⟩
    · rw [enumL_len] at hi
      exact ⟨vs, vs[i], s2, List.getElem?_eq_getElem (by omega)⟩
    · obtain ⟨T, u, rfl, nT, rfl, at_⟩ := y
      obtain ⟨dx, e1, rfl⟩ := enumL_at hd
      obtain ⟨d', e2, ru⟩ := r2.get (at_ vs s2)
      rw [e1] at e2
      cases e2
      exact ⟨.inr ⟨T, _, nT, rfl⟩, .tup upd_same (.cons (.int _) (.cons (ru.fr (fr_new nT)) .nil))⟩
/-! ### reversed -/
/-! ### a written tuple of texts -/
end
end Pu
/-! zip of a tuple and a list; zip of two of a kind. -/
namespace Pu
open PySem PySem.Spec PyProof.Rows L2 Kv
/-! the zip is made -/
section
variable {X : Cx} {g : Gx} {E : Wx} {a b : Expr} {p pos tpos : Pos} {elts : List Expr} {kk : Nat} {fa fb : P D}
/-! ### zip in the tree world -/
def pairs (xs ys : List D) : List D := (xs.zip ys).map fun q => .tup [q.1, q.2]
end
end Pu
/-! A call to which things of one's own are lent, at any place; what is never reached. -/
namespace Pu
open PySem PySem.Spec PyProof.Rows L2 Kv
inductive Ar where
  | v (d : D)
  | l (i : Nat)
def ixs : List Ar → List Nat
  | [] => []
  | .v _ :: r => ixs r
  | .l i :: r => i :: ixs r
def ownS : Option Slot → Slot
  | some (.own d) => .own d
  | _ => .un
def slotA (ρ : En) : Ar → Slot
  | .v d => .val d
  | .l i => ownS ρ[i]?
def back : List Ar → En → En → Option En
  | [], _, ρ => some ρ
  | .v _ :: r, _ :: as, ρ => back r as ρ
  | .l i :: r, .own d :: as, ρ => back r as (ρ.set i (.own d))
  | _, _, _ => none
def ownA (ρ : En) : List Ar → Bool
  | [] => true
  | .v _ :: r => ownA ρ r
  | .l i :: r => (match ρ[i]? with | some (.own _) => true | _ => false) && ownA ρ r
def appL (F : P R) (n : Nat) (ars : List Ar) : P R := fun ρ => if ars.length = n ∧ (ixs ars).Nodup ∧ ownA ρ ars = true then match F (ars.map (slotA ρ)) with
    | some (.ok r as') => (back ars as' ρ).map (.ok r)
    | some (.er c ns es as') => (back ars as' ρ).map (.er c ns es)
    | none => none
  else none
inductive ARs (K : PySem.W.Frag) (ok : Addr → Prop) (H : Hp) (σ : L2.St) : List V → List Ar → Prop
  | nil : ARs K ok H σ [] []
  | vl {v : V} {d : D} {vs : List V} {as : List Ar} : Rep K ok H v d → ARs K ok H σ vs as → ARs K ok H σ (v :: vs) (.v d :: as)
  | ln {q : Addr} {i : Nat} {vs : List V} {as : List Ar} : σ[i]? = some (some (.ref q)) → ARs K ok H σ vs as → ARs K ok H σ (.ref q :: vs) (.l i :: as)
section
variable {K : PySem.W.Frag} {g : Gx} {E : Wx} {ok : Addr → Prop} {ρ : En} {σ : L2.St} {H : Hp}
theorem ARs.fr {ok' : Addr → Prop} {H' : Hp} (f : Fr ok H ok' H') : ∀ {vs : List V} {as : List Ar}, ARs K ok H σ vs as → ARs K ok' H' σ vs as
  | _, _, .nil => .nil
  | _, _, .vl r t => .vl (r.fr f) (ARs.fr f t)
  | _, _, .ln e t => .ln e (ARs.fr f t)
theorem ARs.len : ∀ {vs : List V} {as : List Ar}, ARs K ok H σ vs as → vs.length = as.length
  | _, _, .nil => rfl
  | _, _, .vl r t => congrArg (· + 1) (ARs.len t)
  | _, _, .ln e t => congrArg (· + 1) (ARs.len t)
end
section
variable {X : Cx} {g : Gx} {E : Wx} {k n : Nat} {C : Addr} {x y m : Str} {F : P R} {p p' pos apos : Pos} {e o : Expr} {es : List Expr} {fr : P (List Ar)} {fa : P D}
def valA (fa : P D) (fr : P (List Ar)) : P (List Ar) := bnd fa fun x => bnd fr fun xs => prt (.v x :: xs)
def lntA (i : Nat) (fr : P (List Ar)) : P (List Ar) := fun ρ => match ρ[i]? with
  | some (.own _) => bnd fr (fun xs => prt (.l i :: xs)) ρ
  | _ => none
def calL (F : P R) (n : Nat) (fr : P (List Ar)) : P R := bnd fr fun ars => appL F n ars
/-! ### what is never reached -/
def never {α : Type} : P α := fun _ => none
end
end Pu
/-! Objects of one's own: C(..), self.f = e, self.f. -/
namespace Pu
open PySem PySem.Spec PyProof.Rows L2 Kv
section
variable {X : Cx} {CX : CXT} {k : Nat} {f C : Addr} {fd : FuncData} {ps : List Str} {sp : Sp} {dvs : List V} {ds : List Value} {E : L2.St → XK} {x : Str} {p pos : Pos} {e : Expr} {es : List Expr} {t : TA}
end
def newO (C : Addr) (F : P R) (n : Nat) (ds : List D) : P R := fun ρ => if ds.length + 1 = n then match F (.own (.obj C [] []) :: vals ds) with
    | some (.ok (.val .non) (.own d :: _)) => some (.ok (.own d) ρ)
    | some (.er c ns es _) => some (.er c ns es ρ)
    | _ => none
  else none
section
variable {K : PySem.W.Frag} {g : Gx} {E : Wx} {ok : Addr → Prop} {ρ : En} {σ : L2.St} {H : Hp}
end
section
variable {X : Cx} {g : Gx} {E : Wx} {k n : Nat} {C : Addr} {x y f : Str} {F : P R} {dds : List D} {p p' pos apos : Pos} {a e o : Expr} {es : List Expr} {fr : P (List D)} {fa fe : P D}
/-! ### a field -/
end
end Pu
/-! C.f of a class, C.m(..) of a static method. -/
namespace Pu
open PySem PySem.Spec PyProof.Rows L2 Kv
structure CAt (K : PySem.W.Frag) (mg : Str → Option Value) (x : Str) (C : Addr) (f : Str) (i : Int) : Prop where
  ex : ∃ mc u, ClX.CRead K C mc ∧ ClX.CVal K C mc f (.int i) u ∧ mg x = some (.ref C)
section
variable {X : Cx} {g : Gx} {E : Wx} {k n : Nat} {C : Addr} {x m f : Str} {F : P R} {p p' pos apos : Pos} {e o : Expr} {es : List Expr} {fr : P (List D)}
theorem ev_cat {i : Int} (c : CAt X.K X.mg x C f i) (hg : Gl X x) (hd : (x == ("__debug__" : Str)) = false := by decide) (hb : attributeBase (.Name x p) f X.env (eval (.Name x p) X.env) = eval (.Name x p) X.env := by rfl) : EV X g E (.Attribute (.Name x p) f pos) (prt (.int i)) := by
  obtain ⟨mc, u, r, v, hm⟩ := c.ex
  refine PE_imp (ClX.pe_cval (pe_glob (v := .ref C) hg hm rfl hd) hb) fun σ H Q hq => ?_
  obtain ⟨ok, ρ, w, h⟩ := hq
  exact ⟨C, mc, .int i, u, rfl, r, v, h (.int i) H ok w Sx.refl (.int i)⟩
end
section
variable {P' : Program} {w : World} {K : PySem.W.Frag} {mg : Str → Option Value} {base : Heap} {T : List (Addr × Str)}
end
end Pu
/-! Slices of lists, tuples and texts; split; len(set(texts)). -/
namespace Pu
open PySem PySem.Spec PyProof.Rows L2 Kv
def slD (l h : Option Int) : D → Option R
  | .lst xs => some (.own (.lst (cutD xs l h)))
  | .flst xs => some (.own (.lst (cutD xs l h)))
  | .tup xs => some (.val (.tup (cutD xs l h)))
  | .ftup xs => if HT.sIx xs.length 0 l = 0 ∧ HT.sIx xs.length xs.length h = xs.length then some (.val (.ftup xs)) else some (.val (.tup (cutD xs l h)))
  | .str z => if z.length ≤ sizeLine then some (.val (.str (Txt.slice z l h))) else none
  | _ => none
theorem cutD_all {xs : List D} {l h : Option Int} (e : HT.sIx xs.length 0 l = 0 ∧ HT.sIx xs.length xs.length h = xs.length) : cutD xs l h = xs := by
  unfold cutD
  rw [e.1, e.2, List.drop_zero, Nat.sub_zero, List.take_length]
section
variable {X : Cx} {g : Gx} {E : Wx} {e o : Expr} {fe fo : P D} {p p2 q pos apos : Pos}
theorem er_slA {lo hi : Option Expr} {fl fh : P (Option Int)} (he : EV X g E e fe) (hl : EO X g E lo fl) (hu : EO X g E hi fh) :
    ER X g E (.Subscript e (.Slice lo hi none p2) pos) (bnd fe fun d => bnd fl fun l => bnd fh fun h => lft (slD l h d)) := by
  refine PE_imp (pe_slice (SlR.or sl_list (SlR.or sl_tupA C8.sl_txt)) he hl hu) fun σ H Q hq => ?_
  obtain ⟨ok, ρ, w, h⟩ := hq
  refine ⟨ok, ρ, w, (Rs.bnd (RA := relD X.K) h).mono fun v H1 hq => ?_⟩
  obtain ⟨ok1, ρ1, d, w1, s1, r1, h1⟩ := hq
  refine ⟨ok1, ρ1, w1, (Rs.bnd (RA := relO) h1).mono fun l H2 hq => ?_⟩
  obtain ⟨ok2, ρ2, l', w2, s2, rfl, h2⟩ := hq
  refine ⟨ok2, ρ2, w2, (Rs.bnd (RA := relO) h2).mono fun u H3 hq => ?_⟩
  obtain ⟨ok3, ρ3, u', w3, s3, rfl, h3⟩ := hq
  have r3 : Rep X.K ok3 H3 v d := (Rep.fr s2.fr r1).fr s3.fr
  unfold lft at h3
  cases r3 with
  | lst ha ka rs => exact .inl ⟨_, _, rfl, .inl (.inl ha), fun p np => h3 _ _ (sub1 ok3 p) (w3.newO np) (Sx.newO np) (own_new w3 np ⟨_, upd_same, rs.cut.fr (fr_sub np)⟩)⟩
  | lstF ha rs => exact .inl ⟨_, _, rfl, ha.sq, fun p np => h3 _ _ (sub1 ok3 p) (w3.newO np) (Sx.newO np) (own_new w3 np ⟨_, upd_same, rs.cut.fr (fr_sub np)⟩)⟩
  | tupO ha rs =>
    rename_i vs ds
    refine .inr (.inl ⟨_, _, rfl, ha.sq, fun ew => ?_, fun _ p np => h3 _ _ ok3 (w3.new np) (Sx.new np) (.tup upd_same (rs.cut.fr (fr_new np)))⟩)
    rw [rs.length] at ew
    have h3 : Rs X.K g E (relR X.K) σ ρ3 ok3 H3 (some (.ok (.val (.tup (cutD ds l u))) ρ3)) Q := h3
    rw [cutD_all ew] at h3
    exact h3 _ H3 ok3 w3 Sx.refl (.tupO ha rs)
  | tupF ha rs =>
    rename_i vs ds
    refine .inr (.inl ⟨_, _, rfl, ha.sq, fun ew => ?_, fun ew p np => ?_⟩)
    · rw [rs.length] at ew
      have e2 : slD l u (.ftup ds) = some (.val (.ftup ds)) := if_pos ew
      rw [e2] at h3
      exact h3 _ H3 ok3 w3 Sx.refl (.tupF ha rs)
    · rw [rs.length] at ew
      have e2 : slD l u (.ftup ds) = some (.val (.tup (cutD ds l u))) := if_neg ew
      rw [e2] at h3
      exact h3 _ _ ok3 (w3.new np) (Sx.new np) (.tup upd_same (rs.cut.fr (fr_new np)))
  | str z =>
    by_cases hz : z.length ≤ sizeLine
    · have e2 : slD l u (.str z) = some (.val (.str (Txt.slice z l u))) := if_pos hz
      rw [e2] at h3
      exact .inr (.inr ⟨z, rfl, hz, h3 _ H3 ok3 w3 Sx.refl (.str _)⟩)
    · have e2 : slD l u (.str z) = none := if_neg hz
      rw [e2] at h3
      exact h3.elim
  | _ => exact h3.elim
def isStr : D → Bool
  | .str _ => true
  | _ => false
def splitD : D → D → Option R
  | .str a, .str b => if (b.length == 0) = false ∧ a.length + 2 ≤ sizeLine then some (.own (.lst ((Txt.split a b).map D.str))) else none
  | _, _ => none
end
end Pu
/-! A lambda with parameters and captured names; sorted by what it gives. -/
namespace Pu
open PySem PySem.Spec PyProof.Rows L2 Kv NdefX
section
variable {P' : Program} {w : World} {K : PySem.W.Frag} {mg : Str → Option Value} {base : Heap} {T : List (Addr × Str)}
end
end Pu
/-! sorted(list, key = lambda ..): the keys are lists of ints. -/
namespace Pu
open PySem PySem.Spec PyProof.Rows L2 Kv NdefX
end Pu
/-! A lambda is made. -/
namespace Pu
open PySem PySem.Spec PyProof.Rows L2 Kv NdefX
section
variable {X : Cx} {pins : List (Addr × Obj)} {σ : L2.St} {H : Hp} {s : Shared}
end
section
variable {K : PySem.W.Frag} {g : Gx} {ok : Addr → Prop} {ρ : En} {σ : L2.St} {H H1 : Hp} {P c' : Addr} {q : Str}
end
end Pu
/-! sorted by a lambda. -/
namespace Pu
open PySem PySem.Spec PyProof.Rows L2 Kv NdefX
section
variable {X : Cx}
end
end Pu
/-! sorted by a lambda: the keys are made, the list is sorted. -/
namespace Pu
open PySem PySem.Spec PyProof.Rows L2 Kv NdefX
section
variable {X : Cx} {g : Gx} {pins : List (Addr × Obj)} {σ : L2.St} {ρ : En} {ok : Addr → Prop} {H : Hp} {s : Shared}
end
end Pu
/-! sorted by a lambda, in the tree world; a def that makes a lambda. -/
namespace Pu
open PySem PySem.Spec PyProof.Rows L2 Kv NdefX
section
variable {X : Cx} {g : Gx} {E : Wx}
end
end Pu
/-! Class methods: C.m(..), cls.F, within them. -/
namespace Pu
open PySem PySem.Spec PyProof.Rows L2 Kv
section
variable {X : Cx} {g : Gx} {E : Wx} {k n : Nat} {C gf q : Addr} {x m f : Str} {F : P R} {p p' pos apos : Pos} {e o a : Expr} {es : List Expr} {fr : P (List D)} {fa : P D}
def isCl (C : Addr) : D → Bool
  | .opq a => decide (a = C)
  | _ => false
def clsC (C : Addr) (v : D) (d : D) : Option D := if isCl C d = true then some v else none
end
section
variable {P' : Program} {w : World} {K : PySem.W.Frag} {mg : Str → Option Value} {base : Heap} {T : List (Addr × Str)}
end
/-! ### a call of a local name that holds a class -/
section
variable {X : Cx} {g : Gx} {CX : CXT} {k i : Nat} {f C : Addr} {fd : FuncData} {ps : List Str} {sp : Sp} {dvs : List V} {ds : List Value} {E : XK} {x : Str} {p pos : Pos} {e : Expr} {es : List Expr} {t : TA}
end
end Pu
/-! The classes above a class by a walk backwards; all points. -/
namespace Kv
open PySem PySem.Spec PyProof.Rows L2
theorem look_left {t1 t2 : Tab} {x : Str} (h : x ∈ tabKeys t1) : look (t1 ++ t2) x = look t1 x := by
  induction t1 with
  | nil => cases h
  | cons p r ih =>
    obtain ⟨y, as⟩ := p
    unfold look at ih ⊢
    rw [List.cons_append, List.lookup_cons, List.lookup_cons]
    by_cases e : x = y
    · subst e
      rw [beq_self_eq_true]
    · rw [beq_eq_false_iff_ne.mpr e]
      refine ih ?_
      rcases List.mem_cons.mp h with z | z
      · exact absurd z e
      · exact z
theorem look_right {t1 t2 : Tab} {x : Str} (h : x ∉ tabKeys t1) : look (t1 ++ t2) x = look t2 x := by
  induction t1 with
  | nil => rfl
  | cons p r ih =>
    obtain ⟨y, as⟩ := p
    unfold look at ih ⊢
    have e : x ≠ y := fun z => h (z ▸ List.mem_cons_self ..)
    rw [List.cons_append, List.lookup_cons, beq_eq_false_iff_ne.mpr e]
    exact ih fun z => h (List.mem_cons_of_mem _ z)
def Anc (rows : List Row2) (x : Str) : List Str := look (ancTab rows) x
theorem anc_more {rows : List Row2} {i : Nat} {x : Str} (h : x ∈ fsts (rows.take i)) : ∀ j, i ≤ j → Anc (rows.take j) x = Anc (rows.take i) x := by
  intro j hj
  induction j with
  | zero =>
    have : i = 0 := by omega
    rw [this]
  | succ j ih =>
    by_cases e : i = j + 1
    · rw [e]
    · have ih2 := ih (by omega)
      cases hr : rows[j]? with
      | none =>
        have : rows.take (j + 1) = rows.take j := by
          rw [List.take_add_one, hr]
          exact List.append_nil _
        rw [this]
        exact ih2
      | some r =>
        unfold Anc at ih2 ⊢
        rw [ancTab_take hr, look_left]
        · exact ih2
        · rw [ancTab_keys]
          have hs : rows.take i <+: rows.take j := by
            have : rows.take i = (rows.take j).take i := by
              rw [List.take_take, Nat.min_eq_left (by omega)]
            rw [this]
            exact List.take_prefix _ _
          unfold fsts at h ⊢
          exact (hs.map _).subset h
theorem anc_row {rows : List Row2} (v : Valid rows) {i : Nat} {n : Str} {ss : List Str} (h : rows[i]? = some (n, ss)) (x : Str) :
    x ∈ Anc rows n ↔ x = n ∨ ∃ s ∈ ss, x ∈ Anc rows s := by
  have il : i < rows.length := (List.getElem?_eq_some_iff.mp h).1
  obtain ⟨v1, v2, v3, v4⟩ := v i n ss h
  have hn : n ∈ fsts (rows.take (i + 1)) := by
    rw [List.take_add_one, h]
    unfold fsts
    rw [List.map_append]
    exact List.mem_append_right _ (List.mem_singleton.mpr rfl)
  have e1 : Anc rows n = ancOf (ancTab (rows.take i)) n ss := by
    have := anc_more hn rows.length (by omega)
    rw [List.take_length] at this
    rw [this]
    unfold Anc
    rw [ancTab_take h, look_right (by rw [ancTab_keys]; exact v2)]
    unfold look
    rw [List.lookup_cons, beq_self_eq_true]
    rfl
  rw [e1, mem_ancOf]
  constructor
  · rintro (z | ⟨s, hs, z⟩)
    · exact Or.inl z
    · refine Or.inr ⟨s, hs, ?_⟩
      have := anc_more (v4 s hs) rows.length (by omega)
      rw [List.take_length] at this
      rw [this]
      exact z
  · rintro (z | ⟨s, hs, z⟩)
    · exact Or.inl z
    · refine Or.inr ⟨s, hs, ?_⟩
      have := anc_more (v4 s hs) rows.length (by omega)
      rw [List.take_length] at this
      rw [this] at z
      exact z
theorem mem_row {rows : List Row2} {x : Str} (h : x ∈ fsts rows) : ∃ (i : Nat) (ss : List Str), rows[i]? = some (x, ss) := by
  obtain ⟨r, hr, rfl⟩ := List.mem_map.mp h
  obtain ⟨i, hi, e⟩ := List.getElem_of_mem hr
  exact ⟨i, r.2, by rw [List.getElem?_eq_getElem hi, e]⟩
theorem row_at {rows : List Row2} {j : Nat} {s : Str} (h : s ∈ fsts (rows.take j)) : ∃ (i : Nat) (ss : List Str), i < j ∧ rows[i]? = some (s, ss) := by
  obtain ⟨i, ss, e⟩ := mem_row h
  have hi := (List.getElem?_eq_some_iff.mp e).1
  rw [List.length_take] at hi
  rw [List.getElem?_take_of_lt (by omega)] at e
  exact ⟨i, ss, by omega, e⟩
theorem anc_trans {rows : List Row2} (v : Valid rows) {x y : Str} : ∀ (i : Nat) {n : Str} {ss : List Str}, rows[i]? = some (n, ss) → x ∈ Anc rows n → y ∈ Anc rows x → y ∈ Anc rows n := by
  intro i
  induction i using Nat.strongRecOn with
  | ind i ih =>
    intro n ss h hx hy
    rcases (anc_row v h x).mp hx with rfl | ⟨s, hs, hxs⟩
    · exact hy
    · obtain ⟨_, _, _, v4⟩ := v i n ss h
      obtain ⟨j, ts, hj, e⟩ := row_at (v4 s hs)
      exact (anc_row v h y).mpr (Or.inr ⟨s, hs, ih j hj e hxs hy⟩)
/-! ### all points -/
def stepC (rows : List (List Str)) (names : List Str) : List (List Str) := rows.flatMap fun r => names.map fun n => r ++ [n]
def combos (choices : List (List Str)) : List (List Str) := choices.foldl stepC [[]]
def okZip (f : Str → Str → Bool) : List Str → List Str → Bool
  | [], _ => true
  | _, [] => true
  | a :: as, b :: bs => f a b && okZip f as bs
end Kv
/-! Points in the heap; comprehensions with two loops. -/
namespace Kv
open PySem PySem.Spec PyProof.Rows L2
def PtAt (H : Hp) (v : V) (p : List Str) : Prop := ∃ t, v = .ref t ∧ H t = some (.tup (p.map V.str))
def Pts (H : Hp) : List V → List (List Str) → Prop := Paired (PtAt H)
theorem PtAt.same {H H' : Hp} {v : V} {p : List Str} (s : Same H H') (h : PtAt H v p) : PtAt H' v p := by
  obtain ⟨t, e, h⟩ := h
  exact ⟨t, e, s _ _ h⟩
theorem PtAt.wr {H : Hp} {q : Addr} {zs : List V} {o : HO} {v : V} {p : List Str} (hq : H q = some (.lst zs)) (h : PtAt H v p) : PtAt (upd H q o) v p := by
  obtain ⟨t, e, h⟩ := h
  exact ⟨t, e, by rw [upd_ne (ne_of h hq (by intro z; cases z))]; exact h⟩
theorem Pts.same {H H' : Hp} {vs : List V} {ps : List (List Str)} (s : Same H H') (h : Pts H vs ps) : Pts H' vs ps := Paired.mapP h fun _ _ z => z.same s
theorem Pts.wr {H : Hp} {q : Addr} {zs : List V} {o : HO} {vs : List V} {ps : List (List Str)} (hq : H q = some (.lst zs)) (h : Pts H vs ps) : Pts (upd H q o) vs ps := Paired.mapP h fun _ _ z => z.wr hq
theorem Pts.length {H : Hp} {vs : List V} {ps : List (List Str)} (h : Pts H vs ps) : vs.length = ps.length := Paired.length h
def ptD (p : List Str) : PyData := .tuple (p.map PyData.str)
theorem sh_strs {K : PySem.W.Frag} {nd : Bool} {H : Hp} : ∀ p : List Str, ShAll K nd H (p.map V.str) (p.map PyData.str)
  | [] => .nil
  | x :: r => .cons (.str x) (sh_strs r)
theorem PtAt.sh {K : PySem.W.Frag} {nd : Bool} {H : Hp} {v : V} {p : List Str} (h : PtAt H v p) : Sh K nd H v (ptD p) := by
  obtain ⟨t, rfl, h⟩ := h
  exact .tup (.inl (.inl h)) (sh_strs p)
theorem Pts.sh {K : PySem.W.Frag} {nd : Bool} {H : Hp} : ∀ {vs : List V} {ps : List (List Str)}, Pts H vs ps → ShAll K nd H vs (ps.map ptD)
  | _, _, .nil => .nil
  | _, _, .cons h t => .cons h.sh (Pts.sh t)
theorem fit_strs : ∀ p : List Str, (∀ x ∈ p, Sm 8 x) → FitAll (9 * p.length) 0 (p.map PyData.str)
  | [], _ => fitAll_nil
  | x :: r, h => by
    have := FitAll.cons (h x (List.mem_cons_self ..)).fit (fit_strs r fun y hy => h y (List.mem_cons_of_mem _ hy))
    refine this.mono ?_ (Nat.le_refl _)
    rw [List.length_cons]
    omega
def LsAt (H : Hp) (v : V) (l : List Str) : Prop := ∃ a, v = .ref a ∧ H a = some (.lst (l.map V.str))
theorem LsAt.same {H H' : Hp} {v : V} {p : List Str} (s : Same H H') (h : LsAt H v p) : LsAt H' v p := by
  obtain ⟨t, e, h⟩ := h
  exact ⟨t, e, s _ _ h⟩
section
variable {J : It} {n : Nat} {G : Hp → Prop} {Y : Nat → Hp → V → Hp → Prop}
end
end Kv
/-! The order of the points. -/
namespace Kv
open PySem PySem.Spec PyProof.Rows L2
end Kv
/-! The highest of those that are common: one pass over the classes, and the same for points, column by column. -/
namespace Kv
open PySem PySem.Spec PyProof.Rows L2
section
variable {c : Str → Bool} {up : Str → List Str}
end
/-! points: a choice of its own for every column -/
section
variable {up : Str → List Str} {names : List Str}
def under (up : Str → List Str) (p q : List Str) : Bool := okZip (fun x y => decide (y ∈ up x)) p q
theorem under_refl (rf : ∀ x ∈ names, x ∈ up x) : ∀ p : List Str, (∀ x ∈ p, x ∈ names) → under up p p = true
  | [], _ => rfl
  | x :: p, h => by
    have i := under_refl rf p fun y hy => h y (List.mem_cons_of_mem _ hy)
    unfold under at i ⊢
    simp [okZip, i, rf x (h x (List.mem_cons_self ..))]
end
end Kv
/-! A hierarchy as a tree. -/
namespace Pu
open PySem PySem.Spec PyProof.Rows L2 Kv
def par2 (i j : Nat) : List D → S
  | [d, e] => fun ρ => some (.nx ((ρ.set i (.val d)).set j (.val e)))
  | _ => fun _ => none
def rowD (r : Row2) : D := .tup [.str r.1, .tup (r.2.map D.str)]
def flagD (as : List Str) : D := .dic (as.map Sum.inr) (as.map fun _ => D.bl true)
def idxD (n : Nat) : List D := (List.range n).map fun i => D.int (i : Nat)
def hierD (C : Addr) (rows : List Row2) : D := .obj C [("rows" : Str), "places", "above"] [.lst (rows.map rowD), .dic ((fsts rows).map Sum.inr) (idxD rows.length), .dic ((ancTab rows).map fun p => Sum.inr p.1) ((ancTab rows).map fun p => flagD p.2)]
def rowOf : D → Option Row2
  | .tup [.str n, .tup ss] => (strsD ss).map fun xs => (n, xs)
  | _ => none
def rowsOf' : List D → Option (List Row2)
  | [] => some []
  | d :: ds => match Pu.rowOf d, rowsOf' ds with
    | some r, some rs => some (r :: rs)
    | _, _ => none
def rowsOf : D → Option (List Row2)
  | .lst ds => rowsOf' ds
  | _ => none
open Classical in
noncomputable def mkH (C : Addr) (d : D) : Option R := match rowsOf d with
  | some rows => if Valid rows ∧ rows.length ≤ 20 then some (.val (hierD C rows)) else none
  | none => none
noncomputable def mkHL (i : Nat) (C : Addr) (fe : P D) : P R := bnd (rd i) fun c => if isCl C c = true then bnd fe fun d => lft (mkH C d) else fun _ => none
end Pu
/-! Named steps, and what must hold ahead of a step so that something holds behind it. -/
namespace Pu
open PySem PySem.Spec PyProof.Rows L2 Kv
/-! ### names for the steps that rules give -/
def op1 (o : D → Option D) (fa : P D) : P D := bnd fa fun x => lft (o x)
def opR (o : D → Option R) (fa : P D) : P R := bnd fa fun x => lft (o x)
def opL (o : D → Option (List D)) (fa : P D) : P (List D) := bnd fa fun x => lft (o x)
def opV (o : List D → Option D) (fr : P (List D)) : P D := bnd fr fun ds => lft (o ds)
def cal (F : P R) (n : Nat) (fr : P (List D)) : P R := bnd fr fun ds => if ds.length = n then app F ds else fun _ => none
def calB (i : Nat) (F : P R) (n : Nat) (fr : P (List D)) : P R := bnd (lentP i fr) fun ds => appB i F n ds
def met (C : Addr) (m : Str) (F : P R) (n : Nat) (fo : P D) (fr : P (List D)) : P R := bnd fo fun d => if isObj C m d = true then bnd fr fun ds => if ds.length + 1 = n then app F (d :: ds) else fun _ => none else fun _ => none
def met0 (C : Addr) (m : Str) (F : P R) (n : Nat) (fo : P D) : P R := bnd fo fun d => if isObj C m d = true ∧ 1 = n then app F [d] else fun _ => none
def metS (C : Addr) (m : Str) (F : P R) (n : Nat) (fo : P D) (fr : P (List D)) : P R := bnd fo fun d => if isObj C m d = true then bnd fr fun ds => starF n F (d :: ds) else fun _ => none
def slc (fe : P D) (fl fh : P (Option Int)) : P R := bnd fe fun d => bnd fl fun l => bnd fh fun h => lft ((lstOf d).map fun xs => .own (.lst (cutD xs l h)))
def sOpt (fe : P D) : P (Option Int) := bnd fe fun d => lft (asI d)
def slA (fe : P D) (fl fh : P (Option Int)) : P R := bnd fe fun d => bnd fl fun l => bnd fh fun h => lft (slD l h d)
def spl (fo fe : P D) : P R := bnd fo fun a => if isStr a = true then bnd fe fun b => lft (splitD a b) else fun _ => none
def revO (d : D) : Option R := (lstOf d).map fun xs => .own (.lst xs.reverse)
def iff (A : P Bool) (fa fb : S) : S := sb A fun c => if c = true then fa else fb
def ret (fe : P R) : S := sb fe fun r ρ => some (.rt r ρ)
def retN : S := fun ρ => some (.rt (.val .non) ρ)
def expr (fe : P D) : S := sb fe fun _ => sk
def set' (i : Nat) (fe : P R) : S := sb fe fun r => put i r
def for' (fi : P (List D)) (T : Tg) (fb : S) : S := sb fi fun ds => frL T fb ds
def unp' (T : Tg) (fe : P D) : S := sb fe fun d => unp T d
def par' (i j : Nat) (fr : P (List D)) : S := sb fr fun ds => par2 i j ds
def asg' (fe : P D) (h : D → S) : S := fun ρ => match sb fe h ρ with | some (.nx ρ') => some (.nx ρ') | some (.er c ns ds ρ') => some (.er c ns ds ρ') | _ => none
def gTup' (hs : List (D → S)) : D → S := fun d => sb (lft (tupOf d)) fun ds => if ds.length = hs.length then asgs hs ds else fun _ => none
def gName' (i : Nat) : D → S := fun d => put i (.val d)
def raise' (C : Addr) (ns : List Str) (cd : List D → Bool) (fr : P (List D)) : S := sb fr fun ds => rs C ns cd ds
def enumD (d : D) : Option (List D) := (seqD d).map enumL
def opL2 (o : D → D → Option (List D)) (fa fb : P D) : P (List D) := bnd fa fun x => bnd fb fun y => lft (o x y)
def brk : S := fun ρ => some (.bk ρ)
def cnt : S := fun ρ => some (.ct ρ)
/-! ### ahead of a step -/
abbrev QE := Value → List Str → List D → En → Prop
@[irreducible] def W {α : Type} (m : P α) (ρ : En) (Q : α → En → Prop) (E : QE) : Prop := match m ρ with
  | none => False
  | some (.ok a ρ') => Q a ρ'
  | some (.er c ns ds ρ') => E c ns ds ρ'
@[irreducible] def WS (f : S) (ρ : En) (N : En → Prop) (T : R → En → Prop) (B C : En → Prop) (E : QE) : Prop := match f ρ with
  | none => False
  | some (.nx ρ') => N ρ'
  | some (.rt r ρ') => T r ρ'
  | some (.bk ρ') => B ρ'
  | some (.ct ρ') => C ρ'
  | some (.er c ns ds ρ') => E c ns ds ρ'
section
variable {α β : Type} {ρ ρ' : En} {E E' : QE} {i n : Nat}
theorem W.mono {m : P α} {Q Q' : α → En → Prop} (h : W m ρ Q E) (q : ∀ a ρ', Q a ρ' → Q' a ρ') (e : ∀ c ns ds ρ', E c ns ds ρ' → E' c ns ds ρ') : W m ρ Q' E' := by
  unfold W at h ⊢
  split
  · rename_i z; rw [z] at h; exact h
  · rename_i z; rw [z] at h; exact q _ _ h
  · rename_i z; rw [z] at h; exact e _ _ _ _ h
theorem W.of {m : P α} {a : α} {Q : α → En → Prop} (h : m ρ = some (.ok a ρ')) (q : Q a ρ') : W m ρ Q E := by unfold W; rw [h]; exact q
theorem w_prt {a : α} {Q : α → En → Prop} (h : Q a ρ) : W (prt a) ρ Q E := by unfold W; exact h
theorem w_bnd {m : P α} {k : α → P β} {Q : β → En → Prop} (h : W m ρ (fun a ρ' => W (k a) ρ' Q E) E) : W (bnd m k) ρ Q E := by
  unfold W at h ⊢
  unfold bnd
  split at h
  · rename_i z; exact h.elim
  · rename_i z; rw [z]; exact h
  · rename_i z; rw [z]; exact h
theorem w_lft {o : Option α} {a : α} {Q : α → En → Prop} (e : o = some a) (h : Q a ρ) : W (lft o) ρ Q E := by subst e; unfold W; exact h
theorem w_rdV {d : D} {Q : D → En → Prop} (e : ρ[i]? = some (.val d)) (h : Q d ρ) : W (rd i) ρ Q E := by unfold W rd; rw [e]; exact h
theorem w_rdO {d : D} {Q : D → En → Prop} (e : ρ[i]? = some (.own d)) (h : Q d (ρ.set i (.val d))) : W (rd i) ρ Q E := by unfold W rd; rw [e]; exact h
theorem w_pkV {d : D} {Q : D → En → Prop} (e : ρ[i]? = some (.val d)) (h : Q d ρ) : W (pk i) ρ Q E := by unfold W pk; rw [e]; exact h
theorem w_pkO {d : D} {Q : D → En → Prop} (e : ρ[i]? = some (.own d)) (h : Q d ρ) : W (pk i) ρ Q E := by unfold W pk; rw [e]; exact h
theorem w_mvV {d : D} {Q : R → En → Prop} (e : ρ[i]? = some (.val d)) (h : Q (.val d) ρ) : W (mv i) ρ Q E := by unfold W mv; rw [e]; exact h
theorem w_mvO {d : D} {Q : R → En → Prop} (e : ρ[i]? = some (.own d)) (h : Q (.own d) (ρ.set i .un)) : W (mv i) ρ Q E := by unfold W mv; rw [e]; exact h
theorem w_ownL {xs : List D} {Q : Unit → En → Prop} (e : ρ[i]? = some (.own (.lst xs))) (h : Q () ρ) : W (ownL i) ρ Q E := by unfold W ownL; rw [e]; exact h
theorem w_mutL {step : List D → List D → Option (D × List D)} {ds xs ys : List D} {d : D} {Q : D → En → Prop} (e : ρ[i]? = some (.own (.lst xs))) (s : step xs ds = some (d, ys)) (h : Q d (ρ.set i (.own (.lst ys)))) : W (mutL i step ds) ρ Q E := by
  unfold W mutL; simp only [e, s]; exact h
theorem w_fz {f : P R} {Q : D → En → Prop} (h : W f ρ (fun r ρ' => Q r.d ρ') E) : W (fz f) ρ Q E := w_bnd (h.mono (fun _ _ h => w_prt h) fun _ _ _ _ h => h)
theorem w_vl {f : P D} {Q : R → En → Prop} (h : W f ρ (fun d ρ' => Q (.val d) ρ') E) : W (vl f) ρ Q E := w_bnd (h.mono (fun _ _ h => w_prt h) fun _ _ _ _ h => h)
theorem w_op1 {o : D → Option D} {fa : P D} {Q : D → En → Prop} (h : W fa ρ (fun x ρ' => W (lft (o x)) ρ' Q E) E) : W (op1 o fa) ρ Q E := w_bnd h
theorem w_opR {o : D → Option R} {fa : P D} {Q : R → En → Prop} (h : W fa ρ (fun x ρ' => W (lft (o x)) ρ' Q E) E) : W (opR o fa) ρ Q E := w_bnd h
theorem w_opL {o : D → Option (List D)} {fa : P D} {Q : List D → En → Prop} (h : W fa ρ (fun x ρ' => W (lft (o x)) ρ' Q E) E) : W (opL o fa) ρ Q E := w_bnd h
theorem w_opV {o : List D → Option D} {fr : P (List D)} {Q : D → En → Prop} (h : W fr ρ (fun x ρ' => W (lft (o x)) ρ' Q E) E) : W (opV o fr) ρ Q E := w_bnd h
theorem w_op2 {o : D → D → Option D} {fa fb : P D} {Q : D → En → Prop} (h : W fa ρ (fun x ρ1 => W fb ρ1 (fun y ρ2 => W (lft (o x y)) ρ2 Q E) E) E) : W (op2 o fa fb) ρ Q E :=
  w_bnd (h.mono (fun _ _ h => w_bnd h) fun _ _ _ _ h => h)
theorem w_tst {f : P D} {Q : Bool → En → Prop} (h : W f ρ (fun d ρ' => W (lft (asB d)) ρ' Q E) E) : W (tst f) ρ Q E := w_bnd h
theorem w_ifB {c : Bool} {f g : P α} {Q : α → En → Prop} (h1 : c = true → W f ρ Q E) (h2 : c = false → W g ρ Q E) : W (if c = true then f else g) ρ Q E := by
  cases c
  · exact h2 rfl
  · exact h1 rfl
theorem w_ifT {c : Prop} [Decidable c] {f g : P α} {Q : α → En → Prop} (hc : c) (h1 : W f ρ Q E) : W (if c then f else g) ρ Q E := by rw [if_pos hc]; exact h1
theorem w_andV {fa fb : P D} {Q : D → En → Prop} (h : W (tst fa) ρ (fun c ρ' => W (if c = true then fb else prt (.bl false)) ρ' Q E) E) : W (andV fa fb) ρ Q E := w_bnd h
theorem w_orV {fa fb : P D} {Q : D → En → Prop} (h : W (tst fa) ρ (fun c ρ' => W (if c = true then prt (.bl true) else fb) ρ' Q E) E) : W (orV fa fb) ρ Q E := w_bnd h
theorem w_notV {fa : P D} {Q : D → En → Prop} (h : W (tst fa) ρ (fun c ρ' => Q (.bl (!c)) ρ') E) : W (notV fa) ρ Q E := w_bnd (h.mono (fun _ _ h => w_prt h) fun _ _ _ _ h => h)
theorem w_andB {A B : P Bool} {Q : Bool → En → Prop} (h : W A ρ (fun c ρ' => W (if c = true then B else prt false) ρ' Q E) E) : W (andB A B) ρ Q E := w_bnd h
theorem w_orB {A B : P Bool} {Q : Bool → En → Prop} (h : W A ρ (fun c ρ' => W (if c = true then prt true else B) ρ' Q E) E) : W (orB A B) ρ Q E := w_bnd h
theorem w_notB {A : P Bool} {Q : Bool → En → Prop} (h : W A ρ (fun c ρ' => Q (!c) ρ') E) : W (notB A) ρ Q E := w_bnd (h.mono (fun _ _ h => w_prt h) fun _ _ _ _ h => h)
theorem w_ifV {A : P Bool} {fa fb : P α} {Q : α → En → Prop} (h : W A ρ (fun c ρ' => W (if c = true then fa else fb) ρ' Q E) E) : W (ifV A fa fb) ρ Q E := w_bnd h
theorem w_consA {fa : P D} {fr : P (List D)} {Q : List D → En → Prop} (h : W fa ρ (fun x ρ1 => W fr ρ1 (fun xs ρ2 => Q (x :: xs) ρ2) E) E) : W (consA fa fr) ρ Q E := w_bnd (h.mono (fun _ _ h => w_bnd (h.mono (fun _ _ h => w_prt h) fun _ _ _ _ h => h)) fun _ _ _ _ h => h)
theorem w_mkT {fr : P (List D)} {Q : D → En → Prop} (h : W fr ρ (fun xs ρ' => xs.length ≤ sizeLine ∧ Q (.tup xs) ρ') E) : W (mkT fr) ρ Q E :=
  w_bnd (h.mono (fun xs _ h => w_lft (by rw [fits_of h.1]; rfl) h.2) fun _ _ _ _ h => h)
theorem w_mkL {fr : P (List D)} {Q : R → En → Prop} (h : W fr ρ (fun xs ρ' => xs.length ≤ sizeLine ∧ Q (.own (.lst xs)) ρ') E) : W (mkL fr) ρ Q E :=
  w_bnd (h.mono (fun xs _ h => w_lft (by rw [fits_of h.1]; rfl) h.2) fun _ _ _ _ h => h)
theorem w_ix {fb : P D} {Q : D → En → Prop} (h : W (pk i) ρ (fun _ ρ1 => W fb ρ1 (fun y ρ2 => W (pk i) ρ2 (fun x ρ3 => W (lft (ixD x y)) ρ3 Q E) E) E) E) : W (ixN' i fb) ρ Q E :=
  w_bnd (h.mono (fun _ _ h => w_bnd (h.mono (fun _ _ h => w_bnd h) fun _ _ _ _ h => h)) fun _ _ _ _ h => h)
theorem w_chn {o o' : D → D → Option D} {fa fb fc : P D} {Q : D → En → Prop} (h : W fa ρ (fun x ρ1 => W fb ρ1 (fun y ρ2 => W (lft ((o x y).bind asB)) ρ2 (fun k ρ3 => W (if k = true then bnd fc fun z => lft (o' y z) else prt (.bl false)) ρ3 Q E) E) E) E) : W (chn o o' fa fb fc) ρ Q E :=
  w_bnd (h.mono (fun _ _ h => w_bnd (h.mono (fun _ _ h => w_bnd h) fun _ _ _ _ h => h)) fun _ _ _ _ h => h)
theorem w_seqP {f : P D} {Q : List D → En → Prop} (h : W f ρ (fun d ρ' => W (lft (seqD d)) ρ' Q E) E) : W (seqP f) ρ Q E := w_bnd h
theorem w_sOpt {f : P D} {Q : Option Int → En → Prop} (h : W f ρ (fun d ρ' => W (lft (asI d)) ρ' Q E) E) : W (sOpt f) ρ Q E := w_bnd h
theorem w_slc {fe : P D} {fl fh : P (Option Int)} {Q : R → En → Prop} (h : W fe ρ (fun d ρ1 => W fl ρ1 (fun l ρ2 => W fh ρ2 (fun u ρ3 => W (lft ((lstOf d).map fun xs => R.own (.lst (cutD xs l u)))) ρ3 Q E) E) E) E) : W (slc fe fl fh) ρ Q E :=
  w_bnd (h.mono (fun _ _ h => w_bnd (h.mono (fun _ _ h => w_bnd h) fun _ _ _ _ h => h)) fun _ _ _ _ h => h)
theorem w_slA {fe : P D} {fl fh : P (Option Int)} {Q : R → En → Prop} (h : W fe ρ (fun d ρ1 => W fl ρ1 (fun l ρ2 => W fh ρ2 (fun u ρ3 => W (lft (slD l u d)) ρ3 Q E) E) E) E) : W (slA fe fl fh) ρ Q E :=
  w_bnd (h.mono (fun _ _ h => w_bnd (h.mono (fun _ _ h => w_bnd h) fun _ _ _ _ h => h)) fun _ _ _ _ h => h)
theorem w_spl {fo fe : P D} {Q : R → En → Prop} (h : W fo ρ (fun a ρ1 => isStr a = true ∧ W fe ρ1 (fun b ρ2 => W (lft (splitD a b)) ρ2 Q E) E) E) : W (spl fo fe) ρ Q E :=
  w_bnd (h.mono (fun _ _ h => w_ifT h.1 (w_bnd h.2)) fun _ _ _ _ h => h)
theorem w_mts {op : Str → List D → Option D} {fo : P D} {fr : P (List D)} {Q : D → En → Prop} (h : W fo ρ (fun d ρ1 => ∃ t, d = .str t ∧ W fr ρ1 (fun ds ρ2 => W (lft (op t ds)) ρ2 Q E) E) E) : W (mts op fo fr) ρ Q E :=
  w_bnd (h.mono (fun _ _ h => by obtain ⟨t, rfl, h⟩ := h; exact w_bnd h) fun _ _ _ _ h => h)
theorem w_mtt {fr : P (List D)} {step : List D → List D → Option (D × List D)} {Q : D → En → Prop} (h : W (ownL i) ρ (fun _ ρ1 => W fr ρ1 (fun ds ρ2 => W (mutL i step ds) ρ2 Q E) E) E) : W (mtt i fr step) ρ Q E :=
  w_bnd (h.mono (fun _ _ h => w_bnd h) fun _ _ _ _ h => h)
theorem w_opL2 {o : D → D → Option (List D)} {fa fb : P D} {Q : List D → En → Prop} (h : W fa ρ (fun x ρ1 => W fb ρ1 (fun y ρ2 => W (lft (o x y)) ρ2 Q E) E) E) : W (opL2 o fa fb) ρ Q E :=
  w_bnd (h.mono (fun _ _ h => w_bnd h) fun _ _ _ _ h => h)
theorem w_valA {fa : P D} {fr : P (List Ar)} {Q : List Ar → En → Prop} (h : W fa ρ (fun x ρ1 => W fr ρ1 (fun xs ρ2 => Q (.v x :: xs) ρ2) E) E) : W (valA fa fr) ρ Q E := w_bnd (h.mono (fun _ _ h => w_bnd (h.mono (fun _ _ h => w_prt h) fun _ _ _ _ h => h)) fun _ _ _ _ h => h)
theorem w_lntA {fr : P (List Ar)} {d : D} {Q : List Ar → En → Prop} (e : ρ[i]? = some (.own d)) (h : W fr ρ (fun xs ρ2 => Q (.l i :: xs) ρ2) E) : W (lntA i fr) ρ Q E := by
  have h : W (bnd fr fun xs => prt (.l i :: xs)) ρ Q E := w_bnd (h.mono (fun _ _ h => w_prt h) fun _ _ _ _ h => h)
  unfold W at h ⊢
  unfold lntA
  simp only [e]
  exact h
/-! ### calls -/
theorem w_app {F : P R} {ds : List D} {Q : R → En → Prop} (h : W F (vals ds) (fun r _ => Q r ρ) (fun c ns es _ => E c ns es ρ)) : W (app F ds) ρ Q E := by
  unfold W app
  unfold W at h
  split at h
  · exact h.elim
  · rename_i z; rw [z]; exact h
  · rename_i z; rw [z]; exact h
theorem w_cal {F : P R} {fr : P (List D)} {Q : R → En → Prop} (h : W fr ρ (fun ds ρ1 => ds.length = n ∧ W F (vals ds) (fun r _ => Q r ρ1) (fun c ns es _ => E c ns es ρ1)) E) : W (cal F n fr) ρ Q E :=
  w_bnd (h.mono (fun _ _ h => w_ifT h.1 (w_app h.2)) fun _ _ _ _ h => h)
theorem w_calL {F : P R} {fr : P (List Ar)} {Q : R → En → Prop} (h : W fr ρ (fun ars ρ1 => W (appL F n ars) ρ1 Q E) E) : W (calL F n fr) ρ Q E := w_bnd h
theorem w_appB {F : P R} {ds : List D} {d : D} {Q : R → En → Prop} (e : ρ[i]? = some (.own d)) (hn : ds.length + 1 = n) (h : W F (.own d :: vals ds) (fun r ρ2 => ∃ d' t, ρ2 = .own d' :: t ∧ Q r (ρ.set i (.own d'))) (fun c ns es ρ2 => ∃ d' t, ρ2 = .own d' :: t ∧ E c ns es (ρ.set i (.own d')))) : W (appB i F n ds) ρ Q E := by
  unfold W appB
  unfold W at h
  simp only [e, if_pos hn]
  split at h
  · exact h.elim
  · rename_i z; obtain ⟨d', t, rfl, h⟩ := h; rw [z]; exact h
  · rename_i z; obtain ⟨d', t, rfl, h⟩ := h; rw [z]; exact h
theorem w_calB {F : P R} {fr : P (List D)} {d : D} {Q : R → En → Prop} (e : ρ[i]? = some (.own d)) (h : W fr ρ (fun ds ρ1 => W (appB i F n ds) ρ1 Q E) E) : W (calB i F n fr) ρ Q E := by
  refine w_bnd ?_
  unfold W lentP
  unfold W at h
  simp only [e]
  exact h
theorem w_met {C : Addr} {m : Str} {F : P R} {fo : P D} {fr : P (List D)} {Q : R → En → Prop} (h : W fo ρ (fun d ρ0 => isObj C m d = true ∧ W fr ρ0 (fun ds ρ1 => ds.length + 1 = n ∧ W F (vals (d :: ds)) (fun r _ => Q r ρ1) (fun c ns es _ => E c ns es ρ1)) E) E) : W (met C m F n fo fr) ρ Q E :=
  w_bnd (h.mono (fun _ _ h => w_ifT h.1 (w_bnd (h.2.mono (fun _ _ h => w_ifT h.1 (w_app h.2)) fun _ _ _ _ h => h))) fun _ _ _ _ h => h)
theorem w_met0 {C : Addr} {m : Str} {F : P R} {fo : P D} {Q : R → En → Prop} (h : W fo ρ (fun d ρ1 => isObj C m d = true ∧ 1 = n ∧ W F (vals [d]) (fun r _ => Q r ρ1) (fun c ns es _ => E c ns es ρ1)) E) : W (met0 C m F n fo) ρ Q E :=
  w_bnd (h.mono (fun _ _ h => w_ifT ⟨h.1, h.2.1⟩ (w_app h.2.2)) fun _ _ _ _ h => h)
theorem w_metS {C : Addr} {m : Str} {F : P R} {fo : P D} {fr : P (List D)} {Q : R → En → Prop} (h : W fo ρ (fun d ρ0 => isObj C m d = true ∧ W fr ρ0 (fun ds ρ1 => n ≤ (d :: ds).length ∧ (d :: ds).length ≤ sizeLine ∧ W F (vals ((d :: ds).take n ++ [.tup ((d :: ds).drop n)])) (fun r _ => Q r ρ1) (fun c ns es _ => E c ns es ρ1)) E) E) : W (metS C m F n fo fr) ρ Q E :=
  w_bnd (h.mono (fun _ _ h => w_ifT h.1 (w_bnd (h.2.mono (fun _ _ h => by
    unfold starF
    rw [if_pos ⟨h.1, h.2.1⟩]
    exact w_app h.2.2) fun _ _ _ _ h => h))) fun _ _ _ _ h => h)
end
/-! ### statements -/
section
variable {α : Type} {ρ : En} {N B C : En → Prop} {T : R → En → Prop} {E : QE} {i j : Nat}
theorem WS.mono {f : S} {N' B' C' : En → Prop} {T' : R → En → Prop} {E' : QE} (h : WS f ρ N T B C E) (n : ∀ ρ, N ρ → N' ρ) (t : ∀ r ρ, T r ρ → T' r ρ) (b : ∀ ρ, B ρ → B' ρ) (c : ∀ ρ, C ρ → C' ρ) (e : ∀ c ns ds ρ, E c ns ds ρ → E' c ns ds ρ) : WS f ρ N' T' B' C' E' := by
  unfold WS at h ⊢
  split
  · rename_i z; rw [z] at h; exact h
  · rename_i z; rw [z] at h; exact n _ h
  · rename_i z; rw [z] at h; exact t _ _ h
  · rename_i z; rw [z] at h; exact b _ h
  · rename_i z; rw [z] at h; exact c _ h
  · rename_i z; rw [z] at h; exact e _ _ _ _ h
theorem s_sk (h : N ρ) : WS sk ρ N T B C E := by unfold WS; exact h
theorem s_sq {f k : S} (h : WS f ρ (fun ρ' => WS k ρ' N T B C E) T B C E) : WS (sq f k) ρ N T B C E := by
  unfold WS at h ⊢
  unfold sq
  split at h
  · rename_i z; exact h.elim
  · rename_i z; rw [z]; exact h
  · rename_i z; rw [z]; exact h
  · rename_i z; rw [z]; exact h
  · rename_i z; rw [z]; exact h
  · rename_i z; rw [z]; exact h
theorem s_sb {f : P α} {k : α → S} (h : W f ρ (fun a ρ' => WS (k a) ρ' N T B C E) E) : WS (sb f k) ρ N T B C E := by
  unfold WS
  unfold sb
  unfold W at h
  split at h
  · rename_i z; exact h.elim
  · rename_i z; rw [z]; unfold WS at h; exact h
  · rename_i z; rw [z]; exact h
theorem s_ifB {c : Bool} {f g : S} (h1 : c = true → WS f ρ N T B C E) (h2 : c = false → WS g ρ N T B C E) : WS (if c = true then f else g) ρ N T B C E := by
  cases c
  · exact h2 rfl
  · exact h1 rfl
theorem s_iff {A : P Bool} {fa fb : S} (h : W A ρ (fun c ρ' => WS (if c = true then fa else fb) ρ' N T B C E) E) : WS (iff A fa fb) ρ N T B C E := s_sb h
theorem s_ret {fe : P R} (h : W fe ρ (fun r ρ' => T r ρ') E) : WS (ret fe) ρ N T B C E := s_sb (h.mono (fun _ _ h => by unfold WS; exact h) fun _ _ _ _ h => h)
theorem s_retN (h : T (.val .non) ρ) : WS retN ρ N T B C E := by unfold WS; exact h
theorem s_brk (h : B ρ) : WS brk ρ N T B C E := by unfold WS; exact h
theorem s_cnt (h : C ρ) : WS cnt ρ N T B C E := by unfold WS; exact h
theorem s_expr {fe : P D} (h : W fe ρ (fun _ ρ' => N ρ') E) : WS (expr fe) ρ N T B C E := s_sb (h.mono (fun _ _ h => s_sk h) fun _ _ _ _ h => h)
@[reducible] def sl : R → Slot
  | .val d => .val d
  | .own d => .own d
theorem s_put {r : R} (h : N (ρ.set i (sl r))) : WS (put i r) ρ N T B C E := by unfold WS; cases r <;> exact h
theorem s_set {fe : P R} (h : W fe ρ (fun r ρ' => N (ρ'.set i (sl r))) E) : WS (set' i fe) ρ N T B C E := s_sb (h.mono (fun _ _ h => s_put h) fun _ _ _ _ h => h)
theorem s_unp {T' : Tg} {fe : P D} (h : W fe ρ (fun d ρ' => ∃ ρ2, gset T' d ρ' = some ρ2 ∧ N ρ2) E) : WS (unp' T' fe) ρ N T B C E := s_sb (h.mono (fun d ρ' h => by
  obtain ⟨ρ2, e, h⟩ := h
  unfold WS unp
  rw [e]
  exact h) fun _ _ _ _ h => h)
theorem s_par {fr : P (List D)} (h : W fr ρ (fun ds ρ' => ∃ d e, ds = [d, e] ∧ N ((ρ'.set i (.val d)).set j (.val e))) E) : WS (par' i j fr) ρ N T B C E := s_sb (h.mono (fun d ρ' h => by
  obtain ⟨d, e, rfl, h⟩ := h
  unfold WS
  exact h) fun _ _ _ _ h => h)
theorem s_asg {fe : P D} {g : D → S} (h : W fe ρ (fun d ρ' => WS (g d) ρ' N (fun _ _ => False) (fun _ => False) (fun _ => False) E) E) : WS (asg' fe g) ρ N T B C E := by
  have h := s_sb h
  unfold WS at h ⊢
  unfold asg'
  split at h
  · exact h.elim
  · rename_i z; rw [z]; exact h
  · exact h.elim
  · exact h.elim
  · exact h.elim
  · rename_i z; rw [z]; exact h
theorem s_gName {d : D} (h : N (ρ.set i (.val d))) : WS (gName' i d) ρ N T B C E := by unfold WS; exact h
theorem s_gTup {hs : List (D → S)} {ds : List D} {d : D} (e : tupOf d = some ds) (l : ds.length = hs.length) (h : WS (asgs hs ds) ρ N T B C E) : WS (gTup' hs d) ρ N T B C E := s_sb (w_lft e (by rw [if_pos l]; exact h))
theorem s_asgs0 (h : N ρ) : WS (asgs [] []) ρ N T B C E := by unfold WS; exact h
theorem s_asgs1 {g : D → S} {hs : List (D → S)} {d : D} {ds : List D} (h : WS (g d) ρ (fun ρ' => WS (asgs hs ds) ρ' N T B C E) T B C E) : WS (asgs (g :: hs) (d :: ds)) ρ N T B C E := s_sq h
theorem s_raise {A : Addr} {ns : List Str} {cd : List D → Bool} {fr : P (List D)} (h : W fr ρ (fun ds ρ' => ds.length = ns.length ∧ cd ds = true ∧ E (.ref A) ns.reverse ds.reverse ρ') E) : WS (raise' A ns cd fr) ρ N T B C E := s_sb (h.mono (fun ds ρ' h => by
  unfold WS rs
  rw [if_pos ⟨h.1, h.2.1⟩]
  exact h.2.2) fun _ _ _ _ h => h)
/-! ### loops -/
def FR (T' : Tg) (fb : S) (ds : List D) (ρ : En) (N : En → Prop) (T : R → En → Prop) (E : QE) : Prop := WS (frL T' fb ds) ρ N T (fun _ => False) (fun _ => False) E
theorem s_for {fi : P (List D)} {T' : Tg} {fb : S} (h : W fi ρ (fun ds ρ' => FR T' fb ds ρ' N T E) E) : WS (for' fi T' fb) ρ N T B C E := s_sb (h.mono (fun ds ρ' h => WS.mono h (fun _ h => h) (fun _ _ h => h) (fun _ h => h.elim) (fun _ h => h.elim) fun _ _ _ _ h => h) fun _ _ _ _ h => h)
theorem fr_nil {T' : Tg} {fb : S} (h : N ρ) : FR T' fb [] ρ N T E := by unfold FR WS; exact h
theorem fr_cons {T' : Tg} {fb : S} {d : D} {ds : List D} {ρ1 : En} (e : gset T' d ρ = some ρ1) (h : WS fb ρ1 (fun ρ2 => FR T' fb ds ρ2 N T E) T N (fun ρ2 => FR T' fb ds ρ2 N T E) E) : FR T' fb (d :: ds) ρ N T E := by
  unfold FR WS frL
  unfold WS at h
  rw [e]
  dsimp only
  split at h
  · exact h.elim
  · rename_i z; rw [z]; unfold FR WS at h; exact h
  · rename_i z; rw [z]; exact h
  · rename_i z; rw [z]; exact h
  · rename_i z; rw [z]; unfold FR WS at h; exact h
  · rename_i z; rw [z]; exact h
theorem fr_list' {β : Type} {T' : Tg} {fb : S} (f : β → D) (all : List β) (I : List β → En → Prop) (hs : ∀ dn x td ρ, all = dn ++ x :: td → I dn ρ → ∃ ρ1, gset T' (f x) ρ = some ρ1 ∧ WS fb ρ1 (I (dn ++ [x])) T N (I (dn ++ [x])) E) (hN : ∀ ρ, I all ρ → N ρ) :
    ∀ (xs dn : List β) {ρ : En}, all = dn ++ xs → I dn ρ → FR T' fb (xs.map f) ρ N T E
  | [], dn, _, e, h0 => fr_nil (hN _ (by rw [e, List.append_nil]; exact h0))
  | x :: xs, dn, ρ, e, h0 => by
    obtain ⟨ρ1, eg, h⟩ := hs dn x xs ρ e h0
    have go : ∀ ρ2, I (dn ++ [x]) ρ2 → FR T' fb (xs.map f) ρ2 N T E := fun ρ2 h2 => fr_list' f all I hs hN xs (dn ++ [x]) (by rw [e, List.append_assoc]; rfl) h2
    exact fr_cons eg (h.mono go (fun _ _ h => h) (fun _ h => h) go fun _ _ _ _ h => h)
theorem fr_list {β : Type} {T' : Tg} {fb : S} (f : β → D) (all : List β) (I : List β → En → Prop) (h0 : I [] ρ) (hs : ∀ dn x td ρ, all = dn ++ x :: td → I dn ρ → ∃ ρ1, gset T' (f x) ρ = some ρ1 ∧ WS fb ρ1 (I (dn ++ [x])) T N (I (dn ++ [x])) E) (hN : ∀ ρ, I all ρ → N ρ) : FR T' fb (all.map f) ρ N T E :=
  fr_list' f all I hs hN all [] rfl h0
end
end Pu
/-! str(o), repr(o) of an own object with its own __str__, __repr__. -/
namespace Pu
open PySem PySem.Spec PyProof.Rows L2 Kv
def quiet {α : Type} (f : P α) : P α := fun ρ => match f ρ with
  | some (.ok a ρ') => some (.ok a ρ')
  | _ => none
def strR : R → Option D
  | .val (.str x) => some (.str x)
  | _ => none
def shO (C : Addr) (m : Str) (F : P R) (fe : P D) : P D := bnd fe fun d => if isObj C m d = true then bnd (quiet (app F [d])) fun r => lft (strR r) else fun _ => none
section
variable {prog : Program} {w : World} {A : Around} {E : Value → Shared → Prop} {s : Shared} {K : PySem.W.Frag} {x C f : Addr} {ox : Obj} {od : Option Obj}
end
section
variable {X : Cx} {g : Gx} {k : Nat} {C : Addr} {m : Str} {F : P R}
theorem run_below {f : Addr} {fd : FuncData} {ps : List Str} {sp : Sp} {pins : List (Addr × Obj)} {σ : L2.St} {H : Hp} {s : Shared} {Q : VK} {us : List Value} {vs : List V} (G : FnG X.prog X.w X.K X.mg X.base (L2.CX X.prog X.w) k f fd ps sp) (A : Around) (hA : A.frames = X.A.frames) (hgd : A.guards = some []) (hr : Room k A)
    (hb : Binds X.K fd ps []) (I : Inv X pins σ H s) (r : Vals vs us) (h : sp vs H Q (noE σ)) : wpAny (model X.prog X.w) A (call (.ref f) us) (L2.EP X pins σ Q) X.xe s := by
  have hl : us.length = ps.length := by rw [← r.length]; exact G.many _ _ _ _ h
  have b := hb s us I.kIn (by rw [List.append_nil]; exact hl)
  rw [List.append_nil] at b
  have e := I.env0
  have e0 : Env0 X.prog X.w X.K X.mg X.base A X.stack s H := ⟨by rw [hA]; exact e.frames, e.mod, e.bs, e.bsz, e.funs, e.frf, e.hok, e.bare⟩
  refine wpAny_call (codeAny_mono (G.goes A X.stack s H ⟨us, []⟩ us vs Q (noE σ) hgd hr e0 b r h) fun r s' hq => ?_)
  cases r with
  | error er => exact pass_no pins H s er s' I hq
  | ok fl =>
    cases fl with
    | ret u => exact I.after hq
    | next => exact False.elim hq
    | brk => exact False.elim hq
    | cont => exact False.elim hq
def rShO (K : PySem.W.Frag) (C : Addr) (m : Str) (F : P R) (T : List (Addr × Str)) (σ : L2.St) : List V → Hp → VK → Prop := fun xs H Q => ∃ a dx fs, xs = [.ref a] ∧ H a = some (.ins C dx fs) ∧ spP K T 1 F [.ref a] H (fun v H' => ∃ y, v = .str y ∧ Q v H') (noE σ)
theorem Rs_quiet {γ α : Type} {K : PySem.W.Frag} {E E' : Wx} {Rel : Rl γ α} {σ : L2.St} {ρ : En} {ok : Addr → Prop} {H : Hp} {f : P α} {Q : γ → Hp → Prop} (h : Rs K g E Rel σ ρ ok H (quiet f ρ) Q) : Rs K g E' Rel σ ρ ok H (f ρ) Q := by
  unfold quiet at h
  cases e : f ρ with
  | none => rw [e] at h; exact h.elim
  | some z =>
    rw [e] at h
    cases z with
    | ok a ρ' => exact h
    | er c ns ds ρ' => exact h.elim
theorem shO_asks {e : Expr} {E : Wx} {fe : P D} {σ : L2.St} {H : Hp} {Q : VK} (hq : tX X.K g E (relD X.K) (shO C m F fe) σ H Q) : tX X.K g E (relD X.K) fe σ H (fun v H' => rShO X.K C m F g.T σ [v] H' Q) := by
  obtain ⟨ok, ρ, w, h⟩ := hq
  refine ⟨ok, ρ, w, (Rs.bnd (RA := relD X.K) h).mono fun v1 H1 hq => ?_⟩
  obtain ⟨ok1, ρ1, d, w1, s1, r1, h1⟩ := hq
  have r1 : Rep X.K ok1 H1 v1 d := r1
  by_cases z : isObj C m d = true
  · simp only [z, if_true] at h1
    cases r1 with
    | obj ho ko rs =>
      rename_i a C' dx fs ds
      have eC : C' = C := by
        have z : (decide (C' = C) && decide (m ∉ _)) = true := z
        rw [Bool.and_eq_true] at z
        exact of_decide_eq_true z.1
      subst eC
      refine ⟨a, dx, fs, rfl, ho, ?_⟩
      have rp : Reps X.K ok1 H1 [.ref a] [.obj C' (fs.map (·.1)) ds] := .cons (.obj ho ko rs) .nil
      refine app_ok (E := noE) w1 rp rfl ?_
      have h2 := (Rs.bnd (RA := relR X.K) h1)
      refine Rs_quiet (E := E) (h2.mono fun v H2 q => ?_)
      obtain ⟨ok2, ρ2, r, w2, s2, r2, h3⟩ := q
      unfold lft at h3
      cases r with
      | own d => exact h3.elim
      | val d =>
        cases d with
        | str y =>
          have r2 : Rep X.K ok2 H2 v (.str y) := r2
          cases r2
          exact ⟨y, rfl, h3 (.str y) H2 ok2 w2 Sx.refl (.str y)⟩
        | _ => exact h3.elim
    | _ => cases z
  · simp only [if_neg z] at h1
    exact h1.elim
end
end Pu
/-! str(o); a, b = x, y with things of one's own; a, b, c = x, y, z; *xs, y = a list. -/
namespace Pu
open PySem PySem.Spec PyProof.Rows L2 Kv
section
variable {X : Cx} {g : Gx} {k : Nat} {C : Addr} {m : Str} {F : P R}
end
/-! ### a, b = x, y -/
def slR : R → Slot
  | .val d => .val d
  | .own d => .own d
section
variable {K : PySem.W.Frag} {g : Gx} {E : Wx} {ρ ρ0 ρ1 ρ2 : En} {σ σ0 : L2.St} {ok ok0 ok1 ok2 : Addr → Prop} {H H0 H1 H2 : Hp} {i : Nat}
def parR (i j : Nat) (fa fb : P R) : S := sb fa fun r1 => sb fb fun r2 => fun ρ => some (.nx ((ρ.set i (slR r1)).set j (slR r2)))
end
section
variable {X : Cx} {g : Gx} {E : Wx} {x y z : Str} {a b c : Expr} {i j l : Nat} {fa fb : P R} {fr : P (List D)} {px py pz pt pos : Pos}
def par3 (i j l : Nat) : List D → S
  | [d, e, f] => fun ρ => some (.nx (((ρ.set i (.val d)).set j (.val e)).set l (.val f)))
  | _ => fun _ => none
end
/-! ### *xs, y = a list -/
section
variable {prog : Program} {w : World} {A : Around} {E : Value → Shared → Prop} {s : Shared}
end
section
variable {X : Cx} {g : Gx} {E : Wx} {i j : Nat} {x y : Str} {px py sp pt pos : Pos} {tx ty e : Expr}
end
end Pu
/-! isinstance of a caught error; a class as a value. -/
namespace Pu
open PySem PySem.Spec PyProof.Rows L2 Kv
section
variable {X : Cx} {g : Gx} {E : Wx} {a dx C : Addr} {oe : Obj} {cls : Value} {pn : List (Addr × Obj)} {e c : Expr} {fr : P (List D)} {p pos : Pos}
end
end Pu
namespace Pu
open PySem PySem.Spec PyProof.Rows L2 Kv
theorem kitR {K : PySem.W.Frag} {C D : Addr} {b : Bool} (hd : PySem.W.hasDictIn K D = true) (ht : PySem.W.typeIn K (.ref D) = some (.type "type")) (hc : PySem.W.subIn K (.ref C) (.ref C) = some true)
    (hs : PySem.W.subIn K (.ref C) (.ref D) = some b) : PySem.W.kitOne K (.ref C) (.ref D) = some b := by
  obtain ⟨cd, hcd, _⟩ := PySem.W.any_some hd
  have e2 : ((PySem.W.clsIn K D).isSome && PySem.W.typeIn K (.ref D) == some (.type "type")) = true := by rw [hcd, ht] <;> rfl
  by_cases q : ((Value.ref C) == (Value.ref D)) = true
  · have e : C = D := Value.ref.inj (beq_iff_eq.mp q)
    subst e
    have e3 : some b = some true := hs.symm.trans hc
    show (if ((Value.ref C) == (Value.ref C)) = true then some true else PySem.W.kitCls K (.ref C) (.ref C)) = some b
    rw [if_pos q, e3]
  · show (if ((Value.ref C) == (Value.ref D)) = true then some true else (if ((PySem.W.clsIn K D).isSome && PySem.W.typeIn K (.ref D) == some (.type "type")) = true then PySem.W.subIn K (.ref C) (.ref D) else none)) = some b
    rw [if_neg q, if_pos e2]
    exact hs
end Pu
/-! Named steps of class methods, str(o), starred targets, parallel assignment. -/
namespace Pu
open PySem PySem.Spec PyProof.Rows L2 Kv
def calC (C : Addr) (F : P R) (n : Nat) (fr : P (List D)) : P R := bnd fr fun ds => if ds.length + 1 = n then app F (.opq C :: ds) else fun _ => none
def par3' (i j l : Nat) (fr : P (List D)) : S := sb fr fun ds => par3 i j l ds
section
variable {ρ : En} {E : QE} {N B C : En → Prop} {T : R → En → Prop} {i j l n : Nat}
theorem w_calC {A : Addr} {F : P R} {fr : P (List D)} {Q : R → En → Prop} (h : W fr ρ (fun ds ρ1 => ds.length + 1 = n ∧ W F (vals (.opq A :: ds)) (fun r _ => Q r ρ1) (fun c ns es _ => E c ns es ρ1)) E) : W (calC A F n fr) ρ Q E :=
  w_bnd (h.mono (fun _ _ h => w_ifT h.1 (w_app h.2)) fun _ _ _ _ h => h)
theorem w_clsC {A : Addr} {v : D} {Q : D → En → Prop} (h : Q v ρ) : W (lft (clsC A v (.opq A))) ρ Q E := w_lft (by unfold clsC isCl; simp) h
theorem w_mkHL {A : Addr} {fe : P D} {Q : R → En → Prop} (e : ρ[i]? = some (.val (.opq A))) (h : W fe ρ (fun d ρ' => W (lft (mkH A d)) ρ' Q E) E) : W (mkHL i A fe) ρ Q E := by
  have z : isCl A (.opq A) = true := decide_eq_true rfl
  have h2 : W (if isCl A (.opq A) = true then bnd fe fun d => lft (mkH A d) else fun _ => none) ρ Q E := w_ifT z (w_bnd h)
  unfold mkHL
  refine w_bnd ?_
  unfold W at h2 ⊢
  unfold rd
  simp only [e]
  exact h2
theorem w_quiet {α : Type} {f : P α} {Q : α → En → Prop} (h : W f ρ Q (fun _ _ _ _ => False)) : W (quiet f) ρ Q E := by
  unfold W at h ⊢
  unfold quiet
  split at h
  · exact h.elim
  · rename_i z; rw [z]; exact h
  · exact h.elim
theorem w_shO {A : Addr} {m : Str} {F : P R} {fe : P D} {Q : D → En → Prop} (h : W fe ρ (fun d ρ1 => isObj A m d = true ∧ W F (vals [d]) (fun r _ => ∃ x, r = .val (.str x) ∧ Q (.str x) ρ1) (fun _ _ _ _ => False)) E) : W (shO A m F fe) ρ Q E :=
  w_bnd (h.mono (fun _ _ h => w_ifT h.1 (w_bnd (w_quiet (w_app (h.2.mono (fun _ _ h => by
    obtain ⟨x, rfl, q⟩ := h
    exact w_lft rfl q) fun _ _ _ _ h => h))))) fun _ _ _ _ h => h)
theorem s_parR {fa fb : P R} (h : W fa ρ (fun r1 ρ1 => W fb ρ1 (fun r2 ρ2 => N ((ρ2.set i (sl r1)).set j (sl r2))) E) E) : WS (parR i j fa fb) ρ N T B C E :=
  s_sb (h.mono (fun r1 ρ1 h => s_sb (h.mono (fun r2 ρ2 h => by
    unfold WS
    cases r1 <;> cases r2 <;> exact h) fun _ _ _ _ h => h)) fun _ _ _ _ h => h)
theorem s_par3 {fr : P (List D)} (h : W fr ρ (fun ds ρ' => ∃ d e f, ds = [d, e, f] ∧ N (((ρ'.set i (.val d)).set j (.val e)).set l (.val f))) E) : WS (par3' i j l fr) ρ N T B C E := s_sb (h.mono (fun d ρ' h => by
  obtain ⟨d, e, f, rfl, h⟩ := h
  unfold WS
  exact h) fun _ _ _ _ h => h)
end
end Pu
namespace Pu
open PySem PySem.Spec PyProof.Rows L2 Kv
end Pu
namespace Pu
open PySem PySem.Spec PyProof.Rows L2 Kv
section
variable {ρ : En} {E : QE} {N B C : En → Prop} {T : R → En → Prop} {i j l n : Nat}
theorem w_slL {xs : List D} {lo hi : Option Int} {Q : R → En → Prop} (h : Q (.own (.lst (cutD xs lo hi))) ρ) : W (lft (slD lo hi (.lst xs))) ρ Q E := w_lft rfl h
theorem w_slT {xs : List D} {lo hi : Option Int} {Q : R → En → Prop} (h : Q (.val (.tup (cutD xs lo hi))) ρ) : W (lft (slD lo hi (.tup xs))) ρ Q E := w_lft rfl h
theorem s_parV {fa fb : P D} (h : W fa ρ (fun d ρ1 => W fb ρ1 (fun e ρ2 => N ((ρ2.set i (.val d)).set j (.val e))) E) E) : WS (par' i j (consA fa (consA fb (prt [])))) ρ N T B C E :=
  s_par (w_consA (h.mono (fun d ρ1 h => w_consA (h.mono (fun e ρ2 h => w_prt ⟨_, _, rfl, h⟩) fun _ _ _ _ h => h)) fun _ _ _ _ h => h))
theorem s_par3V {fa fb fc : P D} (h : W fa ρ (fun d ρ1 => W fb ρ1 (fun e ρ2 => W fc ρ2 (fun f ρ3 => N (((ρ3.set i (.val d)).set j (.val e)).set l (.val f))) E) E) E) : WS (par3' i j l (consA fa (consA fb (consA fc (prt []))))) ρ N T B C E :=
  s_par3 (w_consA (h.mono (fun d ρ1 h => w_consA (h.mono (fun e ρ2 h => w_consA (h.mono (fun f ρ3 h => w_prt ⟨_, _, _, rfl, h⟩) fun _ _ _ _ h => h)) fun _ _ _ _ h => h)) fun _ _ _ _ h => h))
end
end Pu
namespace Pu
open PySem PySem.Spec PyProof.Rows L2 Kv
structure Zf where
  K : PySem.W.Frag
  c_Hierarchy : Addr := 0
  c_NotFound : Addr := 0
  c_InvalidHierarchy : Addr := 0
  c_InvalidName : Addr := 0
  c_NameTaken : Addr := 0
  c_InvalidSuperclasses : Addr := 0
  c_TooMany : Addr := 0
  c_InUse : Addr := 0
  c_InvalidText : Addr := 0
  c_InvalidPoint : Addr := 0
  c_InvalidPoints : Addr := 0
  c_InvalidCount : Addr := 0
  c_MethodsError : Addr := 0
  c_Ambiguous : Addr := 0
  c_InvalidBody : Addr := 0
  c_InvalidMethods : Addr := 0
  c_NoMethod : Addr := 0
  c_NoNext : Addr := 0
  c_NotAConflict : Addr := 0
  c_NotAThreat : Addr := 0
  c_Unlike : Addr := 0
  c_Unsettled : Addr := 0
  c_InvalidReceipt : Addr := 0
  c_TooManySteps : Addr := 0
  c_InvalidOperation : Addr := 0
  c_MethodTable : Addr := 0
  t_NEXT_STEP : Addr := 0
def gSub (i : Nat) (fi : P D) : D → S := fun d => gdO i (sb fi fun j => stIx i j d)
def gPut (i : Nat) (fi : P D) : D → S := fun d => gdO i (sb fi fun j => stPut i j d)
end Pu
/-! == and != by an own __eq__; repr by an own __repr__; isinstance of an own thing; f-strings. -/
namespace Pu
open PySem PySem.Spec PyProof.Rows L2 Kv
def blR : R → Option D
  | .val (.bl b) => some (.bl b)
  | _ => none
def eqO (C : Addr) (F : P R) (h : R → Option D) (fa fb : P D) : P D := bnd fa fun d1 => bnd fb fun d2 => if isObj C "__eq__" d1 = true ∧ isObj C "__eq__" d2 = true then bnd (quiet (app F [d1, d2])) fun r => lft (h r) else fun _ => none
section
variable {prog : Program} {w : World} {A : Around} {E : Value → Shared → Prop} {s : Shared} {K : PySem.W.Frag} {x C f : Addr} {ox : Obj} {od : Option Obj} {b : Value}
open Builtin in
end
def rEqO (K : PySem.W.Frag) (C : Addr) (F : P R) (T : List (Addr × Str)) (h : R → Option D) (σ : L2.St) : R2 := fun x y H Q => ∃ a b dx dy fs gs, x = .ref a ∧ y = .ref b ∧ H a = some (.ins C dx fs) ∧ H b = some (.ins C dy gs) ∧
  spP K T 2 F [.ref a, .ref b] H (fun v H' => ∃ q z : Bool, v = .bl q ∧ h (.val (.bl q)) = some (.bl z) ∧ Q (.bl z) H') (noE σ)
section
variable {X : Cx} {g : Gx} {k : Nat} {C : Addr} {m : Str} {F : P R} {T : List (Addr × Str)}
theorem op_eqO (c : CalM X.prog X.w X.K X.mg X.base T C k 2 "__eq__" F) (hgd : X.A.guards = some []) (hr : Room (k + 2) X.A) : OpR X (compareOp .Eq) (rEqO X.K C F T blR (start [] [])) := by
  intro pins s σ H x y v u Q I rx ry h
  obtain ⟨a, b, dx, dy, fs, gs, rfl, rfl, ha, hb, sp⟩ := h
  obtain ⟨f, fd, ps, G, hm, cl, bb⟩ := c.ex
  cases rx
  cases ry
  obtain ⟨mA, J, _⟩ := ins_get I.hok ha
  obtain ⟨mB, J', _⟩ := ins_get I.hok hb
  obtain ⟨od, J, _⟩ := J.look
  obtain ⟨od', J', _⟩ := J'.look
  obtain ⟨m, hF⟩ := I.fr
  refine PySem.W.cmp_K (op := .Eq) (tb := .ref C) (by have := hr.un; omega) hF I.ok.mod.kin J J'.type (by simp [PySem.W.notFirst]) hm.at_ hm.fn ?_
  refine wpAny_mono (run_below G X.A rfl hgd (hr.mono (by omega)) bb I (vs := [.ref a, .ref b]) (us := [.ref a, .ref b]) (.cons rfl (.cons rfl .nil)) sp) (fun r s' q => ?_) fun _ _ z => z
  obtain ⟨v, H', I', rv, q0, z, rfl, e, q⟩ := q
  cases rv
  cases e
  exact ⟨.bl q0, H', I', rfl, q⟩
theorem call_reprO (c : CalM X.prog X.w X.K X.mg X.base T C k 1 "__repr__" F) (hgd : X.A.guards = some []) (hr : Room (k + 2) X.A) : CallR X (.builtin "repr") (rShO X.K C "__repr__" F T (start [] [])) := by
  intro pins s σ H xs us Q I r h
  obtain ⟨a, dx, fs, rfl, ha, sp⟩ := h
  obtain ⟨f, fd, ps, G, hm, cl, b⟩ := c.ex
  obtain ⟨u, rfl, rx⟩ := vals1 r
  cases rx
  obtain ⟨mA, J, _⟩ := ins_get I.hok ha
  obtain ⟨od, J, _⟩ := J.look
  obtain ⟨m, hF⟩ := I.fr
  refine PySem.W.repr_K (by have := hr.un; show X.A.units + 1 < _; omega) hF I.ok.mod.kin J hm.at_ hm.fn ?_
  have r1 : Room k X.A.in1 := (Room.in1 (hr.mono (by omega)))
  refine wpAny_mono (run_below G X.A.in1 rfl hgd r1 b I (vs := [.ref a]) (us := [.ref a]) (.cons rfl .nil) sp) (fun r s' q => ?_) fun _ _ z => z
  obtain ⟨v, H', I', rv, y, rfl, q⟩ := q
  obtain ⟨t, rfl⟩ := rv
  exact ⟨.str y, H', I', ⟨t, rfl⟩, q⟩
end
section
variable {X : Cx} {g : Gx} {k : Nat} {C : Addr} {m : Str} {F : P R} {E : Wx} {a b e : Expr} {fa fb fe : P D} {p pos : Pos}
theorem eqO_asks {h : R → Option D} (hh : ∀ r z, h r = some z → ∃ q t : Bool, r = .val (.bl q) ∧ z = .bl t) {σ : L2.St} {H : Hp} {Q : VK} (hq : tX X.K g E (relD X.K) (eqO C F h fa fb) σ H Q) :
    tOp (rEqO X.K C F g.T h (start [] [])) (tX X.K g E (relD X.K) fa) (tX X.K g E (relD X.K) fb) σ H Q := by
  obtain ⟨ok, ρ, w, h0⟩ := hq
  refine ⟨ok, ρ, w, (Rs.bnd (RA := relD X.K) h0).mono fun v1 H1 hq => ?_⟩
  obtain ⟨ok1, ρ1, d1, w1, s1, r1, h1⟩ := hq
  refine ⟨ok1, ρ1, w1, (Rs.bnd (RA := relD X.K) h1).mono fun v2 H2 hq => ?_⟩
  obtain ⟨ok2, ρ2, d2, w2, s2, r2, h2⟩ := hq
  have r1 : Rep X.K ok2 H2 v1 d1 := Rep.fr s2.fr r1
  have r2 : Rep X.K ok2 H2 v2 d2 := r2
  by_cases z : isObj C "__eq__" d1 = true ∧ isObj C "__eq__" d2 = true
  · rw [if_pos z] at h2
    obtain ⟨z1, z2⟩ := z
    cases r1 with
    | obj ho1 ko1 rs1 =>
      cases r2 with
      | obj ho2 ko2 rs2 =>
        rename_i a1 C1 dx1 fs1 ds1 a2 C2 dx2 fs2 ds2
        have e1 : C1 = C := by
          have z : (decide (C1 = C) && decide (_ ∉ _)) = true := z1
          rw [Bool.and_eq_true] at z
          exact of_decide_eq_true z.1
        have e2 : C2 = C := by
          have z : (decide (C2 = C) && decide (_ ∉ _)) = true := z2
          rw [Bool.and_eq_true] at z
          exact of_decide_eq_true z.1
        subst e1
        subst e2
        refine ⟨a1, a2, dx1, dx2, fs1, fs2, rfl, rfl, ho1, ho2, ?_⟩
        have rp : Reps X.K ok2 H2 [.ref a1, .ref a2] [.obj _ (fs1.map (·.1)) ds1, .obj _ (fs2.map (·.1)) ds2] := .cons (.obj ho1 ko1 rs1) (.cons (.obj ho2 ko2 rs2) .nil)
        show spP X.K g.T 2 F _ H2 _ (noE σ)
        refine app_ok (E := noE) w2 rp rfl ?_
        have h3 := (Rs.bnd (RA := relR X.K) h2)
        refine Rs_quiet (E := E) (h3.mono fun v H3 q => ?_)
        obtain ⟨ok3, ρ3, r, w3, s3, r3, h4⟩ := q
        unfold lft at h4
        cases er : h r with
        | none => rw [er] at h4; exact h4.elim
        | some z =>
          obtain ⟨q, t, rfl, rfl⟩ := hh r z er
          rw [er] at h4
          have r3 : Rep X.K ok3 H3 v (.bl q) := r3
          cases r3
          exact ⟨q, t, rfl, er, h4 (.bl t) H3 ok3 w3 Sx.refl (.bl t)⟩
      | _ => cases z2
    | _ => cases z1
  · rw [if_neg z] at h2
    exact h2.elim
theorem ev_eqO {op : CmpOp} {h : R → Option D} (ho : OpR X (compareOp op) (rEqO X.K C F g.T h (start [] []))) (hh : ∀ r z, h r = some z → ∃ q t : Bool, r = .val (.bl q) ∧ z = .bl t)
    (ha : EV X g E a fa) (hb : EV X g E b fb) (hm : behindInMarks op b = false) : EV X g E (.Compare a [op] [b] pos) (eqO C F h fa fb) :=
  PE_imp (pe_cmpR ho ha hb hm) fun σ H Q hq => eqO_asks hh hq
theorem blR_bl : ∀ r z, blR r = some z → ∃ q t : Bool, r = .val (.bl q) ∧ z = .bl t := fun r z h => by
  unfold blR at h
  split at h
  · cases h; exact ⟨_, _, rfl, rfl⟩
  · cases h
theorem ev_reprO (c : CalM X.prog X.w X.K X.mg X.base g.T C k 1 "__repr__" F) (hgd : X.A.guards = some []) (hr : Room (k + 2) X.A) (hg : Gl X "repr") (hm : X.mg "repr" = none) (he : EV X g E e fe)
    (hs : starEach [e] X.env = [(false, eval e X.env)] := by rfl) : EV X g E (.Call (.Name "repr" p) [e] [] pos) (shO C "__repr__" F fe) :=
  PE_imp (pe_callB (call_reprO c hgd hr) hg hm (by decide +kernel) (pa_cons he pa_nil hs) (by decide) (by decide) hs rfl) fun σ H Q hq => shO_asks (e := e) hq
structure OIs (K : PySem.W.Frag) (C : Addr) : Prop where
  cl : Cls K C
  ha : PySem.W.findIn K (.ref C) "__class__" = some (some (.builtin "object.__class__"))
  hn : PySem.W.specialIn K (.builtin "object.__class__") "__get__" = some (some (.builtin "getset_descriptor.__get__"))
  ht : PySem.W.takesIn K (.builtin "object.__class__") = some true
  hm : PySem.W.mroIn K C (.type "object") = some true
  ki : PySem.W.kitOne K (.ref C) (.ref C) = some true
def isO (C : Addr) : D → Option D
  | .obj C' _ _ => if C' = C then some (.bl true) else none
  | _ => none
theorem ev_isO {y : Str} {p2 : Pos} (o : OIs X.K C) (hg : Gl X "isinstance") (hm : X.mg "isinstance" = none) (hgT : Gl X y) (hmT : X.mg y = some (.ref C)) (ha : EV X g E a fa)
    (hdb : (y == ("__debug__" : Str)) = false := by decide)
    (hs : starEach [a, .Name y p2] X.env = [(false, eval a X.env), (false, eval (.Name y p2) X.env)] := by rfl) (hs2 : starEach [.Name y p2] X.env = [(false, eval (.Name y p2) X.env)] := by rfl) :
    EV X g E (.Call (.Name "isinstance" p) [a, .Name y p2] [] pos) (bnd fa fun x => lft (isO C x)) := by
  refine PE_imp (pe_callB (x := "isinstance") call_isz hg hm (by decide +kernel) (pa_cons ha (pa_cons (pe_glob (v := .ref C) hgT hmT rfl hdb) pa_nil hs2) (by rw [hs, hs2])) (by decide) (by decide) (by rw [hs, hs2]) (by rw [hs2]; rfl)) fun σ H Q hq => ?_
  obtain ⟨ok, ρ, w, h⟩ := hq
  refine ⟨ok, ρ, w, (Rs.bnd (RA := relD X.K) h).mono fun v1 H1 hq => ?_⟩
  obtain ⟨ok1, ρ1, d, w1, f1, r1, h1⟩ := hq
  unfold lft at h1
  have r1 : Rep X.K ok1 H1 v1 d := r1
  cases r1 with
  | obj ho ko rs =>
    rename_i a' C' dx fs ds
    unfold isO at h1
    by_cases e : C' = C
    · subst e
      simp only [if_true] at h1
      exact ⟨.ref a', .ref _, .ref _, .ref _, true, rfl, .own _, .inl (.base (.ins ho o.cl o.ha o.hn o.ht o.hm)), o.ki, h1 (.bl true) H1 ok1 w1 Sx.refl (.bl true)⟩
    · simp only [if_neg e] at h1
      exact h1.elim
  | _ => exact h1.elim
/-! ### f-strings -/
def rReprF (K : PySem.W.Frag) : List V → Hp → VK → Prop := fun xs H Q => (∃ a, xs = [.ref a]) ∧ rRepr K xs H Q
theorem pe_fmtS {t : TE} (hgd : X.A.guards = some []) (hu : X.A.units + 64 < cLine) (he : PE X e t) : PE X (.FormattedValue e 114 none pos) (fun σ H Q => t σ H fun x H1 => rReprF X.K [x] H1 Q) := by
  refine ⟨fun pins s σ H Q I h => ?_⟩
  refine wpAny_FormattedValue_repr (thn (he.run pins s σ H _ I h) fun v s1 hv => ?_)
  obtain ⟨x, H1, I1, ru, ⟨a, ea⟩, nd, x', d, ex, sh, hs, hz, hd, q⟩ := hv
  cases ex
  cases ea
  obtain ⟨as, rd, n1, n2⟩ := sh.reads I1 ru
  cases ru
  refine PySem.pyReprObj_of_reads rd hs (fun e => by cases nd with
      | false => exact n1 rfl
      | true => rw [n2 rfl] at e; cases e) hgd (by omega) (fun _ _ e => e) (fun h2 u tk hk => ?_) hz
  exact wpAny_formatField_str ⟨.str _, H1, I1.kept hk, ⟨_, rfl⟩, q⟩ ⟨.str _, H1, (I1.kept hk).tok _, ⟨_, rfl⟩, q⟩ hz
def shR : D → Option D
  | .lst ds => shD (.lst ds)
  | .flst ds => shD (.flst ds)
  | .tup ds => shD (.tup ds)
  | .ftup ds => shD (.ftup ds)
  | _ => none
theorem shR_shD {d z : D} (h : shR d = some z) : ∃ p, toPy d = some p ∧ showP p = some z := by
  have hb : ∀ {o : Option PyData}, o.bind showP = some z → ∃ p, o = some p ∧ showP p = some z := fun {o} h => by
    cases o with
    | none => cases h
    | some p => exact ⟨p, rfl, h⟩
  unfold shR at h
  split at h
  · exact hb h
  · exact hb h
  · exact hb h
  · exact hb h
  · cases h
theorem ev_fmtR (hgd : X.A.guards = some []) (hu : X.A.units + 64 < cLine) (ha : EV X g E a fa) : EV X g E (.FormattedValue a 114 none pos) (bnd fa fun d => lft (shR d)) := by
  refine PE_imp (pe_fmtS hgd hu ha) fun σ H Q hq => ?_
  obtain ⟨ok, ρ, w, h⟩ := hq
  refine ⟨ok, ρ, w, (Rs.bnd (RA := relD X.K) h).mono fun v1 H1 hq => ?_⟩
  obtain ⟨ok1, ρ1, d, w1, f1, r1, h1⟩ := hq
  unfold lft at h1
  have r1 : Rep X.K ok1 H1 v1 d := r1
  cases es : shR d with
  | none => rw [es] at h1; exact h1.elim
  | some z =>
    rw [es] at h1
    obtain ⟨p, e1, e2⟩ := shR_shD es
    have isr : ∃ q, v1 = .ref q := by
      unfold shR at es
      split at es
      · cases r1 with
        | lst => exact ⟨_, rfl⟩
      · cases r1 with
        | lstF => exact ⟨_, rfl⟩
      · cases r1 with
        | tupO => exact ⟨_, rfl⟩
      · cases r1 with
        | tupF => exact ⟨_, rfl⟩
      · cases es
    unfold showP at e2
    split at e2
    · rename_i hz
      cases e2
      exact ⟨isr.imp fun _ e => by rw [e], true, v1, p, rfl, Rep.sh r1 e1, hz.1, hz.2.1, hz.2.2, h1 (.str _) H1 ok1 w1 Sx.refl (.str _)⟩
    · cases e2
def jnP : List (P D) → Str → P D
  | [], acc => prt (.str acc)
  | f :: fs, acc => bnd f fun d => match d with
    | .str y => if (acc ++ y).length ≤ sizeLine then jnP fs (acc ++ y) else fun _ => none
    | _ => fun _ => none
theorem jn_asks : ∀ (fs : List (P D)) (acc : Str) (σ : L2.St) (H : Hp) (Q : VK), tX X.K g E (relD X.K) (jnP fs acc) σ H Q → tJs (fs.map fun f => tX X.K g E (relD X.K) f) acc σ H fun out H1 => Q (.str out) H1
  | [], acc, σ, H, Q, hq => by
    obtain ⟨ok, ρ, w, h⟩ := hq
    exact h (.str acc) H ok w Sx.refl (.str acc)
  | f :: fs, acc, σ, H, Q, hq => by
    obtain ⟨ok, ρ, w, h⟩ := hq
    refine ⟨ok, ρ, w, (Rs.bnd (RA := relD X.K) h).mono fun v1 H1 hq => ?_⟩
    obtain ⟨ok1, ρ1, d, w1, f1, r1, h1⟩ := hq
    have r1 : Rep X.K ok1 H1 v1 d := r1
    cases d with
    | str y =>
      cases r1
      by_cases hz : (acc ++ y).length ≤ sizeLine
      · simp only [hz, if_true] at h1
        exact ⟨y, rfl, hz, jn_asks fs (acc ++ y) σ H1 Q ⟨ok1, ρ1, w1, h1⟩⟩
      · simp only [if_neg hz] at h1
        exact h1.elim
    | _ => exact h1.elim
structure EJ (X : Cx) (g : Gx) (E : Wx) (es : List Expr) (fs : List (P D)) : Prop where
  run : PJ X es (fs.map fun f => tX X.K g E (relD X.K) f)
theorem ej_nil : EJ X g E [] [] := ⟨.nil⟩
theorem ej_cons {es : List Expr} {fs : List (P D)} (h : EV X g E e fe) (r : EJ X g E es fs) : EJ X g E (e :: es) (fe :: fs) := ⟨.cons h r.run⟩
theorem ev_joined {v1 v2 : Expr} {rest : List Expr} {fs : List (P D)} (h : EJ X g E (v1 :: v2 :: rest) fs) : EV X g E (.JoinedStr (v1 :: v2 :: rest) pos) (jnP fs Str.empty) :=
  PE_imp (pe_joined h.run) fun σ H Q hq => jn_asks fs Str.empty σ H Q hq
end
end Pu
/-! C.m(key = v): a class method that is called with one keyword. -/
namespace Pu
open PySem PySem.Spec PyProof.Rows L2 Kv
section
variable {X : Cx} {g : Gx} {E : Wx} {k n : Nat} {C gf q : Addr} {x m f key : Str} {F : P R} {p p' pos apos : Pos} {e o a : Expr} {fe : P D} {kw : Keyword}
end
section
variable {P' : Program} {w : World} {K : PySem.W.Frag} {mg : Str → Option Value} {base : Heap} {T : List (Addr × Str)}
end
end Pu
/-! Methods with default values, all of whose values are written at the call. -/
namespace Pu
open PySem PySem.Spec PyProof.Rows L2 Kv
section
variable {P' : Program} {w : World} {K : PySem.W.Frag} {mg : Str → Option Value} {base : Heap} {CX : CXT} {T : List (Addr × Str)}
end
section
variable {P' : Program} {w : World} {K : PySem.W.Frag} {mg : Str → Option Value} {base : Heap} {T : List (Addr × Str)}
end
end Pu
/-! A new thing of one's own that is lent to a def at the call and then dropped: f(new, ..). -/
namespace Pu
open PySem PySem.Spec PyProof.Rows L2 Kv
section
variable {K : PySem.W.Frag} {g : Gx} {E : Wx} {ok ok0 ok' : Addr → Prop} {ρ ρ0 : En} {σ : L2.St} {H H0 H' : Hp} {q : Addr} {d d' : D}
end
section
variable {γ δ α β : Type} {K : PySem.W.Frag} {g : Gx} {E : Wx} {ok ok0 : Addr → Prop} {ρ ρ0 : En} {σ : L2.St} {H H0 : Hp}
end
section
variable {X : Cx} {g : Gx} {E : Wx} {k n : Nat} {x : Str} {F : P R} {p pos : Pos} {e : Expr} {es : List Expr} {fe : P R} {fr : P (List D)}
end
end Pu
/-! {k: v for x in xs if ..}: keys that are ints, texts or tuples of them. -/
namespace Pu
open PySem PySem.Spec PyProof.Rows L2 Kv
section
variable {X : Cx}
end
end Pu
/-! Dict comprehensions as steps on trees. -/
namespace Pu
open PySem PySem.Spec PyProof.Rows L2 Kv
section
variable {K : PySem.W.Frag} {g : Gx} {ok ok' : Addr → Prop} {ρ ρ' : En} {σ : L2.St} {H H' : Hp} {q : Addr} {acc acc' k v : D} {yk yv : V}
end
section
variable {X : Cx} {g : Gx} {E : Wx}
end
end Pu
/-! x in xs, xs.index(x) where the items are any data without dicts. -/
namespace Pu
open PySem PySem.Spec PyProof.Rows L2 Kv
def inP (x y : D) : Option Bool := match toPy x, toPy y with
  | some d, some (.list xs) => if PyData.plainAll xs = true ∧ d.plain = true ∧ d.depth ≤ 60 then some (xs.any fun e => PyData.eqv e d) else none
  | some d, some (.tuple xs) => if PyData.plainAll xs = true ∧ d.plain = true ∧ d.depth ≤ 60 then some (xs.any fun e => PyData.eqv e d) else none
  | _, _ => none
def inX (x y : D) : Option Bool := (inD x y).orElse fun _ => inP x y
def opInX (x y : D) : Option D := (inX x y).map D.bl
def opNotInX (x y : D) : Option D := (inX x y).map fun b => D.bl (!b)
theorem opInX_of {x y z : D} (h : opIn x y = some z) : opInX x y = some z := by
  unfold opIn at h
  unfold opInX inX
  cases e : inD x y with
  | none => rw [e] at h; cases h
  | some b => rw [e] at h; exact h
theorem opNotInX_of {x y z : D} (h : opNotIn x y = some z) : opNotInX x y = some z := by
  unfold opNotIn at h
  unfold opNotInX inX
  cases e : inD x y with
  | none => rw [e] at h; cases h
  | some b => rw [e] at h; exact h
theorem Pk.sh {K : PySem.W.Frag} {ok : Addr → Prop} {H : Hp} {v : V} {d : D} {p : PyData} (r : Pk K ok H v d) (h : toPy d = some p) : Sh K true H v p := by
  rcases r with r | ⟨q, rfl, o⟩
  · exact Rep.sh r h
  · cases d with
    | lst ds =>
      obtain ⟨vs, e, rs⟩ := o
      obtain ⟨ps, e2, rfl⟩ := map_some (show (toPys _).map PyData.list = some _ from h)
      exact .lst (.inl (.inl e)) (fun z => by cases z) (Reps.sh rs e2)
    | dic ks ds => cases h
    | dct ks ds => cases h
    | obj C ns ds => cases h
    | lsta a ds =>
      obtain ⟨_, vs, e, rs⟩ := o
      obtain ⟨ps, e2, rfl⟩ := map_some (show (toPys _).map PyData.list = some _ from h)
      exact .lst (.inl (.inl e)) (fun z => by cases z) (Reps.sh rs e2)
    | _ => exact o.elim
def rInP (K : PySem.W.Frag) (neg : Bool) : R2 := fun x y H Q => ∃ d xs, Sh K true H x d ∧ (Sh K true H y (.list xs) ∨ Sh K true H y (.tuple xs)) ∧ PyData.plainAll xs = true ∧ d.plain = true ∧ d.depth ≤ 60 ∧
  Q (.bl (if neg then !(xs.any fun e => PyData.eqv e d) else xs.any fun e => PyData.eqv e d)) H
section
variable {X : Cx}
theorem op_inP (hu : X.A.units + 64 < cLine) : OpR X (compareOp .In) (rInP X.K false) := by
  intro pins s σ H x y v u Q I rx ry h
  obtain ⟨d, xs, sx, sy, p1, p2, p3, q⟩ := h
  obtain ⟨as, rd, _⟩ := sx.reads I rx
  rcases sy with sy | sy
  · obtain ⟨bs, ry', _⟩ := sy.reads I ry
    exact PySem.SeqAt.in_list_data ry' rd p1 p2 (by have := Nat.min_le_right (PyData.depthAll xs) d.depth; omega) ⟨.bl _, H, I, rfl, q⟩
  · obtain ⟨bs, ry', _⟩ := sy.reads I ry
    exact PySem.SeqAt.in_tuple_data ry' rd p1 p2 (by have := Nat.min_le_right (PyData.depthAll xs) d.depth; omega) ⟨.bl _, H, I, rfl, q⟩
theorem op_notInP (hu : X.A.units + 64 < cLine) : OpR X (compareOp .NotIn) (rInP X.K true) := by
  intro pins s σ H x y v u Q I rx ry h
  obtain ⟨d, xs, sx, sy, p1, p2, p3, q⟩ := h
  obtain ⟨as, rd, _⟩ := sx.reads I rx
  rcases sy with sy | sy
  · obtain ⟨bs, ry', _⟩ := sy.reads I ry
    exact PySem.SeqAt.notIn_list_data ry' rd p1 p2 (by have := Nat.min_le_right (PyData.depthAll xs) d.depth; omega) ⟨.bl _, H, I, rfl, q⟩
  · obtain ⟨bs, ry', _⟩ := sy.reads I ry
    exact PySem.SeqAt.notIn_tuple_data ry' rd p1 p2 (by have := Nat.min_le_right (PyData.depthAll xs) d.depth; omega) ⟨.bl _, H, I, rfl, q⟩
def rInX (K : PySem.W.Frag) (neg : Bool) : R2 := fun x y H Q => rInA K neg x y H Q ∨ rInP K neg x y H Q
theorem op_inX (hu : X.A.units + 64 < cLine) : OpR X (compareOp .In) (rInX X.K false) := (op_inA (by omega)).or (op_inP hu)
theorem op_notInX (hu : X.A.units + 64 < cLine) : OpR X (compareOp .NotIn) (rInX X.K true) := (op_notInA (by omega)).or (op_notInP hu)
theorem o2_inXN (neg : Bool) : Op2 X.K (rInX X.K neg) (fun x y => (inX x y).map fun b => D.bl (if neg then !b else b)) := by
  intro g ρ σ ok H u v x y z Q w r1 r2 e q
  have e : (inX x y).map (fun b => D.bl (if neg then !b else b)) = some z := e
  cases e1 : inD x y with
  | some b =>
    have e2 : inX x y = some b := by unfold inX; rw [e1]; rfl
    rw [e2] at e
    exact .inl (o2_inN neg g ρ σ ok H u v x y z Q w r1 r2 (by show (inD x y).map _ = some z; rw [e1]; exact e) q)
  | none =>
    have e2 : inX x y = inP x y := by unfold inX; rw [e1]; rfl
    rw [e2] at e
    cases e3 : inP x y with
    | none => rw [e3] at e; cases e
    | some b =>
      rw [e3] at e
      have hz : z = .bl (if neg then !b else b) := (Option.some.inj e).symm
      subst hz
      refine .inr ?_
      have key : ∀ d xs, toPy x = some d → (toPy y = some (.list xs) ∨ toPy y = some (.tuple xs)) → PyData.plainAll xs = true ∧ d.plain = true ∧ d.depth ≤ 60 → b = (xs.any fun e => PyData.eqv e d) → rInP X.K neg u v H Q := fun d xs ex ey p hb => by
        refine ⟨d, xs, Rep.sh r1 ex, ?_, p.1, p.2.1, p.2.2, ?_⟩
        · exact ey.imp (fun ey => r2.sh ey) fun ey => r2.sh ey
        · rw [← hb]
          exact q.at w (.bl _)
      unfold inP at e3
      split at e3
      · rename_i d xs ex ey
        split at e3
        · rename_i p
          exact key d xs ex (.inl ey) p (Option.some.inj e3).symm
        · cases e3
      · rename_i d xs ex ey
        split at e3
        · rename_i p
          exact key d xs ex (.inr ey) p (Option.some.inj e3).symm
        · cases e3
      · cases e3
theorem o2_inX : Op2 X.K (rInX X.K false) opInX := o2_inXN false
theorem o2_notInX : Op2 X.K (rInX X.K true) opNotInX := o2_inXN true
end
end Pu
/-! t.index(x) of a tuple of data. -/
namespace Pu
open PySem PySem.Spec PyProof.Rows L2 Kv
section
variable {X : Cx}
end
end Pu
/-! Tuples of which it is known that they are plain: tuple(list) makes one; t.index(x) asks one. -/
namespace Pu
open PySem PySem.Spec PyProof.Rows L2 Kv
section
variable {X : Cx} {g : Gx} {E : Wx} {a o e : Expr} {fa fo fe : P D} {apos cpos p pos : Pos}
/-! ### t.index(x) -/
end
end Pu
/-! t + u of tuples of any sort, the empty one too. -/
namespace Pu
open PySem PySem.Spec PyProof.Rows L2 Kv
def catT (x y : D) : Option D := match tupOf x, tupOf y with
  | some xs, some ys => if xs.length + ys.length ≤ sizeLine then some (if xs.isEmpty = true then y else if ys.isEmpty = true then x else .tup (xs ++ ys)) else none
  | _, _ => none
def opAddX (x y : D) : Option D := (opAdd x y).orElse fun _ => catT x y
theorem opAddX_of {x y z : D} (h : opAdd x y = some z) : opAddX x y = some z := by unfold opAddX; rw [h]; rfl
def rAddX (K : PySem.W.Frag) : R2 := fun x y H Q => rAddA K x y H Q ∨ rCatA K x y H Q
section
variable {X : Cx} {K : PySem.W.Frag} {ok : Addr → Prop} {H : Hp}
theorem op_addX : OpR X (binaryOp .Add) (rAddX X.K) := op_addA.or op_catA
theorem Rep.tupq {v : V} {x : D} {xs : List D} (r : Rep K ok H v x) (h : tupOf x = some xs) : ∃ a vs, v = .ref a ∧ SqT K H a vs ∧ Reps K ok H vs xs := by
  cases r with
  | tupO h1 rs => cases h; exact ⟨_, _, rfl, h1.sq, rs⟩
  | tupF h1 rs => cases h; exact ⟨_, _, rfl, h1.sq, rs⟩
  | _ => cases h
theorem Pk.tupr {v : V} {x : D} {xs : List D} (r : Pk K ok H v x) (h : tupOf x = some xs) : Rep K ok H v x := by
  rcases r with r | ⟨q, rfl, o⟩
  · exact r
  · cases x <;> first | exact o.elim | cases h
theorem Reps.nil_iff {vs : List V} {xs : List D} (r : Reps K ok H vs xs) : vs = [] ↔ xs = [] := by
  cases r <;> simp
theorem o2_addX : Op2 X.K (rAddX X.K) opAddX := by
  intro g ρ σ ok H u v x y z Q w r1 r2 e q
  cases e1 : opAdd x y with
  | some b =>
    unfold opAddX at e
    rw [e1] at e
    exact .inl (o2_add g ρ σ ok H u v x y z Q w r1 r2 (e1.trans e) q)
  | none =>
    unfold opAddX at e
    rw [e1] at e
    have e : catT x y = some z := e
    unfold catT at e
    split at e
    · rename_i xs ys ex ey
      split at e
      · rename_i hz
        cases e
        obtain ⟨a, vs, rfl, h1, rx⟩ := r1.tupq ex
        have r2' := r2.tupr ey
        obtain ⟨b, ws, rfl, h2, ry⟩ := r2'.tupq ey
        refine .inr ⟨a, b, vs, ws, rfl, rfl, h1, h2, by rw [rx.length, ry.length]; exact hz, fun h => ?_, fun h h' => ?_, fun h h' p np => ?_⟩
        · have hx : xs = [] := rx.nil_iff.mp h
          subst hx
          exact q.at w r2'
        · have hx : xs.isEmpty = false := by
            cases xs with
            | nil => exact absurd (rx.nil_iff.mpr rfl) h
            | cons _ _ => rfl
          have hy : ys = [] := ry.nil_iff.mp h'
          subst hy
          simp only [hx] at q
          exact q.at w r1
        · have hx : xs.isEmpty = false := by
            cases xs with
            | nil => exact absurd (rx.nil_iff.mpr rfl) h
            | cons _ _ => rfl
          have hy : ys.isEmpty = false := by
            cases ys with
            | nil => exact absurd (ry.nil_iff.mpr rfl) h'
            | cons _ _ => rfl
          simp only [hx, hy] at q
          exact q.new w np fun kp ep f => .tup ep ((rx.fr f).app (ry.fr f))
      · cases e
    · cases e
end
end Pu
/-! f(k = e, ..): a def that is called with keywords only, in any order. -/
namespace Pu
open PySem PySem.Spec PyProof.Rows L2 Kv
abbrev EK (X : Cx) (g : Gx) (E : Wx) (kws : List Keyword) (f : P (List D)) : Prop := PK X kws (tX X.K g E (relA X.K) f)
section
variable {K : PySem.W.Frag} {ok : Addr → Prop} {H : Hp}
theorem Reps.at {vs : List V} {ds : List D} (r : Reps K ok H vs ds) : ∀ i : Nat, (vs[i]? = none ∧ ds[i]? = none) ∨ ∃ v d, vs[i]? = some v ∧ ds[i]? = some d ∧ Rep K ok H v d := by
  induction ds generalizing vs with
  | nil => cases r; exact fun i => .inl ⟨by simp, by simp⟩
  | cons d ds ih =>
    cases r with
    | cons a t =>
      intro i
      cases i with
      | zero => exact .inr ⟨_, _, rfl, rfl, a⟩
      | succ i => simpa using ih t i
end
section
variable {X : Cx} {g : Gx} {E : Wx} {k n : Nat} {x : Str} {F : P R} {p pos kp : Pos} {e : Expr} {kws : List Keyword} {fa : P D} {fr : P (List D)} {keys : List Str} {ix : List Nat} {nm : Option Str}
theorem ek_nil : EK X g E [] (prt []) := ⟨fun pos pins s σ H Q I hq => pk_nil.run pos pins s σ H Q I (tX_ret (v := ([] : List V)) hq fun _ _ _ => .nil)⟩
theorem ek_cons (ha : EV X g E e fa) (hr : EK X g E kws fr) : EK X g E (⟨nm, e, kp⟩ :: kws) (consA fa fr) := by
  refine ⟨fun pos pins s σ H Q I hq => (pk_cons (nm := nm) (kpos := kp) ha hr).run pos pins s σ H Q I ?_⟩
  obtain ⟨ok, ρ, w, h⟩ := hq
  refine ⟨ok, ρ, w, (Rs.bnd (RA := relD X.K) h).mono fun v1 H1 hq => ?_⟩
  obtain ⟨ok1, ρ1, x, w1, f1, r1, h1⟩ := hq
  refine ⟨ok1, ρ1, w1, (Rs.bnd (RA := relA X.K) h1).mono fun v2 H2 hq => ?_⟩
  obtain ⟨ok2, ρ2, y, w2, f2, r2, h2⟩ := hq
  exact h2 _ H2 ok2 w2 Sx.refl (.cons (Rep.fr f2.fr r1) r2)
end
section
variable {P' : Program} {w : World} {K : PySem.W.Frag} {mg : Str → Option Value} {base : Heap} {T : List (Addr × Str)}
end
end Pu
/-! One loop of a comprehension over any body: what lies at Dd grows, the rest is as a step leaves it. -/
namespace Pu
open PySem PySem.Spec PyProof.Rows L2 Kv
structure Sd (Dd : Addr) (σ : L2.St) (ρ : En) (ok : Addr → Prop) (H : Hp) (σ' : L2.St) (ρ' : En) (ok' : Addr → Prop) (H' : Hp) : Prop where
  fr : Fr ok H ok' H'
  keep : ∀ a o, H a = some o → a ≠ Dd → ¬ wrs ρ σ a → KeptO ok H' a o
  sub : ∀ a, wrs ρ' σ' a → wrs ρ σ a
  grow : ∀ a o, H a = some o → a ≠ Dd → ok' a → ok a ∨ wrs ρ σ a
section
variable {Dd : Addr} {σ σ1 σ2 : L2.St} {ρ ρ1 ρ2 : En} {ok ok1 ok2 : Addr → Prop} {H H1 H2 : Hp}
theorem Sd.refl : Sd Dd σ ρ ok H σ ρ ok H := ⟨Fr.refl, fun _ _ h _ _ => .inl h, fun _ h => h, fun _ _ _ _ h => .inl h⟩
theorem Sx.d (s : Sx σ ρ ok H ρ1 ok1 H1) : Sd Dd σ ρ ok H σ ρ1 ok1 H1 := ⟨s.fr, fun a o h _ n => s.keep a o h n, s.sub, fun a o h _ k => s.grow a o h k⟩
theorem Sd.trans (a : Sd Dd σ ρ ok H σ1 ρ1 ok1 H1) (b : Sd Dd σ1 ρ1 ok1 H1 σ2 ρ2 ok2 H2) : Sd Dd σ ρ ok H σ2 ρ2 ok2 H2 :=
  ⟨a.fr.trans b.fr, fun c o h ne n => (a.keep c o h ne n).then (fun o' h' => b.keep c o' h' ne fun z => n (a.sub c z)) (fun z => (a.grow c o h ne z).elim id fun y => absurd y n), fun c h => a.sub c (b.sub c h), fun c o h ne k => by
    obtain ⟨o', h'⟩ := a.fr.there h
    rcases b.grow c o' h' ne k with z | z
    · exact a.grow c o h ne z
    · exact .inr (a.sub c z)⟩
end
section
variable {K : PySem.W.Frag} {g : Gx} {Dd : Addr} {T : Tg} {vs L : List Nat} {gt : TG} {bF : En → D → Option (En × D)} {bT : L2.St → Hp → (Hp → Prop) → Prop} {J : It} {ds : List D} {acc0 accz : D} {σ : L2.St} {ρ1 ρz : En} {ok1 : Addr → Prop} {H1 : Hp} {Fin : Hp → Prop}
end
end Pu
/-! Comprehensions with two fors. -/
namespace Pu
open PySem PySem.Spec PyProof.Rows L2 Kv
abbrev BT := Addr → L2.St → Hp → (Hp → Prop) → Prop
section
variable {K : PySem.W.Frag} {g : Gx} {T1 : Tg} {vs vs1 L1 : List Nat} {gt1 : TG} {bF1 : En → D → Option (En × D)} {bT1 : BT} {ft : P Bool} {fi1 : P (List D)}
end
section
variable {K : PySem.W.Frag} {g : Gx} {E : Wx} {T : Tg} {vs L : List Nat} {gt : TG} {bF : En → D → Option (En × D)} {bT : BT} {fi : P (List D)} {O0 : HO} {new : D} {σ : L2.St} {H : Hp} {Q : VK}
end
end Pu
/-! [e for x in xs if .. for y in ys if ..]. -/
namespace Pu
open PySem PySem.Spec PyProof.Rows L2 Kv
section
variable {K : PySem.W.Frag} {g : Gx} {vs L : List Nat} {ft : P Bool} {fe fk fv : P D}
end
section
variable {X : Cx} {g : Gx} {E : Wx}
end
end Pu
/-! The loops of {k: v for x in xs if .. for y in ys if ..}. -/
namespace Pu
open PySem PySem.Spec PyProof.Rows L2 Kv
section
variable {prog : Program} {w : World} {A : Around} {R : Result → Shared → Prop} {s : Shared} {kx vx ta ia tb ib : Expr} {fa fb : List Expr} {sc : Scope} {pos : Pos} {it acc : Value} {D : Addr} {env : Env}
end
end Pu
/-! {k: v for x in xs if .. for y in ys if ..}: keys that are ints, texts or tuples of them. -/
namespace Pu
open PySem PySem.Spec PyProof.Rows L2 Kv
section
variable {X : Cx}
end
end Pu
/-! .. as steps on trees. -/
namespace Pu
open PySem PySem.Spec PyProof.Rows L2 Kv
section
variable {X : Cx} {g : Gx} {E : Wx}
end
end Pu
/-! x = {k: v for ..}, stored from within. -/
namespace Pu
open PySem PySem.Spec PyProof.Rows L2 Kv
section
variable {X : Cx}
variable {g : Gx} {E : Wx}
end
end Pu
/-! The end of a law whose text has lambdas: tables of code objects are tracked beside the script. -/
namespace Kv
open PySem PySem.Spec PyProof.Rows L2
section
variable {P : Program} {w : World} {K : PySem.W.Frag} {mg mb : Str → Option Value} {CX : CXT} {k : Nat}
  {fa a : Addr} {fd : FuncData} {x : Str} {sp : Sp} {s1 : Shared} {vs : List Value} {ns : List Int} {cs : List (Addr × Addr)}
end
end Kv
/-! A def that makes lambdas: its code object is told. -/
namespace Pu
open PySem PySem.Spec PyProof.Rows L2 Kv
section
variable {P' : Program} {w : World} {K : PySem.W.Frag} {mg : Str → Option Value} {base : Heap} {CX : CXT} {T : List (Addr × Str)}
end
section
variable {P' : Program} {w : World} {K : PySem.W.Frag} {mg : Str → Option Value} {base : Heap} {T : List (Addr × Str)}
end
section
variable {P' : Program} {w : World} {K : PySem.W.Frag} {mg : Str → Option Value} {base : Heap} {T : List (Addr × Str)}
end
end Pu
/-! a, b, c = x, y, z with things of one's own and captured names; a dict of one's own walked; a thing lent, or a value. -/
namespace Pu
open PySem PySem.Spec PyProof.Rows L2 Kv
/-! ### a row of values, some of them new things -/
section
variable {K : PySem.W.Frag} {g : Gx} {E : Wx} {ρ ρ0 ρ1 ρ2 : En} {σ σ0 : L2.St} {ok ok0 ok1 ok2 : Addr → Prop} {H H0 H1 H2 : Hp} {i : Nat}
def setRs : List Nat → List R → En → En
  | i :: is, r :: rs, ρ => setRs is rs (ρ.set i (slR r))
  | _, _, ρ => ρ
end
section
variable {X : Cx} {g : Gx} {E : Wx} {e tg : Expr} {es : List Expr} {fa : P R} {fr : P (List R)} {pos p2 : Pos} {x1 : Nat}
def consR (fa : P R) (fr : P (List R)) : P (List R) := bnd fa fun x => bnd fr fun xs => prt (x :: xs)
def tupR (is : List Nat) (f : P (List R)) : S := sb f fun rs => fun ρ => if is.length = rs.length ∧ rs.length ≤ 1000 then some (.nx (setRs is rs ρ)) else none
end
/-! ### trees without dicts -/
mutual
def ndD : D → Bool
  | .lst xs => ndDs xs
  | .flst xs => ndDs xs
  | .tup xs => ndDs xs
  | .ftup xs => ndDs xs
  | .dic _ _ => false
  | .dct _ _ => false
  | .obj _ _ vs => ndDs vs
  | .exn _ _ _ _ vs => ndDs vs
  | .lsta _ vs => ndDs vs
  | .clo _ _ vs => ndDs vs
  | _ => true
def ndDs : List D → Bool
  | [] => true
  | d :: ds => ndD d && ndDs ds
end
section
variable {K : PySem.W.Frag} {ok : Addr → Prop} {H : Hp} {q : Addr} {od : Obj} {u : HO}
end
/-! ### a dict of one's own is walked -/
def isDD : D → Bool
  | .dic _ _ => true
  | .dct _ _ => true
  | _ => false
def restND (i : Nat) (ρ : En) : Prop := ∀ (j : Nat) (d : D), j ≠ i → ρ[j]? = some (.own d) → ndD d = true
open Classical in
noncomputable def lkR (i : Nat) (f : P R) : P R := fun ρ => match ρ[i]? with
  | some (.own d) => if isDD d = true ∧ restND i ρ then match f (ρ.set i (.val d)) with
      | some (.ok r ρ2) => if ρ2 = ρ.set i (.val d) ∧ ndD r.d = true then some (.ok r ρ) else none
      | _ => none
    else none
  | _ => f ρ
section
variable {X : Cx} {g : Gx} {E : Wx} {e : Expr} {i : Nat} {f : P R}
end
/-! ### a thing lent, or a value handed on -/
def lntB (i : Nat) (fr : P (List Ar)) : P (List Ar) := fun ρ => match ρ[i]? with
  | some (.own _) => lntA i fr ρ
  | some (.val _) => valA (rd i) fr ρ
  | _ => none
section
variable {X : Cx} {g : Gx} {E : Wx} {i : Nat} {y : Str} {p' : Pos} {es : List Expr} {fr : P (List Ar)}
end
end Pu
/-! d.items() of a dict whose keys are tuples, walked. -/
namespace Pu
open PySem PySem.Spec PyProof.Rows L2 Kv
section
variable {X : Cx} {pins : List (Addr × Obj)} {σ : L2.St} {H : Hp} {s : Shared} {d : Addr} {o : Obj}
end
section
variable {P : Program} {w : World} {K : PySem.W.Frag} {d : Addr} {o : Obj} {es : Array DictEntry} {ep : Nat}
end
section
variable {X : Cx} {g : Gx} {E : Wx} {a e : Expr} {fa : P D} {apos cpos : Pos} {td : TE}
end
end Pu
/-! A loop over a list of one's own that the body leaves alone. -/
namespace Pu
open PySem PySem.Spec PyProof.Rows L2 Kv
open Classical in
noncomputable def gdB (L : List Nat) (fb : S) : S := fun ρ => match fb ρ with
  | some o => if ∀ l ∈ L, o.en[l]? = ρ[l]? then some o else none
  | none => none
section
variable {X : Cx} {g : Gx} {E : Wx}
end
end Pu
/-! The first things of a list that is the code's own. -/
namespace Pu
open PySem PySem.Spec PyProof.Rows L2 Kv
section
variable {X : Cx} {g : Gx} {E : Wx} {e : Expr} {fe : P D} {p2 p3 pos : Pos} {k : Int}
end
end Pu
/-! Two dicts with tuples as keys are ==. -/
namespace Kv
open PySem PySem.Calls PySem.Spec PyProof.Rows PyProof.V L2
section
variable {prog : Program} {w : World} {κ : Type} [DecidableEq κ] {knd : HeapKind prog w κ} {A : Around} {E : Value → Shared → Prop} {s : Shared} {a b : Addr} {xs ys : List (κ × Addr × Value)}
end
section
variable {X : Cx}
end
end Kv
/-! == of dicts with tuples as keys, when they are alike. -/
namespace Pu
open PySem PySem.Spec PyProof.Rows L2 Kv
section
variable {X : Cx} {K : PySem.W.Frag} {ok : Addr → Prop} {H : Hp}
end
end Pu
/-! Steps of == and repr of own things, f-strings, keyword calls of class methods. -/
namespace Pu
open PySem PySem.Spec PyProof.Rows L2 Kv
section
variable {ρ : En} {E : QE} {N B C : En → Prop} {T : R → En → Prop} {i j l n : Nat}
theorem w_eqO {A : Addr} {F : P R} {g : R → Option D} {fa fb : P D} {Q : D → En → Prop} (h : W fa ρ (fun d1 ρ1 => W fb ρ1 (fun d2 ρ2 => isObj A "__eq__" d1 = true ∧ isObj A "__eq__" d2 = true ∧ W F (vals [d1, d2]) (fun r _ => ∃ z, g r = some z ∧ Q z ρ2) (fun _ _ _ _ => False)) E) E) : W (eqO A F g fa fb) ρ Q E :=
  w_bnd (h.mono (fun _ _ h => w_bnd (h.mono (fun _ _ h => w_ifT ⟨h.1, h.2.1⟩ (w_bnd (w_quiet (w_app (h.2.2.mono (fun _ _ h => by
    obtain ⟨x, e, q⟩ := h
    exact w_lft e q) fun _ _ _ _ h => h))))) fun _ _ _ _ h => h)) fun _ _ _ _ h => h)
theorem w_jn0 {acc : Str} {Q : D → En → Prop} (h : Q (.str acc) ρ) : W (jnP [] acc) ρ Q E := w_prt h
theorem w_jn1 {f : P D} {fs : List (P D)} {acc : Str} {Q : D → En → Prop} (h : W f ρ (fun d ρ1 => ∃ y, d = .str y ∧ (acc ++ y).length ≤ sizeLine ∧ W (jnP fs (acc ++ y)) ρ1 Q E) E) : W (jnP (f :: fs) acc) ρ Q E :=
  w_bnd (h.mono (fun _ _ h => by
    obtain ⟨y, rfl, hz, q⟩ := h
    exact w_ifT hz q) fun _ _ _ _ h => h)
end
end Pu
/-! More about steps: sizes, written lists, loops, defs. -/
namespace Pu
open PySem PySem.Spec PyProof.Rows L2 Kv
theorem small_le {α : Type} {xs : List α} (h : Nat.ble xs.length 1000 = true) : xs.length ≤ sizeLine := Nat.le_trans (Nat.le_of_ble_eq_true h) (by rw [sizeLine_eq]; decide)
theorem le_line {n : Nat} (h : n ≤ 100000) : n ≤ sizeLine := Nat.le_trans h (by rw [sizeLine_eq]; decide)
theorem lt_line {n : Nat} (h : n < 100000) : n < sizeLine := Nat.lt_of_lt_of_le h (by rw [sizeLine_eq]; decide)
section
variable {ρ : En} {N B C : En → Prop} {T : R → En → Prop} {E : QE} {i j : Nat}
theorem s_gdO {f : S} {d : D} (e : ρ[i]? = some (.own d)) (h : WS f ρ N T B C E) : WS (gdO i f) ρ N T B C E := by
  unfold WS at h ⊢; unfold gdO; rw [e]; exact h
theorem s_gSub {fi : P D} {d : D} (h : WS (gdO i (sb fi fun j => stIx i j d)) ρ N T B C E) : WS (gSub i fi d) ρ N T B C E := h
theorem s_gPut {fi : P D} {d : D} (h : WS (gdO i (sb fi fun j => stPut i j d)) ρ N T B C E) : WS (gPut i fi d) ρ N T B C E := h
theorem s_stIx {xs : List D} {k : Int} {n : Nat} {d : D} (e : ρ[i]? = some (.own (.lst xs))) (hn : L2.ixN xs.length k = some n) (h : N (ρ.set i (.own (.lst (xs.set n d))))) : WS (stIx i (.int k) d) ρ N T B C E := by
  unfold WS stIx; simp only [e, hn]; exact h
theorem w_fn {n : Nat} {as : En} {b : List Nat} {body : S} {Q : R → En → Prop} (hl : lent b 0 as = true) (h : WS body (as ++ List.replicate (n - as.length) .un) (fun ρ => Q (.val .non) (outs as ρ)) (fun r ρ => Q r (outs as ρ)) (fun _ => False) (fun _ => False) (fun c ns ds ρ => E c ns ds (outs as ρ))) : W (fnP n b body) as Q E := by
  unfold W fnP
  rw [if_pos hl]
  unfold WS at h
  split at h
  · exact h.elim
  · rename_i z; rw [z]; exact h
  · rename_i z; rw [z]; exact h
  · exact h.elim
  · exact h.elim
  · rename_i z; rw [z]; exact h
end
section
variable {ρ : En} {E : QE} {Q : R → En → Prop}
/-! ### comprehensions -/
theorem w_lc {fi : P (List D)} {T : Tg} {ft : P Bool} {fe : P D} (h : W fi ρ (fun ds ρ1 => ∃ ys ρ2, lcL T ft fe ds (wipeE ρ1 T.ix) [] = some (ys, ρ2) ∧ Q (.own (.lst ys)) ρ2) E) : W (lc fi T ft fe) ρ Q E := by
  unfold W lc
  unfold W at h
  split at h
  · exact h.elim
  · rename_i z; obtain ⟨ys, ρ2, e, h⟩ := h; simp only [z, e]; exact h
  · rename_i z; simp only [z]; exact h
def NX : QE := fun _ _ _ _ => False
def LT (T : Tg) (ft : P Bool) (fe : P D) (d : D) (ρ : En) (K : Option D → En → Prop) : Prop :=
  ∃ ρ1, gset T d ρ = some ρ1 ∧ W ft ρ1 (fun b ρ2 => if b = true then W fe ρ2 (fun y ρ3 => K (some y) (wipeE ρ3 T.ix)) NX else K none (wipeE ρ2 T.ix)) NX
theorem lcL_step {T : Tg} {ft : P Bool} {fe : P D} {d : D} {ds acc : List D} {K : Option D → En → Prop} {Z : List D → En → Prop} (ha : acc.length < sizeLine) (h : LT T ft fe d ρ K)
    (hk : ∀ o ρ', K o ρ' → ∃ ys ρ2, lcL T ft fe ds ρ' (acc ++ o.toList) = some (ys, ρ2) ∧ Z ys ρ2) : ∃ ys ρ2, lcL T ft fe (d :: ds) ρ acc = some (ys, ρ2) ∧ Z ys ρ2 := by
  obtain ⟨ρ1, e, h⟩ := h
  unfold W at h
  split at h
  · exact h.elim
  · rename_i b ρ2 z
    cases b with
    | false =>
      obtain ⟨ys, ρ3, e2, hz⟩ := hk none _ h
      exact ⟨ys, ρ3, by unfold lcL; simp only [e, z]; rw [Option.toList_none, List.append_nil] at e2; exact e2, hz⟩
    | true =>
      rw [if_pos rfl] at h
      split at h
      · exact h.elim
      · rename_i y ρ3 z2
        obtain ⟨ys, ρ4, e2, hz⟩ := hk (some y) _ h
        exact ⟨ys, ρ4, by unfold lcL; simp only [e, z, z2, if_pos ha]; exact e2, hz⟩
      · exact h.elim
  · exact h.elim
theorem lc_list' {β : Type} {T : Tg} {ft : P Bool} {fe : P D} (f : β → D) {Z : List D → En → Prop} (all : List β) (hb : all.length ≤ 100000) (I : List β → List D → En → Prop)
    (hs : ∀ dn x td acc ρ, all = dn ++ x :: td → I dn acc ρ → LT T ft fe (f x) ρ (fun o ρ' => I (dn ++ [x]) (acc ++ o.toList) ρ')) (hN : ∀ acc ρ, I all acc ρ → Z acc ρ) :
    ∀ (xs dn : List β) {ρ : En} {acc : List D}, all = dn ++ xs → acc.length ≤ dn.length → I dn acc ρ → ∃ ys ρ2, lcL T ft fe (xs.map f) ρ acc = some (ys, ρ2) ∧ Z ys ρ2
  | [], dn, ρ, acc, e, hl, h0 => ⟨acc, ρ, rfl, hN _ _ (by rw [e, List.append_nil]; exact h0)⟩
  | x :: xs, dn, ρ, acc, e, hl, h0 => by
    have hl2 : dn.length + (xs.length + 1) ≤ 100000 := by rw [e, List.length_append, List.length_cons] at hb; exact hb
    refine lcL_step (lt_line (by omega)) (hs dn x xs acc ρ e h0) fun o ρ' h => ?_
    have ho : o.toList.length ≤ 1 := by cases o <;> simp
    exact lc_list' f all hb I hs hN xs (dn ++ [x]) (by rw [e, List.append_assoc]; rfl) (by rw [List.length_append, List.length_append]; exact Nat.add_le_add hl ho) h
theorem lc_list {β : Type} {T : Tg} {ft : P Bool} {fe : P D} (f : β → D) {Z : List D → En → Prop} (all : List β) (hb : all.length ≤ 100000) (I : List β → List D → En → Prop) (h0 : I [] [] ρ)
    (hs : ∀ dn x td acc ρ, all = dn ++ x :: td → I dn acc ρ → LT T ft fe (f x) ρ (fun o ρ' => I (dn ++ [x]) (acc ++ o.toList) ρ')) (hN : ∀ acc ρ, I all acc ρ → Z acc ρ) : ∃ ys ρ2, lcL T ft fe (all.map f) ρ [] = some (ys, ρ2) ∧ Z ys ρ2 :=
  lc_list' f all hb I hs hN all [] rfl (Nat.le_refl _) h0
theorem fm_snoc {β γ : Type} {g : β → Option γ} {dn : List β} {x : β} : dn.filterMap g ++ (g x).toList = (dn ++ [x]).filterMap g := by
  rw [List.filterMap_append]
  cases h : g x <;> simp [List.filterMap_cons, h]
theorem lc_pure {β : Type} {T : Tg} {ft : P Bool} {fe : P D} (f : β → D) (g : β → Option D) {Z : List D → En → Prop} (xs : List β) (hl : xs.length ≤ 100000)
    (hs : ∀ x ∈ xs, LT T ft fe (f x) ρ (fun o ρ' => o = g x ∧ ρ' = ρ)) (hZ : Z (xs.filterMap g) ρ) : ∃ ys ρ2, lcL T ft fe (xs.map f) ρ [] = some (ys, ρ2) ∧ Z ys ρ2 := by
  refine lc_list f xs hl (fun dn acc ρ' => acc = dn.filterMap g ∧ ρ' = ρ) ⟨rfl, rfl⟩ (fun dn x td acc ρ' e h => ?_) fun acc ρ' h => ?_
  · obtain ⟨rfl, rfl⟩ := h
    obtain ⟨ρ1, e1, h⟩ := hs x (by rw [e]; simp)
    refine ⟨ρ1, e1, h.mono (fun b ρ2 h => ?_) fun _ _ _ _ h => h⟩
    split
    · rename_i hb
      rw [if_pos hb] at h
      refine h.mono (fun y ρ3 h => ⟨?_, h.2⟩) fun _ _ _ _ h => h
      rw [h.1, fm_snoc]
    · rename_i hb
      rw [if_neg hb] at h
      refine ⟨?_, h.2⟩
      rw [h.1, fm_snoc]
  · obtain ⟨rfl, rfl⟩ := h
    exact hZ
theorem lc_map {β : Type} {T : Tg} {ft : P Bool} {fe : P D} (f : β → D) (g : β → D) {Z : List D → En → Prop} (xs : List β) (hl : xs.length ≤ 100000)
    (hs : ∀ x ∈ xs, LT T ft fe (f x) ρ (fun o ρ' => o = some (g x) ∧ ρ' = ρ)) (hZ : Z (xs.map g) ρ) : ∃ ys ρ2, lcL T ft fe (xs.map f) ρ [] = some (ys, ρ2) ∧ Z ys ρ2 :=
  lc_pure f (fun x => some (g x)) xs hl hs (by rw [show (fun x => some (g x)) = some ∘ g from rfl, List.filterMap_eq_map]; exact hZ)
theorem lc_filter {β : Type} {T : Tg} {ft : P Bool} {fe : P D} (f : β → D) (p : β → Bool) (g : β → D) {Z : List D → En → Prop} (xs : List β) (hl : xs.length ≤ 100000)
    (hs : ∀ x ∈ xs, LT T ft fe (f x) ρ (fun o ρ' => o = (if p x = true then some (g x) else none) ∧ ρ' = ρ)) (hZ : Z ((xs.filter p).map g) ρ) : ∃ ys ρ2, lcL T ft fe (xs.map f) ρ [] = some (ys, ρ2) ∧ Z ys ρ2 := by
  refine lc_pure f (fun x => if p x = true then some (g x) else none) xs hl hs ?_
  have : xs.filterMap (fun x => if p x = true then some (g x) else none) = (xs.filter p).map g := by
    clear hs hZ hl
    induction xs with
    | nil => rfl
    | cons a l ih =>
      rw [List.filterMap_cons, List.filter_cons]
      cases p a <;> simp [ih]
  rw [this]; exact hZ
end
theorem exOwn {d : D} {t : En} {G : D → En → Prop} (h : G d t) : ∃ d' t', (Slot.own d :: t) = Slot.own d' :: t' ∧ G d' t' := ⟨d, t, rfl, h⟩
theorem pIteT {A B : Prop} (h : A) : if true = true then A else B := by rw [if_pos rfl]; exact h
theorem pIteF {A B : Prop} (h : B) : if false = true then A else B := by rw [if_neg (by decide)]; exact h
theorem pIteB {A B : Prop} {c : Bool} (h1 : c = true → A) (h2 : c = false → B) : if c = true then A else B := by
  cases c
  · exact pIteF (h2 rfl)
  · exact pIteT (h1 rfl)
/-! ### operators -/
section
variable {ρ : En} {E : QE}
theorem w_pow18 {Q : D → En → Prop} (h : Q (.int 1000000000000000000) ρ) : W (lft (opPow (.int 10) (.int 18))) ρ Q E := by
  have e : opPow (.int 10) (.int 18) = some (.int 1000000000000000000) := by
    unfold opPow oI
    simp
  exact w_lft e h
theorem opMul_i {i j : Int} (h : (-(2 ^ 64) < i ∧ i < 2 ^ 64) ∨ (-(2 ^ 64) < j ∧ j < 2 ^ 64)) : opMul (.int i) (.int j) = some (.int (i * j)) := by
  unfold opMul opMulI oI
  have : cMul i j = true := decide_eq_true h
  simp [this]
theorem opFdiv_i {i j : Int} (h : 0 < j ∧ j < 1073741824) : opFdiv (.int i) (.int j) = some (.int (i / j)) := by unfold opFdiv oI; simp [h]
theorem opMod_i {i j : Int} (h : 0 < j) : opMod (.int i) (.int j) = some (.int (i % j)) := by unfold opMod oI; simp [h]
theorem dvm_i {i j : Int} (h : 0 < j ∧ j ≤ 1000000000000) : dvm [.int i, .int j] = some (.tup [.int (i / j), .int (i % j)]) := by unfold dvm i2; simp [h]
theorem rng1_n {n : Nat} (h : n ≤ 100000) : rng1 (.int n) = some ((List.range n).map fun i => .int ((i : Nat) : Int)) := by
  simp only [rng1]
  rw [if_pos ⟨by omega, by omega⟩]
  unfold rngD
  simp
variable {i j : Int} {Q : D → En → Prop}
theorem w_add (h : Q (.int (i + j)) ρ) : W (lft (opAdd (.int i) (.int j))) ρ Q E := w_lft rfl h
theorem w_sub (h : Q (.int (i - j)) ρ) : W (lft (opSub (.int i) (.int j))) ρ Q E := w_lft rfl h
theorem w_lt (h : Q (.bl (decide (i < j))) ρ) : W (lft (opLt (.int i) (.int j))) ρ Q E := w_lft rfl h
theorem w_le (h : Q (.bl (decide (i ≤ j))) ρ) : W (lft (opLe (.int i) (.int j))) ρ Q E := w_lft rfl h
theorem w_gt (h : Q (.bl (decide (j < i))) ρ) : W (lft (opGt (.int i) (.int j))) ρ Q E := w_lft rfl h
theorem w_ge (h : Q (.bl (decide (j ≤ i))) ρ) : W (lft (opGe (.int i) (.int j))) ρ Q E := w_lft rfl h
theorem w_mod (c : 0 < j) (h : Q (.int (i % j)) ρ) : W (lft (opMod (.int i) (.int j))) ρ Q E := w_lft (opMod_i c) h
theorem w_fdiv (c : 0 < j ∧ j < 1073741824) (h : Q (.int (i / j)) ρ) : W (lft (opFdiv (.int i) (.int j))) ρ Q E := w_lft (opFdiv_i c) h
theorem w_mul (c : (-(2 ^ 64) < i ∧ i < 2 ^ 64) ∨ (-(2 ^ 64) < j ∧ j < 2 ^ 64)) (h : Q (.int (i * j)) ρ) : W (lft (opMul (.int i) (.int j))) ρ Q E := w_lft (opMul_i c) h
theorem w_dvm (c : 0 < j ∧ j ≤ 1000000000000) (h : Q (.tup [.int (i / j), .int (i % j)]) ρ) : W (lft (dvm [.int i, .int j])) ρ Q E := w_lft (dvm_i c) h
theorem w_max (h : Q (.int (if j > i then j else i)) ρ) : W (lft (maxI [.int i, .int j])) ρ Q E := w_lft rfl h
theorem w_min (h : Q (.int (if j < i then j else i)) ρ) : W (lft (minI [.int i, .int j])) ρ Q E := w_lft rfl h
theorem w_abs (h : Q (.int (if i < 0 then -i else i)) ρ) : W (lft (absI [.int i])) ρ Q E := w_lft rfl h
theorem w_asB {b : Bool} {Q : Bool → En → Prop} (h : Q b ρ) : W (lft (asB (.bl b))) ρ Q E := w_lft rfl h
theorem w_asI {Q : Option Int → En → Prop} (h : Q (some i) ρ) : W (lft (asI (.int i))) ρ Q E := w_lft rfl h
theorem w_lenL {xs : List D} (h : Q (.int xs.length) ρ) : W (lft (lenD (.lst xs))) ρ Q E := w_lft rfl h
theorem w_lenT {xs : List D} (h : Q (.int xs.length) ρ) : W (lft (lenD (.tup xs))) ρ Q E := w_lft rfl h
theorem w_lenF {xs : List D} (h : Q (.int xs.length) ρ) : W (lft (lenD (.flst xs))) ρ Q E := w_lft rfl h
theorem w_lenD {ks : List Key} {xs : List D} (h : Q (.int ks.length) ρ) : W (lft (lenD (.dic ks xs))) ρ Q E := w_lft rfl h
theorem w_seqL {xs : List D} {Q : List D → En → Prop} (h : Q xs ρ) : W (lft (seqD (.lst xs))) ρ Q E := w_lft rfl h
theorem w_seqT {xs : List D} {Q : List D → En → Prop} (h : Q xs ρ) : W (lft (seqD (.tup xs))) ρ Q E := w_lft rfl h
theorem w_seqF {xs : List D} {Q : List D → En → Prop} (h : Q xs ρ) : W (lft (seqD (.flst xs))) ρ Q E := w_lft rfl h
theorem w_strP {x : Str} {Q : List D → En → Prop} (h : Q (lettersD x) ρ) : W (lft (strP (.str x))) ρ Q E := w_lft rfl h
theorem w_tupL {xs : List D} (h : Q (.tup xs) ρ) : W (lft (tupD (.lst xs))) ρ Q E := w_lft rfl h
theorem w_tupT {xs : List D} (h : Q (.tup xs) ρ) : W (lft (tupD (.tup xs))) ρ Q E := w_lft rfl h
theorem w_rng {n : Nat} {Q : List D → En → Prop} (c : n ≤ 100000) (h : Q ((List.range n).map fun i => .int ((i : Nat) : Int)) ρ) : W (lft (rng1 (.int n))) ρ Q E := by
  have e := rng1_n c
  generalize rng1 (.int n) = o at e ⊢
  exact w_lft e h
theorem w_keys {ks : List Key} {vs : List D} {Q : List D → En → Prop} (h : Q (ks.map keyD) ρ) : W (lft (keysD (.dic ks vs))) ρ Q E := w_lft rfl h
theorem w_cutL {xs : List D} {l u : Option Int} {Q : R → En → Prop} (h : Q (.own (.lst (cutD xs l u))) ρ) : W (lft ((lstOf (.lst xs)).map fun xs => R.own (.lst (cutD xs l u)))) ρ Q E := w_lft rfl h
theorem w_revL {xs : List D} {Q : R → En → Prop} (h : Q (.own (.lst xs.reverse)) ρ) : W (lft (revO (.lst xs))) ρ Q E := w_lft rfl h
theorem w_listL {xs : List D} {Q : R → En → Prop} (h : Q (.own (.lst xs)) ρ) : W (lft (listP (.lst xs))) ρ Q E := w_lft rfl h
theorem w_isN {d : D} (h : Q (.bl (isN d)) ρ) : W (lft (opIs d .non)) ρ Q E := w_lft rfl h
theorem w_isNotN {d : D} (h : Q (.bl (!isN d)) ρ) : W (lft (opIsNot d .non)) ρ Q E := w_lft rfl h
theorem w_ixL {xs : List D} {n : Nat} {d : D} (c : xs[n]? = some d) (h : Q d ρ) : W (lft (ixD (.lst xs) (.int n))) ρ Q E := w_lft (L2.atI_nat c) h
theorem w_ixF {xs : List D} {n : Nat} {d : D} (c : xs[n]? = some d) (h : Q d ρ) : W (lft (ixD (.flst xs) (.int n))) ρ Q E := w_lft (L2.atI_nat c) h
theorem w_ixL0 {x : D} {xs : List D} (h : Q x ρ) : W (lft (ixD (.lst (x :: xs)) (.int 0))) ρ Q E := w_lft (L2.atI_nat (j := 0) rfl : L2.atI (x :: xs) ((0 : Nat) : Int) = some x) h
theorem w_ixLw {xs : List D} {i : Int} {d : D} (c : L2.atI xs i = some d) (h : Q d ρ) : W (lft (ixD (.lst xs) (.int i))) ρ Q E := w_lft c h
theorem w_ixTw {xs : List D} {i : Int} {d : D} (c : L2.atI xs i = some d) (h : Q d ρ) : W (lft (ixD (.tup xs) (.int i))) ρ Q E := w_lft c h
end
/-! ### texts and their lists -/
theorem perm_erase {α : Type} : ∀ (l : List α) (i : Nat) (x : α), l[i]? = some x → (x :: l.eraseIdx i).Perm l
  | [], i, x, h => by simp at h
  | y :: r, 0, x, h => by
    have e : y = x := by simpa using h
    subst e
    exact List.Perm.refl _
  | y :: r, i + 1, x, h => by
    have ih := perm_erase r i x (by simpa using h)
    exact (List.Perm.swap y x (r.eraseIdx i)).trans (ih.cons y)
theorem len_erase {α : Type} {l : List α} {i : Nat} {x : α} (h : l[i]? = some x) : (l.eraseIdx i).length + 1 = l.length :=
  (perm_erase l i x h).length_eq
theorem seqIx {d : Int} {n : Nat} (h0 : 0 ≤ d) (h1 : d < n) : seqIndex? d n = some d.toNat := by
  unfold seqIndex?
  simp only [show ¬ d < 0 by omega, if_false]
  simp [h0, h1]
theorem name_sm {x : Str} (h : nameV (.str x) = true) : Sm 8 x := by
  have h1 : ((decide (1 ≤ x.length) && decide (x.length ≤ 8)) && x.cps.toList.all inAz) = true := h
  simp only [Bool.and_eq_true, decide_eq_true_eq, List.all_eq_true] at h1
  refine ⟨h1.1.2, fun c hc => ?_⟩
  have h2 := of_decide_eq_true (h1.2 c hc)
  have : ∀ z ∈ az, z < 128 := by decide +kernel
  exact this c h2
theorem pop_nat {xs : List D} {i : Nat} {y : D} (hl : xs.length ≤ 100000) (h : xs[i]? = some y) : stPop xs [.int i] = some (y, xs.eraseIdx i) := by
  have hi := (List.getElem?_eq_some_iff.mp h).1
  simp only [stPop]
  rw [if_pos ⟨by omega, by omega⟩, seqIx (by omega) (by omega)]
  simp [h]
theorem map_perm {α : Type} {f : α → D} {ys : List D} {xs : List α} (h : ys.Perm (xs.map f)) : ∃ zs : List α, ys = zs.map f ∧ zs.Perm xs := by
  induction xs generalizing ys with
  | nil => exact ⟨[], List.Perm.eq_nil h, .refl _⟩
  | cons x xs ih =>
    have hm : f x ∈ ys := h.mem_iff.mpr (by simp)
    obtain ⟨a, b, rfl⟩ := List.append_of_mem hm
    have h2 : (a ++ b).Perm (xs.map f) := by
      have : (f x :: (a ++ b)).Perm (f x :: xs.map f) := (List.perm_middle.symm).trans h
      exact this.cons_inv
    obtain ⟨zs, e, p⟩ := ih h2
    have la : a = (zs.take a.length).map f := by
      rw [List.map_take, ← e]; simp
    have lb : b = (zs.drop a.length).map f := by
      rw [List.map_drop, ← e]; simp
    refine ⟨zs.take a.length ++ x :: zs.drop a.length, ?_, ?_⟩
    · rw [List.map_append, List.map_cons, ← la, ← lb]
    · exact List.perm_middle.trans ((by rw [List.take_append_drop]; exact p : (zs.take a.length ++ zs.drop a.length).Perm xs).cons x)
theorem cut_takeD {xs : List D} {k : Nat} : cutD xs none (some (k : Int)) = xs.take k := by
  unfold cutD
  rw [HT.sIx_none, HT.sIx_nat, Nat.sub_zero, List.drop_zero]
  by_cases h : k ≤ xs.length
  · rw [Nat.min_eq_left h]
  · rw [Nat.min_eq_right (by omega), List.take_length, List.take_of_length_le (by omega)]
theorem flV_map (xs : List Str) : flVs (xs.map D.str) = some (xs.map V.str) := by
  induction xs with
  | nil => rfl
  | cons x xs ih => rw [List.map_cons, List.map_cons]; unfold flVs; rw [ih]; rfl
theorem in_strs (x : Str) (xs : List Str) : opIn (.str x) (.lst (xs.map D.str)) = some (.bl (decide (x ∈ xs))) := by
  unfold opIn inD
  simp only [seqD, flV, flV_map, Option.map_some, inV_strs]
theorem notIn_strs (x : Str) (xs : List Str) : opNotIn (.str x) (.lst (xs.map D.str)) = some (.bl (!decide (x ∈ xs))) := by
  unfold opNotIn inD
  simp only [seqD, flV, flV_map, Option.map_some, inV_strs]
theorem in_strsT (x : Str) (xs : List Str) : opIn (.str x) (.tup (xs.map D.str)) = some (.bl (decide (x ∈ xs))) := by
  unfold opIn inD
  simp only [seqD, flV, flV_map, Option.map_some, inV_strs]
theorem eq_str (x y : Str) : opEq (.str x) (.str y) = some (.bl (decide (x = y))) := by
  unfold opEq eqA eqS
  simp only [flV]
  have : scal (.str x) (.str y) = true := rfl
  simp [this]
theorem ne_str (x y : Str) : opNe (.str x) (.str y) = some (.bl (!decide (x = y))) := by
  unfold opNe eqA eqS
  simp only [flV]
  have : scal (.str x) (.str y) = true := rfl
  simp [this]
theorem strsD_map (xs : List Str) : strsD (xs.map D.str) = some xs := by
  induction xs with
  | nil => rfl
  | cons x xs ih => rw [List.map_cons]; unfold strsD; rw [ih]; rfl
theorem blsD_map {α : Type} (f : α → Bool) (xs : List α) : blsD (xs.map fun x => D.bl (f x)) = some (xs.map f) := by
  induction xs with
  | nil => rfl
  | cons x xs ih => rw [List.map_cons]; unfold blsD; rw [ih]; rfl
theorem all_map {α : Type} (f : α → Bool) (xs : List α) : allD (fun bs => bs.all id) (.lst (xs.map fun x => D.bl (f x))) = some (.bl (xs.all f)) := by
  simp only [allD, blsD_map, Option.map_some, List.all_map]
  rfl
theorem any_map {α : Type} (f : α → Bool) (xs : List α) : allD (fun bs => bs.any id) (.lst (xs.map fun x => D.bl (f x))) = some (.bl (xs.any f)) := by
  simp only [allD, blsD_map, Option.map_some, List.any_map]
  rfl
end Pu
/-! Steps of dict comprehensions. -/
namespace Pu
open PySem PySem.Spec PyProof.Rows L2 Kv
section
variable {ρ : En} {E : QE} {Q : R → En → Prop}
end
end Pu
/-! What operators and built-ins give on trees that are lists of texts, hierarchies .. -/
namespace Pu
open PySem PySem.Spec PyProof.Rows L2 Kv
/-! ### isinstance -/
def isS : D → Bool
  | .str _ => true
  | _ => false
def isTp : D → Bool
  | .tup _ => true
  | .ftup _ => true
  | _ => false
theorem isi_of {T : String} {d : D} {b : Bool} {t : String} (h : tyS d = some t) (hk : kitB t T = some b) : isi T d = some (.bl b) := by
  unfold isi; rw [h, Option.bind_some, hk]; rfl
theorem isi_str (d : D) (h : tyS d ≠ none) : isi "str" d = some (.bl (isS d)) := by
  have q0 : kitB "NoneType" "str" = some false := by decide +kernel
  have q1 : kitB "bool" "str" = some false := by decide +kernel
  have q2 : kitB "int" "str" = some false := by decide +kernel
  have q3 : kitB "str" "str" = some true := by decide +kernel
  have q4 : kitB "list" "str" = some false := by decide +kernel
  have q5 : kitB "tuple" "str" = some false := by decide +kernel
  have q6 : kitB "dict" "str" = some false := by decide +kernel
  cases d <;> first | exact absurd rfl h | exact isi_of rfl q0 | exact isi_of rfl q1 | exact isi_of rfl q2 | exact isi_of rfl q3 | exact isi_of rfl q4 | exact isi_of rfl q5 | exact isi_of rfl q6
theorem isi_tuple (d : D) (h : tyS d ≠ none) : isi "tuple" d = some (.bl (isTp d)) := by
  have q0 : kitB "NoneType" "tuple" = some false := by decide +kernel
  have q1 : kitB "bool" "tuple" = some false := by decide +kernel
  have q2 : kitB "int" "tuple" = some false := by decide +kernel
  have q3 : kitB "str" "tuple" = some false := by decide +kernel
  have q4 : kitB "list" "tuple" = some false := by decide +kernel
  have q5 : kitB "tuple" "tuple" = some true := by decide +kernel
  have q6 : kitB "dict" "tuple" = some false := by decide +kernel
  cases d <;> first | exact absurd rfl h | exact isi_of rfl q0 | exact isi_of rfl q1 | exact isi_of rfl q2 | exact isi_of rfl q3 | exact isi_of rfl q4 | exact isi_of rfl q5 | exact isi_of rfl q6
/-! ### == and repr -/
theorem toPys_strs (xs : List Str) : toPys (xs.map D.str) = some (xs.map PyData.str) := by
  induction xs with
  | nil => rfl
  | cons x xs ih => rw [List.map_cons, List.map_cons]; unfold toPys; rw [ih]; rfl
theorem toPys_map {α : Type} (f : α → D) (g : α → PyData) (xs : List α) (h : ∀ x ∈ xs, toPy (f x) = some (g x)) : toPys (xs.map f) = some (xs.map g) := by
  induction xs with
  | nil => rfl
  | cons x xs ih => rw [List.map_cons, List.map_cons]; unfold toPys; rw [ih fun y hy => h y (List.mem_cons_of_mem _ hy), h x (List.mem_cons_self ..)]
theorem sm_ok {n : Nat} {x : Str} (h : Sm n x) : PyData.strOk x = true := by
  unfold PyData.strOk
  rw [← Array.all_toList, List.all_eq_true]
  exact fun c hc => decide_eq_true (Nat.lt_trans (h.2 c hc) (by decide))
theorem canLay_strs (xs : List Str) (hx : ∀ x ∈ xs, PyData.strOk x = true) : PyData.canLayAll0 (xs.map PyData.str) = true ∧ PyData.depthAll (xs.map PyData.str) = 0 := by
  induction xs with
  | nil => exact ⟨by simp [PyData.canLayAll0], by simp [PyData.depthAll]⟩
  | cons x xs ih =>
    have ih := ih fun y hy => hx y (List.mem_cons_of_mem _ hy)
    have h1 := hx x (List.mem_cons_self ..)
    rw [List.map_cons]
    exact ⟨by simp [PyData.canLayAll0, PyData.canLay0, ih.1, h1], by simp [PyData.depthAll, PyData.depth, ih.2]⟩
theorem sh_of {d : D} {p : PyData} {n m : Nat} (h : toPy d = some p) (f : Fit n m p) (hn : n ≤ 60000) (hm : m ≤ 60) : shD d = some (.str p.shown) := by
  have e : shD d = (toPy d).bind showP := by
    unfold shD
    split
    · cases h
    · rfl
  rw [e, h, Option.bind_some]
  unfold showP
  rw [if_pos (f.ok hn hm)]
theorem fitAll_of {α : Type} {n m : Nat} (g : α → PyData) : ∀ xs : List α, (∀ x ∈ xs, Fit n m (g x)) → FitAll ((n + 1) * xs.length) m (xs.map g)
  | [], _ => by rw [List.length_nil, Nat.mul_zero]; exact fitAll_nil
  | x :: xs, h => by
    have := FitAll.cons (h x (List.mem_cons_self ..)) (fitAll_of g xs fun y hy => h y (List.mem_cons_of_mem _ hy))
    rw [List.length_cons, Nat.mul_add, Nat.mul_one, Nat.add_comm]
    exact this
theorem fit_strs {n : Nat} {xs : List Str} (h : ∀ x ∈ xs, Sm n x) : Fit ((n + 1) * xs.length) 1 (.list (xs.map PyData.str)) := Fit.lst (fitAll_of PyData.str xs fun x hx => (h x hx).fit)
theorem sh_strs {n : Nat} {xs : List Str} (h : ∀ x ∈ xs, Sm n x) (hn : (n + 1) * xs.length ≤ 60000) : shD (.lst (xs.map D.str)) = some (.str (PyData.list (xs.map PyData.str)).shown) :=
  sh_of (by simp only [toPy, toPys_strs, Option.map_some]) (fit_strs h) hn (by decide)
theorem eq_int (i j : Int) : opEq (.int i) (.int j) = some (.bl (decide (i = j))) := by
  unfold opEq eqA eqS
  simp only [flV]
  have : scal (.int i) (.int j) = true := rfl
  simp [this]
section
variable {ρ : En} {E : QE} {Q : D → En → Prop}
theorem w_eqI {i j : Int} (h : Q (.bl (decide (i = j))) ρ) : W (lft (opEq (.int i) (.int j))) ρ Q E := w_lft (eq_int i j) h
theorem w_eqS {x y : Str} (h : Q (.bl (decide (x = y))) ρ) : W (lft (opEq (.str x) (.str y))) ρ Q E := w_lft (eq_str x y) h
theorem w_neS {x y : Str} (h : Q (.bl (!decide (x = y))) ρ) : W (lft (opNe (.str x) (.str y))) ρ Q E := w_lft (ne_str x y) h
end
section
variable {ρ : En} {N B C : En → Prop} {T : R → En → Prop} {E : QE} {i : Nat}
theorem WS.toNx {f : S} {G : En → Prop} (h : WS f ρ G (fun _ _ => False) (fun _ => False) (fun _ => False) NX) : ∃ ρ', f ρ = some (.nx ρ') ∧ G ρ' := by
  unfold WS at h
  split at h
  · exact h.elim
  · rename_i z; exact ⟨_, z, h⟩
  · exact h.elim
  · exact h.elim
  · exact h.elim
  · exact h.elim
theorem s_tryN {K : PySem.W.Frag} {c : Value} {fb : S} {fh : Addr → Addr → Value → S}
    (h : WS fb ρ N T B C (fun c0 ns ds ρ' => PySem.W.exmOne K c0 c = some true ∧ ∃ ρX, (∀ a dx, WS (fh a dx c0) (ρ'.set i (.val (.exn a dx c0 ns ds))) (fun ρ2 => ρ2.set i .un = ρX) (fun _ _ => False) (fun _ => False) (fun _ => False) NX) ∧ N ρX)) :
    WS (tryS K c i fb fh) ρ N T B C E := by
  have h2 : WS fb ρ N T B C (fun c0 ns ds ρ' => PySem.W.exmOne K c0 c = some true ∧ ∃ ρX, (∀ a dx, ∃ ρ2, fh a dx c0 (ρ'.set i (.val (.exn a dx c0 ns ds))) = some (.nx ρ2) ∧ ρ2.set i .un = ρX) ∧ N ρX) :=
    h.mono (fun _ h => h) (fun _ _ h => h) (fun _ h => h) (fun _ h => h) fun _ _ _ _ ⟨hx, ρX, hf, hn⟩ => ⟨hx, ρX, fun a dx => WS.toNx (hf a dx), hn⟩
  clear h
  unfold WS at h2 ⊢
  split at h2
  · exact h2.elim
  · rename_i z; rw [tryS_ok z (fun _ _ _ _ q => by cases q)]; exact h2
  · rename_i z; rw [tryS_ok z (fun _ _ _ _ q => by cases q)]; exact h2
  · rename_i z; rw [tryS_ok z (fun _ _ _ _ q => by cases q)]; exact h2
  · rename_i z; rw [tryS_ok z (fun _ _ _ _ q => by cases q)]; exact h2
  · rename_i z
    obtain ⟨hx, ρX, hf, hn⟩ := h2
    rw [tryS_caught (fl := .nx ρX) z hx fun a dx => by
      obtain ⟨ρ2, e, q⟩ := hf a dx
      rw [e]
      show some (Fl.nx (ρ2.set i .un)) = _
      rw [q]]
    exact hn
end
/-! ### dicts with texts as keys -/
theorem valD_str (x : Str) : ∀ {ns : List Str} {ds : List D}, ns.length = ds.length → (valD (ns.map (Sum.inr : Str → Key)) ds (Sum.inr x : Key)).isSome = decide (x ∈ ns)
  | [], [], _ => rfl
  | a :: ns, d :: ds, h => by
    have ih := valD_str x (ns := ns) (ds := ds) (Nat.succ.inj h)
    show (if (Sum.inr a : Key) = Sum.inr x then some d else valD (ns.map (Sum.inr : Str → Key)) ds (Sum.inr x : Key)).isSome = _
    by_cases e : a = x
    · subst e; simp
    · rw [if_neg (keyr_ne e), ih]
      by_cases m : x ∈ ns
      · simp [m]
      · simp [m, Ne.symm e]
theorem in_dic {x : Str} {ns : List Str} {ds : List D} (h : ns.length = ds.length) : opIn (.str x) (.dic (ns.map Sum.inr) ds) = some (.bl (decide (x ∈ ns))) := by
  simp only [opIn, inD, getD, asKey, Option.map_some, valD_str x h]
theorem cells (n : Nat) (c : Int) (h0 : 0 ≤ c) (h1 : c ≤ 100) : ∃ m : Nat, m ≤ 100 ∧ (if (if c < (n : Int) then c else (n : Int)) > 1 then (if c < (n : Int) then c else (n : Int)) else 1) = (m : Int) := by
  refine ⟨(if (if c < (n : Int) then c else (n : Int)) > 1 then (if c < (n : Int) then c else (n : Int)) else 1).toNat, ?_, ?_⟩
  · split <;> split <;> omega
  · split <;> split <;> omega
/-! ### a hierarchy's parts -/
theorem hier_obj {C : Addr} {rows : List Row2} {m : Str} (h : decide (m ∉ [("rows" : Str), "places", "above"]) = true) : isObj C m (hierD C rows) = true := by
  show (decide (C = C) && decide (m ∉ [("rows" : Str), "places", "above"])) = true
  rw [decide_eq_true rfl, Bool.true_and]
  exact h
theorem fld_rows (C : Addr) (rows : List Row2) : fldD C "rows" (hierD C rows) = some (.lst (rows.map rowD)) := (if_pos rfl).trans rfl
theorem fld_places (C : Addr) (rows : List Row2) : fldD C "places" (hierD C rows) = some (.dic ((fsts rows).map Sum.inr) (idxD rows.length)) := (if_pos rfl).trans rfl
theorem fld_above (C : Addr) (rows : List Row2) : fldD C "above" (hierD C rows) = some (.dic ((ancTab rows).map fun p => Sum.inr p.1) ((ancTab rows).map fun p => flagD p.2)) := (if_pos rfl).trans rfl
theorem idx_len (rows : List Row2) : (fsts rows).length = (idxD rows.length).length := by simp [idxD, fsts]
theorem fsts_len (rows : List Row2) : (fsts rows).length = rows.length := by unfold fsts; rw [List.length_map]
theorem above_at {rows : List Row2} {x : Str} (h : x ∈ fsts rows) : ixD (.dic ((ancTab rows).map fun p => Sum.inr p.1) ((ancTab rows).map fun p => flagD p.2)) (.str x) = some (flagD (Anc rows x)) := by
  have key : ∀ tab : Tab, x ∈ tabKeys tab → valD (tab.map fun p => (Sum.inr p.1 : Key)) (tab.map fun p => flagD p.2) (Sum.inr x : Key) = some (flagD (look tab x)) := by
    intro tab
    induction tab with
    | nil => intro h; cases h
    | cons p r ih =>
      intro h
      obtain ⟨y, as⟩ := p
      rw [List.map_cons, List.map_cons]
      unfold valD look
      rw [List.lookup_cons]
      by_cases e : y = x
      · subst e
        rw [if_pos rfl, beq_self_eq_true]; rfl
      · rw [if_neg (keyr_ne e), beq_eq_false_iff_ne.mpr (Ne.symm e)]
        rcases List.mem_cons.mp h with z | z
        · exact absurd z.symm e
        · exact ih z
  have h2 : x ∈ tabKeys (ancTab rows) := by rw [ancTab_keys]; exact h
  simp only [ixD, getD, asKey, Option.map_some, key _ h2, Option.bind_some]
  rfl
theorem in_flag (x : Str) (as : List Str) : opIn (.str x) (flagD as) = some (.bl (decide (x ∈ as))) := in_dic (by simp)
def hasN (ns : List Str) : D → Bool
  | .str x => decide (x ∈ ns)
  | _ => false
end Pu
/-! Steps of in, index and + over data and tuples, of calls with keywords. -/
namespace Pu
open PySem PySem.Spec PyProof.Rows L2 Kv
section
variable {ρ : En} {E : QE}
theorem plain_strs : ∀ xs : List Str, PyData.plainAll (xs.map PyData.str) = true
  | [] => by simp [PyData.plainAll]
  | x :: xs => by rw [List.map_cons]; simp [PyData.plainAll, PyData.plain, plain_strs xs]
end
end Pu
/-! Steps of comprehensions with two fors. -/
namespace Pu
open PySem PySem.Spec PyProof.Rows L2 Kv
section
variable {ρ : En} {E : QE} {acc : D} {K : En → D → Prop}
end
end Pu
/-! What must hold ahead of the newer steps. -/
namespace Pu
open PySem PySem.Spec PyProof.Rows L2 Kv
noncomputable def forG (L : List Nat) (fi : P (List D)) (T : Tg) (fb : S) : S := for' fi T (gdB L fb)
section
variable {ρ : En} {N B C : En → Prop} {T : R → En → Prop} {E : QE} {i : Nat}
theorem s_forG {L : List Nat} {fi : P (List D)} {T' : Tg} {fb : S} (h : W fi ρ (fun ds ρ' => FR T' (gdB L fb) ds ρ' N T E) E) : WS (forG L fi T' fb) ρ N T B C E := s_for h
theorem w_lkV {f : P R} {d : D} {Q : R → En → Prop} (e : ρ[i]? = some (.val d)) (h : W f ρ Q E) : W (lkR i f) ρ Q E := by
  unfold W at h ⊢
  unfold lkR
  rw [e]
  exact h
theorem w_lntBO {fr : P (List Ar)} {d : D} {Q : List Ar → En → Prop} (e : ρ[i]? = some (.own d)) (h : W fr ρ (fun xs ρ2 => Q (.l i :: xs) ρ2) E) : W (lntB i fr) ρ Q E := by
  have h := w_lntA (E := E) e h
  unfold W at h ⊢
  unfold lntB
  rw [e]
  exact h
theorem w_lntBV {fr : P (List Ar)} {d : D} {Q : List Ar → En → Prop} (e : ρ[i]? = some (.val d)) (h : W fr ρ (fun xs ρ2 => Q (.v d :: xs) ρ2) E) : W (lntB i fr) ρ Q E := by
  have h : W (valA (rd i) fr) ρ Q E := w_valA (w_rdV e h)
  unfold W at h ⊢
  unfold lntB
  rw [e]
  exact h
theorem w_consR {fa : P R} {fr : P (List R)} {Q : List R → En → Prop} (h : W fa ρ (fun x ρ1 => W fr ρ1 (fun xs ρ2 => Q (x :: xs) ρ2) E) E) : W (consR fa fr) ρ Q E := w_bnd (h.mono (fun _ _ h => w_bnd (h.mono (fun _ _ h => w_prt h) fun _ _ _ _ h => h)) fun _ _ _ _ h => h)
theorem s_tupR {is : List Nat} {fr : P (List R)} (h : W fr ρ (fun rs ρ' => is.length = rs.length ∧ rs.length ≤ 1000 ∧ N (setRs is rs ρ')) E) : WS (tupR is fr) ρ N T B C E := s_sb (h.mono (fun rs ρ' h => by
  unfold WS
  dsimp only
  rw [if_pos ⟨h.1, h.2.1⟩]
  exact h.2.2) fun _ _ _ _ h => h)
theorem w_seqU {xs : List D} {Q : List D → En → Prop} (h : Q xs ρ) : W (lft (seqD (.ftup xs))) ρ Q E := w_lft rfl h
end
end Pu
/-! A def with default values, some of which a call leaves out. -/
namespace Pu
open PySem PySem.Spec PyProof.Rows L2 Kv
section
variable {P' : Program} {w : World} {K : PySem.W.Frag} {mg : Str → Option Value} {base : Heap} {T : List (Addr × Str)}
end
section
variable {X : Cx} {g : Gx} {E : Wx} {k n : Nat} {x : Str} {F : P R} {dds : List D} {p pos : Pos} {e : Expr} {es : List Expr} {fr : P (List D)}
end
end Pu
/-! A list of one's own lists: x = [f(..), g(..)], whose items are written later. The items are held by names that the text does not know. -/
namespace Pu
open PySem PySem.Spec PyProof.Rows L2 Kv
section
variable {K : PySem.W.Frag} {g : Gx} {E : Wx} {ρ ρ0 ρ1 ρ2 : En} {σ σ0 : L2.St} {ok ok0 ok1 ok2 : Addr → Prop} {H H0 H1 H2 : Hp} {i : Nat}
end
/-! ### names that the text does not know -/
section
variable {X : Cx} {g : Gx} {E : Wx} {rest : List Stmt}
end
/-! ### the names are dropped behind the block -/
section
variable {K : PySem.W.Frag} {g : Gx} {E : Wx} {ρ ρ0 ρ1 ρ2 : En} {σ σ0 : L2.St} {ok ok0 ok1 ok2 : Addr → Prop} {H H0 H1 H2 : Hp} {i : Nat}
end
/-! ### x = [..] -/
open Classical in
section
variable {X : Cx} {g : Gx} {E : Wx} {es : List Expr} {fr : P (List R)} {pos lpos px : Pos} {rest : List Stmt} {i : Nat} {x : Str} {js ds : List Nat} {k : List Addr → S}
open Classical in
open Classical in
end
end Pu
/-! The items of a list of one's own lists: written, shown. -/
namespace Pu
open PySem PySem.Spec PyProof.Rows L2 Kv
def fA (a : Addr) : Nat → En → Option (Nat × List D)
  | _, [] => none
  | n, .own (.lsta b xs) :: ρ => if b = a then some (n, xs) else fA a (n + 1) ρ
  | n, _ :: ρ => fA a (n + 1) ρ
section
variable {X : Cx} {K : PySem.W.Frag} {g : Gx} {E : Wx}
end
/-! ### read with the items' own things -/
section
variable {X : Cx} {K : PySem.W.Frag} {g : Gx} {E : Wx} {ok : Addr → Prop} {ρ : En} {σ : L2.St} {H : Hp}
end
end Pu
/-! A def that gives a list of its own lists: return [f(..), g(..)]; its call: x = d(..), and what follows. -/
namespace Pu
open PySem PySem.Spec PyProof.Rows L2 Kv
section
variable {P' : Program} {w : World} {K : PySem.W.Frag} {mg : Str → Option Value} {base : Heap} {CX : CXT} {T : List (Addr × Str)}
end
section
variable {X : Cx} {g : Gx} {E : Wx} {k' n : Nat} {f : Str} {F : P (List R)} {e : Expr} {es : List Expr} {fr : P (List D)} {pos cpos p px : Pos} {rest : List Stmt} {i : Nat} {x : Str} {js ds : List Nat} {k : List Addr → S}
end
end Pu
/-! Ahead of the steps of Pu59 to Pu61. -/
namespace Pu
open PySem PySem.Spec PyProof.Rows L2 Kv
section
variable {ρ : En} {E : QE} {N : En → Prop} {T : R → En → Prop} {B C : En → Prop}
end
end Pu
/-! list(d.items()), d a dict whose keys are tuples. -/
namespace Pu
open PySem PySem.Spec PyProof.Rows L2 Kv
section
variable {X : Cx} {g : Gx} {E : Wx} {e : Expr} {te : TE} {p apos cpos pos : Pos}
theorem takeT2 {pins : List (Addr × Obj)} {σ : L2.St} {H0 : Hp} {s : Shared} {h' : Heap} {tk : Nat} {P : Addr → List V → Prop} (I0 : Inv X pins σ H0 s) : ∀ (L : List Addr) (H1 : Hp), Inv X pins σ H1 { s with heap := h', toks := tk } → L.Nodup →
    (∀ a ∈ L, s.heap.objs.size ≤ a ∧ H0 a = none ∧ H1 a = none ∧ ∃ vs, P a vs ∧ ∀ H2, ObjOk X.prog X.w H2 h' a (.tup vs)) →
    ∃ H2, Inv X pins σ H2 { s with heap := h', toks := tk } ∧ (∀ b o, H1 b = some o → H2 b = some o) ∧ (∀ b, b ∉ L → H2 b = H1 b) ∧ ∀ a ∈ L, ∃ vs, P a vs ∧ H2 a = some (.tup vs)
  | [], H1, I1, _, _ => ⟨H1, I1, fun _ _ e => e, fun _ _ => rfl, fun _ h => nomatch h⟩
  | a :: L, H1, I1, hn, h => by
    obtain ⟨hb, h0, hnone, vs, hP, ok⟩ := h a (List.mem_cons_self ..)
    have I2 : Inv X pins σ (upd H1 a (.tup vs)) { s with heap := h', toks := tk } := I1.take (h' := h') (t' := tk) (fun b ob _ e => e) (by
      obtain ⟨_, r⟩ := I0.fpOk hb h0
      exact ⟨hnone, r⟩) (ok _)
    rw [List.nodup_cons] at hn
    obtain ⟨H2, I3, g, o, q⟩ := takeT2 I0 L (upd H1 a (.tup vs)) I2 hn.2 fun c hc => by
      obtain ⟨c1, c0, c2, c3⟩ := h c (List.mem_cons_of_mem _ hc)
      exact ⟨c1, c0, by rw [upd_ne (fun z => hn.1 (by rw [← z]; exact hc))]; exact c2, c3⟩
    refine ⟨H2, I3, fun b o e => g b o (by rw [upd_ne (ne_of_none e hnone)]; exact e), fun b hb2 => ?_, fun c hc => ?_⟩
    · rw [o b fun z => hb2 (List.mem_cons_of_mem _ z), upd_ne fun z => hb2 (by rw [z]; exact List.mem_cons_self ..)]
    · rcases List.mem_cons.mp hc with rfl | hc
      · exact ⟨vs, hP, g _ _ upd_same⟩
      · exact q c hc
end
/-! ### as a step -/
section
variable {X : Cx} {g : Gx} {E : Wx} {e : Expr} {fa : P D} {p apos cpos pos : Pos}
end
end Pu
/-! dict(pairs) and d.pop(k), keys tuples. -/
namespace Pu
open PySem PySem.Spec PyProof.Rows L2 Kv
section
variable {X : Cx}
end
/-! ### as steps -/
section
variable {X : Cx} {g : Gx} {E : Wx} {a : Expr} {fa : P D} {p pos : Pos}
end
/-! ### d.pop(k) -/
section
variable {X : Cx}
end
section
variable {X : Cx} {g : Gx} {E : Wx}
end
end Pu
/-! len(o) of an own object with its own __len__. -/
namespace Pu
open PySem PySem.Spec PyProof.Rows L2 Kv
section
variable {prog : Program} {w : World} {A : Around} {E : Value → Shared → Prop} {s : Shared} {K : PySem.W.Frag} {x C f : Addr} {ox : Obj} {od : Option Obj}
end
section
variable {X : Cx} {g : Gx} {k : Nat} {C : Addr} {F : P R}
end
section
variable {ρ : En} {E : QE}
end
section
variable {X : Cx} {g : Gx} {E : Wx}
end
end Pu
/-! list(zip(a, b, c)) of three tuples. -/
namespace Pu
open PySem PySem.Spec PyProof.Rows L2 Kv
theorem zp_no_len : typeLookup (.type "zip") "__len__" = pure none := am_miss_of_fast (by decide +kernel)
theorem zp_no_hint : typeLookup (.type "zip") "__length_hint__" = pure none := am_miss_of_fast (by decide +kernel)
section
variable {prog : Program} {w : World} {A : Around} {E : Value → Shared → Prop} {s : Shared} {z TI TO T i1 i2 i3 : Addr} {f1 f2 f3 : List Addr} {n1 n2 n3 i : Nat} {P1 P2 P3 : Nat → Value → Prop} {S1 S2 S3 : Nat → Heap → Prop} {f : Bool} {oT : Obj}
end
section
variable {prog : Program} {w : World} {A : Around} {E : Value → Shared → Prop} {s : Shared} {z TI TO T i1 i2 i3 : Addr} {f1 f2 f3 : List Addr} {n1 n2 n3 i : Nat} {P1 P2 P3 : Nat → Value → Prop} {S1 S2 S3 : Nat → Heap → Prop} {f : Bool} {oT : Obj}
end
section
variable {prog : Program} {w : World} {A : Around} {E : Value → Shared → Prop} {s : Shared} {z TI TO i1 i2 i3 S N : Addr} {f1 f2 f3 : List Addr} {n i : Nat} {P1 P2 P3 : Nat → Value → Prop} {S1 S2 S3 : Nat → Heap → Prop}
structure LaidZ (P1 P2 P3 : Nat → Value → Prop) (N : Nat) (h : Heap) (acc : Array Value) (i : Nat) : Prop where
  size : acc.size = i
  at_ : ∀ j, j < i → acc[j]? = some (.ref (N + j)) ∧ ∃ x1 x2 x3, P1 j x1 ∧ P2 j x2 ∧ P3 j x3 ∧ IsTupOf3 h (N + j) x1 x2 x3
theorem LaidZ.push {h h' : Heap} {acc : Array Value} {x1 x2 x3 : Value} (l : LaidZ P1 P2 P3 N h acc i) (k : ∀ j, j < i → ∀ o, h.get? (N + j) = some o → h'.get? (N + j) = some o) (p1 : P1 i x1) (p2 : P2 i x2) (p3 : P3 i x3) (t : IsTupOf3 h' (N + i) x1 x2 x3) : LaidZ P1 P2 P3 N h' (acc.push (.ref (N + i))) (i + 1) := by
  refine ⟨by rw [Array.size_push, l.size], fun j hj => ?_⟩
  by_cases e : j = i
  · subst e
    refine ⟨by rw [Array.getElem?_push, if_pos l.size.symm], x1, x2, x3, p1, p2, p3, t⟩
  · obtain ⟨a, y1, y2, y3, b1, b2, b3, b4⟩ := l.at_ j (by omega)
    refine ⟨by rw [Array.getElem?_push, if_neg (by rw [l.size]; exact e)]; exact a, y1, y2, y3, b1, b2, b3, k j (by omega) _ b4⟩
end
theorem nodup_map_inj' {α β : Type} {f : α → β} (hf : ∀ a b, f a = f b → a = b) : ∀ {xs : List α}, xs.Nodup → (xs.map f).Nodup
  | [], _ => List.nodup_nil
  | x :: xs, h => by
    obtain ⟨h1, h2⟩ := List.nodup_cons.mp h
    rw [List.map_cons]
    refine List.nodup_cons.mpr ⟨fun m => ?_, nodup_map_inj' hf h2⟩
    obtain ⟨y, hy, e⟩ := List.mem_map.mp m
    rw [hf _ _ e] at hy
    exact h1 hy
section
variable {X : Cx} {g : Gx} {E : Wx} {a b c : Expr} {p zp cpos pos : Pos} {ta : TA}
end
end Pu
/-! list(zip(a, b, c)) as a step on trees. -/
namespace Pu
open PySem PySem.Spec PyProof.Rows L2 Kv
theorem reps_len {K : PySem.W.Frag} {ok : Addr → Prop} {H : Hp} : ∀ {vs : List V} {ds : List D}, Reps K ok H vs ds → vs.length = ds.length
  | _, _, .nil => rfl
  | _, _, .cons _ r => by rw [List.length_cons, List.length_cons, reps_len r]
section
variable {X : Cx} {g : Gx} {E : Wx} {a b c : Expr} {p zp cpos pos : Pos} {fr : P (List D)}
end
section
variable {ρ : En} {E : QE}
end
end Pu
/-! zip over any number of tuples, the items it gives held by a name. -/
namespace Pu
open PySem PySem.Spec PyProof.Rows L2 Kv
structure ZnMid (n : Nat) (ts : List Addr) (i j : Nat) (h0 h : Heap) : Prop where
  it1 : ∀ (l : Nat) (t : Addr), ts[l]? = some t → l < j → h.IsTupleIter (n + l) t (i + 1)
  it0 : ∀ (l : Nat) (t : Addr), ts[l]? = some t → j ≤ l → h.IsTupleIter (n + l) t i
  kp : ∀ c o, c < n ∨ n + ts.length ≤ c → c ≠ n + ts.length + 1 → h0.get? c = some o → h.get? c = some o
  sz : h.objs.size = h0.objs.size
theorem ZnMid.go {n i j : Nat} {ts : List Addr} {h0 h h' : Heap} {t : Addr} (m : ZnMid n ts i j h0 h) (et : ts[j]? = some t) (s : Heap.SameBut (n + j) h h') (k : h'.IsTupleIter (n + j) t (i + 1)) : ZnMid n ts i (j + 1) h0 h' where
  it1 := fun l u e hl => by
    by_cases q : l = j
    · subst q; rw [et] at e; cases e; exact k
    · exact (m.it1 l u e (by omega)).at fun o z => s.extBut _ _ (fun w => q (Nat.add_left_cancel w)) z
  it0 := fun l u e hl => (m.it0 l u e (by omega)).at fun o z => s.extBut _ _ (fun w => by have := Nat.add_left_cancel w; omega) z
  kp := fun c o hc ne e => by
    have lj := (List.getElem?_eq_some_iff.mp et).1
    exact s.extBut _ _ (fun w => by
      have w : c = n + j := w
      omega) (m.kp c o hc ne e)
  sz := by rw [s.1, m.sz]
section
variable {prog : Program} {w : World} {A : Around} {E : Value → Shared → Prop} {s : Shared}
end
end Pu
/-! zip over any number of tuples: its end, the zip made, the walk. -/
namespace Pu
open PySem PySem.Spec PyProof.Rows L2 Kv
section
variable {prog : Program} {w : World} {A : Around} {E : Value → Shared → Prop} {s : Shared}
end
/-! the zip is made -/
def tupIt (t : Addr) : Obj := { cls := .type "tuple_iterator", data := .fields #[.ref t, .int 0 0] }
end Pu
/-! zip(first, *others) walked by one name, in the tree world. -/
namespace Pu
open PySem PySem.Spec PyProof.Rows L2 Kv
section
variable {X : Cx} {g : Gx} {E : Wx} {a b : Expr} {p pos tpos sp : Pos} {x : Str}
end
/-! ### in the tree world -/
section
variable {X : Cx} {g : Gx} {E : Wx} {a b : Expr} {p pos tpos sp : Pos} {x : Str} {fr : P (List D)}
end
end Pu
/-! A def of the module with a star parameter; a method called with a star alone; o.m(*e). -/
namespace Pu
open PySem PySem.Spec PyProof.Rows L2 Kv
section
variable {P' : Program} {w : World} {K : PySem.W.Frag} {mg : Str → Option Value} {base : Heap} {T : List (Addr × Str)}
end
section
variable {X : Cx} {g : Gx} {E : Wx} {k n : Nat} {C : Addr} {x m : Str} {F : P R} {p pos apos sp : Pos} {e o : Expr} {es : List Expr} {fe : P D} {fr : P (List D)}
end
end Pu
/-! A test that reads the items of a list of one's own lists: while it runs, they are values. -/
namespace Pu
open PySem PySem.Spec PyProof.Rows L2 Kv
open Classical in
section
variable {K : PySem.W.Frag} {g : Gx} {ok : Addr → Prop} {ρ : En} {σ : L2.St} {H : Hp}
end
section
variable {X : Cx} {g : Gx} {E : Wx} {e : Expr} {i : Nat} {js : List Nat} {f : P Bool}
end
end Pu
/-! Ahead of the steps of Pu70 to Pu72. -/
namespace Pu
open PySem PySem.Spec PyProof.Rows L2 Kv
section
variable {ρ : En} {E : QE} {N : En → Prop} {T : R → En → Prop} {B C : En → Prop} {n : Nat}
end
end Pu
/-! a, b, .. = a list. -/
namespace Pu
open PySem PySem.Spec PyProof.Rows L2 Kv
section
variable {X : Cx} {g : Gx} {E : Wx} {e : Expr} {pos : Pos}
end
end Pu
/-! try with several clauses: one class or a tuple of classes, with or without a name. -/
namespace Pu
open PySem PySem.Spec PyProof.Rows L2 Kv
section
variable {X : Cx}
end
abbrev HdT := (Value → Option Bool) × Option Nat × (Addr → Value → Option Addr → TS)
section
variable {X : Cx} {body : List Stmt} {h₀ : ExceptHandler} {hds : List ExceptHandler} {l : List HdT} {pos : Pos} {tb : WX → TS} {Wout : WX}
end
end Pu
/-! try with several clauses, in the tree world; a caught error of one of several classes. -/
namespace Pu
open PySem PySem.Spec PyProof.Rows L2 Kv
abbrev HdS := (Value → Option Bool) × Option Nat × (Addr → Addr → Value → S)
open Classical in
section
variable {X : Cx} {g : Gx} {E : Wx} {body : List Stmt} {h₀ : ExceptHandler} {hds : List ExceptHandler} {l : List HdS} {pos : Pos} {fb : S}
end
/-! ### the caught error's fields, its class one of several -/
open Classical in
section
variable {X : Cx} {g : Gx} {E : Wx} {pos : Pos}
open Classical in
end
end Pu
/-! A lambda without parameters, handed to a def that calls it. -/
namespace Pu
open PySem PySem.Spec PyProof.Rows L2 Kv LamX
section
variable {X : Cx} {pins : List (Addr × Obj)} {σ : L2.St} {H : Hp} {s : Shared}
end
section
variable {X : Cx}
end
end Pu
/-! A lambda without parameters handed to a def that calls it, in the tree world. -/
namespace Pu
open PySem PySem.Spec PyProof.Rows L2 Kv LamX
open Classical in
open Classical in
section
variable {K : PySem.W.Frag} {g : Gx} {E : Wx} {ρ : En} {σ : L2.St} {ok : Addr → Prop} {H : Hp}
def R0 (K : PySem.W.Frag) (H : Hp) (ok' : Addr → Prop) (H' : Hp) (v : V) : R → Prop
  | .val d => Rep K ok' H' v d
  | .own d => ∃ q, v = .ref q ∧ OwnAt K ok' H' q d ∧ ¬ ok' q ∧ H q = none
theorem R0.of {ok' : Addr → Prop} {H' : Hp} {v : V} {r : R} (h : relR K H ok' H' ρ σ v r) : R0 K H ok' H' v r := by
  cases r with
  | val d => exact h
  | own d => obtain ⟨q, e, o, nk, n0, _⟩ := h; exact ⟨q, e, o, nk, n0⟩
end
section
variable {X : Cx} {T : List (Addr × Str)}
end
end Pu
/-! x(lambda: body), the caller's side. -/
namespace Pu
open PySem PySem.Spec PyProof.Rows L2 Kv LamX
section
variable {K : PySem.W.Frag} {g : Gx} {ρ : En} {σ : L2.St} {ok : Addr → Prop} {H : Hp}
end
section
variable {X : Cx} {g : Gx} {E : Wx}
end
end Pu
/-! Ahead of the steps of Pu75 to Pu77. -/
namespace Pu
open PySem PySem.Spec PyProof.Rows L2 Kv
section
variable {ρ : En} {E : QE} {N : En → Prop} {T : R → En → Prop} {B C : En → Prop} {i n : Nat}
end
end Pu
/-! A method with a default value () that a call leaves out. -/
namespace Pu
open PySem PySem.Spec PyProof.Rows L2 Kv
section
variable {P' : Program} {w : World} {K : PySem.W.Frag} {mg : Str → Option Value} {base : Heap} {T : List (Addr × Str)}
end
section
variable {X : Cx} {g : Gx} {E : Wx} {k n : Nat} {C : Addr} {m : Str} {F : P R} {dds : List D} {pos apos : Pos} {o e : Expr} {es : List Expr} {fo : P D} {fr : P (List D)}
end
end Pu
/-! Ahead of the steps of Pu79. -/
namespace Pu
open PySem PySem.Spec PyProof.Rows L2 Kv
section
variable {ρ : En} {E : QE} {n : Nat}
end
end Pu
/-! repr of data with empty dicts within; an empty dict against a tuple. -/
namespace Pu
open PySem PySem.Spec PyProof.Rows L2 Kv
def SysK (K : PySem.W.Frag) : Prop := ((K.lookup sysModules).any fun o => decide (o.cls = .type "dict")) = true
theorem SysK.at {K : PySem.W.Frag} (h : SysK K) : ∃ o, K.lookup sysModules = some o ∧ o.cls = .type "dict" := by
  unfold SysK at h
  cases e : K.lookup sysModules with
  | none => rw [e] at h; cases h
  | some o => rw [e] at h; exact ⟨o, rfl, of_decide_eq_true h⟩
section
variable {X : Cx} {pins : List (Addr × Obj)} {σ : L2.St} {H : Hp} {s : Shared} {ok : Addr → Prop}
theorem SysK.out (h : SysK X.K) (I : Inv X pins σ H s) : H sysModules = none := by
  obtain ⟨o, e, _⟩ := h.at
  exact (I.bs _ o (I.ok.mod.kin _ o e)).2
theorem SysK.lst (h : SysK X.K) (I : Inv X pins σ H s) {a : Addr} {vs : List V} (sq : SqL X.K H a vs) : a ≠ sysModules := fun z => by
  subst z
  obtain ⟨o, e, hc⟩ := h.at
  have n := h.out I
  rcases sq with (h1 | ⟨ob, h1⟩) | ⟨o', its, m, h1, h2, _⟩
  · rw [n] at h1; cases h1
  · rw [n] at h1; cases h1
  · rw [e] at h1
    cases h1
    rw [hc] at h2
    exact absurd (Value.type.inj h2) (by decide)
end
/-! ### repr -/
section
variable {X : Cx}
end
/-! ### an empty dict against a tuple -/
section
open PySem.SeqAt PySem.MeetsSeq AutoSeq1
variable {A : Around} {s : Shared}
end
section
variable {X : Cx}
end
end Pu
/-! {k: v}. -/
namespace Pu
open PySem PySem.Spec PyProof.Rows L2 Kv
section
variable {X : Cx} {g : Gx} {E : Wx} {ek ev : Expr} {fk fv : P D} {pos : Pos}
end
end Pu
/-! A call of a def without arguments. -/
namespace Pu
open PySem PySem.Spec PyProof.Rows L2 Kv
section
variable {X : Cx} {g : Gx} {E : Wx} {k : Nat} {x : Str} {F : P R} {p pos : Pos}
def cal0 (F : P R) : P R := app F []
theorem er_call0 (c : Cal X.prog X.w X.K X.mg X.base g.T k 0 x F) (hgd : X.A.guards = some []) (hr : Room k X.A) (hg : Gl X x) (hx : ∀ σ, PassesAt (L2.CX X.prog X.w) X σ (E σ))
    (hdb : (x == ("__debug__" : Str)) = false := by decide) : ER X g E (.Call (.Name x p) [] [] pos) (cal0 F) := by
  obtain ⟨f, fd, ps, G, hn, m, kp, b⟩ := c.ex
  refine ⟨fun pins s σ H Q I hq => ?_⟩
  obtain ⟨ok, ρ, w, h⟩ := hq
  refine wpAny_Call_Name_kw (ld_glob I hg m ?_ hdb)
  exact PySem.W.callWith_K0 I.kIn kp (runGS (us := []) (vs := []) G hgd hr b (hx σ) I .nil (app_ok w .nil rfl h))
end
end Pu
/-! {(a, b): v, ..}: a display whose keys are tuples of ints and texts. -/
namespace Pu
open PySem PySem.Spec PyProof.Rows L2 Kv
section
variable {prog : Program} {w : World} {K : Type} [DecidableEq K] {knd : HeapKind prog w K} {A : Around} {E : Value → Shared → Prop} {s : Shared} {env : Env}
end
end Pu
/-! The display with tuple keys, on trees. -/
namespace Pu
open PySem PySem.Spec PyProof.Rows L2 Kv
section
variable {X : Cx} {g : Gx} {E : Wx} {pos : Pos}
end
end Pu
/-! Ahead of the steps of Pu80 to Pu83. -/
namespace Pu
open PySem PySem.Spec PyProof.Rows L2 Kv
section
variable {ρ : En} {E : QE}
theorem w_cal0 {F : P R} {Q : R → En → Prop} (h : W F [] (fun r _ => Q r ρ) (fun c ns es _ => E c ns es ρ)) : W (cal0 F) ρ Q E := w_app h
end
end Pu
/-! o.m(a=x, ..): a method called with keywords alone. -/
namespace Pu
open PySem PySem.Spec PyProof.Rows L2 Kv
section
variable {P' : Program} {w : World} {K : PySem.W.Frag} {mg : Str → Option Value} {base : Heap} {T : List (Addr × Str)}
end
section
variable {X : Cx} {g : Gx} {E : Wx} {k n : Nat} {C : Addr} {m : Str} {F : P R} {keys : List Str} {ix : List Nat} {pos apos : Pos} {o : Expr} {kws : List Keyword} {fo : P D} {fr : P (List D)}
end
end Pu
/-! range(a, b); [f, .., g][i](x, ..) of defs. -/
namespace Pu
open PySem PySem.Spec PyProof.Rows L2 Kv
section
variable {X : Cx} {g : Gx} {E : Wx} {a b : Expr} {fa fb : P D} {p pos : Pos}
end
/-! ### [f, .., g][i](x, ..) -/
section
variable {X : Cx} {g : Gx} {E : Wx} {n : Nat} {p pos lpos spos : Pos} {e b : Expr} {es : List Expr} {fi : P D}
end
end Pu
/-! t * n of tuples, n of any size. -/
namespace Pu
open PySem PySem.Spec PyProof.Rows L2 Kv
def repT (x y : D) : Option D := match tupOf x, y with
  | some xs, .int k => if xs = [] ∨ k < 0 ∨ 1000 < k ∨ 1000 < xs.length then none else if k = 0 then some (.tup []) else if k = 1 then some x else some (.tup (List.replicate k.toNat xs).flatten)
  | _, _ => none
def opMulX (x y : D) : Option D := (opMul x y).orElse fun _ => repT x y
section
variable {X : Cx}
end
end Pu
/-! x is True, x is not False. -/
namespace Pu
open PySem PySem.Spec PyProof.Rows L2 Kv
section
variable {X : Cx}
theorem Pk.bool {K : PySem.W.Frag} {ok : Addr → Prop} {H : Hp} {v : V} {b : Bool} (h : Pk K ok H v (.bl b)) : v = .bl b := by
  cases h.rep (fun _ z => by cases z) (fun _ _ z => by cases z) (fun _ _ z => by cases z); rfl
end
end Pu
/-! Ahead of the steps of Pu84 to Pu86. -/
namespace Pu
open PySem PySem.Spec PyProof.Rows L2 Kv
section
variable {ρ : En} {E : QE} {n : Nat}
end
theorem rep_tup {xs : List D} {k : Int} (h0 : 2 ≤ k) (h : k ≤ 1000) (hx : xs ≠ []) (hl : xs.length ≤ 1000) : opMulX (.tup xs) (.int k) = some (.tup (List.replicate k.toNat xs).flatten) := by
  show repT (.tup xs) (.int k) = _
  unfold repT
  show (if xs = [] ∨ k < 0 ∨ 1000 < k ∨ 1000 < xs.length then none else if k = 0 then some (D.tup []) else if k = 1 then some (D.tup xs) else some (D.tup (List.replicate k.toNat xs).flatten)) = _
  rw [if_neg (by simp [hx]; omega), if_neg (by omega), if_neg (by omega)]
end Pu
namespace Lw
open PySem PySem.Spec PyProof.Rows L2 Kv
def topS (i : Nat) : Stmt := PySem.Challenge.pw_fewestmethods_k19_class_methods_of_hiera.main.body.getD i (.Pass ⟨0, 0, 0, 0⟩)
abbrev c_MethodsError : Stmt := topS 2
abbrev i_MethodsError : Stmt := inClass c_MethodsError 0
abbrev c_InvalidHierarchy : Stmt := topS 3
abbrev i_InvalidHierarchy : Stmt := inClass c_InvalidHierarchy 0
abbrev c_InvalidText : Stmt := topS 4
abbrev c_NotFound : Stmt := topS 5
abbrev i_NotFound : Stmt := inClass c_NotFound 0
abbrev sIsName : Stmt := topS 9
abbrev sAre : Stmt := topS 12
abbrev sProb : Stmt := topS 13
abbrev sAnc : Stmt := topS 14
abbrev cHier : Stmt := topS 17
abbrev m_init : Stmt := inClass cHier 1
end Lw
namespace Lw
open PySem PySem.Spec PyProof.Rows L2 Kv
section
variable {P : Program} {w : World} {K : PySem.W.Frag} {mg : Str → Option Value} {base : Heap}
end
section
variable {P : Program} {w : World} {K : PySem.W.Frag} {mg : Str → Option Value} {base : Heap}
end
end Lw
/-! Rows of any kind as trees: what is wrong with them; Hierarchy(rows) made, or refused. -/
namespace Lx
open PySem PySem.Spec PyProof.Rows L2 Kv Pu
def inT (ns : List Str) : D → Bool
  | .str x => decide (x ∈ ns)
  | _ => false
def strT : D → Str
  | .str x => x
  | _ => Str.empty
def nameT : D → Bool
  | .str x => nameV (.str x)
  | _ => false
def areT (ns : List Str) (d : D) : Bool := match tupOf d with
  | some ds => ds.all (inT ns) && decide ((ds.map strT).Nodup)
  | none => false
def probT (ns : List Str) (d : D) : Option Str := match tupOf d with
  | some [a, b] => if nameT a = false then some ("name" : Str) else if inT ns a = true then some ("duplicate" : Str) else if areT ns b = false then some ("superclasses" : Str) else none
  | _ => some ("class" : Str)
def optT : Option Str → V
  | some x => .str x
  | none => .non
def OkR (d : D) : Prop := tyS d ≠ none ∧ ∀ a b, tupOf d = some [a, b] → tyS a ≠ none ∧ (∀ x, a = .str x → x.length ≤ 10000) ∧ tyS b ≠ none ∧ ∀ es, tupOf b = some es → es.length ≤ 900 ∧ ∀ e ∈ es, tyS e ≠ none
open Classical in
noncomputable def judge (acc : List Row2) : List D → Option (Except (Str × Nat) (List Row2))
  | [] => some (.ok acc)
  | d :: ds => if OkR d then match probT (fsts acc) d with
      | some p => some (.error (p, acc.length))
      | none => match Pu.rowOf d with
        | some r => judge (acc ++ [r]) ds
        | none => none
    else none
def textI : List D → Bool
  | [.str p, .int i] => decide (p.length ≤ 100) && decide (0 ≤ i) && decide (i ≤ 1000000)
  | _ => false
noncomputable def mkHE (C CI : Addr) (d : D) : P R := fun ρ => match seqD d with
  | some ds => if ds.length ≤ 90 then match judge [] ds with
      | some (.ok rows) => if rows.length ≤ 20 then some (.ok (.val (hierD C rows)) ρ) else some (.er (.ref CI) ["position", "problem"] [.int 20, .str "count"] ρ)
      | some (.error (p, i)) => some (.er (.ref CI) ["position", "problem"] [.int (i : Nat), .str p] ρ)
      | none => none
    else none
  | none => none
noncomputable def mkE (C CI : Addr) (fe : P D) : P R := bnd fe fun d => mkHE C CI d
/-! ### ahead of the step -/
theorem w_mkE {C CI : Addr} {fe : P D} {ρ : En} {E : QE} {Q : R → En → Prop} (h : W fe ρ (fun d ρ' => ∃ ds o, seqD d = some ds ∧ ds.length ≤ 90 ∧ judge [] ds = some o ∧
    (∀ rows, o = .ok rows → rows.length ≤ 20 → Q (.val (hierD C rows)) ρ') ∧ (∀ rows, o = .ok rows → ¬ rows.length ≤ 20 → E (.ref CI) ["position", "problem"] [.int 20, .str "count"] ρ') ∧
    ∀ p i, o = .error (p, i) → E (.ref CI) ["position", "problem"] [.int (i : Nat), .str p] ρ') E) : W (mkE C CI fe) ρ Q E := by
  refine w_bnd (h.mono (fun d ρ' h => ?_) fun _ _ _ _ h => h)
  obtain ⟨ds, o, e1, e2, e3, h1, h2, h3⟩ := h
  unfold W mkHE
  simp only [e1, if_pos e2, e3]
  cases o with
  | ok rows =>
    by_cases hz : rows.length ≤ 20
    · simp only [if_pos hz]; exact h1 rows rfl hz
    · simp only [if_neg hz]; exact h2 rows rfl hz
  | error q => exact h3 q.1 q.2 rfl
theorem textI_ok {K : PySem.W.Frag} {ok : Addr → Prop} {H : Hp} {vs : List V} {ds : List D} (r : Reps K ok H vs ds) (h : textI ds = true) : ∃ (p : Str) (i : Int), vs = [.str p, .int i] ∧ p.length ≤ 100 ∧ 0 ≤ i ∧ i ≤ 1000000 := by
  unfold textI at h
  split at h
  · rename_i p i
    simp only [Bool.and_eq_true, decide_eq_true_eq] at h
    cases r with
    | cons a t =>
      cases t with
      | cons b t =>
        cases t
        cases a
        cases b
        exact ⟨p, i, rfl, h.1.1, h.1.2, h.2⟩
  · cases h
/-! ### rows that are valid -/
theorem strsD_map : ∀ ss : List Str, Pu.strsD (ss.map D.str) = some ss
  | [] => rfl
  | s :: ss => by
    rw [List.map_cons]
    unfold Pu.strsD
    rw [strsD_map ss]
    rfl
theorem rowOf_row (r : Row2) : Pu.rowOf (rowD r) = some r := by
  show (Pu.strsD (r.2.map D.str)).map _ = _
  rw [strsD_map]
  rfl
theorem strT_map (ss : List Str) : (ss.map D.str).map strT = ss := by
  rw [List.map_map]
  exact List.map_id' ss
theorem areT_strs {ns ss : List Str} : areT ns (.tup (ss.map D.str)) = ((ss.all fun x => decide (x ∈ ns)) && decide ss.Nodup) := by
  show ((ss.map D.str).all (inT ns) && decide (((ss.map D.str).map strT).Nodup)) = _
  rw [strT_map, List.all_map]
  rfl
end Lx
/-! Rows of any kind, as trees, judged by the program's own defs. -/
namespace Lx
open PySem PySem.Spec PyProof.Rows L2 Kv Pu Lw
theorem rep_tup {K : PySem.W.Frag} {ok : Addr → Prop} {H : Hp} {v : V} {d : D} {ds : List D} (r : Rep K ok H v d) (h : tupOf d = some ds) : ∃ a xs, v = .ref a ∧ SqT K H a xs ∧ Reps K ok H xs ds := by
  cases r with
  | tupO h1 h2 => cases h; exact ⟨_, _, rfl, h1.sq, h2⟩
  | tupF h1 h2 => cases h; exact ⟨_, _, rfl, h1.sq, h2⟩
  | _ => cases h
theorem ty_tup {d : D} {t : String} (h : tyS d = some t) : kitB t "tuple" = some (tupOf d).isSome := by
  cases d <;> cases h
  · exact (by decide +kernel : kitB "NoneType" "tuple" = some false)
  · exact (by decide +kernel : kitB "bool" "tuple" = some false)
  · exact (by decide +kernel : kitB "int" "tuple" = some false)
  · exact (by decide +kernel : kitB "str" "tuple" = some false)
  · exact (by decide +kernel : kitB "list" "tuple" = some false)
  · exact (by decide +kernel : kitB "tuple" "tuple" = some true)
  · exact (by decide +kernel : kitB "list" "tuple" = some false)
  · exact (by decide +kernel : kitB "tuple" "tuple" = some true)
  · exact (by decide +kernel : kitB "dict" "tuple" = some false)
  · exact (by decide +kernel : kitB "dict" "tuple" = some false)
theorem ty_str {K : PySem.W.Frag} {ok : Addr → Prop} {H : Hp} {v : V} {d : D} {t : String} (r : Rep K ok H v d) (h : tyS d = some t) : (∃ x, v = .str x ∧ d = .str x ∧ t = "str") ∨ ((∀ x, v ≠ .str x) ∧ (∀ x, d ≠ .str x) ∧ kitB t "str" = some false) := by
  cases r with
  | str x => cases h; exact .inl ⟨x, rfl, rfl, rfl⟩
  | _ =>
    refine .inr ⟨(fun x z => nomatch z), (fun x z => nomatch z), ?_⟩
    cases h <;> decide +kernel
theorem name_rep {K : PySem.W.Frag} {ok : Addr → Prop} {H : Hp} {v : V} {d : D} (r : Rep K ok H v d) : nameV v = nameT d := by
  cases r <;> rfl
theorem rep_same {K : PySem.W.Frag} {ok : Addr → Prop} {H H' : Hp} {v : V} {d : D} (s : Same H H') (r : Rep K ok H v d) : Rep K ok H' v d :=
  r.fr (.of (fun a o h _ => s a o h) (fun _ _ _ k => k) fun a h => s.free h)
theorem strs_ofT {K : PySem.W.Frag} {ok : Addr → Prop} {H : Hp} {ns : List Str} : ∀ {xs : List V} {ds : List D}, Reps K ok H xs ds → ds.all (inT ns) = true → xs = (ds.map strT).map V.str
  | _, _, .nil, _ => rfl
  | _, _, .cons a b, h => by
    rw [List.all_cons, Bool.and_eq_true] at h
    have ih := strs_ofT b h.2
    rw [List.map_cons, List.map_cons, ← ih]
    cases a with
    | str x => rfl
    | _ => cases h.1
theorem scIsName : FnScope ["value", "letter"] ["value"] (defScope sIsName) :=
  ⟨rfl, rfl, rfl, by decide +kernel, rfl, by decide +kernel, by decide +kernel⟩
abbrev NAre : List Str := ["value", "known", "name"]
theorem scAre : FnScope NAre ["value", "known"] (defScope sAre) :=
  ⟨rfl, rfl, rfl, by decide +kernel, rfl, by decide +kernel, by decide +kernel⟩
theorem scProb : FnScope ["row", "known", "name", "superclasses"] ["row", "known"] (defScope sProb) :=
  ⟨rfl, rfl, rfl, by decide +kernel, rfl, by decide +kernel, by decide +kernel⟩
def rIsz (K : PySem.W.Frag) : List V → Hp → VK → Prop := fun xs H Q => ∃ (v c : V) (t u : Value) (bb : Bool), xs = [v, c] ∧ ClsV c u ∧ TyZ K H v t ∧ PySem.W.kitOne K t u = some bb ∧ Q (.bl bb) H
section
variable {P : Program} {w : World} {K : PySem.W.Frag} {mg : Str → Option Value} {base : Heap}
def spName (K : PySem.W.Frag) : Sp := fun vs H Q _ => ∃ (v : V) (ok : Addr → Prop) (d : D), vs = [v] ∧ Rep K ok H v d ∧ tyS d ≠ none ∧ (∀ x, v = .str x → x.length ≤ 10000) ∧ ∀ H', Same H H' → Q (.bl (nameV v)) H'
theorem ok_isname {f : Addr} {fd : FuncData} {k : Nat} {t1 t2 : Tok} (F : Fun K "is_name" "is_name" sIsName f fd)
    (mi : mg "isinstance" = none) (ms : mg "str" = none) (ml : mg "len" = none) (ma : mg "all" = none)
    (g1 : mg "LETTERS" = some (.str "abcdefghijklmnopqrstuvwxyz" t1)) (g2 : mg "LONGEST_NAME" = some (.int 8 t2)) :
    FnOk P w K mg base CX0 (k + 1) f fd ["value"] (spName K) := by
  refine F.ok scIsName (fun vs H Q E h => ?_) (fun cdv A outer s H vs Q E hr h => ?_)
  · obtain ⟨a, _, _, rfl, _⟩ := h
    rfl
  · obtain ⟨v, ok, d, rfl, sh, hty, hv, q⟩ := h
    refine ⟨_, pss_cons (ps_if (pt_not (pt_val (pe_callB call_isz (by rfl) mi (by decide +kernel) (pa_cons (pv 0)
          (pa_cons (pe_bltn (v := .ty "str") (by rfl) ms (by decide +kernel : bootBuiltins "str" = some (.type "str")) rfl) pa_nil))))) (pss_one (ps_ret pe_bl)) pss_nil)
      (pss_one (ps_ret (pe_and (pe_chain op_le op_le pe_int (pe_callB call_len_str (by rfl) ml PySem.boot_len (pa_cons (pv 0) pa_nil)) (pe_glob (v := .int 8) (by rfl) g2 ⟨_, rfl⟩))
        (pe_one (pe_callB (cr_all rfl) (by rfl) ma (by decide +kernel) (pa_cons
          (pe_lc (own := [("letter", 1)]) (g := gName 1) (tt := tYes) rfl scIsName.nd (pi_str (pv 0))
            (blkOk_by (own := [("letter", 1)]) (N := ["value", "letter"]) (sc := defScope sIsName) (by decide +kernel))
            (fun _ _ _ _ _ => pg_name (i := 1) scIsName.nd rfl (Or.inl rfl)) (fun _ _ _ _ _ => pts_nil)
            (fun _ _ _ _ _ => pe_cmpR op_in_sign (pv 1) (pe_glob (v := .str "abcdefghijklmnopqrstuvwxyz") (by rfl) g1 ⟨_, rfl⟩) rfl)) pa_nil)))))), ?_⟩
    obtain ⟨T, hT⟩ := Option.ne_none_iff_exists'.mp hty
    have ty := Pk.ty (.inl sh) hT
    rcases ty_str sh hT with ⟨x, rfl, rfl, rfl⟩ | ⟨hne, hne2, hk⟩
    · have hx := hv x rfl
      have hxl : x.length ≤ sizeLine := szle hx
      refine ⟨.str x, rfl, .str x, .ty "str", _, _, true, rfl, .ty "str", ty, kit_ty (by decide +kernel), true, rfl, iteF ?_⟩
      refine ⟨.str x, rfl, x, rfl, hxl, _, _, rfl, rfl, _, rfl, ite2 (fun e => ?_) (fun e => ?_)⟩
      · have e1 : (1 : Int) ≤ x.length := of_decide_eq_true e
        refine ⟨_, _, rfl, rfl, _, rfl, ite2 (fun e2 => ?_) (fun e2 => ?_)⟩
        · have e3 : (x.length : Int) ≤ 8 := of_decide_eq_true e2
          refine ⟨.str x, rfl, x, rfl, fun D nD => ?_⟩
          refine lc_it walk_str (fun i H3 => H3 = upd H D (.lst ((x.cps.toList.take i).map fun c => .bl (inAz c)))) ?_ (fun _ _ _ _ => trivial) (fun i y H3 H4 hi hP hY => ?_) (fun H3 hP => ?_)
          · rfl
          · obtain ⟨rfl, c, hc, rfl⟩ := hY
            subst hP
            refine ⟨rfl, .str ⟨#[c]⟩, rfl, c, _, rfl, rfl, _, upd_same, ?_, ?_⟩
            · rw [List.length_map, List.length_take]
              exact sz1 (by
                have : i < x.length := hi
                omega)
            · have hc2 : x.cps.toList[i]? = some c := by
                rw [Array.getElem?_toList]
                exact hc
              rw [upd_upd, List.take_add_one, hc2, List.map_append]
              rfl
          · subst hP
            refine ⟨D, (x.cps.toList.take x.cps.size).map inAz, rfl, .inl (.inl ?_), ?_⟩
            · rw [upd_same, List.map_map]
              rfl
            · have e4 : x.cps.toList.take x.cps.size = x.cps.toList := List.take_of_length_le (by rw [Array.length_toList]; exact Nat.le_refl _)
              have e5 : ((x.cps.toList.take x.cps.size).map inAz).all id = nameV (.str x) := by
                rw [e4, List.all_map]
                show _ = ((decide (1 ≤ x.length) && decide (x.length ≤ 8)) && x.cps.toList.all inAz)
                rw [decide_eq_true (by omega : 1 ≤ x.length), decide_eq_true (by omega : x.length ≤ 8)]
                rfl
              rw [e5]
              exact q _ (same_new nD)
        · have e3 : ¬ (x.length : Int) ≤ 8 := fun z => e2 (decide_eq_true z)
          have e5 : nameV (.str x) = false := by
            show ((decide (1 ≤ x.length) && decide (x.length ≤ 8)) && x.cps.toList.all inAz) = false
            rw [decide_eq_false (by omega : ¬ x.length ≤ 8), Bool.and_false, Bool.false_and]
          have := q H (Same.refl _)
          rw [e5] at this
          exact this
      · have e1 : ¬ (1 : Int) ≤ x.length := fun z => e (decide_eq_true z)
        have e5 : nameV (.str x) = false := by
          show ((decide (1 ≤ x.length) && decide (x.length ≤ 8)) && x.cps.toList.all inAz) = false
          rw [decide_eq_false (by omega : ¬ 1 ≤ x.length), Bool.false_and, Bool.false_and]
        have := q H (Same.refl _)
        rw [e5] at this
        exact ⟨false, rfl, iteF this⟩
    · have := q H (Same.refl _)
      rw [nameV_not hne] at this
      exact ⟨v, rfl, v, .ty "str", _, _, false, rfl, .ty "str", ty, kit_ty hk, false, rfl, iteT this⟩
def spAre (K : PySem.W.Frag) : Sp := fun vs H Q _ => ∃ (v : V) (ok : Addr → Prop) (dt : D) (d : Addr) (ns : List Str) (kvs : List (Key × V)), vs = [v, .ref d] ∧ Rep K ok H v dt ∧ tyS dt ≠ none ∧ (∀ es, tupOf dt = some es → es.length ≤ 900 ∧ ∀ e ∈ es, tyS e ≠ none) ∧ H d = some (.dK kvs) ∧
  (∀ x : Str, (valV kvs (Sum.inr x : Key)).isSome = decide (x ∈ ns)) ∧ ∀ H', Same H H' → Q (.bl (areT ns dt)) H'
theorem ok_are {f : Addr} {fd : FuncData} {k : Nat} (F : Fun K "are_superclasses" "are_superclasses" sAre f fd)
    (mi : mg "isinstance" = none) (mT : mg "tuple" = none) (ms : mg "str" = none) (ma : mg "all" = none) (ml : mg "len" = none) (mS : mg "set" = none) :
    FnOk P w K mg base CX0 (k + 1) f fd ["value", "known"] (spAre K) := by
  refine F.ok scAre (fun vs H Q E h => ?_) (fun cdv A outer s H vs Q E hr h => ?_)
  · obtain ⟨v, nd, dt, d, ns, kvs, rfl, _⟩ := h
    rfl
  · obtain ⟨v, ok, dt, d, ns, kvs, rfl, sh, hty, hf, hd, hk, q⟩ := h
    have hu := hu_of hr
    refine ⟨_, pss_cons (ps_if (pt_not (pt_val (pe_callB call_isz (by rfl) mi (by decide +kernel) (pa_cons (pv 0)
          (pa_cons (pe_bltn (v := .ty "tuple") (by rfl) mT (by decide +kernel : bootBuiltins "tuple" = some (.type "tuple")) rfl) pa_nil))))) (pss_one (ps_ret pe_bl)) pss_nil)
      (pss_cons (ps_if (pt_not (pt_val (pe_callB (cr_all rfl) (by rfl) ma (by decide +kernel) (pa_cons
          (pe_lc (own := [("name", 2)]) (g := gName 2) (tt := tYes) (te := tAndV (tCB (rIsz K) (tCons (tVar 2) (tCons (tC (.ty "str")) tNil))) (tDIn (tVar 2) (tVar 1))) rfl scAre.nd (pi_tup (pv 0))
            (blkOk_by (own := [("name", 2)]) (N := NAre) (sc := defScope sAre) (by decide +kernel))
            (fun _ _ _ _ _ => pg_name (i := 2) scAre.nd rfl (Or.inl rfl)) (fun _ _ _ _ _ => pts_nil)
            (fun _ _ _ _ _ => pe_and (pe_callB call_isz (by rfl) mi (by decide +kernel) (pa_cons (pv 2)
              (pa_cons (pe_bltn (v := .ty "str") (by rfl) ms (by decide +kernel : bootBuiltins "str" = some (.type "str")) rfl) pa_nil)))
              (pe_one (pe_cmp (pc_din hu (pv 2) (pv 1)) rfl)))) pa_nil)))) (pss_one (ps_ret pe_bl)) pss_nil)
      (pss_one (ps_ret (pe_cmpR op_eq (pe_lenTexts rfl (by rfl) ml (by rfl) mS (pv 0)) (pe_callB call_len_seq (by rfl) ml PySem.boot_len (pa_cons (pv 0) pa_nil)) (nomark _))))), ?_⟩
    obtain ⟨T, hT⟩ := Option.ne_none_iff_exists'.mp hty
    refine ⟨v, rfl, v, .ty "tuple", _, _, (tupOf dt).isSome, rfl, .ty "tuple", Pk.ty (.inl sh) hT, kit_ty (ty_tup hT), _, rfl, ?_⟩
    cases et : tupOf dt with
    | none =>
      have pe : areT ns dt = false := by unfold areT; rw [et]
      rw [pe] at q
      exact iteT (q H (Same.refl _))
    | some ds =>
      obtain ⟨a, xs, rfl, h1, h2⟩ := rep_tup sh et
      obtain ⟨dl, hds⟩ := hf ds et
      have hl := h2.length
      have pe : areT ns dt = (ds.all (inT ns) && decide ((ds.map strT).Nodup)) := by unfold areT; rw [et]
      rw [pe] at q
      refine iteF ?_
      refine ⟨.ref a, rfl, a, rfl, ⟨_, h1⟩, fun D nD => ?_⟩
      have nDd : d ≠ D := ne_of_none hd nD
      refine lc_tup (xs := xs) (fun i H3 => H3 = upd H D (.lst ((ds.take i).map fun x => .bl (inT ns x)))) rfl (fun i H3 _ hP => ?_) (fun i v H3 hv hP => ?_) (fun H3 hP => ?_)
      · subst hP
        exact sqT_same h1 (same_new nD)
      · subst hP
        obtain ⟨di, hdi, shi⟩ := h2.get hv
        have sD := same_new (o := .lst ((ds.take i).map fun x => V.bl (inT ns x))) nD
        have shi2 := rep_same sD shi
        have nx : ∀ bb : Bool, bb = inT ns di → ∃ acc, (upd H D (.lst ((ds.take i).map fun x => V.bl (inT ns x)))) D = some (.lst acc) ∧ acc.length < sizeLine ∧
            upd (upd H D (.lst ((ds.take i).map fun x => V.bl (inT ns x)))) D (.lst (acc ++ [.bl bb])) = upd H D (.lst ((ds.take (i + 1)).map fun x => .bl (inT ns x))) := by
          intro bb hbb
          refine ⟨_, upd_same, ?_, ?_⟩
          · rw [List.length_map, List.length_take]
            exact sz1 (by omega)
          · rw [upd_upd, List.take_add_one, hdi, List.map_append, hbb]
            rfl
        obtain ⟨T2, hT2⟩ := Option.ne_none_iff_exists'.mp (hds di (List.mem_of_getElem? hdi))
        rcases ty_str shi2 hT2 with ⟨y, rfl, rfl, rfl⟩ | ⟨hne, hne2, hk2⟩
        · refine ⟨rfl, .str y, rfl, .str y, .ty "str", _, _, true, rfl, .ty "str", Pk.ty (.inl shi2) hT2, kit_ty (by decide +kernel), _, rfl, ?_⟩
          refine iteT ⟨.str y, rfl, .ref d, rfl, d, _, rfl, DGet.k (k := Sum.inr y) (sD _ _ hd), ?_⟩
          exact nx _ (hk y)
        · refine ⟨rfl, v, rfl, v, .ty "str", _, _, false, rfl, .ty "str", Pk.ty (.inl shi2) hT2, kit_ty hk2, _, rfl, ?_⟩
          refine iteF (nx false ?_)
          cases di with
          | str y => exact absurd rfl (hne2 y)
          | _ => rfl
      · subst hP
        have tk : ds.take xs.length = ds := List.take_of_length_le (by omega)
        rw [tk]
        have sD := same_new (o := .lst (ds.map fun x => V.bl (inT ns x))) nD
        refine ⟨D, ds.map (inT ns), rfl, .inl (.inl (by rw [upd_same, List.map_map]; rfl)), _, rfl, ?_⟩
        rw [List.all_map]
        cases hz : ds.all (inT ns) with
        | false =>
          rw [show ds.all (id ∘ inT ns) = ds.all (inT ns) from rfl, hz]
          rw [hz, Bool.false_and] at q
          exact iteT (q _ sD)
        | true =>
          rw [show ds.all (id ∘ inT ns) = ds.all (inT ns) from rfl, hz]
          rw [hz, Bool.true_and] at q
          refine iteF ?_
          have ex := strs_ofT h2 hz
          have h1' := sqT_same h1 sD
          rw [ex] at h1'
          have ln : (ds.map strT).length = ds.length := List.length_map _
          refine ⟨.ref a, rfl, a, ds.map strT, rfl, h1', by omega, .ref a, rfl, a, _, rfl, .inr h1', rfl, ?_⟩
          have := q _ sD
          rw [← met_iff] at this
          have lm : ((ds.map strT).map V.str).length = (ds.map strT).length := List.length_map _
          rw [lm]
          have e : decide (V.int (met (ds.map strT) (ds.map strT).length : Nat) = V.int ((ds.map strT).length : Nat)) = decide (met (ds.map strT) (ds.map strT).length = (ds.map strT).length) := by
            by_cases e : met (ds.map strT) (ds.map strT).length = (ds.map strT).length
            · rw [decide_eq_true e, e]
              exact decide_eq_true rfl
            · rw [decide_eq_false e, decide_eq_false (fun z => e (by
                have := V.int.inj z
                omega))]
          rw [e]
          exact this
def spProb (K : PySem.W.Frag) : Sp := fun vs H Q _ => ∃ (v : V) (ok : Addr → Prop) (dt : D) (d : Addr) (ns : List Str) (kvs : List (Key × V)), vs = [v, .ref d] ∧ Rep K ok H v dt ∧ OkR dt ∧ H d = some (.dK kvs) ∧
  (∀ x : Str, (valV kvs (Sum.inr x : Key)).isSome = decide (x ∈ ns)) ∧ ∀ H', Same H H' → Q (optT (probT ns dt)) H'
theorem ok_prob {f fN fA : Addr} {fd fdN fdA : FuncData} {k : Nat} (F : Fun K "row_problem" "row_problem" sProb f fd)
    (FN : Fun K "is_name" "is_name" sIsName fN fdN) (bN : Binds K fdN ["value"] []) (gN : mg "is_name" = some (.ref fN))
    (FA : Fun K "are_superclasses" "are_superclasses" sAre fA fdA) (bA : Binds K fdA ["value", "known"] []) (gA : mg "are_superclasses" = some (.ref fA))
    (GN : FnOk P w K mg base CX0 (k + 1) fN fdN ["value"] (spName K)) (GA : FnOk P w K mg base CX0 (k + 1) fA fdA ["value", "known"] (spAre K))
    (mi : mg "isinstance" = none) (mT : mg "tuple" = none) (ml : mg "len" = none) :
    FnOk P w K mg base CX0 (k + 2) f fd ["row", "known"] (spProb K) := by
  refine F.ok scProb (fun vs H Q E h => ?_) (fun cdv A outer s H vs Q E hr h => ?_)
  · obtain ⟨v, nd, dt, d, ns, kvs, rfl, _⟩ := h
    rfl
  · obtain ⟨v, ok, dt, d, ns, kvs, rfl, sh, ⟨hty, hf⟩, hd, hk, q⟩ := h
    have hu := hu_of hr
    refine ⟨_, pss_cons (ps_if (PW.pt (pw_or (pt_not (pt_val (pe_callB call_isz (by rfl) mi (by decide +kernel) (pa_cons (pv 0)
          (pa_cons (pe_bltn (v := .ty "tuple") (by rfl) mT (by decide +kernel : bootBuiltins "tuple" = some (.type "tuple")) rfl) pa_nil)))))
          (pw_or1 (pt_cmpR op_ne (pe_callB call_len_seq (by rfl) ml PySem.boot_len (pa_cons (pv 0) pa_nil)) pe_int (nomark _))))) (pss_one (ps_ret pe_str)) pss_nil)
      (pss_cons (ps_asg (pv 0) (pg_tup (by rfl) (pgs_cons (pg_name (i := 2) scProb.nd rfl (.inl rfl)) (pgs_cons (pg_name (i := 3) scProb.nd rfl (.inl rfl)) pgs_nil))))
      (pss_cons (ps_if (pt_not (pt_val (pe_call GN hr (by rfl) gN FN.kp bN .nil pass0 (pa_cons (pv 2) pa_nil)))) (pss_one (ps_ret pe_str)) pss_nil)
      (pss_cons (ps_if (pt_cmp (pc_din hu (pv 2) (pv 1))) (pss_one (ps_ret pe_str)) pss_nil)
      (pss_cons (ps_if (pt_not (pt_val (pe_call GA hr (by rfl) gA FA.kp bA .nil pass0 (pa_cons (pv 3) (pa_cons (pv 1) pa_nil))))) (pss_one (ps_ret pe_str)) pss_nil)
      (pss_one (ps_ret pe_non)))))), ?_⟩
    obtain ⟨T, hT⟩ := Option.ne_none_iff_exists'.mp hty
    refine ⟨v, rfl, v, .ty "tuple", _, _, (tupOf dt).isSome, rfl, .ty "tuple", Pk.ty (.inl sh) hT, kit_ty (ty_tup hT), _, rfl, ?_⟩
    cases et : tupOf dt with
    | none =>
      have pe : probT ns dt = some ("class" : Str) := by unfold probT; rw [et]
      rw [pe] at q
      exact iteT (q H (Same.refl _))
    | some ds =>
      obtain ⟨a, xs, rfl, h1, h2⟩ := rep_tup sh et
      have hl := h2.length
      refine iteF ?_
      refine ⟨.ref a, rfl, a, xs, rfl, .inr h1, rfl, _, rfl, ?_⟩
      by_cases e2 : ds.length = 2
      · have e3 : decide (V.int ((xs.length : Nat) : Int) = V.int 2) = true := by
          rw [decide_eq_true_eq, hl, e2]
          rfl
        rw [e3]
        refine iteF ?_
        obtain ⟨x0, x1, d0, d1, rfl, rfl, sh0, sh1⟩ : ∃ x0 x1 d0 d1, xs = [x0, x1] ∧ ds = [d0, d1] ∧ Rep K ok H x0 d0 ∧ Rep K ok H x1 d1 := by
          cases h2 with
          | nil => exact absurd e2 (by simp)
          | cons a1 t1 =>
            cases t1 with
            | nil => exact absurd e2 (by simp)
            | cons a2 t2 =>
              cases t2 with
              | nil => exact ⟨_, _, _, _, rfl, rfl, a1, a2⟩
              | cons _ _ => exact absurd e2 (by simp)
        obtain ⟨t0, t0s, t1, t1s⟩ := hf d0 d1 et
        have pl : probT ns dt = (if nameT d0 = false then some ("name" : Str) else if inT ns d0 = true then some ("duplicate" : Str) else if areT ns d1 = false then some ("superclasses" : Str) else none) := by unfold probT; rw [et]
        rw [pl] at q
        refine ⟨.ref a, rfl, a, _, rfl, h1, rfl, _, _, rfl, _, _, rfl, rfl, ?_⟩
        refine ⟨x0, rfl, x0, ok, d0, rfl, sh0, t0, (fun x ex => by subst ex; cases sh0; exact t0s x rfl), fun H1 s1 => ⟨_, rfl, ?_⟩⟩
        rw [name_rep sh0]
        cases c0 : nameT d0 with
        | false =>
          rw [c0, if_pos rfl] at q
          exact iteT (q _ s1)
        | true =>
          rw [c0, if_neg (by decide)] at q
          refine iteF ?_
          cases sh0 with
          | str n =>
            refine ⟨.str n, rfl, .ref d, rfl, d, _, rfl, DGet.k (k := Sum.inr n) (s1 _ _ hd), _, rfl, ?_⟩
            have hn := hk n
            have ei : inT ns (.str n) = decide (n ∈ ns) := rfl
            rw [ei] at q
            cases c1 : valV kvs (Sum.inr n : Key) with
            | some z =>
              rw [c1] at hn
              have hn2 : decide (n ∈ ns) = true := hn.symm
              rw [hn2, if_pos rfl] at q
              exact iteT (q _ s1)
            | none =>
              rw [c1] at hn
              have hn2 : decide (n ∈ ns) = false := hn.symm
              rw [hn2, if_neg (by decide)] at q
              refine iteF ?_
              refine ⟨x1, rfl, .ref d, rfl, x1, ok, d1, d, ns, kvs, rfl, rep_same s1 sh1, t1, t1s, s1 _ _ hd, hk, fun H2 s2 => ⟨_, rfl, ?_⟩⟩
              cases c2 : areT ns d1 with
              | false =>
                rw [c2, if_pos rfl] at q
                exact iteT (q _ (s1.trans s2))
              | true =>
                rw [c2, if_neg (by decide)] at q
                exact iteF (q _ (s1.trans s2))
          | _ => cases c0
      · have e3 : decide (V.int ((xs.length : Nat) : Int) = V.int 2) = false := by
          rw [decide_eq_false_iff_not, hl]
          intro z
          injection z with z
          omega
        rw [e3]
        have pl : probT ns dt = some ("class" : Str) := by
          unfold probT
          rw [et]
          match ds, e2 with
          | [], _ => rfl
          | [_], _ => rfl
          | _ :: _ :: _ :: _, _ => rfl
        rw [pl] at q
        exact iteT (q _ (Same.refl _))
end
end Lx
namespace Lw
open PySem PySem.Spec PyProof.Rows L2 Kv
theorem scIsName : FnScope ["value", "letter"] ["value"] (defScope sIsName) :=
  ⟨rfl, rfl, rfl, by decide +kernel, rfl, by decide +kernel, by decide +kernel⟩
section
variable {P : Program} {w : World} {K : PySem.W.Frag} {mg : Str → Option Value} {base : Heap}
def spName (K : PySem.W.Frag) : Sp := fun vs H Q _ => ∃ v : V, vs = [v] ∧ Good K H v ∧ ∀ H', Same H H' → Q (.bl (nameV v)) H'
theorem ok_isname {f : Addr} {fd : FuncData} {k : Nat} {t1 t2 : Tok} (F : Fun K "is_name" "is_name" sIsName f fd)
    (mi : mg "isinstance" = none) (ms : mg "str" = none) (ml : mg "len" = none) (ma : mg "all" = none)
    (g1 : mg "LETTERS" = some (.str "abcdefghijklmnopqrstuvwxyz" t1)) (g2 : mg "LONGEST_NAME" = some (.int 8 t2)) :
    FnOk P w K mg base CX0 (k + 1) f fd ["value"] (spName K) := by
  refine F.ok scIsName (fun vs H Q E h => ?_) (fun cdv A outer s H vs Q E hr h => ?_)
  · obtain ⟨a, rfl, _⟩ := h
    rfl
  · obtain ⟨v, rfl, ⟨nd, d, sh, hf, hv⟩, q⟩ := h
    refine ⟨_, pss_cons (ps_if (pt_not (pt_val (pe_callB call_isi (by rfl) mi (by decide +kernel) (pa_cons (pv 0)
          (pa_cons (pe_bltn (v := .ty "str") (by rfl) ms (by decide +kernel : bootBuiltins "str" = some (.type "str")) rfl) pa_nil))))) (pss_one (ps_ret pe_bl)) pss_nil)
      (pss_one (ps_ret (pe_and (pe_chain op_le op_le pe_int (pe_callB call_len_str (by rfl) ml PySem.boot_len (pa_cons (pv 0) pa_nil)) (pe_glob (v := .int 8) (by rfl) g2 ⟨_, rfl⟩))
        (pe_one (pe_callB (cr_all rfl) (by rfl) ma (by decide +kernel) (pa_cons
          (pe_lc (own := [("letter", 1)]) (g := gName 1) (tt := tYes) rfl scIsName.nd (pi_str (pv 0))
            (blkOk_by (own := [("letter", 1)]) (N := ["value", "letter"]) (sc := defScope sIsName) (by decide +kernel))
            (fun _ _ _ _ _ => pg_name (i := 1) scIsName.nd rfl (Or.inl rfl)) (fun _ _ _ _ _ => pts_nil)
            (fun _ _ _ _ _ => pe_cmpR op_in_sign (pv 1) (pe_glob (v := .str "abcdefghijklmnopqrstuvwxyz") (by rfl) g1 ⟨_, rfl⟩) rfl)) pa_nil)))))), ?_⟩
    obtain ⟨T, ty, hT⟩ := sh.ty
    rcases hT with ⟨x, rfl, rfl⟩ | ⟨hne, hT⟩
    · have hx := hv x rfl
      have hxl : x.length ≤ sizeLine := szle (Nat.le_trans hx.1 (by decide))
      refine ⟨.str x, rfl, .str x, .ty "str", _, _, true, rfl, .ty "str", ty, kit_ty (by decide +kernel), true, rfl, iteF ?_⟩
      refine ⟨.str x, rfl, x, rfl, hxl, _, _, rfl, rfl, _, rfl, ite2 (fun e => ?_) (fun e => ?_)⟩
      · have e1 : (1 : Int) ≤ x.length := of_decide_eq_true e
        refine ⟨_, _, rfl, rfl, _, rfl, ite2 (fun e2 => ?_) (fun e2 => ?_)⟩
        · have e3 : (x.length : Int) ≤ 8 := of_decide_eq_true e2
          refine ⟨.str x, rfl, x, rfl, fun D nD => ?_⟩
          refine lc_it walk_str (fun i H3 => H3 = upd H D (.lst ((x.cps.toList.take i).map fun c => .bl (inAz c)))) ?_ (fun _ _ _ _ => trivial) (fun i y H3 H4 hi hP hY => ?_) (fun H3 hP => ?_)
          · rfl
          · obtain ⟨rfl, c, hc, rfl⟩ := hY
            subst hP
            refine ⟨rfl, .str ⟨#[c]⟩, rfl, c, _, rfl, rfl, _, upd_same, ?_, ?_⟩
            · rw [List.length_map, List.length_take]
              exact sz1 (by
                have : i < x.length := hi
                omega)
            · have hc2 : x.cps.toList[i]? = some c := by
                rw [Array.getElem?_toList]
                exact hc
              rw [upd_upd, List.take_add_one, hc2, List.map_append]
              rfl
          · subst hP
            refine ⟨D, (x.cps.toList.take x.cps.size).map inAz, rfl, .inl (.inl ?_), ?_⟩
            · rw [upd_same, List.map_map]
              rfl
            · have e4 : x.cps.toList.take x.cps.size = x.cps.toList := List.take_of_length_le (by rw [Array.length_toList]; exact Nat.le_refl _)
              have e5 : ((x.cps.toList.take x.cps.size).map inAz).all id = nameV (.str x) := by
                rw [e4, List.all_map]
                show _ = ((decide (1 ≤ x.length) && decide (x.length ≤ 8)) && x.cps.toList.all inAz)
                rw [decide_eq_true (by omega : 1 ≤ x.length), decide_eq_true (by omega : x.length ≤ 8)]
                rfl
              rw [e5]
              exact q _ (same_new nD)
        · have e3 : ¬ (x.length : Int) ≤ 8 := fun z => e2 (decide_eq_true z)
          have e5 : nameV (.str x) = false := by
            show ((decide (1 ≤ x.length) && decide (x.length ≤ 8)) && x.cps.toList.all inAz) = false
            rw [decide_eq_false (by omega : ¬ x.length ≤ 8), Bool.and_false, Bool.false_and]
          have := q H (Same.refl _)
          rw [e5] at this
          exact this
      · have e1 : ¬ (1 : Int) ≤ x.length := fun z => e (decide_eq_true z)
        have e5 : nameV (.str x) = false := by
          show ((decide (1 ≤ x.length) && decide (x.length ≤ 8)) && x.cps.toList.all inAz) = false
          rw [decide_eq_false (by omega : ¬ 1 ≤ x.length), Bool.false_and, Bool.false_and]
        have := q H (Same.refl _)
        rw [e5] at this
        exact ⟨false, rfl, iteF this⟩
    · have hk : kitB T "str" = some false := by
        rcases hT with rfl | rfl | rfl | rfl | rfl | rfl <;> decide +kernel
      have := q H (Same.refl _)
      rw [nameV_not hne] at this
      exact ⟨v, rfl, v, .ty "str", _, _, false, rfl, .ty "str", ty, kit_ty hk, false, rfl, iteT this⟩
end
end Lw
namespace Lw
open PySem PySem.Spec PyProof.Rows L2 Kv
theorem name_smL {x : Str} (h : nameV (.str x) = true) : Sm 8 x := by
  have h1 : ((decide (1 ≤ x.length) && decide (x.length ≤ 8)) && x.cps.toList.all inAz) = true := h
  simp only [Bool.and_eq_true, decide_eq_true_eq, List.all_eq_true] at h1
  refine ⟨h1.1.2, fun c hc => ?_⟩
  have h2 := of_decide_eq_true (h1.2 c hc)
  have : ∀ z ∈ az, z < 128 := by decide +kernel
  exact this c h2
abbrev NAre : List Str := ["value", "known", "name"]
theorem scAre : FnScope NAre ["value", "known"] (defScope sAre) :=
  ⟨rfl, rfl, rfl, by decide +kernel, rfl, by decide +kernel, by decide +kernel⟩
theorem scProb : FnScope ["row", "known", "name", "superclasses"] ["row", "known"] (defScope sProb) :=
  ⟨rfl, rfl, rfl, by decide +kernel, rfl, by decide +kernel, by decide +kernel⟩
theorem scAnc : FnScope ["name", "superclasses", "above", "found", "superclass", "ancestor"] ["name", "superclasses", "above"] (defScope sAnc) :=
  ⟨rfl, rfl, rfl, by decide +kernel, rfl, by decide +kernel, by decide +kernel⟩
section
variable {P : Program} {w : World} {K : PySem.W.Frag} {mg : Str → Option Value} {base : Heap}
def areV (kvs : List (Key × V)) (ss : List Str) : Bool := ss.all (fun x => (valV kvs (Sum.inr x : Key)).isSome) && decide (met ss ss.length = ss.length)
def spAre (K : PySem.W.Frag) : Sp := fun vs H Q _ => ∃ (a d : Addr) (ss : List Str) (kvs : List (Key × V)), vs = [.ref a, .ref d] ∧ TpO K H a (ss.map V.str) ∧ H d = some (.dK kvs) ∧ ss.length ≤ 100 ∧
  ∀ H', Same H H' → Q (.bl (areV kvs ss)) H'
theorem ok_are {f : Addr} {fd : FuncData} {k : Nat} (F : Fun K "are_superclasses" "are_superclasses" sAre f fd)
    (mi : mg "isinstance" = none) (mT : mg "tuple" = none) (ms : mg "str" = none) (ma : mg "all" = none) (ml : mg "len" = none) (mS : mg "set" = none) :
    FnOk P w K mg base CX0 (k + 1) f fd ["value", "known"] (spAre K) := by
  refine F.ok scAre (fun vs H Q E h => ?_) (fun cdv A outer s H vs Q E hr h => ?_)
  · obtain ⟨a, d, ss, kvs, rfl, _⟩ := h
    rfl
  · obtain ⟨a, d, ss, kvs, rfl, ha, hd, hl, q⟩ := h
    have hu := hu_of hr
    refine ⟨_, pss_cons (ps_if (pt_not (pt_val (pe_callB call_isi (by rfl) mi (by decide +kernel) (pa_cons (pv 0)
          (pa_cons (pe_bltn (v := .ty "tuple") (by rfl) mT (by decide +kernel : bootBuiltins "tuple" = some (.type "tuple")) rfl) pa_nil))))) (pss_one (ps_ret pe_bl)) pss_nil)
      (pss_cons (ps_if (pt_not (pt_val (pe_callB (cr_all rfl) (by rfl) ma (by decide +kernel) (pa_cons
          (pe_lc (own := [("name", 2)]) (g := gName 2) (tt := tYes) (te := tAndV (tCB (rIsi K) (tCons (tVar 2) (tCons (tC (.ty "str")) tNil))) (tDIn (tVar 2) (tVar 1))) rfl scAre.nd (pi_tup (pv 0))
            (blkOk_by (own := [("name", 2)]) (N := NAre) (sc := defScope sAre) (by decide +kernel))
            (fun _ _ _ _ _ => pg_name (i := 2) scAre.nd rfl (Or.inl rfl)) (fun _ _ _ _ _ => pts_nil)
            (fun _ _ _ _ _ => pe_and (pe_callB call_isi (by rfl) mi (by decide +kernel) (pa_cons (pv 2)
              (pa_cons (pe_bltn (v := .ty "str") (by rfl) ms (by decide +kernel : bootBuiltins "str" = some (.type "str")) rfl) pa_nil)))
              (pe_one (pe_cmp (pc_din hu (pv 2) (pv 1)) rfl)))) pa_nil)))) (pss_one (ps_ret pe_bl)) pss_nil)
      (pss_one (ps_ret (pe_cmpR op_eq (pe_lenTexts rfl (by rfl) ml (by rfl) mS (pv 0)) (pe_callB call_len_seq (by rfl) ml PySem.boot_len (pa_cons (pv 0) pa_nil)) (nomark _))))), ?_⟩
    refine ⟨.ref a, rfl, .ref a, .ty "tuple", _, _, true, rfl, .ty "tuple", ha.ty, kit_ty (by decide +kernel), true, rfl, iteF ?_⟩
    refine ⟨.ref a, rfl, a, rfl, ⟨_, ha.sq⟩, fun D nD => ?_⟩
    have nDd : d ≠ D := ne_of_none hd nD
    refine lc_tup (xs := ss.map V.str) (fun i H3 => H3 = upd H D (.lst ((ss.take i).map fun x => .bl (valV kvs (Sum.inr x : Key)).isSome))) rfl (fun i H3 _ hP => ?_) (fun i v H3 hv hP => ?_) (fun H3 hP => ?_)
    · subst hP
      exact (ha.same (same_new nD)).sq
    · subst hP
      rw [List.getElem?_map] at hv
      obtain ⟨x, hx, rfl⟩ : ∃ x, ss[i]? = some x ∧ v = .str x := by
        cases hz : ss[i]? with
        | none =>
          rw [hz] at hv
          cases hv
        | some x =>
          rw [hz] at hv
          exact ⟨x, rfl, (Option.some.inj hv).symm⟩
      have hd2 : (upd H D (.lst ((ss.take i).map fun x => V.bl (valV kvs (Sum.inr x : Key)).isSome))) d = some (.dK kvs) := by
        rw [upd_ne nDd]
        exact hd
      refine ⟨rfl, .str x, rfl, .str x, .ty "str", _, _, true, rfl, .ty "str", .base (.str x), kit_ty (by decide +kernel), true, rfl, iteT ?_⟩
      refine ⟨.str x, rfl, .ref d, rfl, d, _, rfl, DGet.k (k := Sum.inr x) hd2, _, upd_same, ?_, ?_⟩
      · rw [List.length_map, List.length_take]
        exact sz1 (by omega)
      · rw [upd_upd, List.take_add_one, hx, List.map_append]
        rfl
    · subst hP
      have et : ss.take (ss.map V.str).length = ss := by
        rw [List.length_map, List.take_length]
      rw [et]
      have sD := same_new (o := .lst (ss.map fun x => V.bl (valV kvs (Sum.inr x : Key)).isSome)) nD
      refine ⟨D, ss.map fun x => (valV kvs (Sum.inr x : Key)).isSome, rfl, .inl (.inl (by rw [upd_same, List.map_map]; rfl)), _, rfl, ?_⟩
      rw [List.all_map]
      show if (!(ss.all (fun x => (valV kvs (Sum.inr x : Key)).isSome))) = true then _ else _
      cases hz : ss.all (fun x => (valV kvs (Sum.inr x : Key)).isSome) with
      | false =>
        refine iteT ?_
        have := q _ sD
        unfold areV at this
        rw [hz, Bool.false_and] at this
        exact this
      | true =>
        refine iteF ?_
        refine ⟨.ref a, rfl, a, ss, rfl, (ha.same sD).sq, by omega, .ref a, rfl, a, ss.map V.str, rfl, .inr (ha.same sD).sq, rfl, ?_⟩
        have := q _ sD
        unfold areV at this
        rw [hz, Bool.true_and] at this
        rw [List.length_map]
        have e : decide (V.int (met ss ss.length : Nat) = V.int (ss.length : Nat)) = decide (met ss ss.length = ss.length) := by
          by_cases e : met ss ss.length = ss.length
          · rw [decide_eq_true e, e]
            exact decide_eq_true rfl
          · rw [decide_eq_false e, decide_eq_false (fun z => e (by
              have := V.int.inj z
              omega))]
        rw [e]
        exact this
def spProb (K : PySem.W.Frag) : Sp := fun vs H Q _ => ∃ (t d : Addr) (r : Row2) (kvs : List (Key × V)), vs = [.ref t, .ref d] ∧ RowK K H (.ref t) r ∧ H d = some (.dK kvs) ∧
  nameV (.str r.1) = true ∧ valV kvs (Sum.inr r.1 : Key) = none ∧ (∀ x ∈ r.2, (valV kvs (Sum.inr x : Key)).isSome = true) ∧ r.2.Nodup ∧ r.2.length ≤ 100 ∧
  ∀ H', Same H H' → Q .non H'
theorem ok_prob {f fN fA : Addr} {fd fdN fdA : FuncData} {k : Nat} (F : Fun K "row_problem" "row_problem" sProb f fd)
    (FN : Fun K "is_name" "is_name" sIsName fN fdN) (bN : Binds K fdN ["value"] []) (gN : mg "is_name" = some (.ref fN))
    (FA : Fun K "are_superclasses" "are_superclasses" sAre fA fdA) (bA : Binds K fdA ["value", "known"] []) (gA : mg "are_superclasses" = some (.ref fA))
    (GN : FnOk P w K mg base CX0 (k + 1) fN fdN ["value"] (spName K)) (GA : FnOk P w K mg base CX0 (k + 1) fA fdA ["value", "known"] (spAre K))
    (mi : mg "isinstance" = none) (mT : mg "tuple" = none) (ml : mg "len" = none) :
    FnOk P w K mg base CX0 (k + 2) f fd ["row", "known"] (spProb K) := by
  refine F.ok scProb (fun vs H Q E h => ?_) (fun cdv A outer s H vs Q E hr h => ?_)
  · obtain ⟨t, d, r, kvs, rfl, _⟩ := h
    rfl
  · obtain ⟨t, d, ⟨n, ss⟩, kvs, rfl, ⟨t', sA, e0, ht, hs⟩, hd, h1, h2, h3, h4, h5, q⟩ := h
    cases e0
    have hu := hu_of hr
    refine ⟨_, pss_cons (ps_if (PW.pt (pw_or (pt_not (pt_val (pe_callB call_isi (by rfl) mi (by decide +kernel) (pa_cons (pv 0)
          (pa_cons (pe_bltn (v := .ty "tuple") (by rfl) mT (by decide +kernel : bootBuiltins "tuple" = some (.type "tuple")) rfl) pa_nil)))))
          (pw_or1 (pt_cmpR op_ne (pe_callB call_len_seq (by rfl) ml PySem.boot_len (pa_cons (pv 0) pa_nil)) pe_int (nomark _))))) (pss_one (ps_ret pe_str)) pss_nil)
      (pss_cons (ps_asg (pv 0) (pg_tup (by rfl) (pgs_cons (pg_name (i := 2) scProb.nd rfl (.inl rfl)) (pgs_cons (pg_name (i := 3) scProb.nd rfl (.inl rfl)) pgs_nil))))
      (pss_cons (ps_if (pt_not (pt_val (pe_call GN hr (by rfl) gN FN.kp bN .nil pass0 (pa_cons (pv 2) pa_nil)))) (pss_one (ps_ret pe_str)) pss_nil)
      (pss_cons (ps_if (pt_cmp (pc_din hu (pv 2) (pv 1))) (pss_one (ps_ret pe_str)) pss_nil)
      (pss_cons (ps_if (pt_not (pt_val (pe_call GA hr (by rfl) gA FA.kp bA .nil pass0 (pa_cons (pv 3) (pa_cons (pv 1) pa_nil))))) (pss_one (ps_ret pe_str)) pss_nil)
      (pss_one (ps_ret pe_non)))))), ?_⟩
    refine ⟨.ref t, rfl, .ref t, .ty "tuple", _, _, true, rfl, .ty "tuple", .base (.tup ht), kit_ty (by decide +kernel), true, rfl, iteF ?_⟩
    refine ⟨.ref t, rfl, t, _, rfl, .inr (.inl (.inl ht)), rfl, _, rfl, ?_⟩
    show if (!decide (V.int 2 = V.int 2)) = true then _ else _
    rw [decide_eq_true rfl]
    refine iteF ?_
    refine ⟨.ref t, rfl, t, _, rfl, .inl (.inl ht), rfl, _, _, rfl, _, _, rfl, rfl, ?_⟩
    have gn : Good K H (.str n) := Good.str (name_smL h1)
    refine ⟨.str n, rfl, .str n, rfl, gn, fun H1 s1 => ⟨_, rfl, ?_⟩⟩
    rw [h1]
    refine iteF ?_
    refine ⟨.str n, rfl, .ref d, rfl, d, _, rfl, DGet.k (k := Sum.inr n) (s1 _ _ hd), _, rfl, ?_⟩
    rw [h2]
    refine iteF ?_
    refine ⟨.ref sA, rfl, .ref d, rfl, sA, d, ss, kvs, rfl, hs.same s1, s1 _ _ hd, h5, fun H2 s2 => ⟨_, rfl, ?_⟩⟩
    have e : areV kvs ss = true := by
      unfold areV
      rw [Bool.and_eq_true, List.all_eq_true]
      exact ⟨h3, decide_eq_true (met_nodup h4 _ (Nat.le_refl _))⟩
    rw [e]
    exact iteF (q _ (s1.trans s2))
def spAnc (K : PySem.W.Frag) : Sp := fun vs H Q _ => ∃ (n : Str) (a u : Addr) (ss : List Str) (kvs : List (Key × V)) (tab : Tab), vs = [.str n, .ref a, .ref u] ∧ TpO K H a (ss.map V.str) ∧
  H u = some (.dK kvs) ∧ Entries H kvs tab ∧ TabOk tab ∧ tab.length ≤ 100 ∧ (∀ x ∈ ss, x ∈ tabKeys tab) ∧
  ∀ H' F, Same H H' → H F = none → H' F = some (.dK (flag (ancOf tab n ss))) → Q (.ref F) H'
theorem ok_anc {f : Addr} {fd : FuncData} {k : Nat} (F : Fun K "ancestors_of" "ancestors_of" sAnc f fd) :
    FnOk P w K mg base CX0 (k + 1) f fd ["name", "superclasses", "above"] (spAnc K) := by
  refine F.ok scAnc (fun vs H Q E h => ?_) (fun cdv A outer s H vs Q E hr h => ?_)
  · obtain ⟨n, a, u, ss, kvs, tab, rfl, _⟩ := h
    rfl
  · obtain ⟨n, a, u, ss, kvs, tab, rfl, ha, hU, he, hok, hlen, hss, q⟩ := h
    have hu := hu_of hr
    refine ⟨_, pss_cons (ps_set (i := 3) scAnc.nd rfl (.inl rfl) (pe_disp (pps_cons (pv 0) pe_bl pps_nil) (by rfl) (by rfl) (fun z => by cases z) (by decide)))
      (pss_cons (ps_for PassesOwn.never rfl (pi_tup (pv 1)) (pg_name (i := 4) scAnc.nd rfl (.inl rfl))
        (pss_one (ps_lock (ps_for PassesOwn.never rfl (pi_keys (pe_dget hu (pv 2) (pv 4) (fun _ _ => rfl))) (pg_name (i := 5) scAnc.nd rfl (.inl rfl))
          (pss_one (ps_dput hu (pv 3) (pv 5) pe_bl rfl))))))
      (pss_one (ps_ret (pv 3)))), ?_⟩
    refine fun D nD => ⟨.str n, rfl, upd_same, [(Sum.inr n, .bl true)], rfl, (by decide : 1 ≤ 15), ?_⟩
    have sD := same_new2 (o := .dK []) (u := .dK (flag [n])) nD
    have nDu : u ≠ D := ne_of_none hU nD
    refine ⟨.ref a, rfl, a, rfl, ⟨_, (ha.same sD).sq⟩, ?_⟩
    refine for_tup (xs := ss.map V.str) (fun i σ H3 => ∃ y4 y5 : Option V, σ = [some (.str n), some (.ref a), some (.ref u), some (.ref D), y4, y5] ∧ H3 D = some (.dK (flag (ancAt tab n ss i))) ∧ Same H H3)
      ⟨none, none, rfl, upd_same, sD⟩ (fun i σ H3 _ hP => ?_) (fun i v σ H3 hv hP => ?_) (fun σ H3 hP => ?_)
    · obtain ⟨_, _, _, _, s3⟩ := hP
      exact (ha.same s3).sq
    · obtain ⟨y4, y5, rfl, eD, s3⟩ := hP
      rw [List.getElem?_map] at hv
      obtain ⟨x, hx, rfl⟩ : ∃ x, ss[i]? = some x ∧ v = .str x := by
        cases hz : ss[i]? with
        | none =>
          rw [hz] at hv
          cases hv
        | some x =>
          rw [hz] at hv
          exact ⟨x, rfl, (Option.some.inj hv).symm⟩
      have hxk := hss x (List.mem_of_getElem? hx)
      obtain ⟨d, hval, hd⟩ := he.look hxk
      have nDd : d ≠ D := ne_of_none hd nD
      have nud : u ≠ d := by
        intro z
        rw [← z, hU] at hd
        cases Option.some.inj hd
        rw [valV_flag] at hval
        split at hval <;> cases hval
      have d3 := s3 _ _ hd
      refine ⟨d, _, d3, trivial, fun od => ?_⟩
      have u3 : (upd H3 d (.frz od (.dK (flag (look tab x))))) u = some (.dK kvs) := by
        rw [upd_ne nud]
        exact s3 _ _ hU
      have gg := DGet.k (k := Sum.inr x) u3
      rw [hval] at gg
      refine ⟨.ref u, rfl, .str x, rfl, u, .ref d, rfl, gg, d, od, rfl, .inl ⟨_, upd_same, ?_⟩⟩
      refine for_it walk_keys (fun j σ H4 => ∃ y5 : Option V, σ = [some (.str n), some (.ref a), some (.ref u), some (.ref D), some (.str x), y5] ∧ H4 D = some (.dK (flag (addAll (ancAt tab n ss i) ((look tab x).take j)))) ∧
          H4 d = some (.frz od (.dK (flag (look tab x)))) ∧ ∀ b o, b ≠ d → H b = some o → H4 b = some o)
        ⟨y5, rfl, by rw [upd_ne nDd.symm]; exact eD, upd_same, fun b o nb hb => by rw [upd_ne nb]; exact s3 _ _ hb⟩ (fun j σ H4 _ hP => ?_) (fun j v σ H4 H5 hj hP hY => ?_) (fun σ H4 hP => ?_)
      · obtain ⟨_, _, _, e, _⟩ := hP
        exact e
      · obtain ⟨y5, rfl, e1, e2, e3⟩ := hP
        obtain ⟨rfl, k', v', hk, rfl⟩ := hY
        obtain ⟨z, hz, rfl⟩ : ∃ z, (look tab x)[j]? = some z ∧ k' = Sum.inr z := by
          unfold flag at hk
          rw [List.getElem?_map] at hk
          cases hz : (look tab x)[j]? with
          | none =>
            rw [hz] at hk
            cases hk
          | some z =>
            rw [hz] at hk
            cases hk
            exact ⟨z, rfl, rfl⟩
        have ln : (addAll (ancAt tab n ss i) ((look tab x).take j)).length ≤ (n :: tabKeys tab).length := by
          refine nodup_le (addAll_nodup ancOf_nodup) fun y hy => ?_
          rcases mem_addAll.mp hy with g | g
          · rcases mem_ancOf.mp g with rfl | ⟨s', _, g2⟩
            · exact List.mem_cons_self ..
            · exact List.mem_cons_of_mem _ (look_sub hok g2)
          · exact List.mem_cons_of_mem _ (look_sub hok (List.mem_of_mem_take g))
        have lt : (tabKeys tab).length = tab.length := List.length_map _
        rw [List.length_cons, lt] at ln
        refine ⟨.ref D, rfl, .str z, rfl, D, _, rfl, DPut.k (k := Sum.inr z) e1 (by rw [flag_len]; exact sz1 (by omega)), ?_⟩
        refine ⟨_, rfl, ?_, ?_, ?_⟩
        · rw [upd_same, put_flag, addAll_take _ hz]
        · rw [upd_ne nDd]
          exact e2
        · intro b o nb hb
          rw [upd_ne (ne_of_none hb nD)]
          exact e3 b o nb hb
      · obtain ⟨y5, rfl, e1, e2, e3⟩ := hP
        refine ⟨e2, _, _, rfl, ?_, ?_⟩
        · rw [upd_ne nDd.symm, e1, flag_len, List.take_length, ancAt_next hx]
        · intro b o hb
          by_cases z : b = d
          · subst z
            rw [upd_same, ← hd]
            exact hb
          · rw [upd_ne z]
            exact e3 b o z hb
    · obtain ⟨y4, y5, rfl, eD, s3⟩ := hP
      have et : ss.take (ss.map V.str).length = ss := by
        rw [List.length_map, List.take_length]
      unfold ancAt at eD
      rw [et] at eD
      exact ⟨.ref D, rfl, q _ D s3 nD eD⟩
end
end Lw
namespace Lw
open PySem PySem.Spec PyProof.Rows L2 Kv
theorem scInit : FnScope ["self", "classes", "position", "row", "problem", "name", "superclasses"] ["self", "classes"] (defScope m_init) :=
  ⟨rfl, rfl, rfl, by decide +kernel, rfl, by decide +kernel, by decide +kernel⟩
structure HierNw (K : PySem.W.Frag) (C : Addr) (H0 H : Hp) (x : Addr) (rows : List Row2) : Prop where
  ex : ∃ (dx r q u : Addr) (rvs : List V) (kvs : List (Key × V)), H x = some (.ins C dx (flds r q u)) ∧ H r = some (.lst rvs) ∧ RowsK K H rvs rows ∧
    H q = some (.dK (placeKV (fsts rows))) ∧ H u = some (.dK kvs) ∧ Entries H kvs (ancTab rows) ∧ H0 r = none ∧ H0 q = none ∧ H0 u = none ∧ ∀ kv ∈ kvs, ∃ d, kv.2 = .ref d ∧ H0 d = none
section
variable {P : Program} {w : World} {K : PySem.W.Frag} {mg : Str → Option Value} {base : Heap}
def spInit (K : PySem.W.Frag) (C : Addr) : Sp := fun vs H Q _ => ∃ (x dx c : Addr) (us : List V) (rows : List Row2), vs = [.ref x, .ref c] ∧ H x = some (.ins C dx []) ∧
  (SqL K H c us ∨ (SqT K H c us ∧ us = [])) ∧ RowsK K H us rows ∧ Valid rows ∧ rows.length ≤ 20 ∧
  ∀ H', HierNw K C H H' x rows → But x H H' → Q .non H'
theorem ok_init {f fP fA C : Addr} {fd fdP fdA : FuncData} {k : Nat} {dvs : List V} (F : FunD K "__init__" "Hierarchy.__init__" (defArgs m_init) (defBody m_init) (defScope m_init) dvs [] f fd) (T : HTxt K mg C)
    (FP : Fun K "row_problem" "row_problem" sProb fP fdP) (bP : Binds K fdP ["row", "known"] []) (gP : mg "row_problem" = some (.ref fP))
    (FA : Fun K "ancestors_of" "ancestors_of" sAnc fA fdA) (bA : Binds K fdA ["name", "superclasses", "above"] []) (gA : mg "ancestors_of" = some (.ref fA))
    (GP : FnOk P w K mg base CX0 (k + 2) fP fdP ["row", "known"] (spProb K)) (GA : FnOk P w K mg base CX0 (k + 1) fA fdA ["name", "superclasses", "above"] (spAnc K))
    (mi : mg "isinstance" = none) (mT : mg "tuple" = none) (mL : mg "list" = none) (me : mg "enumerate" = none) (ml : mg "len" = none) :
    FnOk P w K mg base CX0 (k + 3) f fd ["self", "classes"] (spInit K C) := by
  refine F.ok scInit (fun vs H Q E h => ?_) (fun cdv A outer s H vs Q E hr h => ?_)
  · obtain ⟨x, dx, c, us, rows, rfl, _⟩ := h
    rfl
  · obtain ⟨x, dx, c, us, rows, rfl, hx, hc, hra, hva, hlen, fin⟩ := h
    have hu := hu_of hr
    have hrA := hr.mono (by omega : k + 1 ≤ k + 2)
    refine ⟨_, PSs.nox (pss_cons (ps_if (pt_not (pt_val (pe_callB call_isiT (by rfl) mi (by decide +kernel) (pa_cons (pv 1)
          (pa_cons (pe_tup (pa_cons (pe_bltn (v := .ty "list") (by rfl) mL (by decide +kernel : bootBuiltins "list" = some (.type "list")) rfl)
            (pa_cons (pe_bltn (v := .ty "tuple") (by rfl) mT (by decide +kernel : bootBuiltins "tuple" = some (.type "tuple")) rfl) pa_nil))) pa_nil))))) (pss_one ps_never) pss_nil)
      (pss_cons (ps_fld (pv 0) (pe_lst pa_nil) rfl)
      (pss_cons (ps_fld (pv 0) pe_dnewK rfl)
      (pss_cons (ps_fld (pv 0) pe_dnewK rfl)
      (pss_cons (ps_for PassesOwn.never rfl (pi_enumS (by rfl) me (pa_cons (pv 1) pa_nil))
          (pg_tup rfl (pgs_cons (pg_name (i := 2) scInit.nd rfl (.inl rfl)) (pgs_cons (pg_name (i := 3) scInit.nd rfl (.inl rfl)) pgs_nil)))
        (pss_cons (ps_set (i := 4) scInit.nd rfl (.inl rfl) (pe_call GP hr (by rfl) gP FP.kp bP .nil pass0 (pa_cons (pv 3) (pa_cons (pe_fld (pv 0) rfl) pa_nil))))
        (pss_cons (ps_if (pt_cmpR op_notN (pv 4) pe_non (nomark _)) (pss_one ps_never) pss_nil)
        (pss_cons (ps_asg (pv 3) (pg_tup (by rfl) (pgs_cons (pg_name (i := 5) scInit.nd rfl (.inl rfl)) (pgs_cons (pg_name (i := 6) scInit.nd rfl (.inl rfl)) pgs_nil))))
        (pss_cons (ps_expr (pe_bm PySem.F.plainAttrs_list PySem.F.slot_list_append PySem.F.type_list_append mt_append (pe_fld (pv 0) rfl)
            (pa_cons (pe_tup (pa_cons (pv 5) (pa_cons (pv 6) pa_nil))) pa_nil)))
        (pss_cons (ps_dput hu (pe_fld (pv 0) rfl) (pv 5) (pv 2) rfl)
        (pss_one (ps_dput hu (pe_fld (pv 0) rfl) (pv 5) (pe_call GA hrA (by rfl) gA FA.kp bA .nil pass0 (pa_cons (pv 5) (pa_cons (pv 6) (pa_cons (pe_fld (pv 0) rfl) pa_nil)))) rfl))))))))
      (pss_one (ps_if (pt_cmpR op_gt (pe_callB call_len_seq (by rfl) ml PySem.boot_len (pa_cons (pe_fld (pv 0) rfl) pa_nil)) (ClX.pe_cval (pe_glob (v := .ref C) (by rfl) T.mgC rfl)) (nomark _)) (pss_one ps_never) pss_nil))))))), ?_⟩
    obtain ⟨T0, hty, hkit⟩ : ∃ T0 : String, (∀ H', Same H H' → TyX K H' (.ref c) (.type T0)) ∧ PySem.W.kitAny K (.type T0) [.type "list", .type "tuple"] = some true := by
      rcases hc with hc | ⟨hc, _⟩
      · exact ⟨"list", fun H' s' => tyL (s'.seq hc), kitAny_cons (kit_ty (by decide +kernel : kitB "list" "list" = some true)) (fun z => nomatch z) (fun _ => rfl)⟩
      · exact ⟨"tuple", fun H' s' => tyT (sqT_same hc s'), kitAny_cons (kit_ty (by decide +kernel : kitB "tuple" "list" = some false))
          (fun _ => kitAny_cons (kit_ty (by decide +kernel : kitB "tuple" "tuple" = some true)) (fun z => nomatch z) (fun _ => rfl)) (fun z => nomatch z)⟩
    refine ⟨.ref c, rfl, (by decide : 2 ≤ sizeLine), fun tp ntp => ?_⟩
    have s0 := same_new (o := .tup [.ty "list", .ty "tuple"]) ntp
    refine ⟨.ref c, tp, [.ty "list", .ty "tuple"], _, [.type "list", .type "tuple"], true, rfl, upd_same, .cons (.ty _) (.cons (.ty _) .nil), hty _ s0, hkit, true, rfl, iteF ?_⟩
    have x0 := s0 _ _ hx
    refine ⟨(by decide : 0 ≤ sizeLine), fun r nr => ?_⟩
    have nxr : x ≠ r := ne_of_none x0 nr
    refine ⟨.ref x, rfl, x, C, dx, [], rfl, (by rw [upd_ne nxr]; exact x0), T.cl, T.nR, (by show 0 < 1000; decide), ?_⟩
    intro q nq
    have nxq : x ≠ q := ne_of_none upd_same nq
    have nrq : r ≠ q := ne_of_none (o := .lst []) (by rw [upd_ne nxr.symm, upd_same]) nq
    refine ⟨.ref x, rfl, x, C, dx, _, rfl, (by rw [upd_ne nxq, upd_same]), T.cl, T.nP, (by show 1 < 1000; decide), ?_⟩
    intro u nu
    have nxu : x ≠ u := ne_of_none upd_same nu
    have nqu : q ≠ u := ne_of_none (o := .dK []) (by rw [upd_ne nxq.symm, upd_same]) nu
    have nru : r ≠ u := ne_of_none (o := .lst []) (by rw [upd_ne nxr.symm, upd_ne nrq, upd_ne nxr.symm, upd_same]) nu
    refine ⟨.ref x, rfl, x, C, dx, _, rfl, (by rw [upd_ne nxu, upd_same]), T.cl, T.nA, two_flds r q, ?_⟩
    have nr0 : H r = none := s0.free nr
    have nq0 : H q = none := by
      have : (upd (upd H tp (.tup [.ty "list", .ty "tuple"])) r (.lst [])) q = none := by
        rw [upd_ne nxq.symm] at nq
        exact nq
      exact s0.free ((same_new nr).free this)
    have nu0 : H u = none := by
      rw [upd_ne nxu.symm, upd_ne nqu.symm, upd_ne nxu.symm] at nu
      exact s0.free ((same_new nr).free nu)
    have P0 : ∃ (y2 y3 y4 y5 y6 : Option V) (rvs : List V) (kvs : List (Key × V)), ([some (.ref x), some (.ref c), none, none, none, none, none] : List (Option V)) = [some (.ref x), some (.ref c), y2, y3, y4, y5, y6] ∧
        (upd (upd (upd (upd (upd (upd (upd H tp (.tup [.ty "list", .ty "tuple"])) r (.lst [])) x (.ins C dx (putF "rows" (.ref r) []))) q (.dK [])) x (.ins C dx (putF "places" (.ref q) (putF "rows" (.ref r) [])))) u (.dK [])) x (.ins C dx (flds r q u))) x = some (.ins C dx (flds r q u)) := ⟨none, none, none, none, none, [], [], rfl, upd_same⟩
    clear P0
    generalize hG : (upd (upd (upd (upd (upd (upd (upd H tp (.tup [.ty "list", .ty "tuple"])) r (.lst [])) x (.ins C dx (putF "rows" (.ref r) []))) q (.dK [])) x (.ins C dx (putF "places" (.ref q) (putF "rows" (.ref r) [])))) u (.dK [])) x (.ins C dx (putF "above" (.ref u) (putF "places" (.ref q) (putF "rows" (.ref r) []))))) = G
    have gx : G x = some (.ins C dx (flds r q u)) := by
      rw [← hG]
      exact upd_same
    have gr : G r = some (.lst []) := by
      rw [← hG, upd_ne nxr.symm, upd_ne nru, upd_ne nxr.symm, upd_ne nrq, upd_ne nxr.symm, upd_same]
    have gq : G q = some (.dK []) := by
      rw [← hG, upd_ne nxq.symm, upd_ne nqu, upd_ne nxq.symm, upd_same]
    have gu : G u = some (.dK []) := by
      rw [← hG, upd_ne nxu.symm, upd_same]
    have gb : But x H G := by
      intro b o nb hb
      rw [← hG, upd_ne nb, upd_ne (ne_of_none hb nu0), upd_ne nb, upd_ne (ne_of_none hb nq0), upd_ne nb, upd_ne (ne_of_none hb nr0)]
      exact s0 _ _ hb
    clear hG
    obtain ⟨Pv, hPv⟩ : ∃ Pv : Nat → L2.St → Hp → Prop, Pv = fun i σ H4 => ∃ (y2 y3 y4 y5 y6 : Option V) (rvs : List V) (kvs : List (Key × V)), σ = [some (.ref x), some (.ref c), y2, y3, y4, y5, y6] ∧
        H4 x = some (.ins C dx (flds r q u)) ∧ H4 r = some (.lst rvs) ∧ RowsK K H4 rvs (rows.take i) ∧ H4 q = some (.dK (placeKV (fsts (rows.take i)))) ∧ H4 u = some (.dK kvs) ∧
        Entries H4 kvs (ancTab (rows.take i)) ∧ (∀ kv ∈ kvs, kv.2 ≠ .ref q ∧ kv.2 ≠ .ref u ∧ kv.2 ≠ .ref r ∧ ∃ d, kv.2 = .ref d ∧ H d = none) ∧ But x H H4 := ⟨_, rfl⟩
    have start : Pv 0 [some (.ref x), some (.ref c), none, none, none, none, none] G := by
      rw [hPv]
      exact ⟨none, none, none, none, none, [], [], rfl, gx, gr, .nil, gq, gu, .nil, fun kv h => (nomatch h), gb⟩
    have lenU : us.length = rows.length := hra.length
    refine ⟨.ref c, rfl, ?_⟩
    rcases hc with hc | ⟨hc, hemp⟩
    · refine .inl ⟨c, us, rfl, sqL_but hc hx gb, ?_⟩
      refine for_it (walk_enum (xs := us)) Pv start (fun i σ H4 _ hP => ?_) (fun i v σ H4 H5 hi hP hY => ?_) (fun σ H4 hP => ?_)
      · rw [hPv] at hP
        obtain ⟨_, _, _, _, _, _, _, _, _, _, _, _, _, _, _, b4⟩ := hP
        exact sqL_but hc hx b4
      · rw [hPv] at hP
        obtain ⟨y2, y3, y4, y5, y6, rvs, kvs, rfl, ex, er, era, eq, eu, een, ene, b4⟩ := hP
        obtain ⟨T5, a5, v5, rfl, nT5, rfl, ea5, ev5⟩ := hY
        cases Option.some.inj ea5
        obtain ⟨⟨n, ss⟩, hrow, hRA⟩ := hra.get ev5
        obtain ⟨t, sA, rfl, ht, hsA⟩ := id hRA
        obtain ⟨v1, v2, v3, v4⟩ := hva i n ss hrow
        have il : i < rows.length := by omega
        have s5 := same_new (o := .tup [.int (i : Nat), .ref t]) nT5
        have RA4 : RowK K H4 (.ref t) (n, ss) := hRA.butX hx (by intro xs z; cases z) b4
        have lf : (fsts (rows.take i)).length = i := by
          unfold fsts
          rw [List.length_map, List.length_take]
          omega
        have ssl : ss.length ≤ i := by
          have := nodup_le v3 v4
          omega
        refine ⟨T5, [.int (i : Nat), .ref t], rfl, .inl (.inl upd_same), rfl, _, _, rfl, _, _, rfl, rfl, ?_⟩
        -- problem
        refine ⟨.ref t, rfl, .ref x, rfl, x, C, dx, _, _, rfl, s5 _ _ ex, T.cl, T.nP, flds_places r q u, t, q, (n, ss), _, rfl, RA4.same s5, s5 _ _ eq, v1, ?_, ?_, v3, (by show ss.length ≤ 100; omega), fun H6 s6 => ?_⟩
        · have := place_val n (fsts (rows.take i))
          rw [decide_eq_false v2] at this
          exact Option.isNone_iff_eq_none.mp (by rw [← Option.not_isSome, this]; rfl)
        · intro y hy
          rw [place_val]
          exact decide_eq_true (v4 y hy)
        have vn : valV (placeKV (fsts (rows.take i))) (Sum.inr n : Key) = none := by
          have := place_val n (fsts (rows.take i))
          rw [decide_eq_false v2] at this
          exact Option.isNone_iff_eq_none.mp (by rw [← Option.not_isSome, this]; rfl)
        have s46 := s5.trans s6
        refine ⟨.non, rfl, rfl, _, rfl, iteF ?_⟩
        -- name, superclasses = row
        refine ⟨.ref t, rfl, t, _, rfl, .inl (.inl (b4.trans (But.of_same s46) t _ (ne_of ht hx (by intro z; cases z)) ht)), rfl, _, _, rfl, _, _, rfl, rfl, ?_⟩
        -- self.rows.append(..)
        have r6 := s46 _ _ er
        refine ⟨.ref x, rfl, x, C, dx, _, _, rfl, s46 _ _ ex, T.cl, T.nR, flds_rows r q u, .inl ⟨rfl, _, .inl (.inl r6)⟩, .str n, rfl, .ref sA, rfl, (by decide : 2 ≤ sizeLine), fun w7 n7 => ?_⟩
        have s7 := same_new (o := .tup [.str n, .ref sA]) n7
        have s47 := s46.trans s7
        have r7 := s47 _ _ er
        have lr : rvs.length = i := by
          have := era.length
          rw [List.length_take] at this
          omega
        refine ⟨r, rvs, _, rfl, rfl, r7, sz1 (by omega), ?_⟩
        have x8 : ∀ o, (upd (upd H6 w7 (.tup [.str n, .ref sA])) r o) x = some (.ins C dx (flds r q u)) := fun o => by
          rw [upd_ne nxr]
          exact s47 _ _ ex
        have q8 : ∀ o, (upd (upd H6 w7 (.tup [.str n, .ref sA])) r o) q = some (.dK (placeKV (fsts (rows.take i)))) := fun o => by
          rw [upd_ne nrq.symm]
          exact s47 _ _ eq
        have u8 : ∀ o, (upd (upd H6 w7 (.tup [.str n, .ref sA])) r o) u = some (.dK kvs) := fun o => by
          rw [upd_ne nru.symm]
          exact s47 _ _ eu
        -- self.places[name] = position
        refine ⟨.int (i : Nat), rfl, .ref x, rfl, x, C, dx, _, _, rfl, x8 _, T.cl, T.nP, flds_places r q u, .str n, rfl, q, _, rfl, DPut.k (k := Sum.inr n) (q8 _) (by rw [place_len]; exact sz1 (by omega)), ?_⟩
        rw [putK_new _ vn]
        generalize hM : upd (upd (upd H6 w7 (.tup [.str n, .ref sA])) r (.lst (rvs ++ [.ref w7]))) q (.dK (placeKV (fsts (rows.take i)) ++ [(Sum.inr n, .int (i : Nat))])) = M
        have mx : M x = some (.ins C dx (flds r q u)) := by
          rw [← hM, upd_ne nxq]
          exact x8 _
        have mr : M r = some (.lst (rvs ++ [.ref w7])) := by
          rw [← hM, upd_ne nrq, upd_same]
        have mq : M q = some (.dK (placeKV (fsts (rows.take i)) ++ [(Sum.inr n, .int (i : Nat))])) := by
          rw [← hM, upd_same]
        have mu : M u = some (.dK kvs) := by
          rw [← hM, upd_ne nqu.symm]
          exact u8 _
        have mra : RowsK K M (rvs ++ [.ref w7]) (rows.take i ++ [(n, ss)]) := by
          rw [← hM]
          refine RowsK.wrX (q8 _) (by intro xs z; cases z) (RowsK.wrX r7 (by intro xs z; cases z) ?_)
          refine RowsK.snoc (era.same s47) ⟨w7, sA, rfl, upd_same, ?_⟩
          exact (hsA.map fun h => b4 _ _ (ne_of h hx (by intro z; cases z)) h).same s47
        have men : Entries M kvs (ancTab (rows.take i)) := by
          rw [← hM]
          refine Entries.wr (Entries.wr (een.mono fun d as e => s47 _ _ e) fun kv hk => (ene kv hk).2.2.1) fun kv hk => (ene kv hk).1
        have mb : But x H M := by
          intro b o nb hb
          rw [← hM, upd_ne (ne_of_none hb nq0), upd_ne (ne_of_none hb nr0)]
          exact s47 _ _ (b4 _ _ nb hb)
        clear hM
        have msA := hsA.map fun h => mb _ _ (ne_of h hx (by intro z; cases z)) h
        -- ancestors_of(name, superclasses, self.above)
        refine ⟨.str n, rfl, .ref sA, rfl, .ref x, rfl, x, C, dx, _, _, rfl, mx, T.cl, T.nA, flds_above r q u, n, sA, u, ss, kvs, ancTab (rows.take i), rfl, msA, mu, men, ancTab_ok rows i, ?_, ?_, fun H9 F9 s9 nF9 eF9 => ?_⟩
        · have := ancTab_keys (rows.take i)
          have e2 := congrArg List.length this
          unfold tabKeys at e2
          rw [List.length_map, lf] at e2
          omega
        · intro y hy
          rw [ancTab_keys]
          exact v4 y hy
        have kl : kvs.length = i := by
          have h1 := men.length
          have := ancTab_keys (rows.take i)
          have e2 := congrArg List.length this
          unfold tabKeys at e2
          rw [List.length_map, lf] at e2
          omega
        have kn : valV kvs (Sum.inr n : Key) = none := men.none (by rw [ancTab_keys]; exact v2)
        refine ⟨.ref x, rfl, x, C, dx, _, _, rfl, s9 _ _ mx, T.cl, T.nA, flds_above r q u, .str n, rfl, u, _, rfl, DPut.k (k := Sum.inr n) (s9 _ _ mu) (sz1 (by omega)), ?_⟩
        rw [putK_new _ kn, hPv]
        have tk1 : rows.take (i + 1) = rows.take i ++ [(n, ss)] := by
          rw [List.take_add_one, hrow]
          rfl
        refine ⟨_, _, _, _, _, rvs ++ [.ref w7], kvs ++ [(Sum.inr n, .ref F9)], rfl, ?_, ?_, ?_, ?_, upd_same, ?_, ?_, ?_⟩
        · rw [upd_ne nxu]
          exact s9 _ _ mx
        · rw [upd_ne nru]
          exact s9 _ _ mr
        · rw [tk1]
          exact RowsK.wrX (s9 _ _ mu) (by intro xs z; cases z) (mra.same s9)
        · rw [upd_ne nqu, tk1, fsts_snoc, place_snoc, lf]
          exact s9 _ _ mq
        · rw [tk1, ancTab_snoc]
          refine Entries.wr (Entries.snoc (men.mono fun d as e => s9 _ _ e) ⟨rfl, F9, rfl, eF9⟩) ?_
          intro kv hk
          rcases List.mem_append.mp hk with z | z
          · exact (ene kv z).2.1
          · rw [List.mem_singleton.mp z]
            intro z2
            cases z2
            rw [mu] at nF9
            cases nF9
        · intro kv hk
          rcases List.mem_append.mp hk with z | z
          · exact ene kv z
          · rw [List.mem_singleton.mp z]
            refine ⟨fun z2 => ?_, fun z2 => ?_, fun z2 => ?_, F9, rfl, ?_⟩
            · cases z2
              rw [mq] at nF9
              cases nF9
            · cases z2
              rw [mu] at nF9
              cases nF9
            · cases z2
              rw [mr] at nF9
              cases nF9
            · cases hF : H F9 with
              | none => rfl
              | some o =>
                have nx : F9 ≠ x := fun z2 => by
                  rw [z2, mx] at nF9
                  cases nF9
                rw [mb F9 o nx hF] at nF9
                cases nF9
        · intro b o nb hb
          rw [upd_ne (ne_of_none hb nu0)]
          exact s9 _ _ (mb _ _ nb hb)
      · rw [hPv] at hP
        obtain ⟨y2, y3, y4, y5, y6, rvs, kvs, rfl, ex, er, era, eq, eu, een, ene, b4⟩ := hP
        have tk : rows.take us.length = rows := List.take_of_length_le (by omega)
        rw [tk] at era eq een
        have lr := era.length
        obtain ⟨mc, ul, h1, h2⟩ := T.lim
        refine ⟨.ref x, rfl, x, C, dx, _, _, rfl, ex, T.cl, T.nR, flds_rows r q u, r, rvs, rfl, .inl (.inl (.inl er)), C, mc, .int 20, ul, rfl, h1, h2, _, _, rfl, rfl, _, rfl, ?_⟩
        rw [decide_eq_false (by omega : ¬ (rvs.length : Int) > 20)]
        exact iteF (fin _ ⟨dx, r, q, u, rvs, kvs, ex, er, era, eq, eu, een, nr0, nq0, nu0, fun kv hk => (ene kv hk).2.2.2⟩ b4)
    · subst hemp
      have hr0 : rows = [] := List.eq_nil_of_length_eq_zero (by
        have : ([] : List V).length = 0 := rfl
        omega)
      refine .inr ⟨c, [], rfl, sqT_but hc hx gb, ?_⟩
      refine for_it (walk_enumT (xs := [])) Pv start (fun i σ H4 _ hP => ?_) (fun i v σ H4 H5 hi hP hY => ?_) (fun σ H4 hP => ?_)
      · rw [hPv] at hP
        obtain ⟨_, _, _, _, _, _, _, _, _, _, _, _, _, _, _, b4⟩ := hP
        exact sqT_but hc hx b4
      · exact absurd hi (Nat.not_lt_zero _)
      · rw [hPv] at hP
        obtain ⟨y2, y3, y4, y5, y6, rvs, kvs, rfl, ex, er, era, eq, eu, een, ene, b4⟩ := hP
        have tk : rows.take ([] : List V).length = rows := by
          rw [hr0]
          rfl
        rw [tk] at era eq een
        have lr := era.length
        obtain ⟨mc, ul, h1, h2⟩ := T.lim
        refine ⟨.ref x, rfl, x, C, dx, _, _, rfl, ex, T.cl, T.nR, flds_rows r q u, r, rvs, rfl, .inl (.inl (.inl er)), C, mc, .int 20, ul, rfl, h1, h2, _, _, rfl, rfl, _, rfl, ?_⟩
        rw [decide_eq_false (by omega : ¬ (rvs.length : Int) > 20)]
        exact iteF (fin _ ⟨dx, r, q, u, rvs, kvs, ex, er, era, eq, eu, een, nr0, nq0, nu0, fun kv hk => (ene kv hk).2.2.2⟩ b4)
end
end Lw
/-! A hierarchy as a tree; its making. -/
namespace Lw
open PySem PySem.Spec PyProof.Rows L2 Kv Pu
theorem flds_eq (r q u : Addr) : flds r q u = [(("rows" : Str), V.ref r), (("places" : Str), V.ref q), (("above" : Str), V.ref u)] := by
  have h1 : ¬ (("rows" : Str) = "places") := Kv.f2
  have h2 : ¬ (("rows" : Str) = "above") := Kv.f1
  have h3 : ¬ (("places" : Str) = "above") := Kv.f3
  simp only [flds, putF, if_neg h1, if_neg h2, if_neg h3]
theorem flds_fst (r q u : Addr) : (flds r q u).map (·.1) = [("rows" : Str), "places", "above"] := by rw [flds_eq]; rfl
theorem flds_snd (r q u : Addr) : (flds r q u).map (·.2) = [V.ref r, .ref q, .ref u] := by rw [flds_eq]; rfl
section
variable {K : PySem.W.Frag} {ok : Addr → Prop} {H : Hp}
theorem row_at {v : V} {d : D} {r : Row2} (h : Rep K ok H v d) (e : Pu.rowOf d = some r) : RowK K H v r := by
  unfold Pu.rowOf at e
  split at e
  · rename_i n ss
    obtain ⟨xs, ex, rfl⟩ := map_some e
    cases h with
    | tupO ht rs =>
      replace ht := ht.at (by rintro rfl; cases rs)
      cases rs with
      | cons r1 rr =>
        cases rr with
        | cons r2 r3 =>
          cases r3
          cases r1
          cases r2 with
          | tupO hs rss =>
            have := rss.strs ex
            subst this
            exact ⟨_, _, rfl, ht, hs⟩
  · cases e
theorem reps_strs : ∀ xs : List Str, Reps K ok H (xs.map V.str) (xs.map D.str)
  | [] => .nil
  | x :: xs => .cons (.str x) (reps_strs xs)
theorem row_rep {v : V} {r : Row2} (h : RowK K H v r) : Rep K ok H v (rowD r) := by
  obtain ⟨t, u, rfl, h1, h2⟩ := h
  exact .tup h1 (.cons (.str _) (.cons (.tupO h2 (reps_strs _)) .nil))
theorem rows_rep : ∀ {vs : List V} {rows : List Row2}, RowsK K H vs rows → Reps K ok H vs (rows.map rowD)
  | _, _, .nil => .nil
  | _, _, .cons a t => .cons (row_rep a) (rows_rep t)
theorem flag_rep {d : Addr} {as : List Str} (h : RdO ok H d (.dK (flag as))) : Rep K ok H (.ref d) (flagD as) := by
  have e1 : (flag as).map (·.1) = as.map (Sum.inr : Str → Key) := by unfold flag; rw [List.map_map]; rfl
  have e2 : (flag as).map (·.2) = as.map fun _ => V.bl true := by unfold flag; rw [List.map_map]; rfl
  have r : Reps K ok H ((flag as).map (·.2)) (as.map fun _ => D.bl true) := by
    rw [e2]
    clear h e1 e2
    induction as with
    | nil => exact .nil
    | cons _ _ ih => exact .cons (.bl true) ih
  have := Rep.dic h r
  rw [e1] at this
  exact this
theorem entries_rep : ∀ {kvs : List (Key × V)} {tab : Tab}, Entries H kvs tab → (∀ kv ∈ kvs, ∃ d, kv.2 = .ref d ∧ ok d) → kvs.map (·.1) = tab.map (fun p => (Sum.inr p.1 : Key)) ∧ Reps K ok H (kvs.map (·.2)) (tab.map fun p => flagD p.2)
  | _, _, .nil, _ => ⟨rfl, .nil⟩
  | kv :: kvs, p :: tab, .cons ⟨e1, d, e2, e3⟩ t, hk => by
    obtain ⟨i1, i2⟩ := entries_rep t fun kv h => hk kv (List.mem_cons_of_mem _ h)
    obtain ⟨d', e4, k⟩ := hk kv (List.mem_cons_self ..)
    rw [e2] at e4
    cases e4
    refine ⟨by rw [List.map_cons, List.map_cons, i1, e1], ?_⟩
    rw [List.map_cons, List.map_cons, e2]
    exact .cons (flag_rep (.inl ⟨e3, k⟩)) i2
theorem places_rep (ns : List Str) : (placeKV ns).map (·.1) = ns.map (Sum.inr : Str → Key) ∧ Reps K ok H ((placeKV ns).map (·.2)) (idxD ns.length) := by
  have e1 : (placeKV ns).map (·.1) = ns.map (Sum.inr : Str → Key) := by
    unfold placeKV
    rw [List.map_map]
    show (ns.zipIdx.map fun p => (Sum.inr p.1 : Key)) = _
    have : ns.zipIdx.map Prod.fst = ns := List.zipIdx_map_fst ..
    conv => rhs; rw [← this, List.map_map]
    rfl
  have e2 : (placeKV ns).map (·.2) = (List.range ns.length).map fun i => V.int (i : Nat) := by
    unfold placeKV
    rw [List.map_map]
    show (ns.zipIdx.map fun p => V.int (p.2 : Nat)) = _
    have : ns.zipIdx.map Prod.snd = List.range ns.length := by rw [List.zipIdx_map_snd, List.range_eq_range']
    rw [← this, List.map_map]
    rfl
  refine ⟨e1, ?_⟩
  rw [e2]
  unfold idxD
  have : ∀ l : List Nat, Reps K ok H (l.map fun i => V.int (i : Nat)) (l.map fun i => D.int (i : Nat)) := fun l => by
    induction l with
    | nil => exact .nil
    | cons a l ih => exact .cons (.int _) ih
  exact this _
end
section
variable {X : Cx} {g : Gx} {E : Wx} {k : Nat} {C f : Addr} {fd : FuncData} {e : Expr} {fe : P D} {p pos : Pos}
end
end Lw
/-! A hierarchy made of any rows, or refused. -/
namespace Lx
open PySem PySem.Spec PyProof.Rows L2 Kv Pu Lw
theorem probT_len {ns : List Str} {d : D} {p : Str} (h : probT ns d = some p) : p.length ≤ 100 := by
  unfold probT at h
  split at h
  · split at h
    · cases h; decide +kernel
    · split at h
      · cases h; decide +kernel
      · split at h
        · cases h; decide +kernel
        · cases h
  · cases h; decide +kernel
theorem strsD_of : ∀ {ds : List D} {xs : List Str}, Pu.strsD ds = some xs → ds.map strT = xs ∧ ∀ ns : List Str, ds.all (inT ns) = xs.all fun x => decide (x ∈ ns)
  | [], xs, h => by cases h; exact ⟨rfl, fun _ => rfl⟩
  | d :: ds, xs, h => by
    cases d with
    | str x =>
      unfold Pu.strsD at h
      cases e : Pu.strsD ds with
      | none => simp only [e] at h; cases h
      | some ys =>
        simp only [e] at h
        cases h
        obtain ⟨i1, i2⟩ := strsD_of e
        exact ⟨by rw [List.map_cons, i1]; rfl, fun ns => by rw [List.all_cons, List.all_cons, i2]; rfl⟩
    | _ => unfold Pu.strsD at h; cases h
theorem prob_row {ns : List Str} {d : D} {n : Str} {ss : List Str} (hr : Pu.rowOf d = some (n, ss)) (h : probT ns d = none) : nameV (.str n) = true ∧ n ∉ ns ∧ ss.Nodup ∧ ∀ y ∈ ss, y ∈ ns := by
  unfold Pu.rowOf at hr
  split at hr
  · rename_i n' ds
    cases es : Pu.strsD ds with
    | none => rw [es] at hr; cases hr
    | some xs =>
      rw [es] at hr
      cases hr
      obtain ⟨i1, i2⟩ := strsD_of es
      have e : probT ns (.tup [.str n, .tup ds]) = (if nameT (.str n) = false then some ("name" : Str) else if inT ns (.str n) = true then some ("duplicate" : Str) else if areT ns (.tup ds) = false then some ("superclasses" : Str) else none) := rfl
      rw [e] at h
      split at h
      · cases h
      · rename_i c1
        split at h
        · cases h
        · rename_i c2
          split at h
          · cases h
          · rename_i c3
            have c3 : areT ns (.tup ds) = true := by cases e : areT ns (.tup ds) with | true => rfl | false => exact absurd e c3
            have c3 : (ds.all (inT ns) && decide ((ds.map strT).Nodup)) = true := c3
            rw [i1, i2, Bool.and_eq_true, decide_eq_true_eq, List.all_eq_true] at c3
            refine ⟨?_, fun hn => c2 (decide_eq_true hn), c3.2, fun y hy => of_decide_eq_true (c3.1 y hy)⟩
            cases e : nameV (.str n) with
            | true => rfl
            | false => exact absurd e c1
  · cases hr
theorem rep_seq_ty {K : PySem.W.Frag} {ok : Addr → Prop} {H : Hp} {v : V} {d : D} {ds : List D} (r : Rep K ok H v d) (h : seqD d = some ds) : ∃ T0 : String, (∀ H', Same H H' → TyX K H' v (.type T0)) ∧ PySem.W.kitAny K (.type T0) [.type "list", .type "tuple"] = some true := by
  have kl : PySem.W.kitAny K (.type "list") [.type "list", .type "tuple"] = some true := kitAny_cons (kit_ty (by decide +kernel : kitB "list" "list" = some true)) (fun z => nomatch z) (fun _ => rfl)
  have kt : PySem.W.kitAny K (.type "tuple") [.type "list", .type "tuple"] = some true := kitAny_cons (kit_ty (by decide +kernel : kitB "tuple" "list" = some false))
          (fun _ => kitAny_cons (kit_ty (by decide +kernel : kitB "tuple" "tuple" = some true)) (fun z => nomatch z) (fun _ => rfl)) (fun z => nomatch z)
  cases r with
  | lst h1 k r => exact ⟨"list", fun H' s' => .base (.lst (s' _ _ h1)), kl⟩
  | lstF h1 r =>
    refine ⟨"list", fun H' s' => ?_, kl⟩
    rcases h1 with ⟨o, h1⟩ | ⟨o, its, n, hk, hc, _⟩
    · exact .base (.frz (s' _ _ h1))
    · exact .kList hk hc
  | tupO h1 r => exact ⟨"tuple", fun H' s' => (h1.same s').ty, kt⟩
  | tupF h1 r =>
    refine ⟨"tuple", fun H' s' => ?_, kt⟩
    rcases h1 with ⟨o, h1, _⟩ | ⟨o, its, n, hk, hc, _⟩
    · exact .fTuple (s' _ _ h1)
    · exact .kTuple hk hc
  | _ => cases h
def ihF (p : Str) (i : Int) : List (Str × V) := [("position", .int i), ("problem", .str p)]
theorem rep_but {K : PySem.W.Frag} {ok : Addr → Prop} {H H' : Hp} {x C dx : Addr} {fs gs : List (Str × V)} (nk : ¬ ok x) (hx : H x = some (.ins C dx fs)) (hx2 : H' x = some (.ins C dx gs)) (b : But x H H') {v : V} {d : D} (r : Rep K ok H v d) : Rep K ok H' v d := by
  refine r.fr (.of (fun a o h v => ?_) (fun _ _ _ k => k) fun a h => ?_)
  · by_cases z : a = x
    · subst z
      rw [hx] at h
      cases h
      exact absurd (v trivial) nk
    · exact b a o z h
  · cases e : H a with
    | none => rfl
    | some o =>
      by_cases z : a = x
      · subst z; rw [hx2] at h; cases h
      · rw [b a o z e] at h; cases h
section
variable {P : Program} {w : World} {K : PySem.W.Frag} {mg : Str → Option Value} {base : Heap}
def spInitX (K : PySem.W.Frag) (C CI : Addr) : Sp := fun vs H Q E => ∃ (x dx : Addr) (v : V) (d : D) (ds : List D) (ok : Addr → Prop) (o : Except (Str × Nat) (List Row2)), vs = [.ref x, v] ∧ H x = some (.ins C dx []) ∧ Rep K ok H v d ∧ seqD d = some ds ∧ ¬ ok x ∧ ds.length ≤ 90 ∧ judge [] ds = some o ∧
  (∀ rows, o = .ok rows → rows.length ≤ 20 → ∀ H', HierNw K C H H' x rows → But x H H' → Q .non H') ∧
  (∀ rows, o = .ok rows → ¬ rows.length ≤ 20 → ∀ H' e, H' e = some (.xd (ihF "count" 20)) → But x H H' → H e = none → E (.ref CI) (some e) H') ∧
  (∀ p i, o = .error (p, i) → ∀ H' e, H' e = some (.xd (ihF p (i : Nat))) → But x H H' → H e = none → E (.ref CI) (some e) H')
theorem mk_ih {C : Addr} {cond : List V → Hp → Prop} {H1 : Hp} {p : Str} {i : Int} {Q : XK} (hc : ∀ a o, H1 a = none → cond [.str p, .int i] (upd H1 a o))
    (q : ∀ H' e, Same H1 H' → H1 e = none → H' e = some (.xd (ihF p i)) → Q (.ref C) (some e) H') : ∀ a, H1 a = none →
    spEx C ["problem", "position"] cond (.ref a :: ([.str p, .int i] ++ [])) (upd H1 a (exo a C none)) (fun v H2 => v = .non ∧ ∃ (d : Addr) (fs : List (Str × V)), H2 a = some (exo a C (some d)) ∧ H2 d = some (exd d fs) ∧ H1 d = none ∧ Q (.ref C) (some d) (upd (del H2 a) d (.xd fs))) (fun _ _ _ => False) := by
  intro a na
  refine ⟨a, [.str p, .int i], rfl, rfl, upd_same, hc a _ na, fun d nd da => ⟨rfl, d, ihF p i, ?_, upd_same, ?_, ?_⟩⟩
  · rw [upd_ne (Ne.symm da), upd_same]
  · rw [upd_ne da] at nd; exact nd
  · rw [upd_ne da] at nd
    refine q _ _ (fun b o hb => ?_) nd upd_same
    have nbd := ne_of_none hb nd
    have nba := ne_of_none hb na
    rw [upd_ne nbd, del_ne nba, upd_ne nbd, upd_ne nba, upd_ne nba]
    exact hb
theorem ok_initX {f fP fA C CI : Addr} {fd fdP fdA : FuncData} {k kI : Nat} {dvs : List V} (F : FunD K "__init__" "Hierarchy.__init__" (defArgs m_init) (defBody m_init) (defScope m_init) dvs [] f fd) (T : HTxt K mg C)
    (FP : Fun K "row_problem" "row_problem" sProb fP fdP) (bP : Binds K fdP ["row", "known"] []) (gP : mg "row_problem" = some (.ref fP))
    (FA : Fun K "ancestors_of" "ancestors_of" sAnc fA fdA) (bA : Binds K fdA ["name", "superclasses", "above"] []) (gA : mg "ancestors_of" = some (.ref fA))
    (cI : RsC P w K mg base kI "InvalidHierarchy" CI ["problem", "position"] textI) (hkI : kI ≤ k + 2)
    (GP : FnOk P w K mg base CX0 (k + 2) fP fdP ["row", "known"] (Lx.spProb K)) (GA : FnOk P w K mg base CX0 (k + 1) fA fdA ["name", "superclasses", "above"] (spAnc K))
    (mi : mg "isinstance" = none) (mT : mg "tuple" = none) (mL : mg "list" = none) (me : mg "enumerate" = none) (ml : mg "len" = none) :
    FnOk P w K mg base (L2.CX P w) (k + 4) f fd ["self", "classes"] (spInitX K C CI) := by
  refine F.ok scInit (fun vs H Q E h => ?_) (fun cdv A outer s H vs Q E hr h => ?_)
  · obtain ⟨x, dx, v, d, ds, ok, o, rfl, _⟩ := h
    rfl
  · obtain ⟨x, dx, v, d, ds, ok, o, rfl, hx, rep, hseq, nkx, hlen, hjd, finO, finC, finE⟩ := h
    obtain ⟨fI, fdI, psI, cond, TI, iI, tI, GI, bI, gI, hlI, hzI, hcdI⟩ := cI.ex
    have hcon : ∀ {p : Str} {i : Int} {H1 : Hp}, p.length ≤ 100 → 0 ≤ i → i ≤ 1000000 → ∀ a o, H1 a = none → cond [.str p, .int i] (upd H1 a o) := fun {p i H1} h1 h2 h3 =>
      hcdI (fun _ => True) H1 [.str p, .int i] [.str p, .int i] (.cons (.str p) (.cons (.int i) .nil)) (by show (decide (p.length ≤ 100) && decide (0 ≤ i) && decide (i ≤ 1000000)) = true; rw [decide_eq_true h1, decide_eq_true h2, decide_eq_true h3]; rfl)
    have hu := hu_of hr
    have hrA := hr.mono (by omega : k + 1 ≤ k + 3)
    have hrP := hr.mono (by omega : k + 2 ≤ k + 3)
    have hrI := hr.mono (by omega : kI + 1 ≤ k + 3)
    refine ⟨_, pss_cons (ps_if (pt_not (pt_val (pe_callB call_isiT (by rfl) mi (by decide +kernel) (pa_cons (pv 1)
          (pa_cons (pe_tup (pa_cons (pe_bltn (v := .ty "list") (by rfl) mL (by decide +kernel : bootBuiltins "list" = some (.type "list")) rfl)
            (pa_cons (pe_bltn (v := .ty "tuple") (by rfl) mT (by decide +kernel : bootBuiltins "tuple" = some (.type "tuple")) rfl) pa_nil))) pa_nil)))))
          (pss_one (ps_raise rfl (takes_of rfl rfl rfl rfl) (Er.pmk_ex TI iI tI GI hrI bI .nil pass0 (by rfl) gI (pa_cons pe_str (pa_cons pe_int pa_nil))))) pss_nil)
      (pss_cons (ps_fld (pv 0) (pe_lst pa_nil) rfl)
      (pss_cons (ps_fld (pv 0) pe_dnewK rfl)
      (pss_cons (ps_fld (pv 0) pe_dnewK rfl)
      (pss_cons (ps_for (passes_of rfl) rfl (pi_enumS (by rfl) me (pa_cons (pv 1) pa_nil))
          (pg_tup rfl (pgs_cons (pg_name (i := 2) scInit.nd rfl (.inl rfl)) (pgs_cons (pg_name (i := 3) scInit.nd rfl (.inl rfl)) pgs_nil)))
        (pss_cons (ps_set (i := 4) scInit.nd rfl (.inl rfl) (pe_call GP hrP (by rfl) gP FP.kp bP .nil pass0 (pa_cons (pv 3) (pa_cons (pe_fld (pv 0) rfl) pa_nil))))
        (pss_cons (ps_if (pt_cmpR op_notN (pv 4) pe_non (nomark _)) (pss_one (ps_raise rfl (takes_of rfl rfl rfl rfl) (Er.pmk_ex TI iI tI GI hrI bI .nil pass0 (by rfl) gI (pa_cons (pv 4) (pa_cons (pv 2) pa_nil))))) pss_nil)
        (pss_cons (ps_asg (pv 3) (pg_tup (by rfl) (pgs_cons (pg_name (i := 5) scInit.nd rfl (.inl rfl)) (pgs_cons (pg_name (i := 6) scInit.nd rfl (.inl rfl)) pgs_nil))))
        (pss_cons (ps_expr (pe_bm PySem.F.plainAttrs_list PySem.F.slot_list_append PySem.F.type_list_append mt_append (pe_fld (pv 0) rfl)
            (pa_cons (pe_tup (pa_cons (pv 5) (pa_cons (pv 6) pa_nil))) pa_nil)))
        (pss_cons (ps_dput hu (pe_fld (pv 0) rfl) (pv 5) (pv 2) rfl)
        (pss_one (ps_dput hu (pe_fld (pv 0) rfl) (pv 5) (pe_call GA hrA (by rfl) gA FA.kp bA .nil pass0 (pa_cons (pv 5) (pa_cons (pv 6) (pa_cons (pe_fld (pv 0) rfl) pa_nil)))) rfl))))))))
      (pss_one (ps_if (pt_cmpR op_gt (pe_callB call_len_seq (by rfl) ml PySem.boot_len (pa_cons (pe_fld (pv 0) rfl) pa_nil)) (ClX.pe_cval (pe_glob (v := .ref C) (by rfl) T.mgC rfl)) (nomark _))
          (pss_one (ps_raise rfl (takes_of rfl rfl rfl rfl) (Er.pmk_ex TI iI tI GI hrI bI .nil pass0 (by rfl) gI (pa_cons pe_str (pa_cons (ClX.pe_cval (pe_glob (v := .ref C) (by rfl) T.mgC rfl)) pa_nil))))) pss_nil)))))), ?_⟩
    obtain ⟨T0, hty, hkit⟩ := rep_seq_ty rep hseq
    refine ⟨v, rfl, (by decide : 2 ≤ sizeLine), fun tp ntp => ?_⟩
    have s0 := same_new (o := .tup [.ty "list", .ty "tuple"]) ntp
    refine ⟨v, tp, [.ty "list", .ty "tuple"], _, [.type "list", .type "tuple"], true, rfl, upd_same, .cons (.ty _) (.cons (.ty _) .nil), hty _ s0, hkit, true, rfl, iteF ?_⟩
    have x0 := s0 _ _ hx
    refine ⟨(by decide : 0 ≤ sizeLine), fun r nr => ?_⟩
    have nxr : x ≠ r := ne_of_none x0 nr
    refine ⟨.ref x, rfl, x, C, dx, [], rfl, (by rw [upd_ne nxr]; exact x0), T.cl, T.nR, (by show 0 < 1000; decide), ?_⟩
    intro q nq
    have nxq : x ≠ q := ne_of_none upd_same nq
    have nrq : r ≠ q := ne_of_none (o := .lst []) (by rw [upd_ne nxr.symm, upd_same]) nq
    refine ⟨.ref x, rfl, x, C, dx, _, rfl, (by rw [upd_ne nxq, upd_same]), T.cl, T.nP, (by show 1 < 1000; decide), ?_⟩
    intro u nu
    have nxu : x ≠ u := ne_of_none upd_same nu
    have nqu : q ≠ u := ne_of_none (o := .dK []) (by rw [upd_ne nxq.symm, upd_same]) nu
    have nru : r ≠ u := ne_of_none (o := .lst []) (by rw [upd_ne nxr.symm, upd_ne nrq, upd_ne nxr.symm, upd_same]) nu
    refine ⟨.ref x, rfl, x, C, dx, _, rfl, (by rw [upd_ne nxu, upd_same]), T.cl, T.nA, two_flds r q, ?_⟩
    have nr0 : H r = none := s0.free nr
    have nq0 : H q = none := by
      have : (upd (upd H tp (.tup [.ty "list", .ty "tuple"])) r (.lst [])) q = none := by
        rw [upd_ne nxq.symm] at nq
        exact nq
      exact s0.free ((same_new nr).free this)
    have nu0 : H u = none := by
      rw [upd_ne nxu.symm, upd_ne nqu.symm, upd_ne nxu.symm] at nu
      exact s0.free ((same_new nr).free nu)
    generalize hG : (upd (upd (upd (upd (upd (upd (upd H tp (.tup [.ty "list", .ty "tuple"])) r (.lst [])) x (.ins C dx (putF "rows" (.ref r) []))) q (.dK [])) x (.ins C dx (putF "places" (.ref q) (putF "rows" (.ref r) [])))) u (.dK [])) x (.ins C dx (putF "above" (.ref u) (putF "places" (.ref q) (putF "rows" (.ref r) []))))) = G
    have gx : G x = some (.ins C dx (flds r q u)) := by
      rw [← hG]
      exact upd_same
    have gr : G r = some (.lst []) := by
      rw [← hG, upd_ne nxr.symm, upd_ne nru, upd_ne nxr.symm, upd_ne nrq, upd_ne nxr.symm, upd_same]
    have gq : G q = some (.dK []) := by
      rw [← hG, upd_ne nxq.symm, upd_ne nqu, upd_ne nxq.symm, upd_same]
    have gu : G u = some (.dK []) := by
      rw [← hG, upd_ne nxu.symm, upd_same]
    have gb : But x H G := by
      intro b o nb hb
      rw [← hG, upd_ne nb, upd_ne (ne_of_none hb nu0), upd_ne nb, upd_ne (ne_of_none hb nq0), upd_ne nb, upd_ne (ne_of_none hb nr0)]
      exact s0 _ _ hb
    clear hG
    obtain ⟨c, us, rfl, hsq, hus⟩ := Pk.seq (.inl rep) hseq
    obtain ⟨Pv, hPv⟩ : ∃ Pv : Nat → L2.St → Hp → Prop, Pv = fun i σ H4 => ∃ (y2 y3 y4 y5 y6 : Option V) (rows : List Row2) (rvs : List V) (kvs : List (Key × V)), σ = [some (.ref x), some (.ref c), y2, y3, y4, y5, y6] ∧ rows.length = i ∧ judge [] ds = judge rows (ds.drop i) ∧
        H4 x = some (.ins C dx (flds r q u)) ∧ H4 r = some (.lst rvs) ∧ RowsK K H4 rvs rows ∧ H4 q = some (.dK (placeKV (fsts rows))) ∧ H4 u = some (.dK kvs) ∧
        Entries H4 kvs (ancTab rows) ∧ (∀ kv ∈ kvs, kv.2 ≠ .ref q ∧ kv.2 ≠ .ref u ∧ kv.2 ≠ .ref r ∧ ∃ d, kv.2 = .ref d ∧ H d = none) ∧ But x H H4 := ⟨_, rfl⟩
    have start : Pv 0 [some (.ref x), some (.ref c), none, none, none, none, none] G := by
      rw [hPv]
      exact ⟨none, none, none, none, none, [], [], [], rfl, rfl, rfl, gx, gr, .nil, gq, gu, .nil, fun kv h => (nomatch h), gb⟩
    have lenU : us.length = ds.length := hus.length
    have fresh : ∀ {H4 H' : Hp} {e : Addr}, H4 x = some (.ins C dx (flds r q u)) → But x H H4 → Same H4 H' → H4 e = none → H e = none := fun {H4 H' e} ex b4 s7 ne => by
      cases hz : H e with
      | none => rfl
      | some o =>
        by_cases zx : e = x
        · rw [zx, ex] at ne
          cases ne
        · rw [b4 _ _ zx hz] at ne
          cases ne
    refine ⟨.ref c, rfl, ?_⟩
    rcases hsq with hc | hc
    · refine .inl ⟨c, us, rfl, sqL_but hc hx gb, ?_⟩
      refine for_it (walk_enum (xs := us)) Pv start (fun i σ H4 _ hP => ?_) (fun i v σ H4 H5 hi hP hY => ?_) (fun σ H4 hP => ?_)
      · rw [hPv] at hP
        obtain ⟨_, _, _, _, _, _, _, _, _, _, _, _, _, _, _, _, _, _, b4⟩ := hP
        exact sqL_but hc hx b4
      · rw [hPv] at hP
        obtain ⟨y2, y3, y4, y5, y6, rows, rvs, kvs, rfl, lr0, pre, ex, er, era, eq, eu, een, ene, b4⟩ := hP
        obtain ⟨T5, a5, v5, rfl, nT5, rfl, ea5, ev5⟩ := hY
        cases Option.some.inj ea5
        obtain ⟨d5, hd5, rep5⟩ := hus.get ev5
        have il : i < us.length := hi
        have il2 : i < ds.length := by omega
        have s5 := same_new (o := .tup [.int (i : Nat), v5]) nT5
        have rep4 : Rep K ok H4 v5 d5 := rep_but nkx hx ex b4 rep5
        have lf : (fsts rows).length = i := by
          unfold fsts
          rw [List.length_map]
          exact lr0
        have drop : ds.drop i = d5 :: ds.drop (i + 1) := by
          rw [List.drop_eq_getElem_cons il2]
          rw [List.getElem?_eq_getElem il2] at hd5
          rw [Option.some.inj hd5]
        have hjd2 := hjd
        rw [pre, drop] at hjd2
        unfold judge at hjd2
        split at hjd2
        case isFalse => cases hjd2
        rename_i okr
        refine ⟨T5, [.int (i : Nat), v5], rfl, .inl (.inl upd_same), rfl, _, _, rfl, _, _, rfl, rfl, ?_⟩
        -- problem
        refine ⟨v5, rfl, .ref x, rfl, x, C, dx, _, _, rfl, s5 _ _ ex, T.cl, T.nP, flds_places r q u, v5, ok, d5, q, fsts rows, _, rfl, rep_same s5 rep4, okr, s5 _ _ eq, (fun y => place_val y _), fun H6 s6 => ?_⟩
        have s46 := s5.trans s6
        cases hpr : probT (fsts rows) d5 with
        | some pr =>
          rw [hpr] at hjd2
          refine ⟨.str pr, rfl, rfl, _, rfl, iteT ?_⟩
          have ge : o = .error (pr, i) := by
            have := Option.some.inj hjd2
            rw [← this, lr0]
          refine ⟨.str pr, rfl, .int (i : Nat), rfl, (show 2 ≤ 1000 from by decide), mk_ih (hcon (probT_len hpr) (by omega) (by omega)) fun H7 e s7 ne he => ?_⟩
          refine finE pr i ge H7 e he (fun b o _ hb => s7 _ _ (s46 _ _ (b4 _ _ (by assumption) hb))) ?_
          exact fresh ex b4 (s46.trans s7) (s46.free ne)
        | none =>
        rw [hpr] at hjd2
        obtain ⟨⟨n, ss⟩, hrow⟩ : ∃ r, Pu.rowOf d5 = some r := by
          cases e : Pu.rowOf d5 with
          | none => rw [e] at hjd2; cases hjd2
          | some r => exact ⟨r, rfl⟩
        obtain ⟨v1, v2, v3, v4⟩ := prob_row hrow hpr
        obtain ⟨t, sA, rfl, ht, hsA⟩ := row_at rep4 hrow
        have RA4 : RowK K H4 (.ref t) (n, ss) := ⟨t, sA, rfl, ht, hsA⟩
        have ssl : ss.length ≤ i := by
          have := nodup_le v3 v4
          omega
        have vn : valV (placeKV (fsts rows)) (Sum.inr n : Key) = none := by
          have := place_val n (fsts rows)
          rw [decide_eq_false v2] at this
          exact Option.isNone_iff_eq_none.mp (by rw [← Option.not_isSome, this]; rfl)
        refine ⟨.non, rfl, rfl, _, rfl, iteF ?_⟩
        -- name, superclasses = row
        refine ⟨.ref t, rfl, t, _, rfl, .inl (.inl (s46 _ _ ht)), rfl, _, _, rfl, _, _, rfl, rfl, ?_⟩
        -- self.rows.append(..)
        have r6 := s46 _ _ er
        refine ⟨.ref x, rfl, x, C, dx, _, _, rfl, s46 _ _ ex, T.cl, T.nR, flds_rows r q u, .inl ⟨rfl, _, .inl (.inl r6)⟩, .str n, rfl, .ref sA, rfl, (by decide : 2 ≤ sizeLine), fun w7 n7 => ?_⟩
        have s7 := same_new (o := .tup [.str n, .ref sA]) n7
        have s47 := s46.trans s7
        have r7 := s47 _ _ er
        have lr : rvs.length = i := by
          have := era.length
          omega
        refine ⟨r, rvs, _, rfl, rfl, r7, sz1 (by omega), ?_⟩
        have x8 : ∀ o, (upd (upd H6 w7 (.tup [.str n, .ref sA])) r o) x = some (.ins C dx (flds r q u)) := fun o => by
          rw [upd_ne nxr]
          exact s47 _ _ ex
        have q8 : ∀ o, (upd (upd H6 w7 (.tup [.str n, .ref sA])) r o) q = some (.dK (placeKV (fsts rows))) := fun o => by
          rw [upd_ne nrq.symm]
          exact s47 _ _ eq
        have u8 : ∀ o, (upd (upd H6 w7 (.tup [.str n, .ref sA])) r o) u = some (.dK kvs) := fun o => by
          rw [upd_ne nru.symm]
          exact s47 _ _ eu
        -- self.places[name] = position
        refine ⟨.int (i : Nat), rfl, .ref x, rfl, x, C, dx, _, _, rfl, x8 _, T.cl, T.nP, flds_places r q u, .str n, rfl, q, _, rfl, DPut.k (k := Sum.inr n) (q8 _) (by rw [place_len]; exact sz1 (by omega)), ?_⟩
        rw [putK_new _ vn]
        generalize hM : upd (upd (upd H6 w7 (.tup [.str n, .ref sA])) r (.lst (rvs ++ [.ref w7]))) q (.dK (placeKV (fsts rows) ++ [(Sum.inr n, .int (i : Nat))])) = M
        have mx : M x = some (.ins C dx (flds r q u)) := by
          rw [← hM, upd_ne nxq]
          exact x8 _
        have mr : M r = some (.lst (rvs ++ [.ref w7])) := by
          rw [← hM, upd_ne nrq, upd_same]
        have mq : M q = some (.dK (placeKV (fsts rows) ++ [(Sum.inr n, .int (i : Nat))])) := by
          rw [← hM, upd_same]
        have mu : M u = some (.dK kvs) := by
          rw [← hM, upd_ne nqu.symm]
          exact u8 _
        have mra : RowsK K M (rvs ++ [.ref w7]) (rows ++ [(n, ss)]) := by
          rw [← hM]
          refine RowsK.wrX (q8 _) (by intro xs z; cases z) (RowsK.wrX r7 (by intro xs z; cases z) ?_)
          refine RowsK.snoc (era.same s47) ⟨w7, sA, rfl, upd_same, ?_⟩
          exact hsA.same s47
        have men : Entries M kvs (ancTab rows) := by
          rw [← hM]
          refine Entries.wr (Entries.wr (een.mono fun d as e => s47 _ _ e) fun kv hk => (ene kv hk).2.2.1) fun kv hk => (ene kv hk).1
        have mb : But x H M := by
          intro b o nb hb
          rw [← hM, upd_ne (ne_of_none hb nq0), upd_ne (ne_of_none hb nr0)]
          exact s47 _ _ (b4 _ _ nb hb)
        have hMA : TpO K M sA (ss.map V.str) := by
          rw [← hM]
          exact hsA.map fun h => by rw [upd_ne (ne_of (s47 _ _ h) (s47 _ _ eq) (by intro z; cases z)), upd_ne (ne_of (s47 _ _ h) r7 (by intro z; cases z))]; exact s47 _ _ h
        have tko : TabOk (ancTab rows) := by
          have := ancTab_ok rows rows.length
          rw [List.take_length] at this
          exact this
        clear hM
        have msA := hMA
        -- ancestors_of(name, superclasses, self.above)
        refine ⟨.str n, rfl, .ref sA, rfl, .ref x, rfl, x, C, dx, _, _, rfl, mx, T.cl, T.nA, flds_above r q u, n, sA, u, ss, kvs, ancTab rows, rfl, msA, mu, men, tko, ?_, ?_, fun H9 F9 s9 nF9 eF9 => ?_⟩
        · have := ancTab_keys rows
          have e2 := congrArg List.length this
          unfold tabKeys at e2
          rw [List.length_map, lf] at e2
          omega
        · intro y hy
          rw [ancTab_keys]
          exact v4 y hy
        have kl : kvs.length = i := by
          have h1 := men.length
          have := ancTab_keys rows
          have e2 := congrArg List.length this
          unfold tabKeys at e2
          rw [List.length_map, lf] at e2
          omega
        have kn : valV kvs (Sum.inr n : Key) = none := men.none (by rw [ancTab_keys]; exact v2)
        refine ⟨.ref x, rfl, x, C, dx, _, _, rfl, s9 _ _ mx, T.cl, T.nA, flds_above r q u, .str n, rfl, u, _, rfl, DPut.k (k := Sum.inr n) (s9 _ _ mu) (sz1 (by omega)), ?_⟩
        rw [putK_new _ kn, hPv]
        refine ⟨_, _, _, _, _, rows ++ [(n, ss)], rvs ++ [.ref w7], kvs ++ [(Sum.inr n, .ref F9)], rfl, ?_, ?_, ?_, ?_, ?_, ?_, upd_same, ?_, ?_, ?_⟩
        · rw [List.length_append, lr0]
          rfl
        · rw [pre, drop]
          conv => lhs; unfold judge
          rw [if_pos okr, hpr, hrow]
        · rw [upd_ne nxu]
          exact s9 _ _ mx
        · rw [upd_ne nru]
          exact s9 _ _ mr
        · exact RowsK.wrX (s9 _ _ mu) (by intro xs z; cases z) (mra.same s9)
        · rw [upd_ne nqu, fsts_snoc, place_snoc, lf]
          exact s9 _ _ mq
        · rw [ancTab_snoc]
          refine Entries.wr (Entries.snoc (men.mono fun d as e => s9 _ _ e) ⟨rfl, F9, rfl, eF9⟩) ?_
          intro kv hk
          rcases List.mem_append.mp hk with z | z
          · exact (ene kv z).2.1
          · rw [List.mem_singleton.mp z]
            intro z2
            cases z2
            rw [mu] at nF9
            cases nF9
        · intro kv hk
          rcases List.mem_append.mp hk with z | z
          · exact ene kv z
          · rw [List.mem_singleton.mp z]
            refine ⟨fun z2 => ?_, fun z2 => ?_, fun z2 => ?_, F9, rfl, ?_⟩
            · cases z2
              rw [mq] at nF9
              cases nF9
            · cases z2
              rw [mu] at nF9
              cases nF9
            · cases z2
              rw [mr] at nF9
              cases nF9
            · cases hF : H F9 with
              | none => rfl
              | some o =>
                have nx : F9 ≠ x := fun z2 => by
                  rw [z2, mx] at nF9
                  cases nF9
                rw [mb F9 o nx hF] at nF9
                cases nF9
        · intro b o nb hb
          rw [upd_ne (ne_of_none hb nu0)]
          exact s9 _ _ (mb _ _ nb hb)
      · rw [hPv] at hP
        obtain ⟨y2, y3, y4, y5, y6, rows, rvs, kvs, rfl, lr0, pre, ex, er, era, eq, eu, een, ene, b4⟩ := hP
        have ge : o = .ok rows := by
          rw [pre, List.drop_of_length_le (by omega), judge] at hjd
          exact (Option.some.inj hjd).symm
        have lr := era.length
        obtain ⟨mc, ul, h1, h2⟩ := T.lim
        refine ⟨.ref x, rfl, x, C, dx, _, _, rfl, ex, T.cl, T.nR, flds_rows r q u, r, rvs, rfl, .inl (.inl (.inl er)), C, mc, .int 20, ul, rfl, h1, h2, _, _, rfl, rfl, _, rfl, ?_⟩
        by_cases hmany : rows.length ≤ 20
        · rw [decide_eq_false (by omega : ¬ (rvs.length : Int) > 20)]
          exact iteF (finO rows ge hmany _ ⟨dx, r, q, u, rvs, kvs, ex, er, era, eq, eu, een, nr0, nq0, nu0, fun kv hk => (ene kv hk).2.2.2⟩ b4)
        · rw [decide_eq_true (by omega : (rvs.length : Int) > 20)]
          refine iteT ⟨C, mc, .int 20, ul, rfl, h1, h2, (show 2 ≤ 1000 from by decide), mk_ih (hcon (by decide +kernel) (by decide) (by decide)) fun H7 e s7 ne he => ?_⟩
          exact finC rows ge hmany H7 e he (fun b o nb hb => s7 _ _ (b4 _ _ nb hb)) (fresh ex b4 s7 ne)
    · refine .inr ⟨c, us, rfl, sqT_but hc hx gb, ?_⟩
      refine for_it (walk_enumT (xs := us)) Pv start (fun i σ H4 _ hP => ?_) (fun i v σ H4 H5 hi hP hY => ?_) (fun σ H4 hP => ?_)
      · rw [hPv] at hP
        obtain ⟨_, _, _, _, _, _, _, _, _, _, _, _, _, _, _, _, _, _, b4⟩ := hP
        exact sqT_but hc hx b4
      · rw [hPv] at hP
        obtain ⟨y2, y3, y4, y5, y6, rows, rvs, kvs, rfl, lr0, pre, ex, er, era, eq, eu, een, ene, b4⟩ := hP
        obtain ⟨T5, a5, v5, rfl, nT5, rfl, ea5, ev5⟩ := hY
        cases Option.some.inj ea5
        obtain ⟨d5, hd5, rep5⟩ := hus.get ev5
        have il : i < us.length := hi
        have il2 : i < ds.length := by omega
        have s5 := same_new (o := .tup [.int (i : Nat), v5]) nT5
        have rep4 : Rep K ok H4 v5 d5 := rep_but nkx hx ex b4 rep5
        have lf : (fsts rows).length = i := by
          unfold fsts
          rw [List.length_map]
          exact lr0
        have drop : ds.drop i = d5 :: ds.drop (i + 1) := by
          rw [List.drop_eq_getElem_cons il2]
          rw [List.getElem?_eq_getElem il2] at hd5
          rw [Option.some.inj hd5]
        have hjd2 := hjd
        rw [pre, drop] at hjd2
        unfold judge at hjd2
        split at hjd2
        case isFalse => cases hjd2
        rename_i okr
        refine ⟨T5, [.int (i : Nat), v5], rfl, .inl (.inl upd_same), rfl, _, _, rfl, _, _, rfl, rfl, ?_⟩
        -- problem
        refine ⟨v5, rfl, .ref x, rfl, x, C, dx, _, _, rfl, s5 _ _ ex, T.cl, T.nP, flds_places r q u, v5, ok, d5, q, fsts rows, _, rfl, rep_same s5 rep4, okr, s5 _ _ eq, (fun y => place_val y _), fun H6 s6 => ?_⟩
        have s46 := s5.trans s6
        cases hpr : probT (fsts rows) d5 with
        | some pr =>
          rw [hpr] at hjd2
          refine ⟨.str pr, rfl, rfl, _, rfl, iteT ?_⟩
          have ge : o = .error (pr, i) := by
            have := Option.some.inj hjd2
            rw [← this, lr0]
          refine ⟨.str pr, rfl, .int (i : Nat), rfl, (show 2 ≤ 1000 from by decide), mk_ih (hcon (probT_len hpr) (by omega) (by omega)) fun H7 e s7 ne he => ?_⟩
          refine finE pr i ge H7 e he (fun b o _ hb => s7 _ _ (s46 _ _ (b4 _ _ (by assumption) hb))) ?_
          exact fresh ex b4 (s46.trans s7) (s46.free ne)
        | none =>
        rw [hpr] at hjd2
        obtain ⟨⟨n, ss⟩, hrow⟩ : ∃ r, Pu.rowOf d5 = some r := by
          cases e : Pu.rowOf d5 with
          | none => rw [e] at hjd2; cases hjd2
          | some r => exact ⟨r, rfl⟩
        obtain ⟨v1, v2, v3, v4⟩ := prob_row hrow hpr
        obtain ⟨t, sA, rfl, ht, hsA⟩ := row_at rep4 hrow
        have RA4 : RowK K H4 (.ref t) (n, ss) := ⟨t, sA, rfl, ht, hsA⟩
        have ssl : ss.length ≤ i := by
          have := nodup_le v3 v4
          omega
        have vn : valV (placeKV (fsts rows)) (Sum.inr n : Key) = none := by
          have := place_val n (fsts rows)
          rw [decide_eq_false v2] at this
          exact Option.isNone_iff_eq_none.mp (by rw [← Option.not_isSome, this]; rfl)
        refine ⟨.non, rfl, rfl, _, rfl, iteF ?_⟩
        -- name, superclasses = row
        refine ⟨.ref t, rfl, t, _, rfl, .inl (.inl (s46 _ _ ht)), rfl, _, _, rfl, _, _, rfl, rfl, ?_⟩
        -- self.rows.append(..)
        have r6 := s46 _ _ er
        refine ⟨.ref x, rfl, x, C, dx, _, _, rfl, s46 _ _ ex, T.cl, T.nR, flds_rows r q u, .inl ⟨rfl, _, .inl (.inl r6)⟩, .str n, rfl, .ref sA, rfl, (by decide : 2 ≤ sizeLine), fun w7 n7 => ?_⟩
        have s7 := same_new (o := .tup [.str n, .ref sA]) n7
        have s47 := s46.trans s7
        have r7 := s47 _ _ er
        have lr : rvs.length = i := by
          have := era.length
          omega
        refine ⟨r, rvs, _, rfl, rfl, r7, sz1 (by omega), ?_⟩
        have x8 : ∀ o, (upd (upd H6 w7 (.tup [.str n, .ref sA])) r o) x = some (.ins C dx (flds r q u)) := fun o => by
          rw [upd_ne nxr]
          exact s47 _ _ ex
        have q8 : ∀ o, (upd (upd H6 w7 (.tup [.str n, .ref sA])) r o) q = some (.dK (placeKV (fsts rows))) := fun o => by
          rw [upd_ne nrq.symm]
          exact s47 _ _ eq
        have u8 : ∀ o, (upd (upd H6 w7 (.tup [.str n, .ref sA])) r o) u = some (.dK kvs) := fun o => by
          rw [upd_ne nru.symm]
          exact s47 _ _ eu
        -- self.places[name] = position
        refine ⟨.int (i : Nat), rfl, .ref x, rfl, x, C, dx, _, _, rfl, x8 _, T.cl, T.nP, flds_places r q u, .str n, rfl, q, _, rfl, DPut.k (k := Sum.inr n) (q8 _) (by rw [place_len]; exact sz1 (by omega)), ?_⟩
        rw [putK_new _ vn]
        generalize hM : upd (upd (upd H6 w7 (.tup [.str n, .ref sA])) r (.lst (rvs ++ [.ref w7]))) q (.dK (placeKV (fsts rows) ++ [(Sum.inr n, .int (i : Nat))])) = M
        have mx : M x = some (.ins C dx (flds r q u)) := by
          rw [← hM, upd_ne nxq]
          exact x8 _
        have mr : M r = some (.lst (rvs ++ [.ref w7])) := by
          rw [← hM, upd_ne nrq, upd_same]
        have mq : M q = some (.dK (placeKV (fsts rows) ++ [(Sum.inr n, .int (i : Nat))])) := by
          rw [← hM, upd_same]
        have mu : M u = some (.dK kvs) := by
          rw [← hM, upd_ne nqu.symm]
          exact u8 _
        have mra : RowsK K M (rvs ++ [.ref w7]) (rows ++ [(n, ss)]) := by
          rw [← hM]
          refine RowsK.wrX (q8 _) (by intro xs z; cases z) (RowsK.wrX r7 (by intro xs z; cases z) ?_)
          refine RowsK.snoc (era.same s47) ⟨w7, sA, rfl, upd_same, ?_⟩
          exact hsA.same s47
        have men : Entries M kvs (ancTab rows) := by
          rw [← hM]
          refine Entries.wr (Entries.wr (een.mono fun d as e => s47 _ _ e) fun kv hk => (ene kv hk).2.2.1) fun kv hk => (ene kv hk).1
        have mb : But x H M := by
          intro b o nb hb
          rw [← hM, upd_ne (ne_of_none hb nq0), upd_ne (ne_of_none hb nr0)]
          exact s47 _ _ (b4 _ _ nb hb)
        have hMA : TpO K M sA (ss.map V.str) := by
          rw [← hM]
          exact hsA.map fun h => by rw [upd_ne (ne_of (s47 _ _ h) (s47 _ _ eq) (by intro z; cases z)), upd_ne (ne_of (s47 _ _ h) r7 (by intro z; cases z))]; exact s47 _ _ h
        have tko : TabOk (ancTab rows) := by
          have := ancTab_ok rows rows.length
          rw [List.take_length] at this
          exact this
        clear hM
        have msA := hMA
        -- ancestors_of(name, superclasses, self.above)
        refine ⟨.str n, rfl, .ref sA, rfl, .ref x, rfl, x, C, dx, _, _, rfl, mx, T.cl, T.nA, flds_above r q u, n, sA, u, ss, kvs, ancTab rows, rfl, msA, mu, men, tko, ?_, ?_, fun H9 F9 s9 nF9 eF9 => ?_⟩
        · have := ancTab_keys rows
          have e2 := congrArg List.length this
          unfold tabKeys at e2
          rw [List.length_map, lf] at e2
          omega
        · intro y hy
          rw [ancTab_keys]
          exact v4 y hy
        have kl : kvs.length = i := by
          have h1 := men.length
          have := ancTab_keys rows
          have e2 := congrArg List.length this
          unfold tabKeys at e2
          rw [List.length_map, lf] at e2
          omega
        have kn : valV kvs (Sum.inr n : Key) = none := men.none (by rw [ancTab_keys]; exact v2)
        refine ⟨.ref x, rfl, x, C, dx, _, _, rfl, s9 _ _ mx, T.cl, T.nA, flds_above r q u, .str n, rfl, u, _, rfl, DPut.k (k := Sum.inr n) (s9 _ _ mu) (sz1 (by omega)), ?_⟩
        rw [putK_new _ kn, hPv]
        refine ⟨_, _, _, _, _, rows ++ [(n, ss)], rvs ++ [.ref w7], kvs ++ [(Sum.inr n, .ref F9)], rfl, ?_, ?_, ?_, ?_, ?_, ?_, upd_same, ?_, ?_, ?_⟩
        · rw [List.length_append, lr0]
          rfl
        · rw [pre, drop]
          conv => lhs; unfold judge
          rw [if_pos okr, hpr, hrow]
        · rw [upd_ne nxu]
          exact s9 _ _ mx
        · rw [upd_ne nru]
          exact s9 _ _ mr
        · exact RowsK.wrX (s9 _ _ mu) (by intro xs z; cases z) (mra.same s9)
        · rw [upd_ne nqu, fsts_snoc, place_snoc, lf]
          exact s9 _ _ mq
        · rw [ancTab_snoc]
          refine Entries.wr (Entries.snoc (men.mono fun d as e => s9 _ _ e) ⟨rfl, F9, rfl, eF9⟩) ?_
          intro kv hk
          rcases List.mem_append.mp hk with z | z
          · exact (ene kv z).2.1
          · rw [List.mem_singleton.mp z]
            intro z2
            cases z2
            rw [mu] at nF9
            cases nF9
        · intro kv hk
          rcases List.mem_append.mp hk with z | z
          · exact ene kv z
          · rw [List.mem_singleton.mp z]
            refine ⟨fun z2 => ?_, fun z2 => ?_, fun z2 => ?_, F9, rfl, ?_⟩
            · cases z2
              rw [mq] at nF9
              cases nF9
            · cases z2
              rw [mu] at nF9
              cases nF9
            · cases z2
              rw [mr] at nF9
              cases nF9
            · cases hF : H F9 with
              | none => rfl
              | some o =>
                have nx : F9 ≠ x := fun z2 => by
                  rw [z2, mx] at nF9
                  cases nF9
                rw [mb F9 o nx hF] at nF9
                cases nF9
        · intro b o nb hb
          rw [upd_ne (ne_of_none hb nu0)]
          exact s9 _ _ (mb _ _ nb hb)
      · rw [hPv] at hP
        obtain ⟨y2, y3, y4, y5, y6, rows, rvs, kvs, rfl, lr0, pre, ex, er, era, eq, eu, een, ene, b4⟩ := hP
        have ge : o = .ok rows := by
          rw [pre, List.drop_of_length_le (by omega), judge] at hjd
          exact (Option.some.inj hjd).symm
        have lr := era.length
        obtain ⟨mc, ul, h1, h2⟩ := T.lim
        refine ⟨.ref x, rfl, x, C, dx, _, _, rfl, ex, T.cl, T.nR, flds_rows r q u, r, rvs, rfl, .inl (.inl (.inl er)), C, mc, .int 20, ul, rfl, h1, h2, _, _, rfl, rfl, _, rfl, ?_⟩
        by_cases hmany : rows.length ≤ 20
        · rw [decide_eq_false (by omega : ¬ (rvs.length : Int) > 20)]
          exact iteF (finO rows ge hmany _ ⟨dx, r, q, u, rvs, kvs, ex, er, era, eq, eu, een, nr0, nq0, nu0, fun kv hk => (ene kv hk).2.2.2⟩ b4)
        · rw [decide_eq_true (by omega : (rvs.length : Int) > 20)]
          refine iteT ⟨C, mc, .int 20, ul, rfl, h1, h2, (show 2 ≤ 1000 from by decide), mk_ih (hcon (by decide +kernel) (by decide) (by decide)) fun H7 e s7 ne he => ?_⟩
          exact finC rows ge hmany H7 e he (fun b o nb hb => s7 _ _ (b4 _ _ nb hb)) (fresh ex b4 s7 ne)
end
end Lx
/-! a, b = x, y; Hierarchy(rows) as a bundle. -/
namespace Pu
open PySem PySem.Spec PyProof.Rows L2 Kv
section
variable {X : Cx} {g : Gx} {E : Wx} {x y : Str} {a b : Expr} {i j : Nat} {fr : P (List D)} {px py pt pos : Pos}
end
end Pu
namespace Lw
open PySem PySem.Spec PyProof.Rows L2 Kv Pu
structure MkHi (P' : Program) (w : World) (K : PySem.W.Frag) (mg : Str → Option Value) (base : Heap) (C : Addr) (k : Nat) : Prop where
  ex : ∃ f fd, Mk K C f ∧ FnOk P' w K mg base CX0 k f fd ["self", "classes"] (spInit K C) ∧ mg "Hierarchy" = some (.ref C) ∧ Binds K fd ["self", "classes"] []
end Lw
/-! Hierarchy(rows) of any rows as a step on trees: made, or refused. -/
namespace Lx
open PySem PySem.Spec PyProof.Rows L2 Kv Pu Lw
section
variable {X : Cx} {g : Gx} {E : Wx} {k : Nat} {C CI f : Addr} {fd : FuncData} {e : Expr} {fe : P D} {p pos : Pos}
theorem mkHE_key {te : TE} (hte : ∀ σ H (Q : VK), tX X.K g E (relD X.K) fe σ H Q → te σ H Q) {σ : L2.St} {H : Hp} {Q : VK} (hq : tX X.K g E (relR X.K) (bnd fe fun d => mkHE C CI d) σ H Q) : tMakeS C (spInitX X.K C CI) [] E (tCons te tNil) σ H Q := by
  unfold tMakeS tCons tNil
  refine hte _ _ _ ?_
  obtain ⟨ok, ρ, w, h⟩ := hq
  refine ⟨ok, ρ, w, (Rs.bnd (RA := relD X.K) h).mono fun v H1 hq => ?_⟩
  obtain ⟨ok1, ρ1, d, w1, s1, r1, h1⟩ := hq
  have r1 : Rep X.K ok1 H1 v d := r1
  unfold mkHE at h1
  cases er : seqD d with
  | none => simp only [er] at h1; exact h1.elim
  | some ds =>
    simp only [er] at h1
    by_cases hl : ds.length ≤ 90
    · rw [if_pos hl] at h1
      cases hj : judge [] ds with
      | none => simp only [hj] at h1; exact h1.elim
      | some o =>
        simp only [hj] at h1
        intro x dx nx ndx ndxx
        have hn : ∀ {a : Addr} {o : HO}, H1 a = some o → (upd (upd H1 dx (.own x)) x (.ins C dx [])) a = some o := fun {a o} ha => by rw [upd_ne (ne_of_none ha nx), upd_ne (ne_of_none ha ndx)]; exact ha
        have sm : Same H1 (upd (upd H1 dx (.own x)) x (.ins C dx [])) := fun a o ha => hn ha
        have nn : ∀ {a : Addr}, (upd (upd H1 dx (.own x)) x (.ins C dx [])) a = none → H1 a = none := fun {a} ha => sm.free ha
        have fr0 : Fr ok1 H1 (sub1 ok1 x) (upd (upd H1 dx (.own x)) x (.ins C dx [])) := .of (fun a o ha _ => hn ha) (fun a o ha k => ⟨k, ne_of_none ha nx⟩) fun a ha => nn ha
        have back : ∀ {H' : Hp}, But x (upd (upd H1 dx (.own x)) x (.ins C dx [])) H' → Fr ok1 H1 ok1 H' ∧ Wf X.K g ok1 ρ1 σ H' ∧ Sx σ ρ1 ok1 H1 ρ1 ok1 H' := fun {H'} hb' => by
          have keep : ∀ a o, H1 a = some o → H' a = some o := fun a o ha => hb' a o (ne_of_none ha nx) (hn ha)
          have all : ∀ a, H' a = none → H1 a = none := fun a ha => by
            cases e1 : H1 a with
            | none => rfl
            | some o => rw [keep a o e1] at ha; cases ha
          have fr : Fr ok1 H1 ok1 H' := .of (fun a o ha _ => keep a o ha) (fun _ _ _ k => k) all
          refine ⟨fr, w1.step fr (fun a ha => w1.fc a (all a ha)) (w1.tb.fr fr (fun a ps ha => keep a _ ha) fun _ _ _ n => n) fun i e q hi hq => ?_, ⟨fr, fun a o ha _ => .inl (keep a o ha), fun _ z => z, fun _ _ _ k => .inl k⟩⟩
          obtain ⟨q', e', o, nk, _⟩ := w1.own i e hi
          rw [hq] at e'
          cases e'
          obtain ⟨u, hu, _⟩ := o.there
          exact ⟨by rw [hu]; exact keep q u hu, nk⟩
        refine ⟨x, dx, v, d, ds, sub1 ok1 x, o, rfl, upd_same, r1.fr fr0, er, fun z => z.2 rfl, hl, hj, fun rows eo hz H' hh hb' => ⟨rfl, ?_⟩, fun rows eo hz H' e he hb' ne => ?_, fun p i eo H' e he hb' ne => ?_⟩
        · subst eo
          simp only [if_pos hz] at h1
          obtain ⟨fr, w2, sx⟩ := back hb'
          obtain ⟨dx', r, q, u, rvs, kvs, g1, g2, g3, g4, g5, g6, n1, n2, n3, n4⟩ := hh.ex
          refine h1 _ H' ok1 w2 sx ?_
          obtain ⟨p1, p2⟩ := places_rep (K := X.K) (ok := ok1) (H := H') (fsts rows)
          obtain ⟨q1, q2⟩ := entries_rep (K := X.K) (ok := ok1) g6 fun kv hk => by
            obtain ⟨d', ed, nd⟩ := n4 kv hk
            exact ⟨d', ed, w1.fc d' (nn nd)⟩
          have t1 := Rep.dic (K := X.K) (.inl ⟨g4, w1.fc q (nn n2)⟩) p2
          have t2 := Rep.dic (K := X.K) (.inl ⟨g5, w1.fc u (nn n3)⟩) q2
          rw [p1] at t1
          rw [q1] at t2
          have lf : (fsts rows).length = rows.length := by unfold fsts; rw [List.length_map]
          rw [lf] at t1
          have ns := flds_fst r q u
          have vs := flds_snd r q u
          have rr : Reps X.K ok1 H' ((flds r q u).map (·.2)) [.lst (rows.map rowD), .dic ((fsts rows).map Sum.inr) (idxD rows.length), .dic ((ancTab rows).map fun p => Sum.inr p.1) ((ancTab rows).map fun p => flagD p.2)] := by
            rw [vs]
            exact .cons (.lst g2 (w1.fc r (nn n1)) (rows_rep g3)) (.cons t1 (.cons t2 .nil))
          have := Rep.obj (K := X.K) (ok := ok1) g1 (w1.fc _ nx) rr
          rw [ns] at this
          exact this
        · subst eo
          simp only [if_neg hz] at h1
          obtain ⟨fr, w2, sx⟩ := back hb'
          exact h1 e (ihF "count" 20) H' ok1 w2 sx he rfl (.cons (.int _) (.cons (.str _) .nil))
        · subst eo
          obtain ⟨fr, w2, sx⟩ := back hb'
          exact h1 e (ihF p (i : Nat)) H' ok1 w2 sx he rfl (.cons (.int _) (.cons (.str _) .nil))
    · rw [if_neg hl] at h1
      exact h1.elim
theorem er_makeHX (M : Mk X.K C f) (F : FnOk X.prog X.w X.K X.mg X.base (L2.CX X.prog X.w) k f fd ["self", "classes"] (spInitX X.K C CI)) (hr : Room (k + 1) X.A) (hg : Gl X "Hierarchy") (hm : X.mg "Hierarchy" = some (.ref C)) (hb : Binds X.K fd ["self", "classes"] [])
    (hx : ∀ σ, PassesAt (L2.CX X.prog X.w) X σ (E σ)) (he : EV X g E e fe) (hst : starEach [e] X.env = [(false, eval e X.env)] := by rfl) : ER X g E (.Call (.Name "Hierarchy" p) [e] [] pos) (bnd fe fun d => mkHE C CI d) :=
  PE_imp (pe_makeS M F hr hg hm hb .nil hx (pa_cons he pa_nil hst) (by decide) hst rfl) fun σ H Q hq => mkHE_key (fun _ _ _ h => h) hq
structure MkHX (P' : Program) (w : World) (K : PySem.W.Frag) (mg : Str → Option Value) (base : Heap) (C CI : Addr) (k : Nat) : Prop where
  ex : ∃ f fd, Mk K C f ∧ FnOk P' w K mg base (L2.CX P' w) k f fd ["self", "classes"] (spInitX K C CI) ∧ mg "Hierarchy" = some (.ref C) ∧ Binds K fd ["self", "classes"] []
theorem er_makeHXC (c : MkHX X.prog X.w X.K X.mg X.base C CI k) (hr : Room (k + 1) X.A) (hg : Gl X "Hierarchy") (hx : ∀ σ, PassesAt (L2.CX X.prog X.w) X σ (E σ)) (he : EV X g E e fe) (hst : starEach [e] X.env = [(false, eval e X.env)] := by rfl) :
    ER X g E (.Call (.Name "Hierarchy" p) [e] [] pos) (mkE C CI fe) := by
  obtain ⟨f, fd, M, F, hm, hb⟩ := c.ex
  exact er_makeHX M F hr hg hm hb hx he hst
end
end Lx
/-! cls(rows) in a class method, the rows any: made or refused. -/
namespace Lx
open PySem PySem.Spec PyProof.Rows L2 Kv Pu
section
variable {X : Cx} {g : Gx} {CX : CXT} {k i : Nat} {f C CI : Addr} {fd : FuncData} {ps : List Str} {sp : Sp} {dvs : List V} {ds : List Value} {E : L2.St → XK} {x : Str} {p pos : Pos} {e : Expr} {es : List Expr} {t : TA}
theorem pe_makeLS (M : Mk X.K C f) (F : FnOk X.prog X.w X.K X.mg X.base CX k f fd ps sp) (hr : Room (k + 1) X.A) (hN : X.N[i]? = some x) (hv : Vis X.env.scope x) (hb : Binds X.K fd ps ds) (hd : Vals dvs ds) (hx : ∀ σ, PassesAt CX X σ (E σ)) (ha : PA X (e :: es) t)
    (hdb : (x == ("__debug__" : Str)) = false := by decide) (hcd : (x == ("__classdict__" : Str)) = false := by decide)
    (he : starEach (e :: es) X.env = (false, eval e X.env) :: starEach es X.env := by rfl) (hpl : (backTo pos (starEach es X.env)).any (·.1) = false := by rfl) :
    PE X (.Call (.Name x p) (e :: es) [] pos) (fun σ H Q => σ[i]? = some (some (.ref C)) ∧ tMakeS C sp dvs E t σ H Q) := by
  refine ⟨fun pins s σ H Q I h => ?_⟩
  obtain ⟨hs, ht⟩ := h
  refine wpAny_Call_Name_kw (thn ((pe_var (pos := p) hN hv hdb hcd).run pins s σ H (fun v H1 => v = .ref C ∧ H1 = H) I ⟨.ref C, hs, rfl, rfl⟩) fun u s1 ⟨v, H1, I1, r1, q1⟩ => ?_)
  obtain ⟨rfl, rfl⟩ := q1
  cases r1
  refine PySem.W.callWith_K (h₀ := X.base) I1.ok.mod.kin M.kp (thn (ha.run pos pins s1 σ _ _ I1 ht) fun us s2 ⟨vs, H2, I2, r, q⟩ => ⟨I2.kIn, ?_⟩) he hpl
  exact run_makeS M F hr hb hd (hx σ) I2 r q
end
noncomputable def mkEL (i : Nat) (C CI : Addr) (fe : P D) : P R := bnd (rd i) fun d => if isCl C d = true then mkE C CI fe else fun _ => none
section
variable {X : Cx} {g : Gx} {E : Wx} {k i : Nat} {f C CI : Addr} {fd : FuncData} {x : Str} {p pos : Pos} {e : Expr} {fe : P D}
theorem er_makeHXL (c : MkHX X.prog X.w X.K X.mg X.base C CI k) (hr : Room (k + 1) X.A) (hN : X.N[i]? = some x) (hv : Vis X.env.scope x) (hx : ∀ σ, PassesAt (L2.CX X.prog X.w) X σ (E σ)) (he : EV X g E e fe)
    (hdb : (x == ("__debug__" : Str)) = false := by decide) (hcd : (x == ("__classdict__" : Str)) = false := by decide) (hst : starEach [e] X.env = [(false, eval e X.env)] := by rfl) :
    ER X g E (.Call (.Name x p) [e] [] pos) (mkEL i C CI fe) := by
  obtain ⟨f, fd, M, F, hm, hb⟩ := c.ex
  refine PE_imp (pe_makeLS M F hr hN hv hb .nil hx (pa_cons he pa_nil hst) hdb hcd hst rfl) fun σ H Q hq => ?_
  obtain ⟨ok, ρ, w, h⟩ := hq
  unfold mkEL bnd rd at h
  cases e1 : ρ[i]? with
  | none => simp only [e1] at h; exact h.elim
  | some s =>
    cases s with
    | un => simp only [e1] at h; exact h.elim
    | val d =>
      simp only [e1] at h
      obtain ⟨v, ev, r⟩ := w.val i d e1
      by_cases z : isCl C d = true
      · simp only [z, if_true] at h
        cases r with
        | opq b =>
          have e : b = C := of_decide_eq_true z
          subst e
          exact ⟨ev, mkHE_key (fun _ _ _ h => h) ⟨ok, ρ, w, h⟩⟩
        | _ => cases z
      · simp only [if_neg z] at h
        exact h.elim
    | own d =>
      simp only [e1] at h
      by_cases z : isCl C d = true
      · obtain ⟨q, eq, o, _⟩ := w.own i d e1
        cases d with
        | opq b => exact o.elim
        | _ => cases z
      · simp only [if_neg z] at h
        exact h.elim
end
end Lx
/-! x in xs, where the items are tuples of texts and x is a tuple of any data, dicts included. -/
namespace Pu
open PySem PySem.Spec PyProof.Rows L2 Kv
section
open PySem.SeqAt PySem.MeetsSeq AutoSeq1
variable {A : Around} {s : Shared}
end
section
variable {X : Cx}
open Classical in
end
/-! on trees -/
section
variable {X : Cx}
end
end Pu
/-! t.count(x) of a plain tuple of data. -/
namespace Pu
open PySem PySem.Spec PyProof.Rows L2 Kv
section
variable {X : Cx} {g : Gx} {E : Wx} {a o e : Expr} {fa fo fe : P D} {apos cpos p pos : Pos}
end
end Pu
/-! t + u of tuples, the new tuple told plain. -/
namespace Pu
open PySem PySem.Spec PyProof.Rows L2 Kv
section
variable {X : Cx} {K : PySem.W.Frag} {ok : Addr → Prop} {H : Hp}
end
end Pu
/-! A display of a tuple, told plain. -/
namespace Pu
open PySem PySem.Spec PyProof.Rows L2 Kv
section
variable {X : Cx} {g : Gx} {E : Wx} {es : List Expr} {t : TA} {pos : Pos}
end
end Pu
/-! Ahead of the steps of Pu89 to Pu91. -/
namespace Pu
open PySem PySem.Spec PyProof.Rows L2 Kv
section
variable {ρ : En} {E : QE}
end
end Pu
/-! list(zip(a, b)) of two lists. -/
namespace Pu
open PySem PySem.Spec PyProof.Rows L2 Kv
section
variable {prog : Program} {w : World} {A : Around} {E : Value → Shared → Prop} {s : Shared} {z TI TO T i1 i2 : Addr} {f1 f2 : List Addr} {n1 n2 i : Nat} {P1 P2 : Nat → Value → Prop} {S1 S2 : Nat → Heap → Prop} {f : Bool} {oT : Obj}
abbrev ZKeep2 (z i1 i2 : Addr) (h h' : Heap) : Prop := ∀ c o, c ≠ z → c ≠ i1 → c ≠ i2 → h.get? c = some o → h'.get? c = some o
theorem zp_item2 {Q : Value → Shared → Prop} (D : ZipSep2 z TI TO i1 i2 f1 f2) (D1 : Draws prog w A i1 f1 n1 P1 S1) (D2 : Draws prog w A i2 f2 n2 P2 S2)
    (z0 : IsZipHeld s.heap z TI TO T f) (t0 : s.heap.get? T = some oT) (ti : IsTupOf2 s.heap TI (.ref i1) (.ref i2)) (u1 : S1 i s.heap) (u2 : S2 i s.heap) (l1 : i < n1) (l2 : i < n2)
    (q : ∀ x1 x2 h' tk, P1 i x1 → P2 i x2 → IsZipHeld h' z TI TO T true → S1 (i + 1) h' → S2 (i + 1) h' → IsTupOf2 h' s.heap.objs.size x1 x2 → h'.objs.size = s.heap.objs.size + 1 → ZKeep2 z i1 i2 s.heap h' → Q (.ref s.heap.objs.size) { s with heap := h', toks := tk }) :
    wpAny (model prog w) A (Builtin.«zip.__next__» ⟨[.ref z], []⟩) (fun fin s' => ∃ v, fin = .done (.ret v) ∧ Q v s') E s := by
  obtain ⟨hp, gg, dd, tk0, os⟩ := s
  have z0 : IsZipHeld hp z TI TO T f := z0
  have ti : IsTupOf2 hp TI (.ref i1) (.ref i2) := ti
  show wpAny _ _ (field (.ref z) 2 >>= _) _ _ _; refine wpAny_bind (wpAny_field z0 rfl (x := .bool false) rfl ?_)
  show wpAny _ _ (field (.ref z) 3 >>= _) _ _ _; refine wpAny_bind (wpAny_field z0 rfl (x := .ref TI) rfl ?_); refine wpAny_bind (wpAny_seqItems ti rfl ?_)
  show wpAny _ _ (Builtin.SmallTypes.ownedTupleIsFree (.ref z) >>= _) _ _ _; refine wpAny_bind (wpAny_tupleHeld_zip z0 t0 fun k0 z1 e0 => ?_)
  replace e0 : Heap.SameBut z hp k0 := e0
  replace z1 : IsZipHeld k0 z TI TO T true := z1
  simp only [Bool.false_eq_true, if_false]
  refine wpAny_bind ?_; rw [← Array.forIn_toList]; simp only [List.forIn_cons, List.forIn_nil]
  refine wpAny_bind (wpAny_bind (wpAny_holding ?_)); show wpAny _ _ (Builtin.SmallTypes.nextOf (.ref i1) >>= _) _ _ ⟨k0, gg, dd, tk0, os⟩
  refine wpAny_bind (D1.item i _ _ _ l1 (D1.over u1 e0 D.zf1) fun x1 k1 a1 p1 v1 e1 => wpAny_pure (wpAny_pure ?_))
  replace e1 : Heap.SameBut i1 k0 k1 := e1
  refine wpAny_bind (wpAny_bind (wpAny_holding ?_)); show wpAny _ _ (Builtin.SmallTypes.nextOf (.ref i2) >>= _) _ _ ⟨k1, gg, dd, a1, os⟩
  refine wpAny_bind (D2.item i _ _ _ l2 (D2.over (D2.over u2 e0 D.zf2) e1 D.sep1_2) fun x2 k2 a2 p2 v2 e2 => wpAny_pure (wpAny_pure (wpAny_pure ?_)))
  replace e2 : Heap.SameBut i2 k1 k2 := e2
  show wpAny _ _ (newTuple [x1, x2] >>= _) _ _ ⟨k2, gg, dd, a2, os⟩
  refine wpAny_bind (wpAny_newTuple ?_)
  have sz : k2.objs.size = hp.objs.size := by rw [e2.1, e1.1, e0.1]
  have zz : IsZipHeld k2 z TI TO T true := e2.extBut _ _ (fun e => D.zf2 (e ▸ D.mem2)) (e1.extBut _ _ (fun e => D.zf1 (e ▸ D.mem1)) z1)
  have kp : ZKeep2 z i1 i2 hp k2 := fun c o c1 c2 c3 e => e2.extBut _ _ c3 (e1.extBut _ _ c2 (e0.extBut _ _ c1 e))
  have w1 : S1 (i + 1) k2 := D1.over v1 e2 D.sep2_1
  have up : ∀ c o, k2.get? c = some o → (k2.push { cls := .type "tuple", data := .seq #[x1, x2] }).get? c = some o := fun c o e => Heap.get?_push_of_some _ e
  have tt : IsTupOf2 (k2.push { cls := .type "tuple", data := .seq #[x1, x2] }) k2.objs.size x1 x2 := Heap.get?_push_size _ rfl
  have ts : (k2.push { cls := .type "tuple", data := .seq #[x1, x2] }).objs.size = k2.objs.size + 1 := Heap.size_push ..
  refine wpAny_pure ⟨_, rfl, ?_⟩
  show Q (.ref k2.objs.size) _
  rw [sz] at tt ts ⊢
  exact q x1 x2 _ _ p1 p2 (up _ _ zz) (D1.frame _ _ _ w1 fun b _ o e => up b o e) (D2.frame _ _ _ v2 fun b _ o e => up b o e) tt ts fun c o c1 c2 c3 e => up _ _ (kp c o c1 c2 c3 e)
theorem zp_end2 {Q : Fin → Shared → Prop} (D : ZipSep2 z TI TO i1 i2 f1 f2) (D1 : Draws prog w A i1 f1 n1 P1 S1)
    (z0 : IsZipHeld s.heap z TI TO T f) (t0 : s.heap.get? T = some oT) (ti : IsTupOf2 s.heap TI (.ref i1) (.ref i2)) (u1 : S1 n1 s.heap)
    (q : ∀ h' e, ZKeep2 z i1 i2 s.heap h' → (∃ o, h'.get? e = some o ∧ o.cls = .type "StopIteration") → E (.ref e) { s with heap := h' }) :
    wpAny (model prog w) A (Builtin.«zip.__next__» ⟨[.ref z], []⟩) Q E s := by
  obtain ⟨hp, gg, dd, tk0, os⟩ := s
  have z0 : IsZipHeld hp z TI TO T f := z0
  have ti : IsTupOf2 hp TI (.ref i1) (.ref i2) := ti
  show wpAny _ _ (field (.ref z) 2 >>= _) _ _ _; refine wpAny_bind (wpAny_field z0 rfl (x := .bool false) rfl ?_)
  show wpAny _ _ (field (.ref z) 3 >>= _) _ _ _; refine wpAny_bind (wpAny_field z0 rfl (x := .ref TI) rfl ?_); refine wpAny_bind (wpAny_seqItems ti rfl ?_)
  show wpAny _ _ (Builtin.SmallTypes.ownedTupleIsFree (.ref z) >>= _) _ _ _; refine wpAny_bind (wpAny_tupleHeld_zip z0 t0 fun k0 z1 e0 => ?_)
  replace e0 : Heap.SameBut z hp k0 := e0
  simp only [Bool.false_eq_true, if_false]
  refine wpAny_bind ?_; rw [← Array.forIn_toList]; simp only [List.forIn_cons, List.forIn_nil]
  refine wpAny_bind (wpAny_bind (wpAny_holding ?_)); show wpAny _ _ (Builtin.SmallTypes.nextOf (.ref i1) >>= _) _ _ ⟨k0, gg, dd, tk0, os⟩
  refine wpAny_bind (D1.done ⟨k0, gg, dd, tk0, os⟩ _ _ (D1.over u1 e0 D.zf1) fun h' e k he => ?_)
  exact q h' e (fun c o c1 c2 _ x => k _ _ c2 (e0.extBut _ _ c1 x)) he
end
section
variable {prog : Program} {w : World} {A : Around} {E : Value → Shared → Prop} {s : Shared} {z TI TO T i1 i2 : Addr} {f1 f2 : List Addr} {n1 n2 i : Nat} {P1 P2 : Nat → Value → Prop} {S1 S2 : Nat → Heap → Prop} {f : Bool} {oT : Obj}
theorem zp_next2 {Q : Option Value → Shared → Prop} (D : ZipSep2 z TI TO i1 i2 f1 f2) (D1 : Draws prog w A.in1 i1 f1 n1 P1 S1) (D2 : Draws prog w A.in1 i2 f2 n2 P2 S2)
    (z0 : IsZipHeld s.heap z TI TO T f) (t0 : s.heap.get? T = some oT) (ti : IsTupOf2 s.heap TI (.ref i1) (.ref i2)) (u1 : S1 i s.heap) (u2 : S2 i s.heap) (l1 : i < n1) (l2 : i < n2)
    (q : ∀ x1 x2 h' tk, P1 i x1 → P2 i x2 → IsZipHeld h' z TI TO T true → S1 (i + 1) h' → S2 (i + 1) h' → IsTupOf2 h' s.heap.objs.size x1 x2 → h'.objs.size = s.heap.objs.size + 1 → ZKeep2 z i1 i2 s.heap h' → Q (some (.ref s.heap.objs.size)) { s with heap := h', toks := tk }) :
    wpAny (model prog w) A (pyNext (.ref z)) Q E s := by
  have ty : s.TypeIs (.ref z) "zip" := ⟨_, z0, rfl⟩
  unfold pyNext
  refine wpAny_bind (wpAny_attempt (wpAny_callSpecial?_slot (name := Str.ofString "__next__") ty F.slot_zip_next (wpAny_call_entry F.slot_zip_next ty F.entry_zip_next ?_ (F.args_zip_next_1 _))))
  exact zp_item2 D D1 D2 z0 t0 ti u1 u2 l1 l2 fun x1 x2 h' tk a1 a2 a3 a4 a5 a6 a7 a8 => wpAny_pure (q x1 x2 h' tk a1 a2 a3 a4 a5 a6 a7 a8)
theorem zp_stop2 {Q : Option Value → Shared → Prop} (D : ZipSep2 z TI TO i1 i2 f1 f2) (D1 : Draws prog w A.in1 i1 f1 n1 P1 S1)
    (z0 : IsZipHeld s.heap z TI TO T f) (t0 : s.heap.get? T = some oT) (ti : IsTupOf2 s.heap TI (.ref i1) (.ref i2)) (u1 : S1 n1 s.heap)
    (q : ∀ h', ZKeep2 z i1 i2 s.heap h' → Q none { s with heap := h' }) : wpAny (model prog w) A (pyNext (.ref z)) Q E s := by
  have ty : s.TypeIs (.ref z) "zip" := ⟨_, z0, rfl⟩
  unfold pyNext
  refine wpAny_bind (wpAny_attempt (wpAny_callSpecial?_slot (name := Str.ofString "__next__") ty F.slot_zip_next (wpAny_call_entry F.slot_zip_next ty F.entry_zip_next (zp_end2 D D1 z0 t0 ti u1 fun h' e hk he => ?_) (F.args_zip_next_1 _))))
  obtain ⟨o, ho, hc⟩ := he
  exact wpAny_bind (wpAny_isInstance (T := "StopIteration") (b := true) ⟨o, ho, hc⟩ isSubtype_stop (wpAny_pure (q _ hk)))
end
section
variable {prog : Program} {w : World} {A : Around} {E : Value → Shared → Prop} {s : Shared} {z TI TO i1 i2 S N : Addr} {f1 f2 : List Addr} {n i : Nat} {P1 P2 : Nat → Value → Prop} {S1 S2 : Nat → Heap → Prop}
abbrev LCell2 (h : Heap) (S : Addr) (acc : Array Value) (c : Nat) : Prop := h.get? S = some { cls := .type "list", dict := none, data := .seq acc c, slots := #[] }
structure LaidZ2 (P1 P2 : Nat → Value → Prop) (N : Nat) (h : Heap) (acc : Array Value) (i : Nat) : Prop where
  size : acc.size = i
  at_ : ∀ j, j < i → acc[j]? = some (.ref (N + j)) ∧ ∃ x1 x2, P1 j x1 ∧ P2 j x2 ∧ IsTupOf2 h (N + j) x1 x2
theorem LaidZ2.push {h h' : Heap} {acc : Array Value} {x1 x2 : Value} (l : LaidZ2 P1 P2 N h acc i) (k : ∀ j, j < i → ∀ o, h.get? (N + j) = some o → h'.get? (N + j) = some o) (p1 : P1 i x1) (p2 : P2 i x2) (t : IsTupOf2 h' (N + i) x1 x2) : LaidZ2 P1 P2 N h' (acc.push (.ref (N + i))) (i + 1) := by
  refine ⟨by rw [Array.size_push, l.size], fun j hj => ?_⟩
  by_cases e : j = i
  · subst e
    refine ⟨by rw [Array.getElem?_push, if_pos l.size.symm], x1, x2, p1, p2, t⟩
  · obtain ⟨a, y1, y2, b1, b2, b4⟩ := l.at_ j (by omega)
    refine ⟨by rw [Array.getElem?_push, if_neg (by rw [l.size]; exact e)]; exact a, y1, y2, b1, b2, k j (by omega) _ b4⟩
abbrev ZKeepS2 (S z TO i1 i2 : Addr) (h h' : Heap) : Prop := ∀ c o, c ≠ S → c ≠ z → c ≠ TO → c ≠ i1 → c ≠ i2 → h.get? c = some o → h'.get? c = some o
theorem zp_loop2 {R : Result → Shared → Prop} {res : Value} (D : ZipSep2 z TI TO i1 i2 f1 f2) (D1 : Draws prog w A.in1.in1 i1 f1 n P1 S1) (D2 : Draws prog w A.in1.in1 i2 f2 n P2 S2) (hn : n ≤ sizeLine) (lo : ∀ a ∈ [z, TI, TO, i1, i2, S], a < N) (g1 : ∀ a ∈ f1, a < N) (g2 : ∀ a ∈ f2, a < N)
    (hS : S ∉ [z, TI, TO, i1, i2]) (j1 : S ∉ f1) (j2 : S ∉ f2) :
    ∀ (k i : Nat) (s : Shared) (acc : Array Value) (c : Nat) (f : Bool), n - i = k → 1 ≤ i → i ≤ n → IsZipHeld s.heap z TI TO N f → IsTupOf2 s.heap TI (.ref i1) (.ref i2) → S1 i s.heap → S2 i s.heap → LCell2 s.heap S acc c → LaidZ2 P1 P2 N s.heap acc i → s.heap.objs.size = N + i →
    (∀ h' tk acc' c', ZKeepS2 S z TO i1 i2 s.heap h' → LCell2 h' S acc' c' → LaidZ2 P1 P2 N h' acc' n → R (.ok (.ret res)) { s with heap := h', toks := tk }) →
    codeAny (model prog w) A (.builtin "list.extend.loop" ⟨[.ref S, .ref z, res], []⟩) R s := by
  simp only [List.mem_cons, List.not_mem_nil, or_false, not_or] at hS
  obtain ⟨hz, hTI, hTO, hi1, hi2⟩ := hS
  have loz : ∀ j : Nat, N + j ≠ z ∧ N + j ≠ TI ∧ N + j ≠ i1 ∧ N + j ≠ i2 ∧ N + j ≠ S ∧ N + j ≠ TO := fun j => by
    have q : ∀ a ∈ [z, TI, TO, i1, i2, S], N + j ≠ a := fun a ha e => by
      have l := lo a ha
      rw [← e] at l
      exact absurd l (Nat.not_lt.mpr (Nat.le_add_right _ _))
    exact ⟨q _ (by simp), q _ (by simp), q _ (by simp), q _ (by simp), q _ (by simp), q _ (by simp)⟩
  intro k
  induction k with
  | zero =>
    intro i s acc c f hk h1 hi z0 ti u1 u2 hL la sz hR
    obtain rfl : i = n := by omega
    refine codeAny_builtin F.entry_extend_loop ?_
    rw [Around.under_plainId F.plain_extend_loop _]
    show wpAny _ A.in1 (pyNext (.ref z) >>= _) _ _ s
    obtain ⟨_, y1, y2, _, _, t0⟩ := la.at_ 0 (by omega)
    refine wpAny_bind (zp_stop2 D D1 z0 (T := N) t0 ti u1 fun h' kp => ?_)
    refine wpAny_pure (hR h' s.toks acc c (fun c o c1 c2 _ c4 c5 e => kp c o c2 c4 c5 e) (kp _ _ hz hi1 hi2 hL) ⟨la.size, fun j hj => ?_⟩)
    obtain ⟨a, x1, x2, b1, b2, b4⟩ := la.at_ j hj
    obtain ⟨q1, _, q3, q4, _⟩ := loz j
    exact ⟨a, x1, x2, b1, b2, kp _ _ q1 q3 q4 b4⟩
  | succ k ih =>
    intro i s acc c f hk h1 hi z0 ti u1 u2 hL la sz hR
    refine codeAny_builtin F.entry_extend_loop ?_
    rw [Around.under_plainId F.plain_extend_loop _]
    show wpAny _ A.in1 (pyNext (.ref z) >>= _) _ _ s
    obtain ⟨_, y1, y2, _, _, t0⟩ := la.at_ 0 (by omega)
    refine wpAny_bind (zp_next2 D D1 D2 z0 (T := N) t0 ti u1 u2 (by omega) (by omega) fun x1 x2 h' tk p1 p2 z1 v1 v2 tt ts kp => ?_)
    have hL' := kp _ _ hz hi1 hi2 hL
    show wpAny _ A.in1 (updateSeq S (·.push (.ref s.heap.objs.size)) >>= _) _ _ _
    rw [sz] at tt ts ⊢
    have oth : ∀ b o, b ≠ S → h'.get? b = some o → (h'.update S (Obj.mapSeq (·.push (.ref (N + i))))).get? b = some o := fun b o hb e => (Heap.get?_update_other _ _ (Ne.symm hb)).trans e
    refine wpAny_bind ?_
    refine wpAny_updateSeq hL' rfl (wpAny_pure ⟨plainId_quiet F.plain_extend_loop _, ih (i + 1) _ (acc.push (.ref (N + i))) _ true (by omega) (by omega) (by omega) (oth _ _ (Ne.symm hz) z1) (oth _ _ (Ne.symm hTI) (kp _ _ D.TIz D.TIi1 D.TIi2 ti)) ?_ ?_ (Heap.get?_update_self _ hL' rfl) ?_ ?_ fun h'' tk2 acc' c' kp2 hL2 la2 => ?_⟩) (by rw [la.size]; omega) (by show (acc.push _).size ≤ sizeLine + 1; rw [Array.size_push, la.size]; omega)
    · exact D1.frame _ _ _ v1 fun b hb o e => oth b o (fun h => j1 (by rw [← h]; exact hb)) e
    · exact D2.frame _ _ _ v2 fun b hb o e => oth b o (fun h => j2 (by rw [← h]; exact hb)) e
    · refine la.push (fun j hj o e => ?_) p1 p2 ?_
      · obtain ⟨q1, _, q3, q4, q6, _⟩ := loz j
        exact oth _ _ q6 (kp _ _ q1 q3 q4 e)
      · exact oth _ _ (loz i).2.2.2.2.1 tt
    · show (h'.update S _).objs.size = _
      rw [Heap.size_update, ts]
      omega
    · refine hR h'' tk2 acc' c' (fun c o c1 c2 c3 c4 c5 e => kp2 c o c1 c2 c3 c4 c5 (oth _ _ c1 (kp c o c2 c4 c5 e))) hL2 la2
theorem zp_first2 {R : Result → Shared → Prop} {res a1 a2 : Value} {c : Nat} (D : ZipSep2 z TI TO i1 i2 f1 f2) (D1 : Draws prog w A.in1.in1 i1 f1 n P1 S1) (D2 : Draws prog w A.in1.in1 i2 f2 n P2 S2) (hn : n ≤ sizeLine) (lo : ∀ a ∈ [z, TI, TO, i1, i2, S], a < N) (g1 : ∀ a ∈ f1, a < N) (g2 : ∀ a ∈ f2, a < N)
    (hS : S ∉ [z, TI, TO, i1, i2]) (j1 : S ∉ f1) (j2 : S ∉ f2) (z0 : IsZip s.heap z TI TO .none) (ti : IsTupOf2 s.heap TI (.ref i1) (.ref i2)) (to : IsTupOf2 s.heap TO a1 a2) (u1 : S1 0 s.heap) (u2 : S2 0 s.heap) (hL : LCell2 s.heap S #[] c) (sz : s.heap.objs.size = N)
    (hR : ∀ h' tk acc' c', ZKeepS2 S z TO i1 i2 s.heap h' → LCell2 h' S acc' c' → LaidZ2 P1 P2 N h' acc' n → R (.ok (.ret res)) { s with heap := h', toks := tk }) :
    codeAny (model prog w) A (.builtin "list.extend.loop" ⟨[.ref S, .ref z, res], []⟩) R s := by
  have hS0 := hS
  simp only [List.mem_cons, List.not_mem_nil, or_false, not_or] at hS
  obtain ⟨hz, hTI, hTO, hi1, hi2⟩ := hS
  have nS : N ≠ S := fun e => by
    have := lo S (by simp)
    rw [e] at this
    exact Nat.lt_irrefl _ this
  refine codeAny_builtin F.entry_extend_loop ?_
  rw [Around.under_plainId F.plain_extend_loop _]
  show wpAny _ A.in1 (pyNext (.ref z) >>= _) _ _ s
  by_cases h0 : n = 0
  · refine wpAny_bind (wpAny_pyNext_zipD2_end (i := 0) D D1 D2 z0 ti to u1 u2 (by omega) (by omega) (.inl h0.symm) fun h' tk kp => ?_)
    exact wpAny_pure (hR h' tk #[] c (fun c o c1 c2 c3 c4 c5 e => kp c o c2 c3 c4 c5 e) (kp _ _ hz hTO hi1 hi2 hL) ⟨by rw [h0]; rfl, fun j hj => absurd hj (by omega)⟩)
  have h0 : 1 ≤ n := by omega
  refine wpAny_bind (wpAny_pyNext_zipD2_item (i := 0) D D1 D2 z0 ti to u1 u2 (by omega) (by omega) fun x1 x2 h' tk p1 p2 z1 _ v1 v2 tt ts kp => ?_)
  have hL' := kp _ _ hz hTO hi1 hi2 hL
  show wpAny _ A.in1 (updateSeq S (·.push (.ref s.heap.objs.size)) >>= _) _ _ _
  rw [sz] at tt ts z1 ⊢
  have oth : ∀ b o, b ≠ S → h'.get? b = some o → (h'.update S (Obj.mapSeq (·.push (.ref N)))).get? b = some o := fun b o hb e => (Heap.get?_update_other _ _ (Ne.symm hb)).trans e
  refine wpAny_bind ?_
  refine wpAny_updateSeq hL' rfl (wpAny_pure ⟨plainId_quiet F.plain_extend_loop _, zp_loop2 D D1 D2 hn lo g1 g2 hS0 j1 j2 (n - 1) 1 _ ((#[] : Array Value).push (.ref N)) _ false rfl (Nat.le_refl _) h0 (oth _ _ (Ne.symm hz) z1) (oth _ _ (Ne.symm hTI) (kp _ _ D.TIz D.TITO D.TIi1 D.TIi2 ti)) ?_ ?_ (Heap.get?_update_self _ hL' rfl) ?_ ?_ fun h'' tk2 acc' c' kp2 hL2 la2 => ?_⟩) (by show 0 ≤ sizeLine; omega) (by show 1 ≤ sizeLine + 1; omega)
  · exact D1.frame _ _ _ v1 fun b hb o e => oth b o (fun h => j1 (by rw [← h]; exact hb)) e
  · exact D2.frame _ _ _ v2 fun b hb o e => oth b o (fun h => j2 (by rw [← h]; exact hb)) e
  · have l0 : LaidZ2 P1 P2 N s.heap #[] 0 := ⟨rfl, fun j hj => absurd hj (Nat.not_lt_zero _)⟩
    exact l0.push (fun j hj => absurd hj (Nat.not_lt_zero _)) p1 p2 (oth _ _ nS tt)
  · show (h'.update S _).objs.size = _
    rw [Heap.size_update, ts]
  · exact hR h'' tk2 acc' c' (fun c o c1 c2 c3 c4 c5 e => kp2 c o c1 c2 c3 c4 c5 (oth _ _ c1 (kp c o c2 c3 c4 c5 e))) hL2 la2
theorem zp_list2 {Q : Value → Shared → Prop} {a1 a2 : Value} (D : ZipSep2 z TI TO i1 i2 f1 f2) (D1 : Draws prog w A.in1.in1.in1 i1 f1 n P1 S1) (D2 : Draws prog w A.in1.in1.in1 i2 f2 n P2 S2) (hn : n ≤ sizeLine) (lo : ∀ a ∈ [z, TI, TO, i1, i2], a < s.heap.objs.size) (g1 : ∀ a ∈ f1, a < s.heap.objs.size) (g2 : ∀ a ∈ f2, a < s.heap.objs.size)
    (z0 : IsZip s.heap z TI TO .none) (ti : IsTupOf2 s.heap TI (.ref i1) (.ref i2)) (to : IsTupOf2 s.heap TO a1 a2) (u1 : S1 0 s.heap) (u2 : S2 0 s.heap)
    (hQ : ∀ h' tk acc' c', (∀ c o, c ≠ z → c ≠ TO → c ≠ i1 → c ≠ i2 → s.heap.get? c = some o → h'.get? c = some o) → LCell2 h' s.heap.objs.size acc' c' → LaidZ2 P1 P2 (s.heap.objs.size + 1) h' acc' n → Q (.ref s.heap.objs.size) { s with heap := h', toks := tk }) :
    wpAny (model prog w) A (call (.type "list") [.ref z]) Q E s := by
  refine callType_codes (Q₁ := fun ob t => ob = .ref s.heap.objs.size ∧ t = { s with heap := s.heap.push { cls := .type "list", data := .seq #[] } }) F.called_list (F.typeCall_list_1 _) F.entry_list_init (code_list_new _ ⟨rfl, rfl⟩) fun ob t e => ?_
  obtain ⟨rfl, rfl⟩ := e
  have cell : (s.heap.push { cls := .type "list", data := .seq #[] }).get? s.heap.objs.size = some { cls := .type "list", data := .seq #[] } := Heap.get?_push_size _ rfl
  refine ⟨⟨_, cell, rfl⟩, F.args_list_init_2 _ _, ?_⟩
  have ne : ∀ a, a < s.heap.objs.size → s.heap.objs.size ≠ a := fun a h e => Nat.lt_irrefl _ (by rw [← e] at h; exact h)
  have nf : ∀ fp : List Addr, (∀ a ∈ fp, a < s.heap.objs.size) → s.heap.objs.size ∉ fp := fun fp g m => Nat.lt_irrefl _ (g _ m)
  show wpAny _ A.in1.in1 (do let old ← Builtin.List.listItems (.ref s.heap.objs.size); Builtin.List.listUpdate (.ref s.heap.objs.size) (fun _ => #[]); letGo old.toList.reverse; Builtin.List.listExtendWith (.ref s.heap.objs.size) (.ref z) .none) _ _ _
  refine wpAny_bind ?_
  unfold Builtin.List.listItems
  refine wpAny_bind (wpAny_seqItems cell rfl (wpAny_pure ?_))
  refine wpAny_bind (wpAny_updateSeq cell rfl ?_)
  have cell2 := Heap.get?_update_self (Obj.mapSeq (fun _ => (#[] : Array Value))) cell rfl
  refine wpAny_bind (wpAny_letGo ?_)
  have up : ∀ c o, c ≠ s.heap.objs.size → s.heap.get? c = some o → ((s.heap.push { cls := .type "list", data := .seq #[] }).update s.heap.objs.size (Obj.mapSeq (fun _ => (#[] : Array Value)))).get? c = some o := fun c o hc e => (Heap.get?_update_other _ _ (Ne.symm hc)).trans (Heap.get?_push_of_some _ e)
  have upl : ∀ c o, c < s.heap.objs.size → s.heap.get? c = some o → _ := fun c o hc e => up c o (Ne.symm (ne c hc)) e
  have lo' : ∀ a ∈ [z, TI, TO, i1, i2], a ≠ s.heap.objs.size := fun a ha => Ne.symm (ne a (lo a ha))
  have sz2 : ((s.heap.push { cls := .type "list", data := .seq #[] }).update s.heap.objs.size (Obj.mapSeq (fun _ => (#[] : Array Value)))).objs.size = s.heap.objs.size + 1 := by rw [Heap.size_update, Heap.size_push]
  revert cell2 up sz2
  show _ → _ → _ → wpAny (model prog w) A.in1.in1 _ _ _ { s with heap := (s.heap.push { cls := .type "list", data := .seq #[] }).update s.heap.objs.size (Obj.mapSeq (fun _ => (#[] : Array Value))) }
  generalize (s.heap.push { cls := .type "list", data := .seq #[] }).update s.heap.objs.size (Obj.mapSeq (fun _ => (#[] : Array Value))) = h2
  intro cell2 up sz2
  have z2 : IsZip h2 z TI TO .none := up _ _ (lo' _ (by simp)) z0
  have ty : ({ s with heap := h2 } : Shared).TypeIs (.ref z) "zip" := ⟨_, z2, rfl⟩
  unfold Builtin.List.listExtendWith
  refine wpAny_bind (wpAny_typeOf ty ?_)
  have b1 : Builtin.List.listSameRef (.ref s.heap.objs.size) (.ref z) = false := by simp [Builtin.List.listSameRef, ne z (lo z (by simp))]
  have b2 : (Value.type "zip" == Value.type "list") = false := by decide
  have b3 : (Value.type "zip" == Value.type "tuple") = false := by decide
  simp only [b1, b2, b3, Bool.or_false, Bool.false_eq_true, if_false]
  refine wpAny_bind (wpAny_pyIter_zip z2 ?_)
  refine wpAny_bind (wpAny_holding ?_)
  unfold Builtin.List.listLengthHint
  refine wpAny_bind (wpAny_specialOf ty zp_no_len ?_)
  show wpAny _ A.in1.in1 (specialOf (Value.ref z) (Str.ofString "__length_hint__") >>= _) _ _ _
  refine wpAny_bind (wpAny_specialOf ty zp_no_hint ?_)
  refine wpAny_pure ?_
  refine wpAny_bind (wpAny_rule ?_); refine wpAny_bind ?_
  show wpAny _ A.in1.in1 (updateSeq s.heap.objs.size (·.push .none) >>= fun _ => updateSeq s.heap.objs.size (·.pop)) _ _ _
  refine wpAny_bind (wpAny_updateSeq cell2 rfl ?_)
  have cell3 := Heap.get?_update_self (Obj.mapSeq (·.push Value.none)) cell2 rfl
  refine wpAny_updateSeq (hz := by seq_fits) cell3 rfl ?_
  have cell4 := Heap.get?_update_self (Obj.mapSeq (·.pop)) cell3 rfl
  have up4 : ∀ c o, c ≠ s.heap.objs.size → h2.get? c = some o → ((h2.update s.heap.objs.size (Obj.mapSeq (·.push Value.none))).update s.heap.objs.size (Obj.mapSeq (·.pop))).get? c = some o := fun c o hc e => (Heap.get?_update_other _ _ (Ne.symm hc)).trans ((Heap.get?_update_other _ _ (Ne.symm hc)).trans e)
  have sz4 : ((h2.update s.heap.objs.size (Obj.mapSeq (·.push Value.none))).update s.heap.objs.size (Obj.mapSeq (·.pop))).objs.size = s.heap.objs.size + 1 := by rw [Heap.size_update, Heap.size_update, sz2]
  refine wpAny_pure ⟨plainId_quiet F.plain_extend_loop _, ?_⟩
  revert cell4 up4 sz4
  show _ → _ → _ → codeAny (model prog w) A.in1 _ _ { s with heap := (h2.update s.heap.objs.size (Obj.mapSeq (·.push Value.none))).update s.heap.objs.size (Obj.mapSeq (·.pop)) }
  generalize (h2.update s.heap.objs.size (Obj.mapSeq (·.push Value.none))).update s.heap.objs.size (Obj.mapSeq (·.pop)) = h4
  intro cell4 up4 sz4
  have upp : ∀ c o, c ≠ s.heap.objs.size → s.heap.get? c = some o → h4.get? c = some o := fun c o hc e => up4 c o hc (up c o hc e)
  have uf : ∀ fp : List Addr, (∀ a ∈ fp, a < s.heap.objs.size) → ∀ b ∈ fp, ∀ o, s.heap.get? b = some o → h4.get? b = some o := fun fp g b hb o e => upp b o (Ne.symm (ne b (g b hb))) e
  refine zp_first2 (N := s.heap.objs.size + 1) D D1 D2 hn (fun a ha => ?_) (fun a ha => Nat.lt_succ_of_lt (g1 a ha)) (fun a ha => Nat.lt_succ_of_lt (g2 a ha)) (fun m => ?_) (nf f1 g1) (nf f2 g2) (upp _ _ (lo' _ (by simp)) z0) (upp _ _ (lo' _ (by simp)) ti) (upp _ _ (lo' _ (by simp)) to) (D1.frame _ _ _ u1 (uf f1 g1)) (D2.frame _ _ _ u2 (uf f2 g2)) cell4 sz4 fun h' tk acc' c' kp hL la => ?_
  · have : a ∈ [z, TI, TO, i1, i2] ∨ a = s.heap.objs.size := by
      simp only [List.mem_cons, List.not_mem_nil, or_false] at ha ⊢
      rcases ha with h | h | h | h | h | h <;> simp only [h, true_or, or_true]
    rcases this with h | h
    · exact Nat.lt_succ_of_lt (lo a h)
    · rw [h]; exact Nat.lt_succ_self _
  · exact Nat.lt_irrefl _ (lo _ m)
  · exact ⟨rfl, hQ h' tk acc' c' (fun c o c2 c3 c4 c5 e => by
      by_cases cc : c = s.heap.objs.size
      · have := Heap.lt_size e
        rw [cc] at this
        exact absurd this (Nat.lt_irrefl _)
      · exact kp c o cc c2 c3 c4 c5 (upp c o cc e)) hL la⟩
end
section
variable {X : Cx} {g : Gx} {E : Wx} {a b : Expr} {p zp cpos pos : Pos} {ta : TA}
def rZipL (K : PySem.W.Frag) : List V → Hp → VK → Prop := fun vs H Q => ∃ (t1 t2 : Addr) (xs ys : List V), vs = [.ref t1, .ref t2] ∧ SqL K H t1 xs ∧ SqL K H t2 ys ∧ xs.length = ys.length ∧
  ∀ (H' : Hp) (l : Addr) (ts : List Addr), (∀ b o, H b = some o → H' b = some o) → (∀ a, H' a = none → H a = none) → H l = none → (∀ t ∈ ts, H t = none) → l ∉ ts → (∀ a, H' a ≠ H a → a = l ∨ a ∈ ts) → H' l = some (.lst (ts.map V.ref)) → ts.length = xs.length →
    (∀ (j : Nat) (t : Addr), ts[j]? = some t → ∃ x y, xs[j]? = some x ∧ ys[j]? = some y ∧ H' t = some (.tup [x, y])) → Q (.ref l) H'
theorem pe_listZipL (hc : X.calm = true) (ha : PA X [a, b] ta) (hg : Gl X "list") (hm : X.mg "list" = none) (hv : bootBuiltins "list" = some (.type "list")) (hz : Gl X "zip") (mz : X.mg "zip" = none)
    (one : starEach [a, b] X.env = (false, eval a X.env) :: starEach [b] X.env := by rfl) (plain : (backTo cpos (starEach [b] X.env)).any (·.1) = false := by rfl)
    (hs : starEach [.Call (.Name "zip" zp) [a, b] [] cpos] X.env = (false, eval (.Call (.Name "zip" zp) [a, b] [] cpos) X.env) :: starEach [] X.env := by rfl) :
    PE X (.Call (.Name "list" p) [.Call (.Name "zip" zp) [a, b] [] cpos] [] pos) (fun σ H Q => ta σ H fun vs H1 => rZipL X.K vs H1 Q) := by
  refine ⟨fun pins s σ H Q I hq => ?_⟩
  refine wpAny_Call_Name_kw (ld_blt I hg hm hv ?_)
  refine PyProof.Rows.callWith_type1 ?_ hs rfl
  rw [hs]
  show wpAny _ _ (spliced ((false, eval (.Call (.Name "zip" zp) [a, b] [] cpos) X.env) :: backTo pos (starEach [] X.env))) _ _ s
  refine Calls.spliced_cons ?_
  refine wpAny_Call_Name_kw (ld_blt I hz mz PyProof.Rows.boot_zip (PyProof.Rows.callWith_type1 (thn (ha.run cpos pins s σ H _ I hq) fun us s1 got => ?_) one plain))
  obtain ⟨_, H1, I1, r1, t1, t2, xs, ys, rfl, qx, qy, l2, k⟩ := got
  match us, r1 with
  | [_, _], .cons ra (.cons rb .nil) =>
    cases ra
    cases rb
    obtain ⟨as1, rv1, p1, sz1⟩ := I1.list qx
    obtain ⟨as2, rv2, p2, _⟩ := I1.list qy
    have n1 : as1.toArray.size = xs.length := by rw [List.size_toArray]; exact rv1.length.symm
    have n2 : as2.toArray.size = xs.length := by rw [List.size_toArray, l2]; exact rv2.length.symm
    obtain ⟨o1, n1', ho1, hc1, _, hd1⟩ := id p1
    have p1 : s1.heap.IsList t1 as1.toArray := ⟨o1, ho1, hc1, n1', hd1⟩
    obtain ⟨o2, n2', ho2, hc2, _, hd2⟩ := id p2
    have p2 : s1.heap.IsList t2 as2.toArray := ⟨o2, ho2, hc2, n2', hd2⟩
    have b1 := Heap.lt_size ho1
    have b2 := Heap.lt_size ho2
    refine zip_begins2 (begins_list t1 as1.toArray) (begins_list t2 as2.toArray) p1 p2 fun h1 z0 ti to c1 c2 hsz kp => ?_
    refine Calls.spliced_nil ?_
    have hh : X.A.in1.in1.in1.handled = none := I1.ok.hd hc
    have D1 : Draws X.prog X.w X.A.in1.in1.in1 s1.heap.objs.size (s1.heap.objs.size :: [t1]) xs.length (fun i v => as1.toArray[i]? = some v) (fun i h => h.IsListIter s1.heap.objs.size t1 i ∧ h.IsList t1 as1.toArray) := by
      rw [← n1]; exact Draws.list hh _ _ (Nat.ne_of_lt b1) _
    have D2 : Draws X.prog X.w X.A.in1.in1.in1 (s1.heap.objs.size + 1) ((s1.heap.objs.size + 1) :: [t2]) xs.length (fun i v => as2.toArray[i]? = some v) (fun i h => h.IsListIter (s1.heap.objs.size + 1) t2 i ∧ h.IsList t2 as2.toArray) := by
      rw [← n2]; exact Draws.list hh _ _ (Nat.ne_of_lt (Nat.lt_succ_of_lt b2)) _
    have lt6 : ∀ j : Nat, j < 5 → s1.heap.objs.size + j < h1.objs.size := fun j hj => by rw [hsz]; exact Nat.add_lt_add_left hj _
    have lt0 : s1.heap.objs.size < h1.objs.size := lt6 0 (by omega)
    refine zp_list2 (s := { s1 with heap := h1 }) (zip_sep2 (fp1 := [t1]) (fp2 := [t2]) (fun b hb => by rw [List.mem_singleton.mp hb]; exact b1) (fun b hb => by rw [List.mem_singleton.mp hb]; exact b2)) D1 D2 sz1 (fun x hx => ?_) (fun x hx => ?_) (fun x hx => ?_) z0 ti to ⟨⟨_, c1, rfl, rfl⟩, Heap.IsList.at p1 fun o e => kp _ _ e⟩ ⟨⟨_, c2, rfl, rfl⟩, Heap.IsList.at p2 fun o e => kp _ _ e⟩ fun h' tk acc' c' kp2 hL la => ?_
    · simp only [List.mem_cons, List.not_mem_nil, or_false] at hx
      rcases hx with rfl | rfl | rfl | rfl | rfl
      · exact lt6 4 (by omega)
      · exact lt6 2 (by omega)
      · exact lt6 3 (by omega)
      · exact lt0
      · exact lt6 1 (by omega)
    · rcases List.mem_cons.mp hx with rfl | hx
      · exact lt0
      · rw [List.mem_singleton.mp hx]; exact Nat.lt_trans b1 lt0
    · rcases List.mem_cons.mp hx with rfl | hx
      · exact lt6 1 (by omega)
      · rw [List.mem_singleton.mp hx]; exact Nat.lt_trans b2 lt0
    have hL : LCell2 h' h1.objs.size acc' c' := hL
    have la : LaidZ2 (fun i v => as1.toArray[i]? = some v) (fun i v => as2.toArray[i]? = some v) (h1.objs.size + 1) h' acc' xs.length := la
    have hk : ∀ b o, s1.heap.get? b = some o → h'.get? b = some o := fun b o e => by
      have lb := Heap.lt_size e
      have nq : ∀ j : Nat, b ≠ s1.heap.objs.size + j := fun j z => by
        rw [z] at lb
        exact absurd lb (Nat.not_lt.mpr (Nat.le_add_right _ _))
      exact kp2 b o (nq 4) (nq 3) (nq 0) (nq 1) (kp b o e)
    generalize hS : h1.objs.size = S at hL la lt6 lt0 ⊢
    have geS : s1.heap.objs.size ≤ S := Nat.le_of_lt lt0
    have hSn : H1 S = none := I1.hok.fresh geS
    let as : List Addr := (List.range xs.length).map fun j => S + 1 + j
    have asj : ∀ (j : Nat) (t : Addr), as[j]? = some t → j < xs.length ∧ t = S + 1 + j := fun j t h => by
      have h : ((List.range xs.length).map fun j => S + 1 + j)[j]? = some t := h
      rw [List.getElem?_map] at h
      by_cases hj : j < xs.length
      · rw [List.getElem?_range hj] at h
        exact ⟨hj, (Option.some.inj h).symm⟩
      · rw [List.getElem?_eq_none (by rw [List.length_range]; omega)] at h
        cases h
    have asl : as.length = xs.length := by show ((List.range xs.length).map fun j => S + 1 + j).length = _; rw [List.length_map, List.length_range]
    have asm : ∀ t ∈ as, ∃ j, j < xs.length ∧ t = S + 1 + j := fun t ht => by
      obtain ⟨j, hj⟩ := List.mem_iff_getElem?.mp ht
      exact ⟨j, asj j t hj⟩
    have hfr : ∀ t ∈ as, s1.heap.objs.size ≤ t ∧ H1 t = none := fun t ht => by
      obtain ⟨j, _, rfl⟩ := asm t ht
      have : s1.heap.objs.size ≤ S + 1 + j := Nat.le_trans geS (by rw [Nat.add_assoc]; exact Nat.le_add_right _ _)
      exact ⟨this, I1.hok.fresh this⟩
    have hSa : S ∉ as := fun z => by
      obtain ⟨j, _, e⟩ := asm S z
      have : S < S + 1 + j := by rw [Nat.add_assoc]; exact Nat.lt_add_of_pos_right (Nat.lt_of_lt_of_le Nat.zero_lt_one (Nat.le_add_right 1 j))
      rw [← e] at this
      exact Nat.lt_irrefl _ this
    have nd : as.Nodup := nodup_map_inj' (fun x y (h : S + 1 + x = S + 1 + y) => Nat.add_left_cancel h) List.nodup_range
    have hacc : acc'.toList = as.map Value.ref := by
      refine List.ext_getElem? fun j => ?_
      rw [Array.getElem?_toList]
      by_cases hj : j < xs.length
      · rw [(la.at_ j hj).1, List.getElem?_map]
        show _ = Option.map Value.ref (((List.range xs.length).map fun j => S + 1 + j)[j]?)
        rw [List.getElem?_map, List.getElem?_range hj]
        rfl
      · rw [Array.getElem?_eq_none (by rw [la.size]; omega), List.getElem?_eq_none (by rw [List.length_map, asl]; omega)]
    have I3 : Inv X pins σ H1 { s1 with heap := h', toks := tk } := I1.kept (t' := tk) hk
    have I4 : Inv X pins σ (upd H1 S (.lst (as.map V.ref))) { s1 with heap := h', toks := tk } :=
      I3.take (h' := h') (t' := tk) (fun b ob _ e => e) (I1.fpOk geS hSn) ⟨by rw [List.length_map, asl]; exact sz1, acc'.toList, c', by rw [hacc]; exact LiI.vals_refs as, by rw [Array.toArray_toList]; exact hL⟩
    obtain ⟨H2, I5, gr, ot, qt⟩ := takeT2 (P := fun t vs => ∃ (j : Nat) (x y : V), as[j]? = some t ∧ xs[j]? = some x ∧ ys[j]? = some y ∧ vs = [x, y]) I1 as _ I4 nd fun t ht => by
      obtain ⟨j, hj⟩ := List.mem_iff_getElem?.mp ht
      obtain ⟨jl, rfl⟩ := asj j t hj
      obtain ⟨_, x1, x2, q1, q2, q4⟩ := la.at_ j jl
      obtain ⟨g1, g2⟩ := hfr _ ht
      have gv : ∀ {us : List V} {as' : List Value} {x : Value}, Vals us as' → as'.toArray[j]? = some x → ∃ v, us[j]? = some v ∧ RelV v x := fun {us as' x} r e => by
        have e : as'[j]? = some x := by rw [← e]; simp
        have hl : j < us.length := by rw [r.length]; exact (List.getElem?_eq_some_iff.mp e).1
        obtain ⟨u, hu, rv⟩ := r.get (List.getElem?_eq_getElem hl)
        rw [e] at hu
        cases hu
        exact ⟨_, List.getElem?_eq_getElem hl, rv⟩
      obtain ⟨v1, w1, r1⟩ := gv rv1 q1
      obtain ⟨v2, w2, r2⟩ := gv rv2 q2
      refine ⟨g1, g2, ?_, [v1, v2], ⟨j, v1, v2, hj, w1, w2, rfl⟩, fun H3 => ⟨by show 2 ≤ sizeLine; decide, [x1, x2], .cons r1 (.cons r2 .nil), ⟨_, q4, rfl, 0, rfl⟩⟩⟩
      rw [upd_ne (fun z => hSa (by rw [← z]; exact ht))]
      exact g2
    have gr1 : ∀ b o, H1 b = some o → H2 b = some o := fun b o e => gr b o (by rw [upd_ne (ne_of_none e hSn)]; exact e)
    refine ⟨.ref S, H2, I5, rfl, k H2 S as gr1 (fun a h => ?_) hSn (fun t ht => (hfr t ht).2) hSa (fun a h => ?_) (gr S _ upd_same) asl fun j t hj => ?_⟩
    · cases e : H1 a with
      | none => rfl
      | some o => rw [gr1 a o e] at h; cases h
    · by_cases ha : a ∈ as
      · exact .inr ha
      · by_cases hb : a = S
        · exact .inl hb
        · exact absurd ((ot a ha).trans (upd_ne hb)) h
    · obtain ⟨vs, ⟨i, x, y, i1, i2, i3, ev⟩, hH⟩ := qt t (List.mem_of_getElem? hj)
      have eij : i = j := (List.getElem?_inj (List.getElem?_eq_some_iff.mp i1).1 nd).mp (i1.trans hj.symm)
      subst eij
      exact ⟨x, y, i2, i3, by rw [hH, ev]⟩
end
end Pu
/-! list(zip(a, b)) of two lists as a step on trees. -/
namespace Pu
open PySem PySem.Spec PyProof.Rows L2 Kv
def duo : List D → List D → List D
  | x :: xs, y :: ys => .tup [x, y] :: duo xs ys
  | _, _ => []
def zip2R : List D → Option R
  | [.lst xs, .lst ys] => if xs.length = ys.length then some (.own (.lst (duo xs ys))) else none
  | _ => none
theorem reps_duo {K : PySem.W.Frag} {ok : Addr → Prop} {H : Hp} : ∀ {ts : List Addr} {us vs : List V} {xs ys : List D}, ts.length = us.length → us.length = vs.length →
    (∀ (j : Nat) (t : Addr), ts[j]? = some t → ∃ x y, us[j]? = some x ∧ vs[j]? = some y ∧ H t = some (.tup [x, y])) → Reps K ok H us xs → Reps K ok H vs ys → Reps K ok H (ts.map V.ref) (duo xs ys)
  | [], us, vs, xs, ys, e1, e2, _, r1, r2 => by
    cases us with
    | nil => cases r1; exact .nil
    | cons _ _ => cases e1
  | t :: ts, [], _, _, _, e1, _, _, _, _ => by cases e1
  | t :: ts, u :: us, [], _, _, _, e2, _, _, _ => by cases e2
  | t :: ts, u :: us, v :: vs, _, _, e1, e2, h, .cons r1 q1, .cons r2 q2 => by
    obtain ⟨x, y, h1, h2, h4⟩ := h 0 t rfl
    cases h1
    cases h2
    exact .cons (.tup h4 (.cons r1 (.cons r2 .nil))) (reps_duo (Nat.succ.inj e1) (Nat.succ.inj e2) (fun j s hj => by
      obtain ⟨x, y, a1, a2, a4⟩ := h (j + 1) s (by simpa using hj)
      exact ⟨x, y, by simpa using a1, by simpa using a2, a4⟩) q1 q2)
section
variable {X : Cx} {g : Gx} {E : Wx} {a b : Expr} {p zp cpos pos : Pos} {fr : P (List D)}
theorem er_listZipL (hc : X.calm = true) (ha : EA X g E [a, b] fr) (hg : Gl X "list") (hm : X.mg "list" = none) (hz : Gl X "zip") (mz : X.mg "zip" = none) (hv : bootBuiltins "list" = some (.type "list") := by decide +kernel)
    (one : starEach [a, b] X.env = (false, eval a X.env) :: starEach [b] X.env := by rfl) (plain : (backTo cpos (starEach [b] X.env)).any (·.1) = false := by rfl)
    (hs : starEach [.Call (.Name "zip" zp) [a, b] [] cpos] X.env = (false, eval (.Call (.Name "zip" zp) [a, b] [] cpos) X.env) :: starEach [] X.env := by rfl) :
    ER X g E (.Call (.Name "list" p) [.Call (.Name "zip" zp) [a, b] [] cpos] [] pos) (bnd fr fun ds => lft (zip2R ds)) := by
  refine PE_imp (pe_listZipL hc ha hg hm hv hz mz one plain hs) fun σ H Q hq => ?_
  obtain ⟨ok, ρ, w, h⟩ := hq
  refine ⟨ok, ρ, w, (Rs.bnd (RA := relA X.K) h).mono fun vs H1 hq => ?_⟩
  obtain ⟨ok1, ρ1, ds, w1, s1, r1, h1⟩ := hq
  have r1 : Reps X.K ok1 H1 vs ds := r1
  have key : ∀ r, zip2R ds = some r → ∃ xs ys, ds = [.lst xs, .lst ys] ∧ xs.length = ys.length ∧ r = .own (.lst (duo xs ys)) := fun r e => by
    unfold zip2R at e
    split at e
    · split at e
      · rename_i hh
        cases e
        exact ⟨_, _, rfl, hh, rfl⟩
      · cases e
    · cases e
  cases er : zip2R ds with
  | none => unfold lft at h1; rw [er] at h1; exact h1.elim
  | some r =>
    obtain ⟨xs, ys, rfl, n2, rfl⟩ := key r er
    rw [er, lft_some] at h1
    cases r1 with
    | cons a1 r1 =>
      cases r1 with
      | cons a2 r1 =>
        cases r1
        cases a1 with
        | lst h1' k1 q1 =>
          cases a2 with
          | lst h2' k2 q2 =>
            have m1 := reps_len q1
            have m2 := reps_len q2
            refine ⟨_, _, _, _, rfl, .inl (.inl h1'), .inl (.inl h2'), by omega, fun H' l ts gr all hl hts hlts only hL tl hP => ?_⟩
            have f : Fr ok1 H1 (sub1 ok1 l) H' := .of (fun b o h _ => gr b o h) (fun b o h k => ⟨k, fun z => by rw [z, hl] at h; cases h⟩) all
            have wf : Wf X.K g (sub1 ok1 l) ρ1 σ H' := by
              refine w1.step f (fun b hb => ⟨w1.fc b (all b hb), fun z => by rw [z, hL] at hb; cases hb⟩) (w1.tb.fr f (fun b ps h => gr b _ h) fun b ps h n z => n z.1) fun i d q h1 h2 => ?_
              obtain ⟨q', e', o, nk, _⟩ := w1.own i d h1
              rw [h2] at e'
              cases e'
              obtain ⟨u, hu, _⟩ := o.there
              exact ⟨by rw [hu]; exact gr q u hu, fun z => nk z.1⟩
            have sx : Sx σ ρ1 ok1 H1 ρ1 (sub1 ok1 l) H' := ⟨f, fun b o h _ => .inl (gr b o h), fun _ h => h, fun _ _ _ h => .inl h.1⟩
            refine h1 (.ref l) H' (sub1 ok1 l) wf sx ⟨l, rfl, ⟨_, hL, reps_duo tl (by omega) hP (q1.fr f) (q2.fr f)⟩, fun z => z.2 rfl, hl, fun j x hj hz => ?_⟩
            obtain ⟨q', e', o, nk, _⟩ := w1.own j x hj
            rw [hz] at e'
            cases e'
            obtain ⟨u, hu, _⟩ := o.there
            rw [hl] at hu
            cases hu
end
section
variable {ρ : En} {E : QE}
end
end Pu
/-! o.LIMIT: a constant of the class, through an object of it. -/
namespace Pu
open PySem PySem.Spec PyProof.Rows L2 Kv
structure OCon (K : PySem.W.Frag) (C : Addr) (f : Str) (i : Int) : Prop where
  cl : Cls K C
  co : ∃ u, Con K C f (.int i) u
def conD (C : Addr) (f : Str) (i : Int) : D → Option D
  | .obj C' ns _ => if C' = C ∧ f ∉ ns then some (.int i) else none
  | _ => none
theorem lookup_out {f : Str} : ∀ {fs : List (Str × V)}, f ∉ fs.map (·.1) → fs.lookup f = none
  | [], _ => rfl
  | p :: fs, h => by
    rw [List.map_cons, List.mem_cons, not_or] at h
    obtain ⟨x, v⟩ := p
    have : (f == x) = false := beq_eq_false_iff_ne.mpr h.1
    rw [List.lookup_cons, this]
    exact lookup_out h.2
section
variable {X : Cx} {g : Gx} {E : Wx} {C : Addr} {f : Str} {i : Int} {a : Expr} {fa : P D} {pos : Pos}
theorem ev_con (o : OCon X.K C f i) (ha : EV X g E a fa) (hb : attributeBase a f X.env (eval a X.env) = eval a X.env := by rfl) : EV X g E (.Attribute a f pos) (op1 (conD C f i) fa) := by
  refine PE_imp (pe_con ha hb) fun σ H Q hq => ?_
  obtain ⟨ok, ρ, w, h⟩ := hq
  refine ⟨ok, ρ, w, (Rs.bnd (RA := relD X.K) h).mono fun v1 H1 hq => ?_⟩
  obtain ⟨ok1, ρ1, d, w1, f1, r1, h1⟩ := hq
  unfold lft at h1
  have r1 : Rep X.K ok1 H1 v1 d := r1
  cases r1 with
  | obj ho ko rs =>
    rename_i a' C' dx fs ds
    by_cases e : C' = C ∧ f ∉ fs.map (·.1)
    · have ec : conD C f i (.obj C' (fs.map (·.1)) ds) = some (.int i) := if_pos e
      rw [ec] at h1
      obtain ⟨e1, e2⟩ := e
      subst e1
      obtain ⟨u, hu⟩ := o.co
      exact ⟨a', _, dx, fs, .int i, u, rfl, ho, o.cl, hu, lookup_out e2, h1 (.int i) H1 ok1 w1 Sx.refl (.int i)⟩
    · have ec : conD C f i (.obj C' (fs.map (·.1)) ds) = none := if_neg e
      rw [ec] at h1
      exact h1.elim
  | _ => exact h1.elim
end
end Pu
/-! def f(a, **d), called with keywords: the dict that it gets. -/
namespace Pu
open PySem PySem.Spec PyProof.Rows L2 Kv
theorem isStr_of (x : Str) (v : Value) : Value.isStr v x = Value.isStrOf x v := by cases v <;> rfl
theorem pairs_snoc {P : Program} {w : World} {e : DictEntry} {kv : Key × Value} (h1 : keyIs kv.1 e.key = true) (h2 : e.val = kv.2) : ∀ {es : List DictEntry} {kvs : List (Key × Value)}, Pairs (mixKind P w) es kvs → Pairs (mixKind P w) (es ++ [e]) (kvs ++ [kv])
  | _, _, .nil => .cons h1 h2 .nil
  | _, _, .cons a b t => .cons a b (pairs_snoc h1 h2 t)
section
variable {P : Program} {w : World} {A : Around} {E : Value → Shared → Prop}
theorem nsSet_dK {s : Shared} {d : Addr} {kvs : List (Key × Value)} {name : Str} {v : Value} {Q : Unit → Shared → Prop} (hD : s.heap.DictOf (mixKind P w) d kvs) (hn : (Sum.inr name : Key) ∉ kvs.map (·.1))
    (hQ : ∀ h' : Heap, h'.DictOf (mixKind P w) d (kvs ++ [(Sum.inr name, v)]) → Heap.SameBut d s.heap h' → Q () { s with heap := h', toks := s.toks + 1 }) : wpAny (model P w) A (nsSet d name v) Q E s := fun Γ p _ => by
  obtain ⟨o, es, ep, ho, hx, hd, hk, hp, nd⟩ := hD
  simp only [nsSet, strHash, Sem.wp_bind', Sem.wp_cmd_ask, Sem.wp_pure', Sem.wp_cmd_mkText]
  rw [Sem.wp_loadPart_of _ Γ _ p { s with toks := s.toks + 1 } (o := o) _ ho]
  have shp : ∀ e ∈ es, (∃ i t, e.key = Value.int i t) ∨ ∃ x t, e.key = Value.str x t := fun e he => by
    obtain ⟨k, hk1, _⟩ := hk e he
    rcases keyIs_shape hk1 with ⟨i, t, _, e2⟩ | ⟨x, t, _, e2⟩
    · exact .inl ⟨i, t, e2⟩
    · exact .inr ⟨x, t, e2⟩
  have hany : es.any (·.refKey) = false := by
    rw [Array.any_eq_false']
    intro e he
    rcases shp e he with ⟨i, t, h⟩ | ⟨x, t, h⟩ <;> simp [DictEntry.refKey, h]
  simp only [hd, aRefKeyMayBeTheName_eq, aRefKeyMayBeTheNameByArray, hany, Bool.and_false, Bool.false_eq_true, if_false, Sem.wp_cmd_updatePart]
  refine ⟨by rw [ho]; rfl, hQ _ ?_ (Heap.SameBut.update ..)⟩
  have hi : es.findIdx? (·.key.isStr name) = none := by
    have h := hp.findIdx (Sum.inr name : Key)
    have h0 : kvs.findIdx? (fun kv => decide (kv.1 = (Sum.inr name : Key))) = none := by
      rw [List.findIdx?_eq_none_iff]
      intro kv hkv
      exact decide_eq_false fun e => hn (e ▸ List.mem_map_of_mem hkv)
    rw [h0] at h
    rw [Array.findIdx?_eq_none_iff]
    intro e he
    have := List.findIdx?_eq_none_iff.mp h e (by simpa using he)
    rw [isStr_of]
    exact this
  obtain ⟨c, dd, dt, sl⟩ := o
  subst hd
  have eo : Obj.putName name (hashStr w name) (.str name s.toks) v ⟨c, dd, .dict es ep, sl⟩ = ⟨c, dd, .dict (es.push ⟨hashStr w name, .str name s.toks, v⟩) (ep + 1), sl⟩ := by
    simp only [Obj.putName_eq, Obj.putNameByArray, hi]
  have eu := Heap.get?_update_self (Obj.putName name (hashStr w name) (.str name s.toks) v) ho (by rw [eo]; rfl)
  rw [eo] at eu
  refine ⟨⟨c, dd, .dict (es.push ⟨hashStr w name, .str name s.toks, v⟩) (ep + 1), sl⟩, es.push ⟨hashStr w name, .str name s.toks, v⟩, ep + 1, eu, hx, rfl, ?_, ?_, ?_⟩
  · exact KeysOf.push hk (k := (Sum.inr name : Key)) (by show (name == name) = true; simp) v
  · rw [Array.toList_push]
    exact pairs_snoc (by show (name == name) = true; simp) rfl hp
  · rw [List.map_append, List.nodup_append]
    exact ⟨nd, by simp, fun a ha b hb => by rw [List.mem_singleton.mp hb]; exact fun e => hn (by have e : a = (Sum.inr name : Key) := e; rw [← e]; exact ha)⟩
end
end Pu
/-! def f(a, **d), called with one value and keywords. -/
namespace Pu
open PySem PySem.Spec PyProof.Rows L2 Kv
def kwKeys (l : List (Str × Value)) : List (Key × Value) := l.map fun p => (Sum.inr p.1, p.2)
section
variable {P : Program} {w : World} {A : Around} {E : Value → Shared → Prop}
theorem forIn_dK (d : Addr) (f : Str × Value → PUnit → Sem (ForInStep PUnit)) (hf : ∀ x u, f x u = (do nsSet d x.1 x.2; pure (.yield ⟨⟩))) : ∀ (l : List (Str × Value)) (s : Shared) (kvs : List (Key × Value)) (Q : PUnit → Shared → Prop), s.heap.DictOf (mixKind P w) d kvs → ((kvs ++ kwKeys l).map (·.1)).Nodup →
    (∀ (h' : Heap) (tk : Nat), h'.DictOf (mixKind P w) d (kvs ++ kwKeys l) → Heap.SameBut d s.heap h' → Q ⟨⟩ { s with heap := h', toks := tk }) → wpAny (model P w) A (forIn l ⟨⟩ f) Q E s
  | [], s, kvs, Q, hD, _, hQ => by
    rw [List.forIn_nil]
    refine wpAny_pure ?_
    have := hQ s.heap s.toks (by rw [show kwKeys [] = [] from rfl, List.append_nil]; exact hD) (.refl ..)
    exact this
  | (k, v) :: l, s, kvs, Q, hD, nd, hQ => by
    rw [List.forIn_cons, hf]
    have e : kvs ++ kwKeys ((k, v) :: l) = (kvs ++ [(Sum.inr k, v)]) ++ kwKeys l := by rw [List.append_assoc]; rfl
    rw [e] at nd
    have hn : (Sum.inr k : Key) ∉ kvs.map (·.1) := fun h => by
      rw [List.map_append, List.map_append] at nd
      have h1 := (List.nodup_append.mp nd).1
      exact (List.nodup_append.mp h1).2.2 _ h _ (List.mem_singleton.mpr rfl) rfl
    refine wpAny_bind (wpAny_bind (nsSet_dK hD hn fun h1 hD1 sb1 => wpAny_pure (forIn_dK d f hf l _ _ _ hD1 nd fun h' tk hD' sb' => ?_)))
    rw [← e] at hD'
    exact hQ h' tk hD' (sb1.trans sb')
end
def kwBinds (pc pd : Str) (a : Value) (l : List (Str × Value)) : Sem (List (Str × Value)) := do
  let d ← alloc { cls := .type "dict", data := .dict #[] }
  for (k, v) in l do nsSet d k v
  return [(pc, a), (pd, .ref d)]
theorem nodup_inr : ∀ {ks : List Str}, ks.Nodup → (ks.map Sum.inr : List Key).Nodup
  | [], _ => List.nodup_nil
  | k :: ks, h => by
    obtain ⟨h1, h2⟩ := List.nodup_cons.mp h
    rw [List.map_cons]
    refine List.nodup_cons.mpr ⟨fun m => ?_, nodup_inr h2⟩
    obtain ⟨y, hy, e⟩ := List.mem_map.mp m
    rw [Sum.inr.inj e] at hy
    exact h1 hy
theorem kw_vals : ∀ {ks : List Str} {vs : List V} {us : List Value}, Vals vs us → KV ((ks.map Sum.inr : List Key).zip vs) (kwKeys (ks.zip us))
  | [], _, _, _ => .nil
  | _ :: _, _, _, .nil => .nil
  | k :: ks, _, _, .cons r rs => .cons ⟨rfl, r⟩ (kw_vals rs)
theorem kw_fst : ∀ {ks : List Str} {us : List Value}, us.length = ks.length → (kwKeys (ks.zip us)).map (·.1) = (ks.map Sum.inr : List Key)
  | [], _, _ => rfl
  | k :: ks, [], h => nomatch h
  | k :: ks, u :: us, h => by
    show Sum.inr k :: (kwKeys (ks.zip us)).map (·.1) = _
    rw [kw_fst (Nat.succ.inj h)]
    rfl
def FnK (P' : Program) (w : World) (K : PySem.W.Frag) (mg : Str → Option Value) (base : Heap) (k : Nat) (f : Addr) (ks : List Str) (sp : Sp) : Prop :=
  ∀ (A : Around) (outer : List Env) (s : Shared) (H : Hp) (u : Value) (us : List Value) (v : V) (vs : List V) (Q : VK) (E : XK), A.guards = some [] → Room k A → Env0 P' w K mg base A outer s H → RelV v u → Vals vs us → vs.length = ks.length →
    (∀ d, H d = none → sp [v, .ref d] (upd H d (.dK ((ks.map Sum.inr).zip vs))) Q E) → codeAny (model P' w) A (.call (.ref f) ⟨[u], ks.zip us⟩) (CR (L2.CX P' w) outer P' w H s Q E) s
section
variable {P' : Program} {w : World} {K : PySem.W.Frag} {mg : Str → Option Value} {base : Heap} {k : Nat} {f : Addr} {name qual : Str} {params : Arguments} {body : List Stmt} {scope : Scope} {dV kV doc pm cdv ct oc : Value} {an od : Option Addr}
  {osl : Array (Option Value)} {N ks : List Str} {sp : Sp}
theorem env0_laidH {A : Around} {outer : List Env} {s : Shared} {H : Hp} {h' : Heap} {a : Addr} {u : HO} {tk : Nat} (e0 : Env0 P' w K mg base A outer s H) (kp : ∀ b x, s.heap.get? b = some x → h'.get? b = some x) (sz : s.heap.objs.size ≤ h'.objs.size) (ha : s.heap.objs.size ≤ a) (new : ObjOk P' w (upd H a u) h' a u) :
    Env0 P' w K mg base A outer { s with heap := h', toks := tk } (upd H a u) := by
  refine ⟨e0.frames, e0.mod, fun b x e => ⟨kp b x (e0.bs b x e).1, ?_⟩, Nat.le_trans e0.bsz sz, Heap.FunFrames.of_keeps (fun b x e _ => ⟨x, kp b x e, rfl⟩) e0.funs, fun b hb => ?_, e0.hok.laid kp ha new, e0.bare⟩
  · rw [upd_ne (Nat.ne_of_lt (Nat.lt_of_lt_of_le (Heap.lt_size (e0.bs b x e).1) ha))]
    exact (e0.bs b x e).2
  · obtain ⟨_, x, hx, _⟩ := e0.funs.mem hb
    rw [upd_ne (Nat.ne_of_lt (Nat.lt_of_lt_of_le (Heap.lt_size hx) ha))]
    exact e0.frf b hb
theorem fn_kwV {pc pd : Str} (lk : K.lookup f = some ⟨oc, od, .func (PySem.W.fnOf name qual params body scope dV kV doc pm an cdv ct), osl⟩) (hcd : PySem.W.codeIn K cdv qual = true) (S : FnScope N [pc, pd] scope) (hks : ks.Nodup) (hkl : ks.length ≤ sizeLine)
    (hbind : ∀ (a : Value) (us : List Value), us.length = ks.length → bindArgs (PySem.W.fnOf name qual params body scope dV kV doc pm an cdv ct) ⟨[a], ks.zip us⟩ = kwBinds pc pd a (ks.zip us))
    (hbody : ∀ (A : Around) (outer : List Env) (s : Shared) (H : Hp) (vs : List V) (Q : VK) (E : XK), A.guards = some [] → Room k (A.deeper (envOfC qual scope s.heap.objs.size f cdv)) → sp vs H Q E →
      ∃ t, PSs (cxOf (L2.CX P' w) P' w K mg base N qual scope f cdv A outer s H E) body t ∧ t { nx := fun _ H' => Q .non H', rt := Q } (start N vs) H) :
    FnK P' w K mg base (k + 1) f ks sp := by
  intro A outer s H u us v vs Q E hg hr e0 ru rv hl hsp
  have lu : us.length = ks.length := by rw [← rv.length]; exact hl
  have hp : H s.heap.objs.size = none := e0.hok.fresh (Nat.le_refl _)
  refine StX.run_bnd lk hcd S hr e0 (G := fun xs H2 => ∃ d, H d = none ∧ xs = [v, V.ref d] ∧ H2 = upd H d (.dK ((ks.map Sum.inr).zip vs))) (fun A' Ex Q' h => ?_) fun s2 H2 xs g2 hr2 => ?_
  · rw [hbind u us lu]
    unfold kwBinds
    refine wpAny_bind (wpAny_alloc ?_)
    refine wpAny_bind (forIn_dK _ _ (fun x u => by rfl) _ _ [] _ (Heap.DictOf.new s.heap) ?_ fun h' tk hD sb => ?_)
    · rw [List.nil_append, kw_fst lu]
      exact nodup_inr hks
    · refine wpAny_pure ?_
      have kp : ∀ b x, s.heap.get? b = some x → h'.get? b = some x := fun b x e => by
        rw [sb.2 b (Nat.ne_of_lt (Heap.lt_size e))]
        exact Heap.get?_push_of_some _ e
      have sz : s.heap.objs.size ≤ h'.objs.size := by
        rw [sb.1]
        show s.heap.objs.size ≤ (s.heap.push _).objs.size
        rw [Heap.size_push]
        exact Nat.le_succ _
      have hlen : ((ks.map Sum.inr : List Key).zip vs).length ≤ sizeLine := by
        rw [List.length_zip, List.length_map]
        exact Nat.le_trans (Nat.min_le_left ..) hkl
      have okT : ObjOk P' w (upd H s.heap.objs.size (.dK ((ks.map Sum.inr).zip vs))) h' s.heap.objs.size (.dK ((ks.map Sum.inr).zip vs)) :=
        ⟨hlen, beq_eq_false_iff_ne.mpr (Ne.symm (Nat.ne_of_lt (StX.env0_big e0))), kwKeys (ks.zip us), kw_vals rv, hD⟩
      have hun : Un (frs outer) [] H (upd H s.heap.objs.size (.dK ((ks.map Sum.inr).zip vs))) s.heap h' := Un.laid kp (Nat.le_refl _) hp
      exact h { s with heap := h', toks := tk } (upd H s.heap.objs.size (.dK ((ks.map Sum.inr).zip vs))) [v, V.ref s.heap.objs.size] [u, Value.ref s.heap.objs.size] (env0_laidH e0 kp sz (Nat.le_refl _) okT) hun rfl (fun er s' => StX.cxUp outer s H _ _ E er s' hun kp rfl) (.cons ru (.cons rfl .nil)) rfl ⟨_, hp, rfl, rfl⟩
  · obtain ⟨d, hd, rfl, rfl⟩ := g2
    exact hbody A outer s2 _ _ Q E hg hr2 (hsp d hd)
end
end Pu
/-! C.m(a=x, ..) where m is a class method that takes its keywords as a dict. -/
namespace Pu
open PySem PySem.Spec PyProof.Rows L2 Kv
structure CalCW (P' : Program) (w : World) (K : PySem.W.Frag) (mg : Str → Option Value) (base : Heap) (T : List (Addr × Str)) (x : Str) (C : Addr) (k : Nat) (m : Str) (ks : List Str) (F : P R) : Prop where
  ex : ∃ g mc p, ClX.CRead K C mc ∧ ClX.CMet K C mc m p g ∧ FnK P' w K mg base k g ks (spP K T 2 F) ∧ mg x = some (.ref C)
def calCW (C : Addr) (ks : List Str) (F : P R) (fr : P (List D)) : P R := bnd fr fun ds => if ds.length = ks.length then app F [.opq C, .dic (ks.map Sum.inr) ds] else fun _ => none
section
variable {X : Cx} {g : Gx} {E : Wx} {k : Nat} {C gf q : Addr} {x m : Str} {ks : List Str} {F : P R} {p pos apos : Pos} {fr : P (List D)} {kws : List Keyword}
theorem zip_kv : ∀ {ks : List Key} {vs : List V}, vs.length = ks.length → (ks.zip vs).map (·.1) = ks ∧ (ks.zip vs).map (·.2) = vs
  | [], [], _ => ⟨rfl, rfl⟩
  | [], _ :: _, h => nomatch h
  | _ :: _, [], h => nomatch h
  | k :: ks, v :: vs, h => by
    obtain ⟨a, b⟩ := zip_kv (ks := ks) (vs := vs) (Nat.succ.inj h)
    exact ⟨by show k :: (ks.zip vs).map (·.1) = _; rw [a], by show v :: (ks.zip vs).map (·.2) = _; rw [b]⟩
theorem kw_asks {ok : Addr → Prop} {ρ : En} {σ : L2.St} {H : Hp} {Q : VK} (w : Wf X.K g ok ρ σ H) (h : Rs X.K g E (relR X.K) σ ρ ok H (calCW C ks F fr ρ) Q) :
    tX X.K g E (relA X.K) fr σ H fun vs H1 => vs.length = ks.length ∧ ∀ d, H1 d = none → spP X.K g.T 2 F [.ref C, .ref d] (upd H1 d (.dK ((ks.map Sum.inr).zip vs))) Q (E σ) := by
  refine ⟨ok, ρ, w, (Rs.bnd (RA := relA X.K) h).mono fun vs H1 hq => ?_⟩
  obtain ⟨ok1, ρ1, ds, w1, s1, r1, h1⟩ := hq
  by_cases hd : ds.length = ks.length
  · rw [if_pos hd] at h1
    have r1 : Reps X.K ok1 H1 vs ds := r1
    have hl : vs.length = ks.length := by rw [r1.length]; exact hd
    refine ⟨hl, fun d nd => ?_⟩
    have hlk : vs.length = (ks.map Sum.inr : List Key).length := by rw [List.length_map]; exact hl
    obtain ⟨z1, z2⟩ := zip_kv hlk
    have rd : Rep X.K ok1 (upd H1 d (.dK ((ks.map Sum.inr).zip vs))) (.ref d) (.dic (ks.map Sum.inr) ds) := by
      have q : Rep X.K ok1 (upd H1 d (.dK ((ks.map Sum.inr).zip vs))) (.ref d) (.dic (((ks.map Sum.inr : List Key).zip vs).map (·.1)) ds) :=
        .dic (.inl ⟨upd_same, w1.fc d nd⟩) (by rw [z2]; exact r1.fr (fr_new nd))
      rw [z1] at q
      exact q
    exact app_ok (w1.new nd) (.cons (.opq C) (.cons rd .nil)) rfl (h1.shift (Sx.new nd) monoR)
  · rw [if_neg hd] at h1
    exact h1.elim
theorem run_cmK {pins : List (Addr × Obj)} {σ : L2.St} {H : Hp} {s : Shared} {Q : VK} {us : List Value} {vs : List V} (F' : FnK X.prog X.w X.K X.mg X.base k gf ks (spP X.K g.T 2 F)) (hgd : X.A.guards = some []) (hr : Room k X.A)
    (hx : PassesAt (L2.CX X.prog X.w) X σ (E σ)) (I : Inv X ((q, PySem.W.methodObj (.ref gf) (.ref C)) :: pins) σ H s) (r : Vals vs us) (hl : vs.length = ks.length)
    (h : ∀ d, H d = none → spP X.K g.T 2 F [.ref C, .ref d] (upd H d (.dK ((ks.map Sum.inr).zip vs))) Q (E σ)) : wpAny (model X.prog X.w) X.A (call (.ref q) [] (ks.zip us)) (L2.EP X pins σ Q) X.xe s := by
  have z : wpAny (model X.prog X.w) X.A (call (.ref q) [] (ks.zip us)) (L2.EP X ((q, PySem.W.methodObj (.ref gf) (.ref C)) :: pins) σ Q) X.xe s := by
    refine wpAny_call (PySem.W.method_call (ClX.pin_at I) (codeAny_mono (F' X.A X.stack s H (.ref C) us (.ref C) vs Q (E σ) hgd hr I.env0 rfl r hl h) fun r s' hq => ?_))
    cases r with
    | error e => exact hx _ H s e s' I hq
    | ok fl =>
      cases fl with
      | ret u => exact I.after hq
      | next => exact False.elim hq
      | brk => exact False.elim hq
      | cont => exact False.elim hq
  exact thn z fun _ _ y => ClX.unpinE y
theorem er_cmethW {pl : Sem Bool} (c : CalCW X.prog X.w X.K X.mg X.base g.T x C k m ks F) (hgd : X.A.guards = some []) (hr : Room k X.A) (hg : Gl X x) (hx : ∀ σ, PassesAt (L2.CX X.prog X.w) X σ (E σ)) (ha : EK X g E kws fr)
    (hdb : (x == ("__debug__" : Str)) = false := by decide)
    (hall : (backToKw pos (keywordEach kws X.env)).all (·.1.isSome) = true := by rfl) (hks : (backToKw pos (keywordEach kws X.env)).filterMap (·.1) = ks := by rfl)
    (hpl : ((backTo pos (starEach [] X.env)).any (·.1) || (backToKw pos (keywordEach kws X.env)).any (·.1.isNone)) = false := by rfl)
    (ht : eval (.Call (.Attribute (.Name x p) m apos) [] kws pos) X.env = (do
      let ov ← eval (.Name x p) X.env
      standAt apos.atName
      let (f, first) ← holding [ov] (getMethod ov m pl)
      callWith pos f first (backTo pos (starEach [] X.env)) (backToKw pos (keywordEach kws X.env))) := by rfl) :
    ER X g E (.Call (.Attribute (.Name x p) m apos) [] kws pos) (calCW C ks F fr) := by
  obtain ⟨gf, mc, q, r, s, G, hm⟩ := c.ex
  refine ⟨fun pins s0 σ H Q I hq => ?_⟩
  refine PySem.W.methodCall_KW (pl := pl) (ld_glob I hg hm ?_ hdb) ht
  refine ClX.getmethcm_ok I r s fun s1 I1 => ?_
  obtain ⟨ok, ρ, w, h⟩ := hq
  refine PySem.W.callWith_of (P := fun h => PySem.W.MethP X.K s0.heap.objs.size gf (.ref C) h) hpl (PySem.W.keeps_M s.fi) (PyProof.Rows.evalArgs_kw2_nil hall ?_)
  refine thn (ha.run pos _ s1 σ H _ I1 (kw_asks w h)) fun us s3 ⟨vs, H2, I3, rv, len, q2⟩ => ⟨⟨ClX.pin_at I3, I3.kIn⟩, ?_⟩
  rw [hks]
  exact run_cmK G hgd hr (hx σ) I3 rv len q2
end
structure DefCW (K : PySem.W.Frag) (mg : Str → Option Value) (x : Str) (C : Addr) (m qual : Str) (st : Stmt) (pc pd : Str) (ks : List Str) : Prop where
  ex : ∃ f fd mc p, Fun K m qual st f fd ∧ (∀ (a : Value) (us : List Value), us.length = ks.length → bindArgs fd ⟨[a], ks.zip us⟩ = kwBinds pc pd a (ks.zip us)) ∧ ClX.CRead K C mc ∧ ClX.CMet K C mc m p f ∧ mg x = some (.ref C)
section
variable {P' : Program} {w : World} {K : PySem.W.Frag} {mg : Str → Option Value} {base : Heap} {T : List (Addr × Str)}
theorem calCW_mk {x : Str} {C : Addr} {m qual pc pd : Str} {ks : List Str} {st : Stmt} {N : List Str} {k : Nat} {B : List Nat} {body : S} (d : DefCW K mg x C m qual st pc pd ks) (S : FnScope N [pc, pd] (defScope st)) (hks : ks.Nodup) (hkl : ks.length ≤ sizeLine)
    (hb : ∀ (f : Addr) (cdv : Value) (A : Around) (fr : List Env) (s : Shared) (H : Hp) (E : XK), A.guards = some [] → Room k (A.deeper (envOfC qual (defScope st) s.heap.objs.size f cdv)) →
      ESs (cxOf (L2.CX P' w) P' w K mg base N qual (defScope st) f cdv A fr s H E) ⟨H, B, T⟩ (fun _ => E) (defBody st) body) :
    CalCW P' w K mg base T x C (k + 1) m ks (fnP N.length B body) := by
  obtain ⟨f, fd, mc, p, F, hbind, r, s, hm⟩ := d.ex
  obtain ⟨oc, od, kV, doc, pm, an, cdv, ct, osl, rfl, lk, hcd⟩ := F.ex
  have hpl : 2 ≤ N.length := by have := congrArg List.length S.pre; rw [List.length_take] at this; simp at this; omega
  exact ⟨f, mc, p, r, s, fn_kwV lk hcd S hks hkl hbind fun A fr s H vs Q E hg hr hsp => body_ok hpl (hb f cdv A fr s H E hg hr) hsp, hm⟩
end
end Pu
/-! o.m(a=x, ..) where m is a class method of o's class that takes its keywords as a dict. -/
namespace Pu
open PySem PySem.Spec PyProof.Rows L2 Kv
structure CalIW (P' : Program) (w : World) (K : PySem.W.Frag) (mg : Str → Option Value) (base : Heap) (T : List (Addr × Str)) (C : Addr) (k : Nat) (m : Str) (ks : List Str) (F : P R) : Prop where
  ex : ∃ g p, ClX.CInst K C m p g ∧ FnK P' w K mg base k g ks (spP K T 2 F)
def objCW (C : Addr) (m : Str) (ks : List Str) (F : P R) (fo : P D) (fr : P (List D)) : P R := bnd fo fun d => if isObj C m d = true then calCW C ks F fr else fun _ => none
section
variable {X : Cx} {g : Gx} {E : Wx} {k : Nat} {C : Addr} {m : Str} {ks : List Str} {F : P R} {pos apos : Pos} {o : Expr} {fo : P D} {fr : P (List D)} {kws : List Keyword}
theorem er_imethW {pl : Sem Bool} (c : CalIW X.prog X.w X.K X.mg X.base g.T C k m ks F) (ho : EV X g E o fo) (hgd : X.A.guards = some []) (hr : Room k X.A) (hx : ∀ σ, PassesAt (L2.CX X.prog X.w) X σ (E σ)) (ha : EK X g E kws fr)
    (hall : (backToKw pos (keywordEach kws X.env)).all (·.1.isSome) = true := by rfl) (hks : (backToKw pos (keywordEach kws X.env)).filterMap (·.1) = ks := by rfl)
    (hpl : ((backTo pos (starEach [] X.env)).any (·.1) || (backToKw pos (keywordEach kws X.env)).any (·.1.isNone)) = false := by rfl)
    (ht : eval (.Call (.Attribute o m apos) [] kws pos) X.env = (do
      let ov ← eval o X.env
      standAt apos.atName
      let (f, first) ← holding [ov] (getMethod ov m pl)
      callWith pos f first (backTo pos (starEach [] X.env)) (backToKw pos (keywordEach kws X.env))) := by rfl) :
    ER X g E (.Call (.Attribute o m apos) [] kws pos) (objCW C m ks F fo fr) := by
  obtain ⟨gf, q, ci, G⟩ := c.ex
  refine ⟨fun pins s σ H Q I hq => ?_⟩
  obtain ⟨ok, ρ, w, h⟩ := hq
  refine PySem.W.methodCall_KW (pl := pl) (thn (ho.run pins s σ H _ I ⟨ok, ρ, w, (Rs.bnd (RA := relD X.K) h).mono fun v H1 hq => hq⟩) fun u s1 ⟨x, H1, I1, rx, q1⟩ => ?_) ht
  obtain ⟨ok1, ρ1, d, w1, s1', r1, h1⟩ := q1
  by_cases hi : isObj C m d = true
  · rw [if_pos hi] at h1
    obtain ⟨a, dx, fs, rfl, ea, el⟩ := isObj_rep r1 hi
    obtain rfl : u = Value.ref a := rx
    obtain ⟨mA, O, rr, _, _, _⟩ := ins_get I1.hok ea
    have hn : mA m = none := RelO.none_of (by rw [← el]; exact rr m)
    obtain ⟨od, J, hl⟩ := O.look
    refine ClX.getmethim_ok I1 J (by rw [hl m, hn]) ci fun s2 I2 => ?_
    refine PySem.W.callWith_of (P := fun h => PySem.W.MethP X.K s1.heap.objs.size gf (.ref C) h) hpl (PySem.W.keeps_M ci.fi) (PyProof.Rows.evalArgs_kw2_nil hall ?_)
    refine thn (ha.run pos _ s2 σ H1 _ I2 (kw_asks w1 h1)) fun us s3 ⟨vs, H2, I3, rv, len, q2⟩ => ⟨⟨ClX.pin_at I3, I3.kIn⟩, ?_⟩
    rw [hks]
    exact run_cmK G hgd hr (hx σ) I3 rv len q2
  · rw [if_neg hi] at h1
    exact h1.elim
end
structure DefIW (K : PySem.W.Frag) (C : Addr) (m qual : Str) (st : Stmt) (pc pd : Str) (ks : List Str) : Prop where
  ex : ∃ f fd p, Fun K m qual st f fd ∧ (∀ (a : Value) (us : List Value), us.length = ks.length → bindArgs fd ⟨[a], ks.zip us⟩ = kwBinds pc pd a (ks.zip us)) ∧ ClX.CInst K C m p f
section
variable {P' : Program} {w : World} {K : PySem.W.Frag} {mg : Str → Option Value} {base : Heap} {T : List (Addr × Str)}
theorem calIW_mk {C : Addr} {m qual pc pd : Str} {ks : List Str} {st : Stmt} {N : List Str} {k : Nat} {B : List Nat} {body : S} (d : DefIW K C m qual st pc pd ks) (S : FnScope N [pc, pd] (defScope st)) (hks : ks.Nodup) (hkl : ks.length ≤ sizeLine)
    (hb : ∀ (f : Addr) (cdv : Value) (A : Around) (fr : List Env) (s : Shared) (H : Hp) (E : XK), A.guards = some [] → Room k (A.deeper (envOfC qual (defScope st) s.heap.objs.size f cdv)) →
      ESs (cxOf (L2.CX P' w) P' w K mg base N qual (defScope st) f cdv A fr s H E) ⟨H, B, T⟩ (fun _ => E) (defBody st) body) :
    CalIW P' w K mg base T C (k + 1) m ks (fnP N.length B body) := by
  obtain ⟨f, fd, p, F, hbind, ci⟩ := d.ex
  obtain ⟨oc, od, kV, doc, pm, an, cdv, ct, osl, rfl, lk, hcd⟩ := F.ex
  have hpl : 2 ≤ N.length := by have := congrArg List.length S.pre; rw [List.length_take] at this; simp at this; omega
  exact ⟨f, p, ci, fn_kwV lk hcd S hks hkl hbind fun A fr s H vs Q E hg hr hsp => body_ok hpl (hb f cdv A fr s H E hg hr) hsp⟩
end
end Pu
/-! Ahead of the steps of Pu93 to Pu98. -/
namespace Pu
open PySem PySem.Spec PyProof.Rows L2 Kv
section
variable {ρ : En} {E : QE}
theorem w_calCW {C : Addr} {ks : List Str} {F : P R} {fr : P (List D)} {Q : R → En → Prop} (h : W fr ρ (fun ds ρ1 => ds.length = ks.length ∧ W F (vals [.opq C, .dic (ks.map Sum.inr) ds]) (fun r _ => Q r ρ1) (fun c ns es _ => E c ns es ρ1)) E) : W (calCW C ks F fr) ρ Q E :=
  w_bnd (h.mono (fun _ _ h => w_ifT h.1 (w_app h.2)) fun _ _ _ _ h => h)
theorem w_objCW {C : Addr} {m : Str} {ks : List Str} {F : P R} {fo : P D} {fr : P (List D)} {Q : R → En → Prop} (h : W fo ρ (fun d ρ0 => isObj C m d = true ∧ W (calCW C ks F fr) ρ0 Q E) E) : W (objCW C m ks F fo fr) ρ Q E :=
  w_bnd (h.mono (fun _ _ h => w_ifT h.1 h.2) fun _ _ _ _ h => h)
end
end Pu
/-! list(d.items()), d a dict with keys that are texts or ints, locked or not. -/
namespace Pu
open PySem PySem.Spec PyProof.Rows L2 Kv
section
variable {X : Cx} {g : Gx} {E : Wx} {e : Expr} {te : TE} {fa : P D} {p apos cpos pos : Pos}
def rItemsK : V → Hp → VK → Prop := fun x H Q => ∃ (d : Addr) (kvs : List (L2.Key × V)), x = .ref d ∧ Rd H d (.dK kvs) ∧
  ∀ (H' : Hp) (l : Addr) (ts : List Addr), (∀ b o, H b = some o → H' b = some o) → H l = none → (∀ t ∈ ts, H t = none) → l ∉ ts → H' l = some (.lst (ts.map V.ref)) → Paired (fun (t : Addr) (q : L2.Key × V) => H' t = some (.tup [kV q.1, q.2])) ts kvs → Q (.ref l) H'
theorem pe_listItemsK (hc : X.calm = true) (he : PE X e te) (hg : Gl X "list") (hm : X.mg "list" = none) (hv : bootBuiltins "list" = some (.type "list")) (hbase : attributeBase e "items" X.env (eval e X.env) = eval e X.env := by rfl) (hline : (apos.endLine == cpos.line) = true := by rfl)
    (hs : starEach [.Call (.Attribute e "items" apos) [] [] cpos] X.env = (false, eval (.Call (.Attribute e "items" apos) [] [] cpos) X.env) :: starEach [] X.env := by rfl) :
    PE X (.Call (.Name "list" p) [.Call (.Attribute e "items" apos) [] [] cpos] [] pos) (fun σ H Q => te σ H fun x H1 => rItemsK x H1 Q) := by
  refine ⟨fun pins s σ H Q I hq => ?_⟩
  refine wpAny_Call_Name_kw (ld_blt I hg hm hv ?_)
  refine PyProof.Rows.callWith_type1 ?_ hs rfl
  rw [hs]
  show wpAny _ _ (spliced ((false, eval (.Call (.Attribute e "items" apos) [] [] cpos) X.env) :: backTo pos (starEach [] X.env))) _ _ s
  refine Calls.spliced_cons ?_
  refine wpAny_Call_method (T := "dict") (id := "dict.items") hbase rfl hline PySem.F.plainAttrs_dict PySem.F.slot_dict_items PySem.F.type_dict_items (thn (he.run pins s σ H _ I hq) fun u s1 got => ?_)
  obtain ⟨x, H1, I1, rx, d, kvs, rfl, hd, q⟩ := got
  obtain rfl : u = Value.ref d := rx
  obtain ⟨hz, hs0, vs, kv, hdo⟩ := dk_rd I1.hok hd
  obtain ⟨ep, hat⟩ := hdo.dictAt
  have lk : kvs.length = vs.length := Paired.length kv
  have I2 : Inv X pins σ H1 { s1 with heap := s1.heap.push { cls := .type "dict_items", data := .fields #[.ref d] } } := I1.kept (t' := s1.toks) fun b ob q => Heap.get?_push_of_some _ q
  refine ⟨hdo.typeIs, hdo.mapOf.noDict, ?_⟩
  refine method_meetsIn PySem.F.slot_dict_items PySem.F.entry_dict_items rfl (PySem.evalArgs_none ⟨rfl, hdo.typeIs, PySem.F.args_dict_items_1 _, _, meets_dict_items (mixKind X.prog X.w) d hs0, ⟨vs, hdo⟩, ?_⟩)
  refine Calls.spliced_nil ?_
  refine PySem.W.kdx_call (knd := mixKind X.prog X.w) (kvs := vs) (ep := ep) (I1.ok.hd hc) ⟨_, Heap.get?_push_size _ rfl, rfl, rfl⟩ (hat.push _) (by omega) fun h' tk acc c as hk hS hl hG hacc => ?_
  obtain ⟨H', k1, k2, k3, k4, k5, k6, J⟩ := LiI.items_laid (tk := tk) I2 hz kv hk hS hl hG hacc
  exact ⟨.ref _, H', J, rfl, q H' _ as k1 k2 k3 k4 k5 k6⟩
end
def itmK (d : D) : Option R := (itemsD d).map fun ds => .own (.lst ds)
section
variable {X : Cx} {g : Gx} {E : Wx} {e : Expr} {fa : P D} {p apos cpos pos : Pos}
theorem rep_keyK {K : PySem.W.Frag} {ok : Addr → Prop} {H : Hp} : ∀ k : L2.Key, Rep K ok H (kV k) (keyD k)
  | .inl i => .int i
  | .inr x => .str x
theorem reps_itemsK {K : PySem.W.Frag} {ok ok' : Addr → Prop} {H H' : Hp} (f : Fr ok H ok' H') : ∀ {ts : List Addr} {kvs : List (L2.Key × V)} {ds : List D}, Paired (fun (t : Addr) (q : L2.Key × V) => H' t = some (.tup [kV q.1, q.2])) ts kvs → Reps K ok H (kvs.map (·.2)) ds →
    Reps K ok' H' (ts.map V.ref) (((kvs.map (·.1)).zip ds).map fun p => .tup [keyD p.1, p.2])
  | _, _, ds, .nil, r => by cases r; exact .nil
  | _, _, ds, .cons (a := t) (b := q) h hp, r => by
    cases r with
    | cons r1 rr => exact .cons (.tup h (.cons (rep_keyK q.1) (.cons (r1.fr f) .nil))) (reps_itemsK f hp rr)
theorem er_listItemsK (hc : X.calm = true) (he : EP X g E e fa) (hg : Gl X "list") (hm : X.mg "list" = none) (hv : bootBuiltins "list" = some (.type "list") := by decide +kernel) (hbase : attributeBase e "items" X.env (eval e X.env) = eval e X.env := by rfl) (hline : (apos.endLine == cpos.line) = true := by rfl)
    (hs : starEach [.Call (.Attribute e "items" apos) [] [] cpos] X.env = (false, eval (.Call (.Attribute e "items" apos) [] [] cpos) X.env) :: starEach [] X.env := by rfl) :
    ER X g E (.Call (.Name "list" p) [.Call (.Attribute e "items" apos) [] [] cpos] [] pos) (bnd fa fun x => lft (itmK x)) := by
  refine PE_imp (pe_listItemsK hc he hg hm hv hbase hline hs) fun σ H Q hq => ?_
  obtain ⟨ok, ρ, w, h⟩ := hq
  refine ⟨ok, ρ, w, (Rs.bnd (RA := relP X.K) h).mono fun v H1 hq => ?_⟩
  obtain ⟨ok1, ρ1, d, w1, s1, r1, h1⟩ := hq
  cases ei : itemsD d with
  | none => unfold lft itmK at h1; rw [ei] at h1; exact h1.elim
  | some ds =>
    have e1 : itmK d = some (.own (.lst ds)) := by unfold itmK; rw [ei]; rfl
    rw [e1, lft_some] at h1
    have hd : ∃ ks vs, d = .dic ks vs ∧ ds = (ks.zip vs).map fun p => .tup [keyD p.1, p.2] := by
      cases d with
      | dic ks vs => cases ei; exact ⟨ks, vs, rfl, rfl⟩
      | _ => cases ei
    obtain ⟨ks, vs, rfl, rfl⟩ := hd
    have r1 : Pk X.K ok1 H1 v (.dic ks vs) := r1
    obtain ⟨a, kvs, rfl, hrd, rfl, rv⟩ := r1.dic
    refine ⟨a, kvs, rfl, hrd, fun H' l ts gr hl hts hlts hL hP => ?_⟩
    have all : ∀ b, H' b = none → H1 b = none := fun b hb => by
      cases e : H1 b with
      | none => rfl
      | some o => rw [gr b o e] at hb; cases hb
    have f : Fr ok1 H1 (sub1 ok1 l) H' := .of (fun b o h _ => gr b o h) (fun b o h k => ⟨k, fun z => by rw [z, hl] at h; cases h⟩) all
    have wf : Wf X.K g (sub1 ok1 l) ρ1 σ H' := by
      refine w1.step f (fun b hb => ⟨w1.fc b (all b hb), fun z => by rw [z, hL] at hb; cases hb⟩) (w1.tb.fr f (fun b ps h => gr b _ h) fun b ps h n z => n z.1) fun i d q h1 h2 => ?_
      obtain ⟨q', e', o, nk, _⟩ := w1.own i d h1
      rw [h2] at e'
      cases e'
      obtain ⟨u, hu, _⟩ := o.there
      exact ⟨by rw [hu]; exact gr q u hu, fun z => nk z.1⟩
    have sx : Sx σ ρ1 ok1 H1 ρ1 (sub1 ok1 l) H' := ⟨f, fun b o h _ => .inl (gr b o h), fun _ h => h, fun _ _ _ h => .inl h.1⟩
    refine h1 (.ref l) H' (sub1 ok1 l) wf sx ⟨l, rfl, ⟨_, hL, reps_itemsK f hP rv⟩, fun z => z.2 rfl, hl, fun j x hj hz => ?_⟩
    obtain ⟨q', e', o, nk, _⟩ := w1.own j x hj
    rw [hz] at e'
    cases e'
    obtain ⟨u, hu, _⟩ := o.there
    rw [hl] at hu
    cases hu
end
end Pu
namespace Fk
open PySem PySem.Spec PyProof.Rows L2 Kv Pu
def F__law_pot (z : Zf) : P R := fnP 3 []
    (sq (set' 2 (ifV (tst (op2 opLt (rd 1) (op1 lenD (pk 0)))) (vl (ixN' 0 (rd 1))) (vl (prt (.int 0)))))
    (ret (mkL (consA (opV maxI (consA (prt (.int 0)) (consA (op2 opSub (opV absI (consA (rd 2) (prt []))) (op2 opPow (prt (.int 10)) (prt (.int 18)))) (prt [])))) (consA (op2 opMod (op2 opAdd (op2 opAdd (op2 opMul (op2 opMod (opV absI (consA (rd 2) (prt []))) (prt (.int 2147483587))) (prt (.int 48271))) (op2 opMul (prt (.int 60013)) (pk 1))) (prt (.int 29))) (prt (.int 2147483647))) (prt []))))))
def F__law_draw (z : Zf) : P R := fnP 3 [0]
    (sq (iff (tst (op2 opGt (ixN' 0 (prt (.int 0))) (prt (.int 0)))) (sq (asg' (opV dvm (consA (ixN' 0 (prt (.int 0))) (consA (rd 1) (prt [])))) (gTup' [(gSub 0 (prt (.int 0))), (gName' 2)]))
    (ret (mv 2))) sk)
    (sq (asg' (op2 opMod (op2 opAdd (op2 opMul (ixN' 0 (prt (.int 1))) (prt (.int 39373))) (prt (.int 12227))) (prt (.int 2147483629))) (gSub 0 (prt (.int 1))))
    (ret (vl (op2 opMod (op2 opFdiv (op2 opMod (op2 opMul (ixN' 0 (prt (.int 1))) (ixN' 0 (prt (.int 1)))) (prt (.int 2147483563))) (prt (.int 13))) (pk 1))))))
def F__law_labels (z : Zf) : P R := fnP 2 []
    (sq (set' 1 (mkL (consA (fz (mkL (consA (prt (.str "top")) (consA (prt (.str "side")) (consA (prt (.str "edge")) (consA (prt (.str "low")) (prt []))))))) (consA (fz (mkL (consA (prt (.str "low")) (consA (prt (.str "edge")) (consA (prt (.str "side")) (consA (prt (.str "top")) (prt []))))))) (consA (fz (mkL (consA (prt (.str "side")) (consA (prt (.str "top")) (consA (prt (.str "low")) (prt [])))))) (consA (fz (mkL (consA (prt (.str "top")) (prt [])))) (consA (fz (mkL (prt []))) (prt []))))))))
    (ret (vl (op2 ixD (op2 opAdd (rd 1) (fz (mkL (consA (fz (mkL (consA (prt (.str "top")) (consA (prt (.str "Side")) (consA (prt (.str "low")) (prt [])))))) (consA (fz (mkL (consA (prt (.str "ninechars")) (consA (prt (.str "low")) (prt []))))) (prt [])))))) (rd 0)))))
noncomputable def F__law_mixed (z : Zf) : P R := fnP 4 [0]
    (sq (set' 2 (opR listP (pk 1)))
    (ret (lc (opL rng1 (op1 lenD (pk 1))) (.one 3) (prt true) (mtt 2 (consA (fz (calB 0 (F__law_draw z) 2 (consA (op1 lenD (pk 2)) (prt [])))) (prt [])) stPop))))
noncomputable def F__law_value (z : Zf) : P R := fnP 5 [0]
    (sq (set' 3 (slA (fz (calB 0 (F__law_mixed z) 2 (consA (rd 1) (prt [])))) (prt none) (sOpt (fz (calB 0 (F__law_draw z) 2 (consA (prt (.int 4)) (prt [])))))))
    (sq (iff (tst (op2 opGt (fz (calB 0 (F__law_draw z) 2 (consA (prt (.int 6)) (prt [])))) (prt (.int 0)))) (ret (vl (op1 tupD (pk 3)))) sk)
    (sq (set' 4 (mkL (consA (prt .non) (consA (rd 3) (consA (prt (.str "")) (consA (mkT (consA (rd 2) (prt []))) (consA (op2 opAddX (op1 tupD (pk 3)) (mkT (consA (prt (.str "abc")) (prt [])))) (consA (op1 tupD (op2 opAddX (rd 3) (pk 3))) (consA (mkT (consA (prt .non) (prt []))) (consA (mkT (consA (fz (mkL (prt []))) (prt []))) (consA (prt (.int 7)) (consA (fz (prt (.own (.dic [] [])))) (prt [])))))))))))))
    (ret (vl (ixN' 4 (fz (calB 0 (F__law_draw z) 2 (consA (prt (.int 10)) (prt []))))))))))
noncomputable def F_Hierarchy_of (z : Zf) : P R := fnP 2 []
    (ret (Lx.mkEL 0 z.c_Hierarchy z.c_InvalidHierarchy (fz (bnd (pk 1) fun x => lft (itmK x)))))
noncomputable def F__law_called (z : Zf) : P R := fnP 2 []
    (sq (iff (tst (op2 opEq (rd 0) (prt (.int 0)))) (ret (calCW z.c_Hierarchy ["top", "side", "edge", "low"] (F_Hierarchy_of z) (consA (ixN' 1 (prt (.int 0))) (consA (ixN' 1 (prt (.int 1))) (consA (ixN' 1 (prt (.int 2))) (consA (ixN' 1 (prt (.int 3))) (prt []))))))) sk)
    (sq (iff (tst (op2 opEq (rd 0) (prt (.int 1)))) (ret (calCW z.c_Hierarchy ["low", "edge", "side", "top"] (F_Hierarchy_of z) (consA (ixN' 1 (prt (.int 0))) (consA (ixN' 1 (prt (.int 1))) (consA (ixN' 1 (prt (.int 2))) (consA (ixN' 1 (prt (.int 3))) (prt []))))))) sk)
    (sq (iff (tst (op2 opEq (rd 0) (prt (.int 2)))) (ret (objCW z.c_Hierarchy "of" ["side", "top", "low"] (F_Hierarchy_of z) (fz (Lx.mkE z.c_Hierarchy z.c_InvalidHierarchy (prt (.tup [])))) (consA (ixN' 1 (prt (.int 0))) (consA (ixN' 1 (prt (.int 1))) (consA (ixN' 1 (prt (.int 2))) (prt [])))))) sk)
    (sq (iff (tst (op2 opEq (rd 0) (prt (.int 3)))) (ret (calCW z.c_Hierarchy ["top"] (F_Hierarchy_of z) (consA (ixN' 1 (prt (.int 0))) (prt [])))) sk)
    (sq (iff (tst (op2 opEq (rd 0) (prt (.int 4)))) (ret (calCW z.c_Hierarchy [] (F_Hierarchy_of z) (prt []))) sk)
    (sq (iff (tst (op2 opEq (rd 0) (prt (.int 5)))) (ret (calCW z.c_Hierarchy ["top", "Side", "low"] (F_Hierarchy_of z) (consA (ixN' 1 (prt (.int 0))) (consA (ixN' 1 (prt (.int 1))) (consA (ixN' 1 (prt (.int 2))) (prt [])))))) sk)
    (ret (calCW z.c_Hierarchy ["ninechars", "low"] (F_Hierarchy_of z) (consA (ixN' 1 (prt (.int 0))) (consA (ixN' 1 (prt (.int 1))) (prt [])))))))))))
def F_Hierarchy_has_class (z : Zf) : P R := fnP 2 []
    (ret (vl (andV (op1 (isi "str") (pk 1)) (op2 opIn (rd 1) (op1 (fldD z.c_Hierarchy "places") (rd 0))))))
noncomputable def F_Hierarchy_require_class (z : Zf) : P R := fnP 2 []
    (iff (notB (tst (fz (met z.c_Hierarchy "has_class" (F_Hierarchy_has_class z) 2 (rd 0) (consA (rd 1) (prt [])))))) (raise' z.c_NotFound ["value"] (fun _ => true) (consA (rd 1) (prt []))) sk)
def F_Hierarchy_names (z : Zf) : P R := fnP 1 []
    (ret (opR listP (op1 (fldD z.c_Hierarchy "places") (rd 0))))
noncomputable def F_Hierarchy_ancestors (z : Zf) : P R := fnP 3 []
    (sq (expr (fz (met z.c_Hierarchy "require_class" (F_Hierarchy_require_class z) 2 (rd 0) (consA (rd 1) (prt [])))))
    (ret (lc (seqP (fz (met0 z.c_Hierarchy "names" (F_Hierarchy_names z) 1 (rd 0)))) (.one 2) (tst (op2 opIn (rd 2) (op2 ixD (op1 (fldD z.c_Hierarchy "above") (rd 0)) (rd 1)))) (rd 2))))
def F_Hierarchy_eq (z : Zf) : P R := fnP 2 []
    (ret (vl (andV (op1 (isO z.c_Hierarchy) (rd 1)) (op2 opEq (op1 (fldD z.c_Hierarchy "rows") (rd 0)) (op1 (fldD z.c_Hierarchy "rows") (rd 1))))))
def F_Hierarchy_repr (z : Zf) : P R := fnP 1 []
    (ret (vl (jnP [(prt (.str "Hierarchy(")), (op1 shR (op1 (fldD z.c_Hierarchy "rows") (rd 0))), (prt (.str ")"))] Str.empty)))
noncomputable def F__law_told (z : Zf) : P R := fnP 10 []
    (sq (set' 3 (vl (prt .non)))
    (sq (tryS z.K (.ref z.c_InvalidHierarchy) 8 (sq (unp' (.many [4, 5]) (mkT (consA (fz (cal (F__law_called z) 2 (consA (rd 0) (consA (rd 2) (prt []))))) (consA (fz (Lx.mkE z.c_Hierarchy z.c_InvalidHierarchy (fz (bnd (consA (rd 1) (consA (rd 2) (prt []))) fun ds => lft (zip2R ds))))) (prt [])))))
    (sq (set' 6 (lc (seqP (rd 1)) (.one 9) (prt true) (fz (met z.c_Hierarchy "ancestors" (F_Hierarchy_ancestors z) 2 (rd 5) (consA (rd 9) (prt []))))))
    (sq (set' 7 (vl (andV (eqO z.c_Hierarchy (F_Hierarchy_eq z) blR (rd 4) (rd 5)) (op2 opEq (fz (lc (seqP (rd 1)) (.one 9) (prt true) (fz (met z.c_Hierarchy "ancestors" (F_Hierarchy_ancestors z) 2 (rd 4) (consA (rd 9) (prt [])))))) (pk 6)))))
    (set' 3 (vl (mkT (consA (prt (.str "created")) (consA (ifV (tst (rd 7)) (fz (slA (shO z.c_Hierarchy "__repr__" (F_Hierarchy_repr z) (rd 4)) (sOpt (prt (.int 10))) (sOpt (op1 negD (prt (.int 1)))))) (prt (.str "unlike"))) (prt []))))))))) (fun xa xd xc => (set' 3 (vl (mkT (consA (op1 (exf xa xd xc z.c_InvalidHierarchy "problem") (rd 8)) (consA (op1 (exf xa xd xc z.c_InvalidHierarchy "position") (rd 8)) (prt []))))))))
    (ret (mv 3))))
def F__law_due (z : Zf) : P R := fnP 7 []
    (sq (for' (opL enumD (rd 0)) (.many [2, 3]) (sq (iff (tst (op2 opInX (rd 3) (fz (mkL (consA (prt (.str "Side")) (consA (prt (.str "ninechars")) (prt []))))))) (ret (vl (mkT (consA (prt (.str "name")) (consA (rd 2) (prt [])))))) sk)
    (sq (set' 4 (vl (ixN' 1 (rd 2))))
    (sq (iff (notB (tst (op1 (isi "tuple") (pk 4)))) (ret (vl (mkT (consA (prt (.str "superclasses")) (consA (rd 2) (prt [])))))) sk)
    (iff (tst (op1 (allD fun bs => bs.any id) (fz (lc (opL enumD (rd 4)) (.many [5, 6]) (prt true) (orV (op2 opNotInX (rd 6) (fz (slA (rd 0) (prt none) (sOpt (rd 2))))) (op2 opInX (rd 6) (fz (slA (rd 4) (prt none) (sOpt (rd 5)))))))))) (ret (vl (mkT (consA (prt (.str "superclasses")) (consA (rd 2) (prt [])))))) sk)))))
    (ret (vl (mkT (consA (prt (.str "created")) (consA (op1 shD (fz (bnd (consA (rd 0) (consA (rd 1) (prt []))) fun ds => lft (zip2R ds)))) (prt [])))))))
noncomputable def F__law_twenty_one (z : Zf) : P R := fnP 2 []
    (sq (set' 0 (vl (prt .non)))
    (sq (tryS z.K (.ref z.c_InvalidHierarchy) 1 (expr (fz (calCW z.c_Hierarchy ["aa", "ab", "ac", "ad", "ae", "af", "ag", "ah", "ai", "aj", "ak", "al", "am", "an", "ao", "ap", "aq", "ar", "au", "az", "av"] (F_Hierarchy_of z) (consA (mkT (prt [])) (consA (mkT (prt [])) (consA (mkT (prt [])) (consA (mkT (prt [])) (consA (mkT (prt [])) (consA (mkT (prt [])) (consA (mkT (prt [])) (consA (mkT (prt [])) (consA (mkT (prt [])) (consA (mkT (prt [])) (consA (mkT (prt [])) (consA (mkT (prt [])) (consA (mkT (prt [])) (consA (mkT (prt [])) (consA (mkT (prt [])) (consA (mkT (prt [])) (consA (mkT (prt [])) (consA (mkT (prt [])) (consA (mkT (prt [])) (consA (mkT (prt [])) (consA (mkT (consA (prt (.str "aa")) (prt []))) (prt []))))))))))))))))))))))))) (fun xa xd xc => (set' 0 (vl (mkT (consA (op1 (exf xa xd xc z.c_InvalidHierarchy "problem") (rd 1)) (consA (op1 (exf xa xd xc z.c_InvalidHierarchy "position") (rd 1)) (prt []))))))))
    (ret (vl (op2 opEq (rd 0) (mkT (consA (prt (.str "count")) (consA (prt (.int 20)) (prt [])))))))))
noncomputable def F_law (z : Zf) : P R := fnP 9 []
    (sq (for' (opL rng1 (opV maxI (consA (prt (.int 1)) (consA (opV minI (consA (op1 lenD (pk 0)) (consA (prt (.int 4)) (prt [])))) (prt []))))) (.one 1) (sq (set' 2 (cal (F__law_pot z) 2 (consA (rd 0) (consA (rd 1) (prt [])))))
    (for' (opL rng1 (prt (.int 6))) (.one 3) (sq (set' 4 (calB 2 (F__law_draw z) 2 (consA (prt (.int 7)) (prt []))))
    (sq (set' 5 (cal (F__law_labels z) 1 (consA (rd 4) (prt []))))
    (sq (set' 6 (lc (opL enumD (rd 5)) (.many [7, 8]) (prt true) (fz (calB 2 (F__law_value z) 3 (consA (fz (slA (rd 5) (prt none) (sOpt (rd 7)))) (consA (rd 8) (prt [])))))))
    (iff (tst (op2 opNe (op1 shD (fz (cal (F__law_told z) 3 (consA (rd 4) (consA (rd 5) (consA (rd 6) (prt []))))))) (op1 shD (fz (cal (F__law_due z) 2 (consA (rd 5) (consA (rd 6) (prt [])))))))) (ret (vl (prt (.bl false)))) sk)))))))
    (ret (vl (andV (fz (cal0 (F__law_twenty_one z))) (op2 opEq (op1 shD (fz (mkL (consA (prt (.int 20)) (consA (op1 (conD z.c_Hierarchy "LIMIT" 20) (fz (calCW z.c_Hierarchy ["top"] (F_Hierarchy_of z) (consA (mkT (prt [])) (prt []))))) (prt [])))))) (prt (.str "[20, 20]")))))))
end Fk
/-! Hierarchy() without a value, Hierarchy(classes=rows). -/
namespace Lx
open PySem PySem.Spec PyProof.Rows L2 Kv Pu
section
variable {X : Cx} {CX : CXT} {k : Nat} {f C : Addr} {fd : FuncData} {ps : List Str} {sp : Sp} {E : L2.St → XK} {x : Str} {p pos : Pos}
theorem run_makeSB {pins : List (Addr × Obj)} {σ : L2.St} {H : Hp} {s : Shared} {Q : VK} {us bs : List Value} {kw : List (Str × Value)} {vs : List V} (M : Mk X.K C f) (F : FnOk X.prog X.w X.K X.mg X.base CX k f fd ps sp) (hr : Room (k + 1) X.A)
    (hb : ∀ (s : Shared) (a : Value), X.K.In s.heap → BindsTo s fd ⟨a :: us, kw⟩ (ps.zip (a :: bs)))
    (hx : PassesAt CX X σ (E σ)) (I : Inv X pins σ H s) (r : Vals vs bs)
    (h : ∀ x dx, H x = none → H dx = none → dx ≠ x → sp (.ref x :: vs) (upd (upd H dx (.own x)) x (.ins C dx [])) (fun v H2 => v = .non ∧ Q (.ref x) H2) (E σ)) :
    wpAny (model X.prog X.w) X.A (call (.ref C) us kw) (EP X pins σ Q) X.xe s := by
  have hq := h (s.heap.objs.size + 1) s.heap.objs.size (I.hok.fresh (Nat.le_succ _)) (I.hok.fresh (Nat.le_refl _)) (Nat.ne_of_lt (Nat.lt_succ_self _))
  have I2 := Inv.made (C := C) I
  have r2 : Vals (V.ref (s.heap.objs.size + 1) :: vs) (Value.ref (s.heap.objs.size + 1) :: bs) := .cons rfl r
  refine wpAny_call (make_map (f := f) I.kIn M.makes M.init (beq_iff_eq.mp M.fn) (codeAny_mono (F.run _ X.stack _ _ ⟨Value.ref (s.heap.objs.size + 1) :: us, kw⟩ (Value.ref (s.heap.objs.size + 1) :: bs) _ _ (E σ) (hr.make C us kw)
    (I2.env0.make C us kw) (hb _ _ I2.kIn) r2 hq) fun r s2 hq2 => ?_))
  cases r with
  | error e => exact hx pins _ _ e s2 I2 hq2
  | ok fl =>
    cases fl with
    | ret u =>
      obtain ⟨v, H3, I3, rv, ev, q3⟩ := I2.after hq2
      subst ev
      exact ⟨rv, ⟨V.ref (s.heap.objs.size + 1), H3, I3, rfl, q3⟩⟩
    | next => exact False.elim hq2
    | brk => exact False.elim hq2
    | cont => exact False.elim hq2
theorem pe_make0S {v0 : V} {d0 : Value} (M : Mk X.K C f) (F : FnOk X.prog X.w X.K X.mg X.base CX k f fd ps sp) (hr : Room (k + 1) X.A) (hg : Gl X x) (hm : X.mg x = some (.ref C)) (hb : ∀ (s : Shared) (a : Value), X.K.In s.heap → BindsTo s fd ⟨[a], []⟩ (ps.zip [a, d0])) (hd : RelV v0 d0) (hx : ∀ σ, PassesAt CX X σ (E σ))
    (hdb : (x == ("__debug__" : Str)) = false := by decide) :
    PE X (.Call (.Name x p) [] [] pos) (tMakeS C sp [] E (tCons (fun σ H Q => Q v0 H) tNil)) := by
  constructor
  intro pins s σ H Q I h
  refine wpAny_Call_Name_kw (ld_glob I hg hm ?_ hdb)
  exact PySem.W.callWith_K0 I.kIn M.kp (run_makeSB M F hr hb (hx σ) I (.cons hd .nil) h)
end
structure MkHX0 (P' : Program) (w : World) (K : PySem.W.Frag) (mg : Str → Option Value) (base : Heap) (C CI : Addr) (k : Nat) : Prop where
  ex : ∃ f fd t, Mk K C f ∧ FnOk P' w K mg base (L2.CX P' w) k f fd ["self", "classes"] (spInitX K C CI) ∧ mg "Hierarchy" = some (.ref C) ∧ (∀ (s : Shared) (a : Value), K.In s.heap → BindsTo s fd ⟨[a], []⟩ ((["self", "classes"] : List Str).zip [a, .ref t])) ∧ (∀ ok H, Rep K ok H (.ref t) (.tup []))
section
variable {X : Cx} {g : Gx} {E : Wx} {k : Nat} {C CI : Addr} {p pos : Pos}
theorem er_make0C (c : MkHX0 X.prog X.w X.K X.mg X.base C CI k) (hr : Room (k + 1) X.A) (hg : Gl X "Hierarchy") (hx : ∀ σ, PassesAt (L2.CX X.prog X.w) X σ (E σ)) :
    ER X g E (.Call (.Name "Hierarchy" p) [] [] pos) (mkE C CI (prt (.tup []))) := by
  obtain ⟨f, fd, t, M, F, hm, hb, ht⟩ := c.ex
  refine PE_imp (pe_make0S (v0 := .ref t) M F hr hg hm hb rfl hx (by decide)) fun σ H Q hq => ?_
  refine mkHE_key (fe := prt (.tup [])) (fun σ H Q h => ?_) hq
  obtain ⟨ok, ρ, w, h⟩ := h
  exact h (.ref t) H ok w .refl (ht ok H)
end
end Lx
namespace Lw
open PySem PySem.Spec PyProof.Rows L2 Kv Pu Fk
theorem hu64_of {k : Nat} {A : Around} (r : Room k A) : A.units + 64 < cLine := by have := r.un; omega
theorem law_mk {P' : Program} {w : World} {K : PySem.W.Frag} {mg : Str → Option Value} {base : Heap} {x : Str} {st : Stmt} {N ps : List Str} {k n : Nat} {B : List Nat} {T : List (Addr × Str)} {body : S} {f : Addr} {fd : FuncData} (F : Fun K x x st f fd) (S : FnScope N ps (defScope st)) (hn : ps.length = n)
    (hb : ∀ (f : Addr) (cdv : Value) (A : Around) (fr : List Env) (s : Shared) (H : Hp) (E : XK), A.guards = some [] → Room k (A.deeper (envOfC x (defScope st) s.heap.objs.size f cdv)) →
      ESs (cxOf (L2.CX P' w) P' w K mg base N x (defScope st) f cdv A fr s H E) ⟨H, B, T⟩ (fun _ => E) (defBody st) body) :
    FnG P' w K mg base (L2.CX P' w) (k + 1) f fd ps (spP K T n (fnP N.length B body)) := by
  subst hn
  exact fn_pure F S (hb f)
abbrev s__law_pot : Stmt := topS 19
abbrev s__law_draw : Stmt := topS 20
abbrev s__law_labels : Stmt := topS 23
abbrev s__law_mixed : Stmt := topS 21
abbrev s__law_value : Stmt := topS 22
abbrev m_Hierarchy_of : Stmt := inClass (topS 17) 3
abbrev s__law_called : Stmt := topS 24
abbrev m_Hierarchy_has_class : Stmt := inClass (topS 17) 9
abbrev m_Hierarchy_require_class : Stmt := inClass (topS 17) 12
abbrev m_Hierarchy_names : Stmt := inClass (topS 17) 8
abbrev m_Hierarchy_ancestors : Stmt := inClass (topS 17) 14
abbrev m_Hierarchy_eq : Stmt := inClass (topS 17) 4
abbrev m_Hierarchy_repr : Stmt := inClass (topS 17) 6
abbrev s__law_told : Stmt := topS 26
abbrev s__law_due : Stmt := topS 25
abbrev s__law_twenty_one : Stmt := topS 27
abbrev s_law : Stmt := topS 28
theorem q_MethodsError : FnScope ["self", "message"] ["self", "message"] (defScope i_MethodsError) := ⟨rfl, rfl, rfl, by decide +kernel, rfl, by decide +kernel, by decide +kernel⟩
def spME (K : PySem.W.Frag) : Sp := fun vs H Q _ => ∃ (a C : Addr) (v : V), vs = [.ref a, v] ∧ Er.Over K C "ValueError" "ValueError.__new__" "ValueError.__init__" [.type "ValueError", .type "Exception", .type "BaseException", .type "object"] ∧ H a = some (exo a C none) ∧ Q .non H
theorem ok_MethodsError {P' : Program} {w : World} {K : PySem.W.Frag} {mg : Str → Option Value} {base : Heap} {f : Addr} {fd : FuncData} {k : Nat} (F : Fun K "__init__" "MethodsError.__init__" i_MethodsError f fd)
    (mL : mg "ValueError" = none) (vL : PySem.W.findCls K (.type "ValueError") (.type "type") "__init__" = some (.val (.builtin "ValueError.__init__"))) : FnOk P' w K mg base CX0 (k + 1) f fd ["self", "message"] (spME K) := by
  refine F.ok q_MethodsError (fun vs H Q E h => ?_) (fun cdv A outer s H vs Q E hr h => ?_)
  · obtain ⟨a, C, v, rfl, _⟩ := h
    rfl
  · obtain ⟨a, C, v, rfl, O, ha, q⟩ := h
    refine ⟨_, pss_one (ps_expr (Er.pe_binit (newId := "ValueError.__new__") (bmB := [.type "ValueError", .type "Exception", .type "BaseException", .type "object"]) (by rfl) mL (by decide +kernel) (by kernel_rfl) (by decide +kernel) (by decide +kernel) vL (pa_cons (pv 0) (pa_cons (pv 1) pa_nil)))), ?_⟩
    exact ⟨.ref a, rfl, v, rfl, a, C, [v], rfl, (show 1 ≤ 1000 from by decide), O, ha, q⟩
theorem str_app_len (x y : Str) : (x ++ y).length = x.length + y.length := by
  have e : (x ++ y).cps.toList = x.cps.toList ++ y.cps.toList := TL.tl_append x y
  rw [Kv.len_list, e, List.length_append, ← Kv.len_list, ← Kv.len_list]
theorem q_NotFound : FnScope ["self", "value"] ["self", "value"] (defScope i_NotFound) := ⟨rfl, rfl, rfl, by decide +kernel, rfl, by decide +kernel, by decide +kernel⟩
theorem ok_NotFound {P' : Program} {w : World} {K : PySem.W.Frag} {mg : Str → Option Value} {base : Heap} {CN f : Addr} {fd : FuncData} {k : Nat} (F : Fun K "__init__" "NotFound.__init__" i_NotFound f fd) (O : Er.Over K CN "LookupError" "LookupError.__new__" "LookupError.__init__" [.type "LookupError", .type "Exception", .type "BaseException", .type "object"])
    (mL : mg "LookupError" = none) (vL : PySem.W.findCls K (.type "LookupError") (.type "type") "__init__" = some (.val (.builtin "LookupError.__init__"))) (nv : PySem.W.findIn K (.ref CN) "value" = some none) :
    FnOk P' w K mg base CX0 (k + 1) f fd ["self", "value"] (spEx CN ["value"] fun _ _ => True) := by
  refine F.ok q_NotFound (fun vs H Q E h => ?_) (fun cdv A outer s H vs Q E hr h => ?_)
  · obtain ⟨a, ws, rfl, hl, _⟩ := h
    rw [List.length_cons, hl]; rfl
  · obtain ⟨a, ws, rfl, hl, ha, _, q⟩ := h
    match ws, hl with
    | [v], _ =>
      refine ⟨_, pss_cons (ps_expr (Er.pe_binit (newId := "LookupError.__new__") (bmB := [.type "LookupError", .type "Exception", .type "BaseException", .type "object"]) (by rfl) mL (by decide +kernel) (by kernel_rfl) (by decide +kernel) (by decide +kernel) vL (pa_cons (pv 0) (pa_cons pe_str pa_nil))))
        (pss_one (Er.ps_ost (pv 0) (pv 1))), ?_⟩
      refine ⟨.ref a, rfl, a, CN, [.str "not found"], rfl, (show 1 ≤ 1000 from by decide), O, ha, v, rfl, .ref a, rfl, a, CN, rfl, ⟨_, _, _, _, O⟩, nv, .inl ⟨ha, fun d nd ne => ?_⟩⟩
      have e : upd (upd H d (exd d [("value", v)])) a (exo a CN (some d)) = upd (upd H a (exo a CN (some d))) d (exd d ((["value"] : List Str).zip [v]).reverse) := by
        funext b
        by_cases h1 : b = a
        · subst h1; rw [upd_same, upd_ne (Ne.symm ne), upd_same]
        · rw [upd_ne h1]
          by_cases h2 : b = d
          · subst h2; rw [upd_same, upd_same]; rfl
          · rw [upd_ne h2, upd_ne h2, upd_ne h1]
      rw [e]
      exact q d nd ne
theorem q_InvalidHierarchy : FnScope ["self", "problem", "position"] ["self", "problem", "position"] (defScope i_InvalidHierarchy) := ⟨rfl, rfl, rfl, by decide +kernel, rfl, by decide +kernel, by decide +kernel⟩
theorem ok_InvalidHierarchy {P' : Program} {w : World} {K : PySem.W.Frag} {mg : Str → Option Value} {base : Heap} {CN CM f fM : Addr} {fd fdM : FuncData} {k : Nat} {mc : Value} (F : Fun K "__init__" "InvalidHierarchy.__init__" i_InvalidHierarchy f fd) (O : Er.Over K CN "ValueError" "ValueError.__new__" "ValueError.__init__" [.type "ValueError", .type "Exception", .type "BaseException", .type "object"])
    (FM : Fun K "__init__" "MethodsError.__init__" i_MethodsError fM fdM) (bM : Binds K fdM ["self", "message"] []) (GM : FnOk P' w K mg base CX0 (k + 1) fM fdM ["self", "message"] (spME K))
    (gM : mg "MethodsError" = some (.ref CM)) (rM : ClX.CRead K CM mc) (cM : PySem.W.findCls K (.ref CM) mc "__init__" = some (.val (.ref fM))) (nv : PySem.W.findIn K (.ref CN) "problem" = some none) (nv2 : PySem.W.findIn K (.ref CN) "position" = some none) :
    FnOk P' w K mg base CX0 (k + 2) f fd ["self", "problem", "position"] (spEx CN ["problem", "position"] (fun ws _ => ∃ (p : Str) (i : Int), ws = [.str p, .int i] ∧ p.length ≤ 100 ∧ 0 ≤ i ∧ i ≤ 1000000)) := by
  refine F.ok q_InvalidHierarchy (fun vs H Q E h => ?_) (fun cdv A outer s H vs Q E hr h => ?_)
  · obtain ⟨a, ws, rfl, hl, _⟩ := h
    rw [List.length_cons, hl]; rfl
  · obtain ⟨a, ws, rfl, hl, ha, ⟨p, i, rfl, hp, i0, i1⟩, q⟩ := h
    refine ⟨_, pss_cons (ps_expr (pe_clsFn (pe_glob (v := .ref CM) (by rfl) gM rfl) rM cM FM.kp GM hr bM .nil pass0 (pa_cons (pv 0) (pa_cons (pe_joined (.cons pe_str (.cons (pe_fmt (pv 1)) (.cons pe_str (.cons (pe_fmt (pv 2)) .nil))))) pa_nil))))
        (pss_cons (Er.ps_ost (pv 0) (pv 1)) (pss_one (Er.ps_ost (pv 0) (pv 2)))), ?_⟩
    have hi : i.natAbs ≤ 10 ^ 60 := by omega
    have hn := (num_sm i0 hi).1
    have w1 : ("wrong classes: " : Str).length = 15 := by decide +kernel
    have w2 : (" at " : Str).length = 4 := by decide +kernel
    have we : (Str.empty).length = 0 := by decide +kernel
    refine ⟨rfl, .ref a, rfl, _, rfl, ?_, .str p, rfl, .inl ⟨p, rfl, szle (by omega), _, rfl, ?_, _, rfl, ?_, .int i, rfl, .inr ⟨i, rfl, Nat.lt_trans (log2_small hi) (by decide), _, rfl, ?_, a, CN, _, rfl, O, ha, ?_⟩⟩⟩
    · refine szle ?_
      simp only [str_app_len]
      omega
    · refine szle ?_
      simp only [str_app_len]
      omega
    · refine szle ?_
      simp only [str_app_len]
      omega
    · refine szle ?_
      simp only [str_app_len]
      omega
    refine ⟨.str p, rfl, .ref a, rfl, a, CN, rfl, ⟨_, _, _, _, O⟩, nv, .inl ⟨ha, fun d nd ne => ?_⟩⟩
    refine ⟨.int i, rfl, .ref a, rfl, a, CN, rfl, ⟨_, _, _, _, O⟩, nv2, .inr ⟨d, [("problem", .str p)], upd_same, by rw [upd_ne ne, upd_same], (show 1 ≤ 900 from by decide), ?_⟩⟩
    have e : upd (upd (upd H d (exd d [("problem", V.str p)])) a (exo a CN (some d))) d (exd d [("position", V.int i), ("problem", V.str p)]) = upd (upd H a (exo a CN (some d))) d (exd d ((["problem", "position"] : List Str).zip [V.str p, V.int i]).reverse) := by
      funext b
      by_cases h2 : b = d
      · subst h2; rw [upd_same, upd_same]; rfl
      · rw [upd_ne h2, upd_ne h2]
        by_cases h1 : b = a
        · subst h1; rw [upd_same, upd_same]
        · rw [upd_ne h1, upd_ne h1, upd_ne h2]
    rw [e]
    exact q d nd ne
section
variable {P' : Program} {w : World} {mg : Str → Option Value} {base : Heap} {z : Zf} {T : List (Addr × Str)}
theorem q__law_pot : FnScope ["_law_script", "_law_k", "_law_cell"] ["_law_script", "_law_k"] (defScope s__law_pot) := ⟨rfl, rfl, rfl, by decide +kernel, rfl, by decide +kernel, by decide +kernel⟩
theorem t__law_pot (d : Def z.K mg "_law_pot" s__law_pot ["_law_script", "_law_k"]) (n_len : mg "len" = none) (n_abs : mg "abs" = none) (n_max : mg "max" = none) :
    Cal P' w z.K mg base T 1 2 "_law_pot" (F__law_pot z) :=
  cal_mk (k := 0) (B := []) d q__law_pot rfl (fun f cdv A fr s H E hg hr => have hu := hu_of hr; have hu64 := hu64_of hr; (ess_cons (es_set (i := 2) q__law_pot.nd rfl (.inl rfl) (by first | decide | (simp [Gx.plus, Tg.ix]; done) | (intro i hi; simp [Gx.plus, Tg.ix] at hi ⊢; omega)) (er_if (et_cmp op_lt o2_lt (evn 1) (ep_of (ev_call1 call_lenA o1_len (by rfl) n_len (by decide +kernel) (epn 0))) (nomark _)) (er_vl (eixn 0 hu (evn 1))) (er_vl ev_int)))
    (ess_one (es_ret (er_lst (ea_cons (ev_callA (call_max2 rfl) oa_max (by rfl) n_max (by decide +kernel) (ea_cons ev_int (ea_cons (ev_bin op_sub o2_sub (ev_callA call_abs oa_abs (by rfl) n_abs (by decide +kernel) (ea_cons (evn 2) ea_nil)) (ep_of (ev_bin op_pow o2_pow ev_int (ep_of ev_int)))) ea_nil))) (ea_cons (ev_bin op_mod o2_mod (ev_bin op_addA o2_add (ev_bin op_addA o2_add (ev_bin op_mulA o2_mul (ev_bin op_mod o2_mod (ev_callA call_abs oa_abs (by rfl) n_abs (by decide +kernel) (ea_cons (evn 2) ea_nil)) (ep_of ev_int)) (ep_of ev_int)) (ep_of (ev_bin op_mulA o2_mul ev_int (epn 1)))) (ep_of ev_int)) (ep_of ev_int)) ea_nil)))))))
theorem q__law_draw : FnScope ["_law_pot_here", "_law_many", "_law_digit"] ["_law_pot_here", "_law_many"] (defScope s__law_draw) := ⟨rfl, rfl, rfl, by decide +kernel, rfl, by decide +kernel, by decide +kernel⟩
theorem t__law_draw (d : Def z.K mg "_law_draw" s__law_draw ["_law_pot_here", "_law_many"]) (n_divmod : mg "divmod" = none) :
    Cal P' w z.K mg base T 1 2 "_law_draw" (F__law_draw z) :=
  cal_mk (k := 0) (B := [0]) d q__law_draw rfl (fun f cdv A fr s H E hg hr => have hu := hu_of hr; have hu64 := hu64_of hr; (ess_cons (es_if (et_cmp op_gt o2_gt (eixn 0 hu ev_int) (ep_of ev_int) (nomark _)) (ess_cons (es_asg (ev_callA call_divmodW oa_divmod (by rfl) n_divmod (by decide +kernel) (ea_cons (eixn 0 hu ev_int) (ea_cons (evn 1) ea_nil))) (eg_tup (by rfl) (egs_cons (eg_sub (i := 0) rfl (by first | exact Or.inl rfl | exact Or.inr (Or.inl rfl) | exact Or.inr (Or.inr rfl)) ev_int) (egs_cons (eg_name (i := 2) q__law_draw.nd rfl (.inl rfl) (by first | decide | (simp [Gx.plus, Tg.ix]; done) | (intro i hi; simp [Gx.plus, Tg.ix] at hi ⊢; omega))) egs_nil))))
    (ess_one (eret 2 (by first | decide | (simp [Gx.plus, Tg.ix]; done) | (intro i hi; simp [Gx.plus, Tg.ix] at hi ⊢; omega))))) ess_nil)
    (ess_cons (es_asg (ev_bin op_mod o2_mod (ev_bin op_addA o2_add (ev_bin op_mulA o2_mul (eixn 0 hu ev_int) (ep_of ev_int)) (ep_of ev_int)) (ep_of ev_int)) (eg_sub (i := 0) rfl (by first | exact Or.inl rfl | exact Or.inr (Or.inl rfl) | exact Or.inr (Or.inr rfl)) ev_int))
    (ess_one (es_ret (er_vl (ev_bin op_mod o2_mod (ev_bin op_fdiv o2_fdiv (ev_bin op_mod o2_mod (ev_bin op_mulA o2_mul (eixn 0 hu ev_int) (ep_of (eixn 0 hu ev_int))) (ep_of ev_int)) (ep_of ev_int)) (epn 1))))))))
theorem q__law_labels : FnScope ["_law_way", "_law_some"] ["_law_way"] (defScope s__law_labels) := ⟨rfl, rfl, rfl, by decide +kernel, rfl, by decide +kernel, by decide +kernel⟩
theorem t__law_labels (d : Def z.K mg "_law_labels" s__law_labels ["_law_way"])  :
    Cal P' w z.K mg base T 1 1 "_law_labels" (F__law_labels z) :=
  cal_mk (k := 0) (B := []) d q__law_labels rfl (fun f cdv A fr s H E hg hr => have hu := hu_of hr; have hu64 := hu64_of hr; (ess_cons (es_set (i := 1) q__law_labels.nd rfl (.inl rfl) (by first | decide | (simp [Gx.plus, Tg.ix]; done) | (intro i hi; simp [Gx.plus, Tg.ix] at hi ⊢; omega)) (er_lst (ea_cons (ev_fz (er_lst (ea_cons ev_str (ea_cons ev_str (ea_cons ev_str (ea_cons ev_str ea_nil)))))) (ea_cons (ev_fz (er_lst (ea_cons ev_str (ea_cons ev_str (ea_cons ev_str (ea_cons ev_str ea_nil)))))) (ea_cons (ev_fz (er_lst (ea_cons ev_str (ea_cons ev_str (ea_cons ev_str ea_nil))))) (ea_cons (ev_fz (er_lst (ea_cons ev_str ea_nil))) (ea_cons (ev_fz (er_lst ea_nil)) ea_nil)))))))
    (ess_one (es_ret (er_vl (ev_ix hu (ev_bin op_addA o2_add (evn 1) (ep_of (ev_fz (er_lst (ea_cons (ev_fz (er_lst (ea_cons ev_str (ea_cons ev_str (ea_cons ev_str ea_nil))))) (ea_cons (ev_fz (er_lst (ea_cons ev_str (ea_cons ev_str ea_nil)))) ea_nil)))))) (evn 0) (by intro _ _; rfl)))))))
theorem q__law_mixed : FnScope ["_law_pot_here", "_law_some", "_law_left", "_law_turn"] ["_law_pot_here", "_law_some"] (defScope s__law_mixed) := ⟨rfl, rfl, rfl, by decide +kernel, rfl, by decide +kernel, by decide +kernel⟩
theorem t__law_mixed (d : Def z.K mg "_law_mixed" s__law_mixed ["_law_pot_here", "_law_some"]) (n_list : mg "list" = none) (n_len : mg "len" = none) (n_range : mg "range" = none) (c__law_draw : Cal P' w z.K mg base T 1 2 "_law_draw" (F__law_draw z)) :
    Cal P' w z.K mg base T 2 2 "_law_mixed" (F__law_mixed z) :=
  cal_mk (k := 1) (B := [0]) d q__law_mixed rfl (fun f cdv A fr s H E hg hr => have hu := hu_of hr; have hu64 := hu64_of hr; (ess_cons (es_set (i := 2) q__law_mixed.nd rfl (.inr rfl) (by first | decide | (simp [Gx.plus, Tg.ix]; done) | (intro i hi; simp [Gx.plus, Tg.ix] at hi ⊢; omega)) (er_listA rfl (by rfl) n_list (epn 1)))
    (ess_one (es_ret (er_lc (own := [("_law_turn", 3)]) (T := (.one 3)) (gt := (gName 3)) rfl q__law_mixed.nd (ei_range1 (by rfl) n_range (ev_call1 call_lenA o1_len (by rfl) n_len (by decide +kernel) (epn 1))) (blkOk_by (own := [("_law_turn", 3)]) (N := ["_law_pot_here", "_law_some", "_law_left", "_law_turn"]) (sc := defScope s__law_mixed) (by decide +kernel)) tg_one rfl (fun _ _ _ _ _ => (pg_name (i := 3) q__law_mixed.nd rfl (by first | exact Or.inl rfl | exact Or.inr rfl))) (fun _ _ _ _ _ => pts0) (fun _ _ _ _ _ => (ev_mut (i := 2) rfl (by first | exact Or.inl rfl | exact Or.inr (Or.inl rfl) | exact Or.inr (Or.inr rfl)) PySem.F.slot_list_pop PySem.F.type_list_pop mt_popAt om_pop (ea_cons (ev_fz (er_callB (i := 0) c__law_draw hg (hr.mono (by decide)) (by rfl) (fun _ => pass_no) rfl (by first | exact Or.inl rfl | exact Or.inr (Or.inl rfl) | exact Or.inr (Or.inr rfl)) (ea_cons (ev_call1 call_lenA o1_len (by rfl) n_len (by decide +kernel) (epn 2)) ea_nil))) ea_nil))) (by decide) kp_nil kp_nil)))))
theorem q__law_value : FnScope ["_law_pot_here", "_law_labels_here", "_law_label", "_law_some", "_law_odd"] ["_law_pot_here", "_law_labels_here", "_law_label"] (defScope s__law_value) := ⟨rfl, rfl, rfl, by decide +kernel, rfl, by decide +kernel, by decide +kernel⟩
theorem t__law_value (d : Def z.K mg "_law_value" s__law_value ["_law_pot_here", "_law_labels_here", "_law_label"]) (c__law_mixed : Cal P' w z.K mg base T 2 2 "_law_mixed" (F__law_mixed z)) (c__law_draw : Cal P' w z.K mg base T 1 2 "_law_draw" (F__law_draw z)) (n_tuple : mg "tuple" = none) :
    Cal P' w z.K mg base T 3 3 "_law_value" (F__law_value z) :=
  cal_mk (k := 2) (B := [0]) d q__law_value rfl (fun f cdv A fr s H E hg hr => have hu := hu_of hr; have hu64 := hu64_of hr; (ess_cons (es_set (i := 3) q__law_value.nd rfl (.inl rfl) (by first | decide | (simp [Gx.plus, Tg.ix]; done) | (intro i hi; simp [Gx.plus, Tg.ix] at hi ⊢; omega)) (er_slA (ev_fz (er_callB (i := 0) c__law_mixed hg (hr.mono (by decide)) (by rfl) (fun σ => passAt (takes_of rfl rfl rfl rfl) σ) rfl (by first | exact Or.inl rfl | exact Or.inr (Or.inl rfl) | exact Or.inr (Or.inr rfl)) (ea_cons (evn 1) ea_nil))) eo_none (eo_some (ev_fz (er_callB (i := 0) c__law_draw hg (hr.mono (by decide)) (by rfl) (fun σ => passAt (takes_of rfl rfl rfl rfl) σ) rfl (by first | exact Or.inl rfl | exact Or.inr (Or.inl rfl) | exact Or.inr (Or.inr rfl)) (ea_cons ev_int ea_nil))))))
    (ess_cons (es_if (et_cmp op_gt o2_gt (ev_fz (er_callB (i := 0) c__law_draw hg (hr.mono (by decide)) (by rfl) (fun σ => passAt (takes_of rfl rfl rfl rfl) σ) rfl (by first | exact Or.inl rfl | exact Or.inr (Or.inl rfl) | exact Or.inr (Or.inr rfl)) (ea_cons ev_int ea_nil))) (ep_of ev_int) (nomark _)) (ess_one (es_ret (er_vl (ev_callT1 call_tuple_of o1_tuple (by rfl) n_tuple (by decide +kernel) (epn 3))))) ess_nil)
    (ess_cons (es_set (i := 4) q__law_value.nd rfl (.inl rfl) (by first | decide | (simp [Gx.plus, Tg.ix]; done) | (intro i hi; simp [Gx.plus, Tg.ix] at hi ⊢; omega)) (er_lst (ea_cons ev_non (ea_cons (evn 3) (ea_cons ev_str (ea_cons (ev_tup (ea_cons (evn 2) ea_nil)) (ea_cons (ev_bin op_addX o2_addX (ev_callT1 call_tuple_of o1_tuple (by rfl) n_tuple (by decide +kernel) (epn 3)) (ep_of (ev_tup (ea_cons ev_str ea_nil)))) (ea_cons (ev_callT1 call_tuple_of o1_tuple (by rfl) n_tuple (by decide +kernel) (ep_of (ev_bin op_addX o2_addX (evn 3) (epn 3)))) (ea_cons (ev_tup (ea_cons ev_non ea_nil)) (ea_cons (ev_tup (ea_cons (ev_fz (er_lst ea_nil)) ea_nil)) (ea_cons ev_int (ea_cons (ev_fz er_dict0) ea_nil))))))))))))
    (ess_one (es_ret (er_vl (eixn 4 hu (ev_fz (er_callB (i := 0) c__law_draw hg (hr.mono (by decide)) (by rfl) (fun σ => passAt (takes_of rfl rfl rfl rfl) σ) rfl (by first | exact Or.inl rfl | exact Or.inr (Or.inl rfl) | exact Or.inr (Or.inr rfl)) (ea_cons ev_int ea_nil)))))))))))
theorem q_Hierarchy_of : FnScope ["cls", "superclasses"] ["cls", "superclasses"] (defScope m_Hierarchy_of) := ⟨rfl, rfl, rfl, by decide +kernel, rfl, by decide +kernel, by decide +kernel⟩
theorem tw_Hierarchy_of_4 (d : DefCW z.K mg "Hierarchy" z.c_Hierarchy "of" "Hierarchy.of" m_Hierarchy_of "cls" "superclasses" []) (n_list : mg "list" = none) (mkHierX : Lx.MkHX P' w z.K mg base z.c_Hierarchy z.c_InvalidHierarchy 4) :
    CalCW P' w z.K mg base T "Hierarchy" z.c_Hierarchy 6 "of" [] (F_Hierarchy_of z) :=
  calCW_mk (k := 5) (B := []) d q_Hierarchy_of (by decide +kernel) (by show 0 ≤ sizeLine; decide) (fun f cdv A fr s H E hg hr => have hu := hu_of hr; have hu64 := hu64_of hr; (ess_one (es_ret (Lx.er_makeHXL (i := 0) mkHierX (hr.mono (by decide)) rfl (by first | exact Or.inl rfl | exact Or.inr (Or.inl rfl) | exact Or.inr (Or.inr rfl)) (fun σ => passAt (takes_of rfl rfl rfl rfl) σ) (ev_fz (er_listItemsK rfl (epn 1) (by rfl) n_list))))))
theorem tw_Hierarchy_of_7 (d : DefCW z.K mg "Hierarchy" z.c_Hierarchy "of" "Hierarchy.of" m_Hierarchy_of "cls" "superclasses" ["aa", "ab", "ac", "ad", "ae", "af", "ag", "ah", "ai", "aj", "ak", "al", "am", "an", "ao", "ap", "aq", "ar", "au", "az", "av"]) (n_list : mg "list" = none) (mkHierX : Lx.MkHX P' w z.K mg base z.c_Hierarchy z.c_InvalidHierarchy 4) :
    CalCW P' w z.K mg base T "Hierarchy" z.c_Hierarchy 6 "of" ["aa", "ab", "ac", "ad", "ae", "af", "ag", "ah", "ai", "aj", "ak", "al", "am", "an", "ao", "ap", "aq", "ar", "au", "az", "av"] (F_Hierarchy_of z) :=
  calCW_mk (k := 5) (B := []) d q_Hierarchy_of (by decide +kernel) (by show 21 ≤ sizeLine; decide) (fun f cdv A fr s H E hg hr => have hu := hu_of hr; have hu64 := hu64_of hr; (ess_one (es_ret (Lx.er_makeHXL (i := 0) mkHierX (hr.mono (by decide)) rfl (by first | exact Or.inl rfl | exact Or.inr (Or.inl rfl) | exact Or.inr (Or.inr rfl)) (fun σ => passAt (takes_of rfl rfl rfl rfl) σ) (ev_fz (er_listItemsK rfl (epn 1) (by rfl) n_list))))))
theorem tw_Hierarchy_of_1 (d : DefCW z.K mg "Hierarchy" z.c_Hierarchy "of" "Hierarchy.of" m_Hierarchy_of "cls" "superclasses" ["low", "edge", "side", "top"]) (n_list : mg "list" = none) (mkHierX : Lx.MkHX P' w z.K mg base z.c_Hierarchy z.c_InvalidHierarchy 4) :
    CalCW P' w z.K mg base T "Hierarchy" z.c_Hierarchy 6 "of" ["low", "edge", "side", "top"] (F_Hierarchy_of z) :=
  calCW_mk (k := 5) (B := []) d q_Hierarchy_of (by decide +kernel) (by show 4 ≤ sizeLine; decide) (fun f cdv A fr s H E hg hr => have hu := hu_of hr; have hu64 := hu64_of hr; (ess_one (es_ret (Lx.er_makeHXL (i := 0) mkHierX (hr.mono (by decide)) rfl (by first | exact Or.inl rfl | exact Or.inr (Or.inl rfl) | exact Or.inr (Or.inr rfl)) (fun σ => passAt (takes_of rfl rfl rfl rfl) σ) (ev_fz (er_listItemsK rfl (epn 1) (by rfl) n_list))))))
theorem tw_Hierarchy_of_6 (d : DefCW z.K mg "Hierarchy" z.c_Hierarchy "of" "Hierarchy.of" m_Hierarchy_of "cls" "superclasses" ["ninechars", "low"]) (n_list : mg "list" = none) (mkHierX : Lx.MkHX P' w z.K mg base z.c_Hierarchy z.c_InvalidHierarchy 4) :
    CalCW P' w z.K mg base T "Hierarchy" z.c_Hierarchy 6 "of" ["ninechars", "low"] (F_Hierarchy_of z) :=
  calCW_mk (k := 5) (B := []) d q_Hierarchy_of (by decide +kernel) (by show 2 ≤ sizeLine; decide) (fun f cdv A fr s H E hg hr => have hu := hu_of hr; have hu64 := hu64_of hr; (ess_one (es_ret (Lx.er_makeHXL (i := 0) mkHierX (hr.mono (by decide)) rfl (by first | exact Or.inl rfl | exact Or.inr (Or.inl rfl) | exact Or.inr (Or.inr rfl)) (fun σ => passAt (takes_of rfl rfl rfl rfl) σ) (ev_fz (er_listItemsK rfl (epn 1) (by rfl) n_list))))))
theorem twi_Hierarchy_of_2 (d : DefIW z.K z.c_Hierarchy "of" "Hierarchy.of" m_Hierarchy_of "cls" "superclasses" ["side", "top", "low"]) (n_list : mg "list" = none) (mkHierX : Lx.MkHX P' w z.K mg base z.c_Hierarchy z.c_InvalidHierarchy 4) :
    CalIW P' w z.K mg base T z.c_Hierarchy 6 "of" ["side", "top", "low"] (F_Hierarchy_of z) :=
  calIW_mk (k := 5) (B := []) d q_Hierarchy_of (by decide +kernel) (by show 3 ≤ sizeLine; decide) (fun f cdv A fr s H E hg hr => have hu := hu_of hr; have hu64 := hu64_of hr; (ess_one (es_ret (Lx.er_makeHXL (i := 0) mkHierX (hr.mono (by decide)) rfl (by first | exact Or.inl rfl | exact Or.inr (Or.inl rfl) | exact Or.inr (Or.inr rfl)) (fun σ => passAt (takes_of rfl rfl rfl rfl) σ) (ev_fz (er_listItemsK rfl (epn 1) (by rfl) n_list))))))
theorem tw_Hierarchy_of_3 (d : DefCW z.K mg "Hierarchy" z.c_Hierarchy "of" "Hierarchy.of" m_Hierarchy_of "cls" "superclasses" ["top"]) (n_list : mg "list" = none) (mkHierX : Lx.MkHX P' w z.K mg base z.c_Hierarchy z.c_InvalidHierarchy 4) :
    CalCW P' w z.K mg base T "Hierarchy" z.c_Hierarchy 6 "of" ["top"] (F_Hierarchy_of z) :=
  calCW_mk (k := 5) (B := []) d q_Hierarchy_of (by decide +kernel) (by show 1 ≤ sizeLine; decide) (fun f cdv A fr s H E hg hr => have hu := hu_of hr; have hu64 := hu64_of hr; (ess_one (es_ret (Lx.er_makeHXL (i := 0) mkHierX (hr.mono (by decide)) rfl (by first | exact Or.inl rfl | exact Or.inr (Or.inl rfl) | exact Or.inr (Or.inr rfl)) (fun σ => passAt (takes_of rfl rfl rfl rfl) σ) (ev_fz (er_listItemsK rfl (epn 1) (by rfl) n_list))))))
theorem tw_Hierarchy_of_5 (d : DefCW z.K mg "Hierarchy" z.c_Hierarchy "of" "Hierarchy.of" m_Hierarchy_of "cls" "superclasses" ["top", "Side", "low"]) (n_list : mg "list" = none) (mkHierX : Lx.MkHX P' w z.K mg base z.c_Hierarchy z.c_InvalidHierarchy 4) :
    CalCW P' w z.K mg base T "Hierarchy" z.c_Hierarchy 6 "of" ["top", "Side", "low"] (F_Hierarchy_of z) :=
  calCW_mk (k := 5) (B := []) d q_Hierarchy_of (by decide +kernel) (by show 3 ≤ sizeLine; decide) (fun f cdv A fr s H E hg hr => have hu := hu_of hr; have hu64 := hu64_of hr; (ess_one (es_ret (Lx.er_makeHXL (i := 0) mkHierX (hr.mono (by decide)) rfl (by first | exact Or.inl rfl | exact Or.inr (Or.inl rfl) | exact Or.inr (Or.inr rfl)) (fun σ => passAt (takes_of rfl rfl rfl rfl) σ) (ev_fz (er_listItemsK rfl (epn 1) (by rfl) n_list))))))
theorem tw_Hierarchy_of_0 (d : DefCW z.K mg "Hierarchy" z.c_Hierarchy "of" "Hierarchy.of" m_Hierarchy_of "cls" "superclasses" ["top", "side", "edge", "low"]) (n_list : mg "list" = none) (mkHierX : Lx.MkHX P' w z.K mg base z.c_Hierarchy z.c_InvalidHierarchy 4) :
    CalCW P' w z.K mg base T "Hierarchy" z.c_Hierarchy 6 "of" ["top", "side", "edge", "low"] (F_Hierarchy_of z) :=
  calCW_mk (k := 5) (B := []) d q_Hierarchy_of (by decide +kernel) (by show 4 ≤ sizeLine; decide) (fun f cdv A fr s H E hg hr => have hu := hu_of hr; have hu64 := hu64_of hr; (ess_one (es_ret (Lx.er_makeHXL (i := 0) mkHierX (hr.mono (by decide)) rfl (by first | exact Or.inl rfl | exact Or.inr (Or.inl rfl) | exact Or.inr (Or.inr rfl)) (fun σ => passAt (takes_of rfl rfl rfl rfl) σ) (ev_fz (er_listItemsK rfl (epn 1) (by rfl) n_list))))))
theorem q__law_called : FnScope ["_law_way", "_law_some"] ["_law_way", "_law_some"] (defScope s__law_called) := ⟨rfl, rfl, rfl, by decide +kernel, rfl, by decide +kernel, by decide +kernel⟩
theorem t__law_called (d : Def z.K mg "_law_called" s__law_called ["_law_way", "_law_some"]) (ccw_Hierarchy_of_0 : CalCW P' w z.K mg base T "Hierarchy" z.c_Hierarchy 6 "of" ["top", "side", "edge", "low"] (F_Hierarchy_of z)) (ccw_Hierarchy_of_1 : CalCW P' w z.K mg base T "Hierarchy" z.c_Hierarchy 6 "of" ["low", "edge", "side", "top"] (F_Hierarchy_of z)) (cciw_Hierarchy_of_2 : CalIW P' w z.K mg base T z.c_Hierarchy 6 "of" ["side", "top", "low"] (F_Hierarchy_of z)) (mkHier0 : Lx.MkHX0 P' w z.K mg base z.c_Hierarchy z.c_InvalidHierarchy 4) (ccw_Hierarchy_of_3 : CalCW P' w z.K mg base T "Hierarchy" z.c_Hierarchy 6 "of" ["top"] (F_Hierarchy_of z)) (ccw_Hierarchy_of_4 : CalCW P' w z.K mg base T "Hierarchy" z.c_Hierarchy 6 "of" [] (F_Hierarchy_of z)) (ccw_Hierarchy_of_5 : CalCW P' w z.K mg base T "Hierarchy" z.c_Hierarchy 6 "of" ["top", "Side", "low"] (F_Hierarchy_of z)) (ccw_Hierarchy_of_6 : CalCW P' w z.K mg base T "Hierarchy" z.c_Hierarchy 6 "of" ["ninechars", "low"] (F_Hierarchy_of z)) :
    Cal P' w z.K mg base T 7 2 "_law_called" (F__law_called z) :=
  cal_mk (k := 6) (B := []) d q__law_called rfl (fun f cdv A fr s H E hg hr => have hu := hu_of hr; have hu64 := hu64_of hr; (ess_cons (es_if (et_cmp (op_eqA hr.units) o2_eq (evn 0) (ep_of ev_int) (nomark _)) (ess_one (es_ret (er_cmethW ccw_Hierarchy_of_0 hg (hr.mono (by decide)) (by rfl) (fun σ => passAt (takes_of rfl rfl rfl rfl) σ) (ek_cons (eixn 1 hu ev_int) (ek_cons (eixn 1 hu ev_int) (ek_cons (eixn 1 hu ev_int) (ek_cons (eixn 1 hu ev_int) ek_nil))))))) ess_nil)
    (ess_cons (es_if (et_cmp (op_eqA hr.units) o2_eq (evn 0) (ep_of ev_int) (nomark _)) (ess_one (es_ret (er_cmethW ccw_Hierarchy_of_1 hg (hr.mono (by decide)) (by rfl) (fun σ => passAt (takes_of rfl rfl rfl rfl) σ) (ek_cons (eixn 1 hu ev_int) (ek_cons (eixn 1 hu ev_int) (ek_cons (eixn 1 hu ev_int) (ek_cons (eixn 1 hu ev_int) ek_nil))))))) ess_nil)
    (ess_cons (es_if (et_cmp (op_eqA hr.units) o2_eq (evn 0) (ep_of ev_int) (nomark _)) (ess_one (es_ret (er_imethW cciw_Hierarchy_of_2 (ev_fz (Lx.er_make0C mkHier0 (hr.mono (by decide)) (by rfl) (fun σ => passAt (takes_of rfl rfl rfl rfl) σ))) hg (hr.mono (by decide)) (fun σ => passAt (takes_of rfl rfl rfl rfl) σ) (ek_cons (eixn 1 hu ev_int) (ek_cons (eixn 1 hu ev_int) (ek_cons (eixn 1 hu ev_int) ek_nil)))))) ess_nil)
    (ess_cons (es_if (et_cmp (op_eqA hr.units) o2_eq (evn 0) (ep_of ev_int) (nomark _)) (ess_one (es_ret (er_cmethW ccw_Hierarchy_of_3 hg (hr.mono (by decide)) (by rfl) (fun σ => passAt (takes_of rfl rfl rfl rfl) σ) (ek_cons (eixn 1 hu ev_int) ek_nil)))) ess_nil)
    (ess_cons (es_if (et_cmp (op_eqA hr.units) o2_eq (evn 0) (ep_of ev_int) (nomark _)) (ess_one (es_ret (er_cmethW ccw_Hierarchy_of_4 hg (hr.mono (by decide)) (by rfl) (fun σ => passAt (takes_of rfl rfl rfl rfl) σ) ek_nil))) ess_nil)
    (ess_cons (es_if (et_cmp (op_eqA hr.units) o2_eq (evn 0) (ep_of ev_int) (nomark _)) (ess_one (es_ret (er_cmethW ccw_Hierarchy_of_5 hg (hr.mono (by decide)) (by rfl) (fun σ => passAt (takes_of rfl rfl rfl rfl) σ) (ek_cons (eixn 1 hu ev_int) (ek_cons (eixn 1 hu ev_int) (ek_cons (eixn 1 hu ev_int) ek_nil)))))) ess_nil)
    (ess_one (es_ret (er_cmethW ccw_Hierarchy_of_6 hg (hr.mono (by decide)) (by rfl) (fun σ => passAt (takes_of rfl rfl rfl rfl) σ) (ek_cons (eixn 1 hu ev_int) (ek_cons (eixn 1 hu ev_int) ek_nil))))))))))))
theorem q_Hierarchy_has_class : FnScope ["self", "value"] ["self", "value"] (defScope m_Hierarchy_has_class) := ⟨rfl, rfl, rfl, by decide +kernel, rfl, by decide +kernel, by decide +kernel⟩
theorem t_Hierarchy_has_class (d : DefM z.K z.c_Hierarchy "has_class" "Hierarchy.has_class" m_Hierarchy_has_class ["self", "value"]) (k_Hierarchy : Cls z.K z.c_Hierarchy) (na_Hierarchy_places : NoAttr z.K z.c_Hierarchy "places") (n_isinstance : mg "isinstance" = none) (n_str : mg "str" = none) :
    CalM P' w z.K mg base T z.c_Hierarchy 1 2 "has_class" (F_Hierarchy_has_class z) :=
  calM_mk (k := 0) (B := []) d q_Hierarchy_has_class rfl (fun f cdv A fr s H E hg hr => have hu := hu_of hr; have hu64 := hu64_of hr; (ess_one (es_ret (er_vl (ev_and (ev_isi (T := "str") (by rfl) n_isinstance (by rfl) n_str (by decide +kernel) (epn 1)) (ev_one (ev_cmp (op_inA hu) o2_in (evn 1) (ep_of (ev_fld k_Hierarchy na_Hierarchy_places (evn 0))) (by rfl))))))))
theorem q_Hierarchy_require_class : FnScope ["self", "value"] ["self", "value"] (defScope m_Hierarchy_require_class) := ⟨rfl, rfl, rfl, by decide +kernel, rfl, by decide +kernel, by decide +kernel⟩
theorem t_Hierarchy_require_class (d : DefM z.K z.c_Hierarchy "require_class" "Hierarchy.require_class" m_Hierarchy_require_class ["self", "value"]) (c_Hierarchy_has_class : CalM P' w z.K mg base T z.c_Hierarchy 1 2 "has_class" (F_Hierarchy_has_class z)) (r_NotFound : RsC P' w z.K mg base 1 "NotFound" z.c_NotFound ["value"] (fun _ => true)) :
    CalM P' w z.K mg base T z.c_Hierarchy 3 2 "require_class" (F_Hierarchy_require_class z) :=
  calM_mk (k := 2) (B := []) d q_Hierarchy_require_class rfl (fun f cdv A fr s H E hg hr => have hu := hu_of hr; have hu64 := hu64_of hr; (ess_one (es_if (et_not (et_val (ev_fz (er_methC c_Hierarchy_has_class (evn 0) hg (hr.mono (by decide)) (fun σ => passAt (takes_of rfl rfl rfl rfl) σ) (ea_cons (evn 1) ea_nil))))) (ess_one (es_raise r_NotFound rfl (takes_of rfl rfl rfl rfl) (hr.mono (by decide)) (by rfl) (ea_cons (evn 1) ea_nil))) ess_nil)))
theorem q_Hierarchy_names : FnScope ["self"] ["self"] (defScope m_Hierarchy_names) := ⟨rfl, rfl, rfl, by decide +kernel, rfl, by decide +kernel, by decide +kernel⟩
theorem t_Hierarchy_names (d : DefM z.K z.c_Hierarchy "names" "Hierarchy.names" m_Hierarchy_names ["self"]) (k_Hierarchy : Cls z.K z.c_Hierarchy) (na_Hierarchy_places : NoAttr z.K z.c_Hierarchy "places") (n_list : mg "list" = none) :
    CalM P' w z.K mg base T z.c_Hierarchy 1 1 "names" (F_Hierarchy_names z) :=
  calM_mk (k := 0) (B := []) d q_Hierarchy_names rfl (fun f cdv A fr s H E hg hr => have hu := hu_of hr; have hu64 := hu64_of hr; (ess_one (es_ret (er_listA rfl (by rfl) n_list (ep_of (ev_fld k_Hierarchy na_Hierarchy_places (evn 0)))))))
theorem q_Hierarchy_ancestors : FnScope ["self", "name", "other"] ["self", "name"] (defScope m_Hierarchy_ancestors) := ⟨rfl, rfl, rfl, by decide +kernel, rfl, by decide +kernel, by decide +kernel⟩
theorem t_Hierarchy_ancestors (d : DefM z.K z.c_Hierarchy "ancestors" "Hierarchy.ancestors" m_Hierarchy_ancestors ["self", "name"]) (c_Hierarchy_require_class : CalM P' w z.K mg base T z.c_Hierarchy 3 2 "require_class" (F_Hierarchy_require_class z)) (c_Hierarchy_names : CalM P' w z.K mg base T z.c_Hierarchy 1 1 "names" (F_Hierarchy_names z)) (k_Hierarchy : Cls z.K z.c_Hierarchy) (na_Hierarchy_above : NoAttr z.K z.c_Hierarchy "above") :
    CalM P' w z.K mg base T z.c_Hierarchy 4 2 "ancestors" (F_Hierarchy_ancestors z) :=
  calM_mk (k := 3) (B := []) d q_Hierarchy_ancestors rfl (fun f cdv A fr s H E hg hr => have hu := hu_of hr; have hu64 := hu64_of hr; (ess_cons (es_expr (ev_fz (er_methC c_Hierarchy_require_class (evn 0) hg (hr.mono (by decide)) (fun σ => passAt (takes_of rfl rfl rfl rfl) σ) (ea_cons (evn 1) ea_nil))))
    (ess_one (es_ret (er_lc (own := [("other", 2)]) (T := (.one 2)) (gt := (gName 2)) rfl q_Hierarchy_ancestors.nd (ei_seq (ev_fz (er_methC0 c_Hierarchy_names (evn 0) hg (hr.mono (by decide)) (fun σ => passAt (takes_of rfl rfl rfl rfl) σ)))) (blkOk_by (own := [("other", 2)]) (N := ["self", "name", "other"]) (sc := defScope m_Hierarchy_ancestors) (by decide +kernel)) tg_one rfl (fun _ _ _ _ _ => (pg_name (i := 2) q_Hierarchy_ancestors.nd rfl (by first | exact Or.inl rfl | exact Or.inr rfl))) (fun _ _ _ _ _ => pts1 (et_cmp (op_inA hu) o2_in (evn 2) (ep_of (ev_ix hu (ev_fld k_Hierarchy na_Hierarchy_above (evn 0)) (evn 1) (by intro _ _; rfl))) (by rfl))) (fun _ _ _ _ _ => (evn 2)) (by decide) kp_nil kp_nil)))))
theorem q_Hierarchy_eq : FnScope ["self", "other"] ["self", "other"] (defScope m_Hierarchy_eq) := ⟨rfl, rfl, rfl, by decide +kernel, rfl, by decide +kernel, by decide +kernel⟩
theorem t_Hierarchy_eq (d : DefM z.K z.c_Hierarchy "__eq__" "Hierarchy.__eq__" m_Hierarchy_eq ["self", "other"]) (k_Hierarchy : Cls z.K z.c_Hierarchy) (na_Hierarchy_rows : NoAttr z.K z.c_Hierarchy "rows") (oi_Hierarchy : OIs z.K z.c_Hierarchy) (n_isinstance : mg "isinstance" = none) (g_Hierarchy : mg "Hierarchy" = some (.ref z.c_Hierarchy)) :
    CalM P' w z.K mg base T z.c_Hierarchy 1 2 "__eq__" (F_Hierarchy_eq z) :=
  calM_mk (k := 0) (B := []) d q_Hierarchy_eq rfl (fun f cdv A fr s H E hg hr => have hu := hu_of hr; have hu64 := hu64_of hr; (ess_one (es_ret (er_vl (ev_and (ev_isO oi_Hierarchy (by rfl) n_isinstance (by rfl) g_Hierarchy (evn 1)) (ev_one (ev_cmp (op_eqA hr.units) o2_eq (ev_fld k_Hierarchy na_Hierarchy_rows (evn 0)) (ep_of (ev_fld k_Hierarchy na_Hierarchy_rows (evn 1))) (nomark _))))))))
theorem q_Hierarchy_repr : FnScope ["self"] ["self"] (defScope m_Hierarchy_repr) := ⟨rfl, rfl, rfl, by decide +kernel, rfl, by decide +kernel, by decide +kernel⟩
theorem t_Hierarchy_repr (d : DefM z.K z.c_Hierarchy "__repr__" "Hierarchy.__repr__" m_Hierarchy_repr ["self"]) (k_Hierarchy : Cls z.K z.c_Hierarchy) (na_Hierarchy_rows : NoAttr z.K z.c_Hierarchy "rows") :
    CalM P' w z.K mg base T z.c_Hierarchy 1 1 "__repr__" (F_Hierarchy_repr z) :=
  calM_mk (k := 0) (B := []) d q_Hierarchy_repr rfl (fun f cdv A fr s H E hg hr => have hu := hu_of hr; have hu64 := hu64_of hr; (ess_one (es_ret (er_vl (ev_joined (ej_cons ev_str (ej_cons (ev_fmtR (by exact hg) (by exact hu64) (ev_fld k_Hierarchy na_Hierarchy_rows (evn 0))) (ej_cons ev_str ej_nil))))))))
theorem q__law_told : FnScope ["_law_way", "_law_labels_here", "_law_some", "_law_told_here", "_law_box", "_law_twin", "_law_above", "_law_is_alike", "e", "_law_label"] ["_law_way", "_law_labels_here", "_law_some"] (defScope s__law_told) := ⟨rfl, rfl, rfl, by decide +kernel, rfl, by decide +kernel, by decide +kernel⟩
theorem t__law_told (d : Def z.K mg "_law_told" s__law_told ["_law_way", "_law_labels_here", "_law_some"]) (n_list : mg "list" = none) (n_zip : mg "zip" = none) (mkHierX : Lx.MkHX P' w z.K mg base z.c_Hierarchy z.c_InvalidHierarchy 4) (c__law_called : Cal P' w z.K mg base T 7 2 "_law_called" (F__law_called z)) (c_Hierarchy_ancestors : CalM P' w z.K mg base T z.c_Hierarchy 4 2 "ancestors" (F_Hierarchy_ancestors z)) (c_Hierarchy_eq : CalM P' w z.K mg base T z.c_Hierarchy 1 2 "__eq__" (F_Hierarchy_eq z)) (c_Hierarchy_repr : CalM P' w z.K mg base T z.c_Hierarchy 1 1 "__repr__" (F_Hierarchy_repr z)) (n_repr : mg "repr" = none) (xf_InvalidHierarchy : XfC z.K z.c_InvalidHierarchy) (nv_InvalidHierarchy_position : PySem.W.findIn z.K (.ref z.c_InvalidHierarchy) "position" = some none) (nv_InvalidHierarchy_problem : PySem.W.findIn z.K (.ref z.c_InvalidHierarchy) "problem" = some none) (g_InvalidHierarchy : mg "InvalidHierarchy" = some (.ref z.c_InvalidHierarchy)) :
    Cal P' w z.K mg base T 8 3 "_law_told" (F__law_told z) :=
  cal_mk (k := 7) (B := []) d q__law_told rfl (fun f cdv A fr s H E hg hr => have hu := hu_of hr; have hu64 := hu64_of hr; (ess_cons (es_set (i := 3) q__law_told.nd rfl (.inl rfl) (by first | decide | (simp [Gx.plus, Tg.ix]; done) | (intro i hi; simp [Gx.plus, Tg.ix] at hi ⊢; omega)) (er_vl ev_non))
    (ess_cons (es_tryK (K0 := z.K) (i := 8) (c := .ref z.c_InvalidHierarchy) rfl rfl rfl q__law_told.nd rfl rfl ⟨by rfl, by decide, .inl g_InvalidHierarchy⟩ (takes_of rfl rfl rfl rfl) (by first | decide | (simp [Gx.plus, Tg.ix]; done) | (intro i hi; simp [Gx.plus, Tg.ix] at hi ⊢; omega)) (fun W pn xe tk _ => (ess_cons (es_tup (T := (.many [4, 5])) (gt := (gTup _ 2 (gNames [4, 5]))) (ev_tup (ea_cons (ev_fz (er_callC c__law_called hg (hr.mono (by decide)) (by rfl) (fun σ => passAt tk σ) (ea_cons (evn 0) (ea_cons (evn 2) ea_nil)))) (ea_cons (ev_fz (Lx.er_makeHXC mkHierX (hr.mono (by decide)) (by rfl) (fun σ => passAt tk σ) (ev_fz (er_listZipL rfl (ea_cons (evn 1) (ea_cons (evn 2) ea_nil)) (by rfl) n_list (by rfl) n_zip)))) ea_nil))) (pg_tup (by rfl) (pgs_cons (pg_name (i := 4) q__law_told.nd rfl (.inr rfl)) (pgs_cons (pg_name (i := 5) q__law_told.nd rfl (.inr rfl)) pgs_nil))) (tg_many (is := [4, 5])) (by first | decide | (simp [Gx.plus, Tg.ix]; done) | (intro i hi; simp [Gx.plus, Tg.ix] at hi ⊢; omega)))
    (ess_cons (es_setLc (i := 6) (own := [("_law_label", 9)]) (T := (.one 9)) (gt := (gName 9)) rfl q__law_told.nd rfl rfl (by first | decide | (simp [Gx.plus, Tg.ix]; done) | (intro i hi; simp [Gx.plus, Tg.ix] at hi ⊢; omega)) (sw_true rfl rfl rfl (by decide +kernel)) (ei_seq (evn 1)) (blkOk_by (own := [("_law_label", 9)]) (N := ["_law_way", "_law_labels_here", "_law_some", "_law_told_here", "_law_box", "_law_twin", "_law_above", "_law_is_alike", "e", "_law_label"]) (sc := defScope s__law_told) (by decide +kernel)) tg_one rfl (fun _ _ _ _ _ => (pg_name (i := 9) q__law_told.nd rfl (by first | exact Or.inl rfl | exact Or.inr rfl))) (fun _ _ _ _ _ => pts0) (fun _ _ _ _ _ => (ev_fz (er_methC c_Hierarchy_ancestors (evn 5) hg (hr.mono (by decide)) (fun _ => pass_no) (ea_cons (evn 9) ea_nil)))) (by decide) kp_nil kp_nil)
    (ess_cons (es_set (i := 7) q__law_told.nd rfl (.inl rfl) (by first | decide | (simp [Gx.plus, Tg.ix]; done) | (intro i hi; simp [Gx.plus, Tg.ix] at hi ⊢; omega)) (er_vl (ev_and (ev_eqO (op_eqO c_Hierarchy_eq hg (hr.mono (by decide))) blR_bl (evn 4) (evn 5) (nomark _)) (ev_one (ev_cmp (op_eqA hr.units) o2_eq (ev_fz (er_lc (own := [("_law_label", 9)]) (T := (.one 9)) (gt := (gName 9)) rfl q__law_told.nd (ei_seq (evn 1)) (blkOk_by (own := [("_law_label", 9)]) (N := ["_law_way", "_law_labels_here", "_law_some", "_law_told_here", "_law_box", "_law_twin", "_law_above", "_law_is_alike", "e", "_law_label"]) (sc := defScope s__law_told) (by decide +kernel)) tg_one rfl (fun _ _ _ _ _ => (pg_name (i := 9) q__law_told.nd rfl (by first | exact Or.inl rfl | exact Or.inr rfl))) (fun _ _ _ _ _ => pts0) (fun _ _ _ _ _ => (ev_fz (er_methC c_Hierarchy_ancestors (evn 4) hg (hr.mono (by decide)) (fun _ => pass_no) (ea_cons (evn 9) ea_nil)))) (by decide) kp_nil kp_nil)) (epn 6) (nomark _))))))
    (ess_one (es_set (i := 3) q__law_told.nd rfl (.inl rfl) (by first | decide | (simp [Gx.plus, Tg.ix]; done) | (intro i hi; simp [Gx.plus, Tg.ix] at hi ⊢; omega)) (er_vl (ev_tup (ea_cons ev_str (ea_cons (ev_if (et_val (evn 7)) (ev_fz (er_slA (ev_reprO c_Hierarchy_repr hg (hr.mono (by decide)) (by rfl) n_repr (evn 4)) (eo_some ev_int) (eo_some (ev_neg ev_int)))) ev_str) ea_nil)))))))))) (fun a oe cls dx pn hz ho => (ess_one (es_set (i := 3) q__law_told.nd rfl (.inl rfl) (by first | decide | (simp [Gx.plus, Tg.ix]; done) | (intro i hi; simp [Gx.plus, Tg.ix] at hi ⊢; omega)) (er_vl (ev_tup (ea_cons (ev_exf xf_InvalidHierarchy nv_InvalidHierarchy_problem hz ho (evn 8)) (ea_cons (ev_exf xf_InvalidHierarchy nv_InvalidHierarchy_position hz ho (evn 8)) ea_nil))))))))
    (ess_one (eret 3 (by first | decide | (simp [Gx.plus, Tg.ix]; done) | (intro i hi; simp [Gx.plus, Tg.ix] at hi ⊢; omega)))))))
theorem q__law_due : FnScope ["_law_labels_here", "_law_some", "_law_at", "_law_label", "_law_above", "_law_rank", "_law_one"] ["_law_labels_here", "_law_some"] (defScope s__law_due) := ⟨rfl, rfl, rfl, by decide +kernel, rfl, by decide +kernel, by decide +kernel⟩
theorem t__law_due (d : Def z.K mg "_law_due" s__law_due ["_law_labels_here", "_law_some"]) (n_enumerate : mg "enumerate" = none) (n_isinstance : mg "isinstance" = none) (n_tuple : mg "tuple" = none) (n_any : mg "any" = none) (n_list : mg "list" = none) (n_zip : mg "zip" = none) (n_repr : mg "repr" = none) :
    Cal P' w z.K mg base T 1 2 "_law_due" (F__law_due z) :=
  cal_mk (k := 0) (B := []) d q__law_due rfl (fun f cdv A fr s H E hg hr => have hu := hu_of hr; have hu64 := hu64_of hr; (ess_cons (es_for0 (T := (.many [2, 3])) (gt := (gTup _ 2 (gNames [2, 3]))) (passes_of rfl) rfl (ei_enum (by rfl) n_enumerate (evn 0)) (pg_tup (by rfl) (pgs_cons (pg_name (i := 2) q__law_due.nd rfl (.inr rfl)) (pgs_cons (pg_name (i := 3) q__law_due.nd rfl (.inl rfl)) pgs_nil))) (tg_many (is := [2, 3])) (ess_cons (es_if (et_cmp (op_inX hu64) o2_inX (evn 3) (ep_of (ev_fz (er_lst (ea_cons ev_str (ea_cons ev_str ea_nil))))) (by rfl)) (ess_one (es_ret (er_vl (ev_tup (ea_cons ev_str (ea_cons (evn 2) ea_nil)))))) ess_nil)
    (ess_cons (es_set (i := 4) q__law_due.nd rfl (.inr rfl) (by first | decide | (simp [Gx.plus, Tg.ix]; done) | (intro i hi; simp [Gx.plus, Tg.ix] at hi ⊢; omega)) (er_vl (eixn 1 hu (evn 2))))
    (ess_cons (es_if (et_not (et_val (ev_isi (T := "tuple") (by rfl) n_isinstance (by rfl) n_tuple (by decide +kernel) (epn 4)))) (ess_one (es_ret (er_vl (ev_tup (ea_cons ev_str (ea_cons (evn 2) ea_nil)))))) ess_nil)
    (ess_one (es_if (et_val (ev_call1 (cr_any rfl) o1_any (by rfl) n_any (by decide +kernel) (ep_of (ev_fz (er_lc (own := [("_law_rank", 5), ("_law_one", 6)]) (T := (.many [5, 6])) (gt := (gTup _ 2 (gNames [5, 6]))) rfl q__law_due.nd (ei_enum (by rfl) n_enumerate (evn 4)) (blkOk_by (own := [("_law_rank", 5), ("_law_one", 6)]) (N := ["_law_labels_here", "_law_some", "_law_at", "_law_label", "_law_above", "_law_rank", "_law_one"]) (sc := defScope s__law_due) (by decide +kernel)) (tg_many (is := [5, 6])) rfl (fun _ _ _ _ _ => (pg_tup (by rfl) (pgs_cons (pg_name (i := 5) q__law_due.nd rfl (by first | exact Or.inl rfl | exact Or.inr rfl)) (pgs_cons (pg_name (i := 6) q__law_due.nd rfl (by first | exact Or.inl rfl | exact Or.inr rfl)) pgs_nil)))) (fun _ _ _ _ _ => pts0) (fun _ _ _ _ _ => (ev_or (ev_cmp (op_notInX hu64) o2_notInX (evn 6) (ep_of (ev_fz (er_slA (evn 0) eo_none (eo_some (evn 2))))) (by rfl)) (ev_one (ev_cmp (op_inX hu64) o2_inX (evn 6) (ep_of (ev_fz (er_slA (evn 4) eo_none (eo_some (evn 5))))) (by rfl))))) (by decide) kp_nil kp_nil))))) (ess_one (es_ret (er_vl (ev_tup (ea_cons ev_str (ea_cons (evn 2) ea_nil)))))) ess_nil))))) (by first | decide | (simp [Gx.plus, Tg.ix]; done) | (intro i hi; simp [Gx.plus, Tg.ix] at hi ⊢; omega)))
    (ess_one (es_ret (er_vl (ev_tup (ea_cons ev_str (ea_cons (ev_call1 (call_reprA (by exact hg) (by exact hu64)) o1_repr (by rfl) n_repr (by decide +kernel) (ep_of (ev_fz (er_listZipL rfl (ea_cons (evn 0) (ea_cons (evn 1) ea_nil)) (by rfl) n_list (by rfl) n_zip)))) ea_nil))))))))
theorem q__law_twenty_one : FnScope ["_law_told_here", "e"] [] (defScope s__law_twenty_one) := ⟨rfl, rfl, rfl, by decide +kernel, rfl, by decide +kernel, by decide +kernel⟩
theorem t__law_twenty_one (d : Def z.K mg "_law_twenty_one" s__law_twenty_one []) (ccw_Hierarchy_of_7 : CalCW P' w z.K mg base T "Hierarchy" z.c_Hierarchy 6 "of" ["aa", "ab", "ac", "ad", "ae", "af", "ag", "ah", "ai", "aj", "ak", "al", "am", "an", "ao", "ap", "aq", "ar", "au", "az", "av"] (F_Hierarchy_of z)) (xf_InvalidHierarchy : XfC z.K z.c_InvalidHierarchy) (nv_InvalidHierarchy_position : PySem.W.findIn z.K (.ref z.c_InvalidHierarchy) "position" = some none) (nv_InvalidHierarchy_problem : PySem.W.findIn z.K (.ref z.c_InvalidHierarchy) "problem" = some none) (g_InvalidHierarchy : mg "InvalidHierarchy" = some (.ref z.c_InvalidHierarchy)) :
    Cal P' w z.K mg base T 7 0 "_law_twenty_one" (F__law_twenty_one z) :=
  cal_mk (k := 6) (B := []) d q__law_twenty_one rfl (fun f cdv A fr s H E hg hr => have hu := hu_of hr; have hu64 := hu64_of hr; (ess_cons (es_set (i := 0) q__law_twenty_one.nd rfl (.inl rfl) (by first | decide | (simp [Gx.plus, Tg.ix]; done) | (intro i hi; simp [Gx.plus, Tg.ix] at hi ⊢; omega)) (er_vl ev_non))
    (ess_cons (es_tryK (K0 := z.K) (i := 1) (c := .ref z.c_InvalidHierarchy) rfl rfl rfl q__law_twenty_one.nd rfl rfl ⟨by rfl, by decide, .inl g_InvalidHierarchy⟩ (takes_of rfl rfl rfl rfl) (by first | decide | (simp [Gx.plus, Tg.ix]; done) | (intro i hi; simp [Gx.plus, Tg.ix] at hi ⊢; omega)) (fun W pn xe tk _ => (ess_one (es_expr (ev_fz (er_cmethW ccw_Hierarchy_of_7 hg (hr.mono (by decide)) (by rfl) (fun σ => passAt tk σ) (ek_cons (ev_tup ea_nil) (ek_cons (ev_tup ea_nil) (ek_cons (ev_tup ea_nil) (ek_cons (ev_tup ea_nil) (ek_cons (ev_tup ea_nil) (ek_cons (ev_tup ea_nil) (ek_cons (ev_tup ea_nil) (ek_cons (ev_tup ea_nil) (ek_cons (ev_tup ea_nil) (ek_cons (ev_tup ea_nil) (ek_cons (ev_tup ea_nil) (ek_cons (ev_tup ea_nil) (ek_cons (ev_tup ea_nil) (ek_cons (ev_tup ea_nil) (ek_cons (ev_tup ea_nil) (ek_cons (ev_tup ea_nil) (ek_cons (ev_tup ea_nil) (ek_cons (ev_tup ea_nil) (ek_cons (ev_tup ea_nil) (ek_cons (ev_tup ea_nil) (ek_cons (ev_tup (ea_cons ev_str ea_nil)) ek_nil)))))))))))))))))))))))))) (fun a oe cls dx pn hz ho => (ess_one (es_set (i := 0) q__law_twenty_one.nd rfl (.inl rfl) (by first | decide | (simp [Gx.plus, Tg.ix]; done) | (intro i hi; simp [Gx.plus, Tg.ix] at hi ⊢; omega)) (er_vl (ev_tup (ea_cons (ev_exf xf_InvalidHierarchy nv_InvalidHierarchy_problem hz ho (evn 1)) (ea_cons (ev_exf xf_InvalidHierarchy nv_InvalidHierarchy_position hz ho (evn 1)) ea_nil))))))))
    (ess_one (es_ret (er_vl (ev_cmp (op_eqA hr.units) o2_eq (evn 0) (ep_of (ev_tup (ea_cons ev_str (ea_cons ev_int ea_nil)))) (nomark _))))))))
theorem q_law : FnScope ["_law_script", "_law_k", "_law_pot_here", "_law_turn", "_law_way", "_law_labels_here", "_law_some", "_law_at", "_law_label"] ["_law_script"] (defScope s_law) := ⟨rfl, rfl, rfl, by decide +kernel, rfl, by decide +kernel, by decide +kernel⟩
theorem tl_law {f : Addr} {fd : FuncData} (U : Fun z.K "law" "law" s_law f fd) (n_len : mg "len" = none) (n_min : mg "min" = none) (n_max : mg "max" = none) (n_range : mg "range" = none) (c__law_pot : Cal P' w z.K mg base T 1 2 "_law_pot" (F__law_pot z)) (c__law_draw : Cal P' w z.K mg base T 1 2 "_law_draw" (F__law_draw z)) (c__law_labels : Cal P' w z.K mg base T 1 1 "_law_labels" (F__law_labels z)) (n_enumerate : mg "enumerate" = none) (c__law_value : Cal P' w z.K mg base T 3 3 "_law_value" (F__law_value z)) (c__law_told : Cal P' w z.K mg base T 8 3 "_law_told" (F__law_told z)) (n_repr : mg "repr" = none) (c__law_due : Cal P' w z.K mg base T 1 2 "_law_due" (F__law_due z)) (ccw_Hierarchy_of_3 : CalCW P' w z.K mg base T "Hierarchy" z.c_Hierarchy 6 "of" ["top"] (F_Hierarchy_of z)) (ocon_Hierarchy_LIMIT : OCon z.K z.c_Hierarchy "LIMIT" 20) (ca_Hierarchy_LIMIT : CAt z.K mg "Hierarchy" z.c_Hierarchy "LIMIT" 20) (c__law_twenty_one : Cal P' w z.K mg base T 7 0 "_law_twenty_one" (F__law_twenty_one z)) :
    FnG P' w z.K mg base (L2.CX P' w) 9 f fd ["_law_script"] (spP z.K T 1 (F_law z)) :=
  law_mk (k := 8) (n := 1) (B := []) U q_law rfl (fun f cdv A fr s H E hg hr => have hu := hu_of hr; have hu64 := hu64_of hr; (ess_cons (es_for0 (T := (.one 1)) (gt := (gName 1)) (passes_of rfl) rfl (ei_range1 (by rfl) n_range (ev_callA (call_max2 rfl) oa_max (by rfl) n_max (by decide +kernel) (ea_cons ev_int (ea_cons (ev_callA (call_min2 rfl) oa_min (by rfl) n_min (by decide +kernel) (ea_cons (ev_call1 call_lenA o1_len (by rfl) n_len (by decide +kernel) (epn 0)) (ea_cons ev_int ea_nil))) ea_nil)))) (pg_name (i := 1) q_law.nd rfl (.inl rfl)) tg_one (ess_cons (es_set (i := 2) q_law.nd rfl (.inr rfl) (by first | decide | (simp [Gx.plus, Tg.ix]; done) | (intro i hi; simp [Gx.plus, Tg.ix] at hi ⊢; omega)) (er_callC c__law_pot hg (hr.mono (by decide)) (by rfl) (fun σ => passAt (takes_of rfl rfl rfl rfl) σ) (ea_cons (evn 0) (ea_cons (evn 1) ea_nil))))
    (ess_one (es_for0 (T := (.one 3)) (gt := (gName 3)) (passes_of rfl) rfl (ei_range1 (by rfl) n_range ev_int) (pg_name (i := 3) q_law.nd rfl (.inl rfl)) tg_one (ess_cons (es_set (i := 4) q_law.nd rfl (.inl rfl) (by first | decide | (simp [Gx.plus, Tg.ix]; done) | (intro i hi; simp [Gx.plus, Tg.ix] at hi ⊢; omega)) (er_callB (i := 2) c__law_draw hg (hr.mono (by decide)) (by rfl) (fun σ => passAt (takes_of rfl rfl rfl rfl) σ) rfl (by first | exact Or.inl rfl | exact Or.inr (Or.inl rfl) | exact Or.inr (Or.inr rfl)) (ea_cons ev_int ea_nil)))
    (ess_cons (es_set (i := 5) q_law.nd rfl (.inr rfl) (by first | decide | (simp [Gx.plus, Tg.ix]; done) | (intro i hi; simp [Gx.plus, Tg.ix] at hi ⊢; omega)) (er_callC c__law_labels hg (hr.mono (by decide)) (by rfl) (fun σ => passAt (takes_of rfl rfl rfl rfl) σ) (ea_cons (evn 4) ea_nil)))
    (ess_cons (es_setLc (i := 6) (own := [("_law_at", 7), ("_law_label", 8)]) (T := (.many [7, 8])) (gt := (gTup _ 2 (gNames [7, 8]))) rfl q_law.nd rfl rfl (by first | decide | (simp [Gx.plus, Tg.ix]; done) | (intro i hi; simp [Gx.plus, Tg.ix] at hi ⊢; omega)) (sw_true rfl rfl rfl (by decide +kernel)) (ei_enum (by rfl) n_enumerate (evn 5)) (blkOk_by (own := [("_law_at", 7), ("_law_label", 8)]) (N := ["_law_script", "_law_k", "_law_pot_here", "_law_turn", "_law_way", "_law_labels_here", "_law_some", "_law_at", "_law_label"]) (sc := defScope s_law) (by decide +kernel)) (tg_many (is := [7, 8])) rfl (fun _ _ _ _ _ => (pg_tup (by rfl) (pgs_cons (pg_name (i := 7) q_law.nd rfl (by first | exact Or.inl rfl | exact Or.inr rfl)) (pgs_cons (pg_name (i := 8) q_law.nd rfl (by first | exact Or.inl rfl | exact Or.inr rfl)) pgs_nil)))) (fun _ _ _ _ _ => pts0) (fun _ _ _ _ _ => (ev_fz (er_callB (i := 2) c__law_value hg (hr.mono (by decide)) (by rfl) (fun _ => pass_no) rfl (by first | exact Or.inl rfl | exact Or.inr (Or.inl rfl) | exact Or.inr (Or.inr rfl)) (ea_cons (ev_fz (er_slA (evn 5) eo_none (eo_some (evn 7)))) (ea_cons (evn 8) ea_nil))))) (by decide) kp_nil kp_nil)
    (ess_one (es_if (et_cmp (op_neA hr.units) o2_ne (ev_call1 (call_reprA (by exact hg) (by exact hu64)) o1_repr (by rfl) n_repr (by decide +kernel) (ep_of (ev_fz (er_callC c__law_told hg (hr.mono (by decide)) (by rfl) (fun σ => passAt (takes_of rfl rfl rfl rfl) σ) (ea_cons (evn 4) (ea_cons (evn 5) (ea_cons (evn 6) ea_nil))))))) (ep_of (ev_call1 (call_reprA (by exact hg) (by exact hu64)) o1_repr (by rfl) n_repr (by decide +kernel) (ep_of (ev_fz (er_callC c__law_due hg (hr.mono (by decide)) (by rfl) (fun σ => passAt (takes_of rfl rfl rfl rfl) σ) (ea_cons (evn 5) (ea_cons (evn 6) ea_nil))))))) (nomark _)) (ess_one (es_ret (er_vl ev_bl))) ess_nil))))) (by first | decide | (simp [Gx.plus, Tg.ix]; done) | (intro i hi; simp [Gx.plus, Tg.ix] at hi ⊢; omega))))) (by first | decide | (simp [Gx.plus, Tg.ix]; done) | (intro i hi; simp [Gx.plus, Tg.ix] at hi ⊢; omega)))
    (ess_one (es_ret (er_vl (ev_and (ev_fz (er_call0 c__law_twenty_one hg (hr.mono (by decide)) (by rfl) (fun σ => passAt (takes_of rfl rfl rfl rfl) σ))) (ev_one (ev_cmp (op_eqA hr.units) o2_eq (ev_call1 (call_reprA (by exact hg) (by exact hu64)) o1_repr (by rfl) n_repr (by decide +kernel) (ep_of (ev_fz (er_lst (ea_cons (ev_cat ca_Hierarchy_LIMIT (by rfl)) (ea_cons (ev_con ocon_Hierarchy_LIMIT (ev_fz (er_cmethW ccw_Hierarchy_of_3 hg (hr.mono (by decide)) (by rfl) (fun σ => passAt (takes_of rfl rfl rfl rfl) σ) (ek_cons (ev_tup ea_nil) ek_nil)))) ea_nil)))))) (ep_of ev_str) (nomark _)))))))))
end
end Lw
/-! Each rule with one premise as an instance: one look in place of ninety tries. -/
namespace Pu
open PySem PySem.Spec PyProof.Rows L2 Kv
class Stp (P : Prop) (P' : outParam Prop) : Prop where
  step : P' → P
section
variable {ρ : En} {N B C : En → Prop} {T : R → En → Prop} {E : QE} {i : Nat}
instance (priority := 2000) {xs : List D} {Q : List D → En → Prop} : Stp (W (lft (seqD (.ftup xs))) ρ Q E) (Q xs ρ) := ⟨w_seqU⟩
instance {fa : P R} {fr : P (List R)} {Q : List R → En → Prop} : Stp (W (consR fa fr) ρ Q E) (W fa ρ (fun x ρ1 => W fr ρ1 (fun xs ρ2 => Q (x :: xs) ρ2) E) E) := ⟨w_consR⟩
instance {is : List Nat} {fr : P (List R)} : Stp (WS (tupR is fr) ρ N T B C E) (W fr ρ (fun rs ρ' => is.length = rs.length ∧ rs.length ≤ 1000 ∧ N (setRs is rs ρ')) E) := ⟨s_tupR⟩
instance {L : List Nat} {fi : P (List D)} {T' : Tg} {fb : S} : Stp (WS (forG L fi T' fb) ρ N T B C E) (W fi ρ (fun ds ρ' => FR T' (gdB L fb) ds ρ' N T E) E) := ⟨s_forG⟩
end
section
variable {α β : Type} {ρ ρ' : En} {E E' : QE} {i n : Nat}
instance {o : D → D → Option (List D)} {fa fb : P D} {Q : List D → En → Prop} : Stp (W (opL2 o fa fb) ρ Q E) (W fa ρ (fun x ρ1 => W fb ρ1 (fun y ρ2 => W (lft (o x y)) ρ2 Q E) E) E) := ⟨w_opL2⟩
instance {fe : P D} {fl fh : P (Option Int)} {Q : R → En → Prop} : Stp (W (slA fe fl fh) ρ Q E) (W fe ρ (fun d ρ1 => W fl ρ1 (fun l ρ2 => W fh ρ2 (fun u ρ3 => W (lft (slD l u d)) ρ3 Q E) E) E) E) := ⟨w_slA⟩
instance {fo fe : P D} {Q : R → En → Prop} : Stp (W (spl fo fe) ρ Q E) (W fo ρ (fun a ρ1 => isStr a = true ∧ W fe ρ1 (fun b ρ2 => W (lft (splitD a b)) ρ2 Q E) E) E) := ⟨w_spl⟩
instance {F : P R} {fr : P (List Ar)} {Q : R → En → Prop} : Stp (W (calL F n fr) ρ Q E) (W fr ρ (fun ars ρ1 => W (appL F n ars) ρ1 Q E) E) := ⟨w_calL⟩
instance {fa : P D} {fr : P (List Ar)} {Q : List Ar → En → Prop} : Stp (W (valA fa fr) ρ Q E) (W fa ρ (fun x ρ1 => W fr ρ1 (fun xs ρ2 => Q (.v x :: xs) ρ2) E) E) := ⟨w_valA⟩
instance {a : α} {Q : α → En → Prop} : Stp (W (prt a) ρ Q E) (Q a ρ) := ⟨w_prt⟩
instance {m : P α} {k : α → P β} {Q : β → En → Prop} : Stp (W (bnd m k) ρ Q E) (W m ρ (fun a ρ' => W (k a) ρ' Q E) E) := ⟨w_bnd⟩
instance {f : P R} {Q : D → En → Prop} : Stp (W (fz f) ρ Q E) (W f ρ (fun r ρ' => Q r.d ρ') E) := ⟨w_fz⟩
instance {f : P D} {Q : R → En → Prop} : Stp (W (vl f) ρ Q E) (W f ρ (fun d ρ' => Q (.val d) ρ') E) := ⟨w_vl⟩
instance {o : D → Option D} {fa : P D} {Q : D → En → Prop} : Stp (W (op1 o fa) ρ Q E) (W fa ρ (fun x ρ' => W (lft (o x)) ρ' Q E) E) := ⟨w_op1⟩
instance {o : D → Option R} {fa : P D} {Q : R → En → Prop} : Stp (W (opR o fa) ρ Q E) (W fa ρ (fun x ρ' => W (lft (o x)) ρ' Q E) E) := ⟨w_opR⟩
instance {o : D → Option (List D)} {fa : P D} {Q : List D → En → Prop} : Stp (W (opL o fa) ρ Q E) (W fa ρ (fun x ρ' => W (lft (o x)) ρ' Q E) E) := ⟨w_opL⟩
instance {o : List D → Option D} {fr : P (List D)} {Q : D → En → Prop} : Stp (W (opV o fr) ρ Q E) (W fr ρ (fun x ρ' => W (lft (o x)) ρ' Q E) E) := ⟨w_opV⟩
instance {o : D → D → Option D} {fa fb : P D} {Q : D → En → Prop} : Stp (W (op2 o fa fb) ρ Q E) (W fa ρ (fun x ρ1 => W fb ρ1 (fun y ρ2 => W (lft (o x y)) ρ2 Q E) E) E) := ⟨w_op2⟩
instance {f : P D} {Q : Bool → En → Prop} : Stp (W (tst f) ρ Q E) (W f ρ (fun d ρ' => W (lft (asB d)) ρ' Q E) E) := ⟨w_tst⟩
instance {fa fb : P D} {Q : D → En → Prop} : Stp (W (andV fa fb) ρ Q E) (W (tst fa) ρ (fun c ρ' => W (if c = true then fb else prt (.bl false)) ρ' Q E) E) := ⟨w_andV⟩
instance {fa fb : P D} {Q : D → En → Prop} : Stp (W (orV fa fb) ρ Q E) (W (tst fa) ρ (fun c ρ' => W (if c = true then prt (.bl true) else fb) ρ' Q E) E) := ⟨w_orV⟩
instance {fa : P D} {Q : D → En → Prop} : Stp (W (notV fa) ρ Q E) (W (tst fa) ρ (fun c ρ' => Q (.bl (!c)) ρ') E) := ⟨w_notV⟩
instance {A B : P Bool} {Q : Bool → En → Prop} : Stp (W (andB A B) ρ Q E) (W A ρ (fun c ρ' => W (if c = true then B else prt false) ρ' Q E) E) := ⟨w_andB⟩
instance {A B : P Bool} {Q : Bool → En → Prop} : Stp (W (orB A B) ρ Q E) (W A ρ (fun c ρ' => W (if c = true then prt true else B) ρ' Q E) E) := ⟨w_orB⟩
instance {A : P Bool} {Q : Bool → En → Prop} : Stp (W (notB A) ρ Q E) (W A ρ (fun c ρ' => Q (!c) ρ') E) := ⟨w_notB⟩
instance {A : P Bool} {fa fb : P α} {Q : α → En → Prop} : Stp (W (ifV A fa fb) ρ Q E) (W A ρ (fun c ρ' => W (if c = true then fa else fb) ρ' Q E) E) := ⟨w_ifV⟩
instance {fa : P D} {fr : P (List D)} {Q : List D → En → Prop} : Stp (W (consA fa fr) ρ Q E) (W fa ρ (fun x ρ1 => W fr ρ1 (fun xs ρ2 => Q (x :: xs) ρ2) E) E) := ⟨w_consA⟩
instance {fr : P (List D)} {Q : D → En → Prop} : Stp (W (mkT fr) ρ Q E) (W fr ρ (fun xs ρ' => xs.length ≤ sizeLine ∧ Q (.tup xs) ρ') E) := ⟨w_mkT⟩
instance {fr : P (List D)} {Q : R → En → Prop} : Stp (W (mkL fr) ρ Q E) (W fr ρ (fun xs ρ' => xs.length ≤ sizeLine ∧ Q (.own (.lst xs)) ρ') E) := ⟨w_mkL⟩
instance {fb : P D} {Q : D → En → Prop} : Stp (W (ixN' i fb) ρ Q E) (W (pk i) ρ (fun _ ρ1 => W fb ρ1 (fun y ρ2 => W (pk i) ρ2 (fun x ρ3 => W (lft (ixD x y)) ρ3 Q E) E) E) E) := ⟨w_ix⟩
instance {o o' : D → D → Option D} {fa fb fc : P D} {Q : D → En → Prop} : Stp (W (chn o o' fa fb fc) ρ Q E) (W fa ρ (fun x ρ1 => W fb ρ1 (fun y ρ2 => W (lft ((o x y).bind asB)) ρ2 (fun k ρ3 => W (if k = true then bnd fc fun z => lft (o' y z) else prt (.bl false)) ρ3 Q E) E) E) E) := ⟨w_chn⟩
instance {f : P D} {Q : List D → En → Prop} : Stp (W (seqP f) ρ Q E) (W f ρ (fun d ρ' => W (lft (seqD d)) ρ' Q E) E) := ⟨w_seqP⟩
instance {f : P D} {Q : Option Int → En → Prop} : Stp (W (sOpt f) ρ Q E) (W f ρ (fun d ρ' => W (lft (asI d)) ρ' Q E) E) := ⟨w_sOpt⟩
instance {fe : P D} {fl fh : P (Option Int)} {Q : R → En → Prop} : Stp (W (slc fe fl fh) ρ Q E) (W fe ρ (fun d ρ1 => W fl ρ1 (fun l ρ2 => W fh ρ2 (fun u ρ3 => W (lft ((lstOf d).map fun xs => R.own (.lst (cutD xs l u)))) ρ3 Q E) E) E) E) := ⟨w_slc⟩
instance {op : Str → List D → Option D} {fo : P D} {fr : P (List D)} {Q : D → En → Prop} : Stp (W (mts op fo fr) ρ Q E) (W fo ρ (fun d ρ1 => ∃ t, d = .str t ∧ W fr ρ1 (fun ds ρ2 => W (lft (op t ds)) ρ2 Q E) E) E) := ⟨w_mts⟩
instance {fr : P (List D)} {step : List D → List D → Option (D × List D)} {Q : D → En → Prop} : Stp (W (mtt i fr step) ρ Q E) (W (ownL i) ρ (fun _ ρ1 => W fr ρ1 (fun ds ρ2 => W (mutL i step ds) ρ2 Q E) E) E) := ⟨w_mtt⟩
instance {F : P R} {fr : P (List D)} {Q : R → En → Prop} : Stp (W (cal F n fr) ρ Q E) (W fr ρ (fun ds ρ1 => ds.length = n ∧ W F (vals ds) (fun r _ => Q r ρ1) (fun c ns es _ => E c ns es ρ1)) E) := ⟨w_cal⟩
instance {C : Addr} {m : Str} {F : P R} {fo : P D} {fr : P (List D)} {Q : R → En → Prop} : Stp (W (met C m F n fo fr) ρ Q E) (W fo ρ (fun d ρ0 => isObj C m d = true ∧ W fr ρ0 (fun ds ρ1 => ds.length + 1 = n ∧ W F (vals (d :: ds)) (fun r _ => Q r ρ1) (fun c ns es _ => E c ns es ρ1)) E) E) := ⟨w_met⟩
instance {C : Addr} {m : Str} {F : P R} {fo : P D} {Q : R → En → Prop} : Stp (W (met0 C m F n fo) ρ Q E) (W fo ρ (fun d ρ1 => isObj C m d = true ∧ 1 = n ∧ W F (vals [d]) (fun r _ => Q r ρ1) (fun c ns es _ => E c ns es ρ1)) E) := ⟨w_met0⟩
instance {C : Addr} {m : Str} {F : P R} {fo : P D} {fr : P (List D)} {Q : R → En → Prop} : Stp (W (metS C m F n fo fr) ρ Q E) (W fo ρ (fun d ρ0 => isObj C m d = true ∧ W fr ρ0 (fun ds ρ1 => n ≤ (d :: ds).length ∧ (d :: ds).length ≤ sizeLine ∧ W F (vals ((d :: ds).take n ++ [.tup ((d :: ds).drop n)])) (fun r _ => Q r ρ1) (fun c ns es _ => E c ns es ρ1)) E) E) := ⟨w_metS⟩
end
section
variable {ρ : En} {E : QE} {N B C : En → Prop} {T : R → En → Prop} {i j l n : Nat}
instance (priority := 1995) {fa fb : P D} : Stp (WS (par' i j (consA fa (consA fb (prt [])))) ρ N T B C E) (W fa ρ (fun d ρ1 => W fb ρ1 (fun e ρ2 => N ((ρ2.set i (.val d)).set j (.val e))) E) E) := ⟨s_parV⟩
instance {fa fb fc : P D} : Stp (WS (par3' i j l (consA fa (consA fb (consA fc (prt []))))) ρ N T B C E) (W fa ρ (fun d ρ1 => W fb ρ1 (fun e ρ2 => W fc ρ2 (fun f ρ3 => N (((ρ3.set i (.val d)).set j (.val e)).set l (.val f))) E) E) E) := ⟨s_par3V⟩
instance {A : Addr} {F : P R} {fr : P (List D)} {Q : R → En → Prop} : Stp (W (calC A F n fr) ρ Q E) (W fr ρ (fun ds ρ1 => ds.length + 1 = n ∧ W F (vals (.opq A :: ds)) (fun r _ => Q r ρ1) (fun c ns es _ => E c ns es ρ1)) E) := ⟨w_calC⟩
instance (priority := 1990) {A : Addr} {v : D} {Q : D → En → Prop} : Stp (W (lft (clsC A v (.opq A))) ρ Q E) (Q v ρ) := ⟨w_clsC⟩
instance {fa fb : P R} : Stp (WS (parR i j fa fb) ρ N T B C E) (W fa ρ (fun r1 ρ1 => W fb ρ1 (fun r2 ρ2 => N ((ρ2.set i (sl r1)).set j (sl r2))) E) E) := ⟨s_parR⟩
instance (priority := 1986) {xs : List D} {lo hi : Option Int} {Q : R → En → Prop} : Stp (W (lft (slD lo hi (.lst xs))) ρ Q E) (Q (.own (.lst (cutD xs lo hi))) ρ) := ⟨w_slL⟩
instance (priority := 1985) {xs : List D} {lo hi : Option Int} {Q : R → En → Prop} : Stp (W (lft (slD lo hi (.tup xs))) ρ Q E) (Q (.val (.tup (cutD xs lo hi))) ρ) := ⟨w_slT⟩
instance {α : Type} {f : P α} {Q : α → En → Prop} : Stp (W (quiet f) ρ Q E) (W f ρ Q (fun _ _ _ _ => False)) := ⟨w_quiet⟩
end
section
variable {α : Type} {ρ : En} {N B C : En → Prop} {T : R → En → Prop} {E : QE} {i j : Nat}
instance : Stp (WS sk ρ N T B C E) (N ρ) := ⟨s_sk⟩
instance {f k : S} : Stp (WS (sq f k) ρ N T B C E) (WS f ρ (fun ρ' => WS k ρ' N T B C E) T B C E) := ⟨s_sq⟩
instance {A : P Bool} {fa fb : S} : Stp (WS (iff A fa fb) ρ N T B C E) (W A ρ (fun c ρ' => WS (if c = true then fa else fb) ρ' N T B C E) E) := ⟨s_iff⟩
instance {fe : P R} : Stp (WS (ret fe) ρ N T B C E) (W fe ρ (fun r ρ' => T r ρ') E) := ⟨s_ret⟩
instance : Stp (WS retN ρ N T B C E) (T (.val .non) ρ) := ⟨s_retN⟩
instance : Stp (WS brk ρ N T B C E) (B ρ) := ⟨s_brk⟩
instance : Stp (WS cnt ρ N T B C E) (C ρ) := ⟨s_cnt⟩
instance {fe : P D} : Stp (WS (expr fe) ρ N T B C E) (W fe ρ (fun _ ρ' => N ρ') E) := ⟨s_expr⟩
instance {fe : P R} : Stp (WS (set' i fe) ρ N T B C E) (W fe ρ (fun r ρ' => N (ρ'.set i (sl r))) E) := ⟨s_set⟩
instance {T' : Tg} {fe : P D} : Stp (WS (unp' T' fe) ρ N T B C E) (W fe ρ (fun d ρ' => ∃ ρ2, gset T' d ρ' = some ρ2 ∧ N ρ2) E) := ⟨s_unp⟩
instance (priority := 1942) {fr : P (List D)} : Stp (WS (par' i j fr) ρ N T B C E) (W fr ρ (fun ds ρ' => ∃ d e, ds = [d, e] ∧ N ((ρ'.set i (.val d)).set j (.val e))) E) := ⟨s_par⟩
instance {fe : P D} {g : D → S} : Stp (WS (asg' fe g) ρ N T B C E) (W fe ρ (fun d ρ' => WS (g d) ρ' N (fun _ _ => False) (fun _ => False) (fun _ => False) E) E) := ⟨s_asg⟩
instance {d : D} : Stp (WS (gName' i d) ρ N T B C E) (N (ρ.set i (.val d))) := ⟨s_gName⟩
instance (priority := 1939) : Stp (WS (asgs [] []) ρ N T B C E) (N ρ) := ⟨s_asgs0⟩
instance (priority := 1938) {g : D → S} {hs : List (D → S)} {d : D} {ds : List D} : Stp (WS (asgs (g :: hs) (d :: ds)) ρ N T B C E) (WS (g d) ρ (fun ρ' => WS (asgs hs ds) ρ' N T B C E) T B C E) := ⟨s_asgs1⟩
instance {A : Addr} {ns : List Str} {cd : List D → Bool} {fr : P (List D)} : Stp (WS (raise' A ns cd fr) ρ N T B C E) (W fr ρ (fun ds ρ' => ds.length = ns.length ∧ cd ds = true ∧ E (.ref A) ns.reverse ds.reverse ρ') E) := ⟨s_raise⟩
instance {fi : P (List D)} {T' : Tg} {fb : S} : Stp (WS (for' fi T' fb) ρ N T B C E) (W fi ρ (fun ds ρ' => FR T' fb ds ρ' N T E) E) := ⟨s_for⟩
instance {f : P α} {k : α → S} : Stp (WS (sb f k) ρ N T B C E) (W f ρ (fun a ρ' => WS (k a) ρ' N T B C E) E) := ⟨s_sb⟩
end
section
variable {ρ : En} {N B C : En → Prop} {T : R → En → Prop} {E : QE} {i j : Nat}
instance {fi : P D} {d : D} : Stp (WS (gSub i fi d) ρ N T B C E) (WS (gdO i (sb fi fun j => stIx i j d)) ρ N T B C E) := ⟨s_gSub⟩
instance {fi : P D} {d : D} : Stp (WS (gPut i fi d) ρ N T B C E) (WS (gdO i (sb fi fun j => stPut i j d)) ρ N T B C E) := ⟨s_gPut⟩
end
section
variable {ρ : En} {E : QE}
instance (priority := 1932) {Q : D → En → Prop} : Stp (W (lft (opPow (.int 10) (.int 18))) ρ Q E) (Q (.int 1000000000000000000) ρ) := ⟨w_pow18⟩
end
section
variable {ρ : En} {E : QE}
variable {i j : Int} {Q : D → En → Prop}
instance (priority := 1931) : Stp (W (lft (opAdd (.int i) (.int j))) ρ Q E) (Q (.int (i + j)) ρ) := ⟨w_add⟩
instance (priority := 1930) : Stp (W (lft (opSub (.int i) (.int j))) ρ Q E) (Q (.int (i - j)) ρ) := ⟨w_sub⟩
instance (priority := 1929) : Stp (W (lft (opLt (.int i) (.int j))) ρ Q E) (Q (.bl (decide (i < j))) ρ) := ⟨w_lt⟩
instance (priority := 1928) : Stp (W (lft (opLe (.int i) (.int j))) ρ Q E) (Q (.bl (decide (i ≤ j))) ρ) := ⟨w_le⟩
instance (priority := 1927) : Stp (W (lft (opGt (.int i) (.int j))) ρ Q E) (Q (.bl (decide (j < i))) ρ) := ⟨w_gt⟩
instance (priority := 1926) : Stp (W (lft (opGe (.int i) (.int j))) ρ Q E) (Q (.bl (decide (j ≤ i))) ρ) := ⟨w_ge⟩
instance (priority := 1925) : Stp (W (lft (maxI [.int i, .int j])) ρ Q E) (Q (.int (if j > i then j else i)) ρ) := ⟨w_max⟩
instance (priority := 1924) : Stp (W (lft (minI [.int i, .int j])) ρ Q E) (Q (.int (if j < i then j else i)) ρ) := ⟨w_min⟩
instance (priority := 1923) : Stp (W (lft (absI [.int i])) ρ Q E) (Q (.int (if i < 0 then -i else i)) ρ) := ⟨w_abs⟩
instance (priority := 1922) {b : Bool} {Q : Bool → En → Prop} : Stp (W (lft (asB (.bl b))) ρ Q E) (Q b ρ) := ⟨w_asB⟩
instance (priority := 1921) {Q : Option Int → En → Prop} : Stp (W (lft (asI (.int i))) ρ Q E) (Q (some i) ρ) := ⟨w_asI⟩
instance (priority := 1920) {xs : List D} : Stp (W (lft (lenD (.lst xs))) ρ Q E) (Q (.int xs.length) ρ) := ⟨w_lenL⟩
instance (priority := 1919) {xs : List D} : Stp (W (lft (lenD (.tup xs))) ρ Q E) (Q (.int xs.length) ρ) := ⟨w_lenT⟩
instance (priority := 1918) {xs : List D} : Stp (W (lft (lenD (.flst xs))) ρ Q E) (Q (.int xs.length) ρ) := ⟨w_lenF⟩
instance (priority := 1917) {ks : List Key} {xs : List D} : Stp (W (lft (lenD (.dic ks xs))) ρ Q E) (Q (.int ks.length) ρ) := ⟨w_lenD⟩
instance (priority := 1916) {xs : List D} {Q : List D → En → Prop} : Stp (W (lft (seqD (.lst xs))) ρ Q E) (Q xs ρ) := ⟨w_seqL⟩
instance (priority := 1915) {xs : List D} {Q : List D → En → Prop} : Stp (W (lft (seqD (.tup xs))) ρ Q E) (Q xs ρ) := ⟨w_seqT⟩
instance (priority := 1914) {xs : List D} {Q : List D → En → Prop} : Stp (W (lft (seqD (.flst xs))) ρ Q E) (Q xs ρ) := ⟨w_seqF⟩
instance (priority := 1913) {x : Str} {Q : List D → En → Prop} : Stp (W (lft (strP (.str x))) ρ Q E) (Q (lettersD x) ρ) := ⟨w_strP⟩
instance (priority := 1912) {xs : List D} : Stp (W (lft (tupD (.lst xs))) ρ Q E) (Q (.tup xs) ρ) := ⟨w_tupL⟩
instance (priority := 1911) {xs : List D} : Stp (W (lft (tupD (.tup xs))) ρ Q E) (Q (.tup xs) ρ) := ⟨w_tupT⟩
instance (priority := 1910) {ks : List Key} {vs : List D} {Q : List D → En → Prop} : Stp (W (lft (keysD (.dic ks vs))) ρ Q E) (Q (ks.map keyD) ρ) := ⟨w_keys⟩
instance (priority := 1909) {xs : List D} {l u : Option Int} {Q : R → En → Prop} : Stp (W (lft ((lstOf (.lst xs)).map fun xs => R.own (.lst (cutD xs l u)))) ρ Q E) (Q (.own (.lst (cutD xs l u))) ρ) := ⟨w_cutL⟩
instance (priority := 1908) {xs : List D} {Q : R → En → Prop} : Stp (W (lft (revO (.lst xs))) ρ Q E) (Q (.own (.lst xs.reverse)) ρ) := ⟨w_revL⟩
instance (priority := 1907) {xs : List D} {Q : R → En → Prop} : Stp (W (lft (listP (.lst xs))) ρ Q E) (Q (.own (.lst xs)) ρ) := ⟨w_listL⟩
instance (priority := 1906) {d : D} : Stp (W (lft (opIs d .non)) ρ Q E) (Q (.bl (isN d)) ρ) := ⟨w_isN⟩
instance (priority := 1905) {d : D} : Stp (W (lft (opIsNot d .non)) ρ Q E) (Q (.bl (!isN d)) ρ) := ⟨w_isNotN⟩
instance (priority := 1898) {x : D} {xs : List D} : Stp (W (lft (ixD (.lst (x :: xs)) (.int 0))) ρ Q E) (Q x ρ) := ⟨w_ixL0⟩
end
section
instance {A B : Prop} : Stp (if true = true then A else B) (A) := ⟨pIteT⟩
instance {A B : Prop} : Stp (if false = true then A else B) (B) := ⟨pIteF⟩
instance {d : D} {t : En} {G : D → En → Prop} : Stp (∃ d' t', (Slot.own d :: t) = Slot.own d' :: t' ∧ G d' t') (G d t) := ⟨exOwn⟩
end
section
variable {ρ : En} {E : QE} {Q : D → En → Prop}
instance (priority := 1901) {i j : Int} : Stp (W (lft (opEq (.int i) (.int j))) ρ Q E) (Q (.bl (decide (i = j))) ρ) := ⟨w_eqI⟩
instance (priority := 1900) {x y : Str} : Stp (W (lft (opEq (.str x) (.str y))) ρ Q E) (Q (.bl (decide (x = y))) ρ) := ⟨w_eqS⟩
instance (priority := 1899) {x y : Str} : Stp (W (lft (opNe (.str x) (.str y))) ρ Q E) (Q (.bl (!decide (x = y))) ρ) := ⟨w_neS⟩
end
end Pu
namespace Pu
open PySem PySem.Spec PyProof.Rows L2 Kv
class At (ρ : En) (i : Nat) (s : outParam Slot) : Prop where
  e : ρ[i]? = some s
instance {s : Slot} {ρ : En} : At (s :: ρ) 0 s := ⟨rfl⟩
instance {s x : Slot} {ρ : En} {n : Nat} [h : At ρ n s] : At (x :: ρ) (n + 1) s := ⟨h.e⟩
instance {d : D} {ds : List D} : At (List.map Slot.val (d :: ds)) 0 (.val d) := ⟨rfl⟩
instance {d : D} {ds : List D} {s : Slot} {n : Nat} [h : At (List.map Slot.val ds) n s] : At (List.map Slot.val (d :: ds)) (n + 1) s := ⟨h.e⟩
class Put (ρ : En) (i : Nat) (s : Slot) (ρ' : outParam En) : Prop where
  e : ρ.set i s = ρ'
instance {s x : Slot} {ρ : En} : Put (x :: ρ) 0 s (s :: ρ) := ⟨rfl⟩
instance (priority := 3000) {d : D} {x : Slot} {ρ : En} : Put (x :: ρ) 0 (sl (.val d)) (.val d :: ρ) := ⟨rfl⟩
instance (priority := 3000) {d : D} {x : Slot} {ρ : En} : Put (x :: ρ) 0 (sl (.own d)) (.own d :: ρ) := ⟨rfl⟩
instance {s x : Slot} {ρ ρ' : En} {n : Nat} [h : Put ρ n s ρ'] : Put (x :: ρ) (n + 1) s (x :: ρ') := ⟨by show x :: ρ.set n s = _; rw [h.e]⟩
instance {s : Slot} {d : D} {ds : List D} : Put (List.map Slot.val (d :: ds)) 0 s (s :: List.map Slot.val ds) := ⟨rfl⟩
instance {s : Slot} {d : D} {ds : List D} {ρ' : En} {n : Nat} [h : Put (List.map Slot.val ds) n s ρ'] : Put (List.map Slot.val (d :: ds)) (n + 1) s (.val d :: ρ') := ⟨by show Slot.val d :: (List.map Slot.val ds).set n s = _; rw [h.e]⟩
instance {s t : Slot} {i j : Nat} {ρ ρ1 ρ2 : En} [h : Put ρ i s ρ1] [g : Put ρ1 j t ρ2] : Put (ρ.set i s) j t ρ2 := ⟨by rw [h.e, g.e]⟩
instance {s t : Slot} {i j : Nat} {ρ ρ1 : En} [h : Put ρ i s ρ1] [g : At ρ1 j t] : At (ρ.set i s) j t := ⟨by rw [h.e]; exact g.e⟩
class Pad (n : Nat) (as : En) (ρ : outParam En) : Prop where
  e : as ++ List.replicate (n - as.length) Slot.un = ρ
instance : Pad 0 [] [] := ⟨rfl⟩
instance {n : Nat} {ρ : En} [h : Pad n [] ρ] : Pad (n + 1) [] (.un :: ρ) := ⟨by rw [← h.e]; rfl⟩
instance {n : Nat} {x : Slot} {as ρ : En} [h : Pad n as ρ] : Pad (n + 1) (x :: as) (x :: ρ) := ⟨by rw [← h.e, List.length_cons, Nat.add_sub_add_right]; rfl⟩
instance {n : Nat} {d : D} {ds : List D} {ρ : En} [h : Pad n (List.map Slot.val ds) ρ] : Pad (n + 1) (List.map Slot.val (d :: ds)) (.val d :: ρ) := ⟨by rw [← h.e, List.map_cons, List.length_cons, Nat.add_sub_add_right]; rfl⟩
instance {n : Nat} {ρ : En} [h : Pad n [] ρ] : Pad n (List.map Slot.val []) ρ := ⟨h.e⟩
instance (priority := 6000) {f : S} {n : Nat} {as ρ' : En} {N B C : En → Prop} {T : R → En → Prop} {E : QE} [h : Pad n as ρ'] : Stp (WS f (as ++ List.replicate (n - as.length) Slot.un) N T B C E) (WS f ρ' N T B C E) := ⟨fun g => by rw [h.e]; exact g⟩
section
variable {α : Type} {ρ ρ' : En} {N B C : En → Prop} {T : R → En → Prop} {E : QE} {i n : Nat} {s : Slot}
instance (priority := 5000) {m : P α} {Q : α → En → Prop} [h : Put ρ i s ρ'] : Stp (W m (ρ.set i s) Q E) (W m ρ' Q E) := ⟨fun g => by rw [h.e]; exact g⟩
instance (priority := 5000) {f : S} [h : Put ρ i s ρ'] : Stp (WS f (ρ.set i s) N T B C E) (WS f ρ' N T B C E) := ⟨fun g => by rw [h.e]; exact g⟩
instance (priority := 3000) {d : D} {Q : D → En → Prop} [h : At ρ i (.val d)] : Stp (W (rd i) ρ Q E) (Q d ρ) := ⟨w_rdV h.e⟩
instance (priority := 2999) {d : D} {Q : D → En → Prop} [h : At ρ i (.own d)] : Stp (W (rd i) ρ Q E) (Q d (ρ.set i (.val d))) := ⟨w_rdO h.e⟩
instance (priority := 3000) {d : D} {Q : D → En → Prop} [h : At ρ i (.val d)] : Stp (W (pk i) ρ Q E) (Q d ρ) := ⟨w_pkV h.e⟩
instance (priority := 2999) {d : D} {Q : D → En → Prop} [h : At ρ i (.own d)] : Stp (W (pk i) ρ Q E) (Q d ρ) := ⟨w_pkO h.e⟩
instance (priority := 3000) {d : D} {Q : R → En → Prop} [h : At ρ i (.val d)] : Stp (W (mv i) ρ Q E) (Q (.val d) ρ) := ⟨w_mvV h.e⟩
instance (priority := 2999) {d : D} {Q : R → En → Prop} [h : At ρ i (.own d)] : Stp (W (mv i) ρ Q E) (Q (.own d) (ρ.set i .un)) := ⟨w_mvO h.e⟩
instance (priority := 3000) {xs : List D} {Q : Unit → En → Prop} [h : At ρ i (.own (.lst xs))] : Stp (W (ownL i) ρ Q E) (Q () ρ) := ⟨w_ownL h.e⟩
instance (priority := 3000) {fr : P (List Ar)} {d : D} {Q : List Ar → En → Prop} [h : At ρ i (.own d)] : Stp (W (lntA i fr) ρ Q E) (W fr ρ (fun xs ρ2 => Q (.l i :: xs) ρ2) E) := ⟨w_lntA h.e⟩
instance (priority := 3000) {fr : P (List Ar)} {d : D} {Q : List Ar → En → Prop} [h : At ρ i (.own d)] : Stp (W (lntB i fr) ρ Q E) (W fr ρ (fun xs ρ2 => Q (.l i :: xs) ρ2) E) := ⟨w_lntBO h.e⟩
instance (priority := 2999) {fr : P (List Ar)} {d : D} {Q : List Ar → En → Prop} [h : At ρ i (.val d)] : Stp (W (lntB i fr) ρ Q E) (W fr ρ (fun xs ρ2 => Q (.v d :: xs) ρ2) E) := ⟨w_lntBV h.e⟩
instance (priority := 3000) {F : P R} {fr : P (List D)} {d : D} {Q : R → En → Prop} [h : At ρ i (.own d)] : Stp (W (calB i F n fr) ρ Q E) (W fr ρ (fun ds ρ1 => W (appB i F n ds) ρ1 Q E) E) := ⟨w_calB h.e⟩
instance (priority := 3000) {f : S} {d : D} [h : At ρ i (.own d)] : Stp (WS (gdO i f) ρ N T B C E) (WS f ρ N T B C E) := ⟨s_gdO h.e⟩
end
class Wip (ρ : En) (is : List Nat) (ρ' : outParam En) : Prop where
  e : wipeE ρ is = ρ'
instance {ρ : En} : Wip ρ [] ρ := ⟨rfl⟩
instance {ρ ρ1 ρ2 : En} {i : Nat} {is : List Nat} [h : Wip ρ is ρ1] [g : Put ρ1 i .un ρ2] : Wip ρ (i :: is) ρ2 := ⟨by show (wipeE ρ is).set i .un = _; rw [h.e, g.e]⟩
instance {ρ ρ1 : En} {i : Nat} [g : Put ρ i .un ρ1] : Wip ρ (Tg.one i).ix ρ1 := ⟨g.e⟩
instance {ρ ρ1 : En} {is : List Nat} [h : Wip ρ is ρ1] : Wip ρ (Tg.many is).ix ρ1 := ⟨h.e⟩
instance {ρ ρ1 ρ2 : En} {is : List Nat} {i : Nat} {s : Slot} [h : Wip ρ is ρ1] [g : Put ρ1 i s ρ2] : Put (wipeE ρ is) i s ρ2 := ⟨by rw [h.e, g.e]⟩
instance {ρ ρ1 : En} {is : List Nat} {i : Nat} {s : Slot} [h : Wip ρ is ρ1] [g : At ρ1 i s] : At (wipeE ρ is) i s := ⟨by rw [h.e]; exact g.e⟩
instance (priority := 5000) {α : Type} {m : P α} {Q : α → En → Prop} {ρ ρ1 : En} {is : List Nat} {E : QE} [h : Wip ρ is ρ1] : Stp (W m (wipeE ρ is) Q E) (W m ρ1 Q E) := ⟨fun g => by rw [h.e]; exact g⟩
instance (priority := 5000) {f : S} {ρ ρ1 : En} {is : List Nat} {N B C : En → Prop} {T : R → En → Prop} {E : QE} [h : Wip ρ is ρ1] : Stp (WS f (wipeE ρ is) N T B C E) (WS f ρ1 N T B C E) := ⟨fun g => by rw [h.e]; exact g⟩
end Pu
local macro_rules | `(tactic| walk_at "w") => `(tactic| (repeat' (first | with_reducible refine Pu.Stp.step ?_ | ((with_reducible apply Pu.w_lntBO); exact rfl) | ((with_reducible apply Pu.w_lntBV); exact rfl) | ((with_reducible apply Pu.w_lkV); exact rfl) | ((with_reducible apply Pu.w_lntA); exact rfl) | ((with_reducible apply Pu.w_mkHL); exact rfl) | ((with_reducible apply Pu.w_rdV); exact rfl) | ((with_reducible apply Pu.w_rdO); exact rfl) | ((with_reducible apply Pu.w_pkV); exact rfl) | ((with_reducible apply Pu.w_pkO); exact rfl) | ((with_reducible apply Pu.w_mvV); exact rfl) | ((with_reducible apply Pu.w_mvO); exact rfl) | ((with_reducible apply Pu.w_ownL); exact rfl) | ((with_reducible apply Pu.w_calB); exact rfl) | ((with_reducible apply Pu.s_gdO); exact rfl) | ((with_reducible apply Pu.w_ixLw); exact rfl) | ((with_reducible apply Pu.w_ixTw); exact rfl) | ((with_reducible refine And.intro (Pu.small_le ?_) ?_); exact rfl) | ((with_reducible refine And.intro ?_ ?_); exact rfl) | ((with_reducible refine And.intro (Nat.le_of_ble_eq_true ?_) ?_); exact rfl) | ((with_reducible apply Pu.s_gTup); exact rfl; exact rfl) | ((with_reducible apply Pu.w_appB); exact rfl; exact rfl) | ((with_reducible apply Pu.s_stIx); exact rfl; exact rfl) | ((with_reducible apply Pu.w_mod); decide) | ((with_reducible apply Pu.w_fdiv); decide) | ((with_reducible apply Pu.w_mul); first | exact .inl ⟨by omega, by omega⟩ | exact .inr ⟨by omega, by omega⟩) | ((with_reducible apply Exists.intro); (with_reducible apply And.intro); exact rfl))))
namespace Fk
open PySem PySem.Spec PyProof.Rows L2 Kv Pu
abbrev potD (r g : Int) : D := .lst [.int r, .int g]
def PotOk (r g : Int) : Prop := 0 ≤ r ∧ 0 ≤ g ∧ g < 2147483647
def Pot (d : D) : Prop := ∃ r g, d = potD r g ∧ PotOk r g
section
variable {z : Zf} {E : QE} {Q : R → En → Prop}
theorem s_draw {p : D} {m : Int} (hp : Pot p) (h0 : 0 < m) (h1 : m ≤ 1000000000000) (k : ∀ x p2, 0 ≤ x → x < m → Pot p2 → Q (.val (.int x)) [.own p2, .un]) :
    W (F__law_draw z) [.own p, .val (.int m)] Q E := by
  obtain ⟨r, g, rfl, p1, p2, p3⟩ := hp
  unfold F__law_draw
  refine w_fn (by rfl) ?_
  walk_at "w"
  refine s_ifB (fun c => ?_) (fun c => ?_)
  · have hr : 0 < r := of_decide_eq_true c
    walk_at "w"
    refine w_dvm ⟨h0, h1⟩ ?_
    walk_at "w"
    exact k _ _ (Int.emod_nonneg _ (by omega)) (Int.emod_lt_of_pos _ h0) ⟨_, _, rfl, Int.ediv_nonneg p1 (by omega), p2, p3⟩
  · walk_at "w"
    have b0 : 0 ≤ (g * 39373 + 12227) % 2147483629 := Int.emod_nonneg _ (by decide)
    have b1 : (g * 39373 + 12227) % 2147483629 < 2147483629 := Int.emod_lt_of_pos _ (by decide)
    generalize (g * 39373 + 12227) % 2147483629 = g2 at b0 b1
    walk_at "w"
    refine w_mod h0 ?_
    walk_at "w"
    exact k _ _ (Int.emod_nonneg _ (by omega)) (Int.emod_lt_of_pos _ h0) ⟨_, _, rfl, p1, b0, by omega⟩
theorem s_drawN {p : D} {n : Nat} (hp : Pot p) (h0 : 0 < n) (h1 : n ≤ 1000000000) (k : ∀ (x : Nat) p2, x < n → Pot p2 → Q (.val (.int x)) [.own p2, .un]) :
    W (F__law_draw z) [.own p, .val (.int n)] Q E := by
  refine s_draw hp (by omega) (by omega) fun x p2 a b c => ?_
  have e : x = (x.toNat : Nat) := (Int.toNat_of_nonneg a).symm
  rw [e]
  exact k _ _ (by omega) c
theorem s_pot {ns : List Int} {j : Nat} (hj : j ≤ 1000) (k : ∀ p, Pot p → Q (.own p) [.un, .un]) : W (F__law_pot z) [.val (.flst (ns.map D.int)), .val (.int j)] Q E := by
  unfold F__law_pot
  refine w_fn (by rfl) ?_
  have fin : ∀ c : Int, Pot (.lst [.int (if (if c < 0 then -c else c) - 1000000000000000000 > 0 then (if c < 0 then -c else c) - 1000000000000000000 else 0), .int (((if c < 0 then -c else c) % 2147483587 * 48271 + 60013 * (j : Int) + 29) % 2147483647)]) := fun c =>
    ⟨_, _, rfl, by split <;> omega, Int.emod_nonneg _ (by decide), Int.emod_lt_of_pos _ (by decide)⟩
  have key : ∀ c : Int, 0 ≤ (if c < 0 then -c else c) % 2147483587 ∧ (if c < 0 then -c else c) % 2147483587 < 2147483587 := fun c => ⟨Int.emod_nonneg _ (by decide), Int.emod_lt_of_pos _ (by decide)⟩
  walk_at "w"
  refine w_ifB (fun c => ?_) (fun c => ?_)
  · have hl : j < ns.length := by have := of_decide_eq_true c; rw [List.length_map] at this; omega
    walk_at "w"
    refine w_ixF (d := .int ns[j]) (by rw [List.getElem?_map, List.getElem?_eq_getElem hl]; rfl) ?_
    have k1 := key ns[j]
    walk_at "w"
    exact k _ (fin _)
  · have k1 := key 0
    walk_at "w"
    exact k _ (fin 0)
theorem s_mixed {p : D} {xs : List D} (hp : Pot p) (hl : xs.length ≤ 1000) (k : ∀ ys p2, ys.Perm xs → Pot p2 → Q (.own (.lst ys)) [.own p2, .un]) : W (F__law_mixed z) [.own p, .val (.lst xs)] Q E := by
  unfold F__law_mixed
  refine w_fn (by rfl) ?_
  walk_at "w"
  refine w_lc ?_
  walk_at "w"
  refine w_rng (by omega) ?_
  refine lc_list _ (List.range xs.length) (by rw [List.length_range]; omega) (fun dn acc ρ => ∃ p left, Pot p ∧ left.length + dn.length = xs.length ∧ (acc ++ left).Perm xs ∧ ρ = [.own p, .val (.lst xs), .own (.lst left), .un])
    ⟨p, xs, hp, by simp, by simp, rfl⟩ (fun dn x td acc ρ e h => ?_) fun acc ρ h => ?_
  · obtain ⟨p1, left, hp1, h1, h2, rfl⟩ := h
    have h3 := congrArg List.length e
    rw [List.length_range, List.length_append, List.length_cons] at h3
    refine ⟨_, rfl, ?_⟩
    walk_at "w"
    refine s_drawN hp1 (by omega) (by omega) fun x p2 hx hp2 => ?_
    walk_at "w"
    refine w_mutL (by rfl) (pop_nat (by omega) (List.getElem?_eq_getElem hx)) ?_
    refine ⟨p2, _, hp2, ?_, ?_, rfl⟩
    · have := len_erase (List.getElem?_eq_getElem hx)
      rw [List.length_append]
      show _ + (_ + 1) = _
      omega
    · show (acc ++ [left[x]] ++ left.eraseIdx x).Perm xs
      rw [List.append_assoc]
      exact ((perm_erase left x _ (List.getElem?_eq_getElem hx)).append_left acc).trans h2
  · obtain ⟨p1, left, hp1, h1, h2, rfl⟩ := h
    rw [List.length_range] at h1
    have : left = [] := List.eq_nil_of_length_eq_zero (by omega)
    subst this
    rw [List.append_nil] at h2
    exact k _ _ h2 hp1
end
end Fk
/-! Points, methods, expansions: what is true of them, without any program. -/
namespace Tm
open PySem PySem.Spec PyProof.Rows L2 Kv
theorem anc_in {rows : List Row2} {x y : Str} (h : y ∈ Anc rows x) : x ∈ fsts rows := by
  apply Classical.byContradiction
  intro z
  have z2 : x ∉ tabKeys (ancTab rows) := by rw [ancTab_keys]; exact z
  have : ∀ t : Tab, x ∉ tabKeys t → look t x = [] := by
    intro t
    induction t with
    | nil => intro _; rfl
    | cons p r ih =>
      intro hx
      obtain ⟨a, as⟩ := p
      have e := look_right (t1 := [(a, as)]) (t2 := r) (x := x) (fun q => hx (by rw [List.mem_singleton.mp q]; exact List.mem_cons_self ..))
      exact e.trans (ih fun q => hx (List.mem_cons_of_mem _ q))
  unfold Anc at h
  rw [this _ z2] at h
  cases h
theorem anc_tr {rows : List Row2} (v : Valid rows) : ∀ x y z, y ∈ Anc rows x → z ∈ Anc rows y → z ∈ Anc rows x := fun x y z h1 h2 => by
  obtain ⟨i, ss, e⟩ := mem_row (anc_in h1)
  exact anc_trans v i e h1 h2
theorem anc_self {rows : List Row2} (v : Valid rows) {x : Str} (h : x ∈ fsts rows) : x ∈ Anc rows x := by
  obtain ⟨i, ss, e⟩ := mem_row h
  exact (anc_row v e x).mpr (.inl rfl)
abbrev Pt := List Str
def le (rows : List Row2) (p q : Pt) : Bool := Kv.under (Anc rows) p q
def PtOk (rows : List Row2) (n : Nat) (p : Pt) : Prop := p.length = n ∧ ∀ x ∈ p, x ∈ fsts rows
def allP (rows : List Row2) (n : Nat) : List Pt := combos (List.replicate n (fsts rows))
section
variable {rows : List Row2} {n : Nat} {p q r : Pt}
theorem under_trans {up : Str → List Str} (tr : ∀ x y z, y ∈ up x → z ∈ up y → z ∈ up x) : ∀ {p q r : Pt}, p.length = q.length → q.length = r.length → Kv.under up p q = true → Kv.under up q r = true → Kv.under up p r = true
  | [], [], [], _, _, _, _ => rfl
  | [], _ :: _, _, h, _, _, _ => by simp at h
  | _ :: _, [], _, h, _, _, _ => by simp at h
  | [], [], _ :: _, _, h, _, _ => by simp at h
  | _ :: _, _ :: _, [], _, h, _, _ => by simp at h
  | x :: p, y :: q, z :: r, h1, h2, a, b => by
    unfold Kv.under at a b ⊢
    simp only [okZip, Bool.and_eq_true, decide_eq_true_eq] at a b ⊢
    exact ⟨tr x y z a.1 b.1, under_trans tr (p := p) (q := q) (r := r) (by simpa using h1) (by simpa using h2) a.2 b.2⟩
theorem le_refl (v : Valid rows) (h : PtOk rows n p) : le rows p p = true := under_refl (names := fsts rows) (fun x hx => anc_self v hx) p h.2
theorem le_trans (v : Valid rows) (hp : PtOk rows n p) (hq : PtOk rows n q) (hr : PtOk rows n r) (a : le rows p q = true) (b : le rows q r = true) : le rows p r = true :=
  under_trans (anc_tr v) (hp.1.trans hq.1.symm) (hq.1.trans hr.1.symm) a b
end
/-! ### over points of a list -/
structure Ord (L : Pt → Pt → Bool) (S : Pt → Prop) : Prop where
  refl : ∀ p, S p → L p p = true
  trans : ∀ p q r, S p → S q → S r → L p q = true → L q r = true → L p r = true
  anti : ∀ p q, S p → S q → L p q = true → L q p = true → p = q
structure Ls (L : Pt → Pt → Bool) (S : Pt → Prop) (ps : List Pt) : Prop where
  ok : ∀ p ∈ ps, S p
  pw : ps.Pairwise fun p q => L p q = false
section
variable {L : Pt → Pt → Bool} {S : Pt → Prop} {ps qs : List Pt}
theorem Ls.sub (l : Ls L S ps) (h : qs.Sublist ps) : Ls L S qs := ⟨fun p hp => l.ok p (h.subset hp), l.pw.sublist h⟩
theorem Ls.filter (l : Ls L S ps) (f : Pt → Bool) : Ls L S (ps.filter f) := l.sub List.filter_sublist
theorem Ls.nd (o : Ord L S) (l : Ls L S ps) : ps.Nodup := by
  rw [List.nodup_iff_pairwise_ne] <;> skip
  refine l.pw.imp_of_mem fun {a b} ha hb h z => ?_
  subst z
  rw [o.refl a (l.ok a ha)] at h
  cases h
def low (L : Pt → Pt → Bool) (ps : List Pt) : List Pt := ps.filter fun p => !(ps.any fun q => decide (q ≠ p) && L q p)
end
/-! ### bodies and expansions -/
inductive Stp where
  | say (w : Str)
  | nxt
deriving DecidableEq
abbrev Bd := List Stp
section
variable (L : Pt → Pt → Bool)
end
def one (ex : Pt → Bd) : List Pt → Bool
  | [] => false
  | q :: qs => qs.all fun x => decide (ex x = ex q)
section
variable {L : Pt → Pt → Bool} {S : Pt → Prop} {ps qs : List Pt} {bd ex : Pt → Bd}
/-! the different values -/
/-! sizes and words -/
end
end Tm
/-! Points, bodies, dicts of them, as trees: what operators give. -/
namespace Tm
open PySem PySem.Spec PyProof.Rows L2 Kv Pu
def kT (p : Pt) : List Key := p.map Sum.inr
def stD : Stp → D
  | .say w => .tup [.str "say", .str w]
  | .nxt => .tup [.str "next"]
def IsB (b : Bd) (d : D) : Prop := d = .tup (b.map stD) ∨ d = .ftup (b.map stD)
inductive Bds : List Bd → List D → Prop
  | nil : Bds [] []
  | cons {b : Bd} {d : D} {bs : List Bd} {ds : List D} : IsB b d → Bds bs ds → Bds (b :: bs) (d :: ds)
/-! ### data -/
theorem Bds.len {bs : List Bd} {ds : List D} (h : Bds bs ds) : bs.length = ds.length := by
  induction h with
  | nil => rfl
  | cons h t ih => exact congrArg (· + 1) ih
theorem Bds.snoc {bs : List Bd} {ds : List D} {b : Bd} {d : D} (h : Bds bs ds) (hb : IsB b d) : Bds (bs ++ [b]) (ds ++ [d]) := by
  induction h with
  | nil => exact .cons hb .nil
  | cons h t ih => exact .cons h ih
theorem Bds.map {ps : List Pt} {ex : Pt → Bd} {v : Pt → D} (h : ∀ p ∈ ps, IsB (ex p) (v p)) : Bds (ps.map ex) (ps.map v) := by
  induction ps with
  | nil => exact .nil
  | cons p ps ih => exact .cons (h p (List.mem_cons_self ..)) (ih fun q hq => h q (List.mem_cons_of_mem _ hq))
/-! ### == and in -/
/-! ### dicts -/
section
variable {ρ : En} {N B C : En → Prop} {T : R → En → Prop} {E : QE} {i : Nat}
end
/-! ### shown -/
end Tm
/-! The listed order: points by the positions of their classes. -/
namespace Tm
open PySem PySem.Spec PyProof.Rows L2 Kv Pu
def key (rows : List Row2) (p : Pt) : List Int := p.map fun x => (((fsts rows).idxOf x : Nat) : Int)
def lst (rows : List Row2) (n : Nat) (ps : List Pt) : List Pt := (allP rows n).filter fun p => decide (p ∈ ps)
end Tm
namespace Fk
open Tm
open PySem PySem.Spec PyProof.Rows L2 Kv Pu
abbrev nmS (x : Str) : Bool := nameV (.str x)
theorem len_sub : ∀ {xs ys : List Str}, xs.Nodup → (∀ x ∈ xs, x ∈ ys) → xs.length ≤ ys.length
  | [], ys, _, _ => Nat.zero_le _
  | x :: xs, ys, hn, h => by
    rw [List.nodup_cons] at hn
    have hx := h x (List.mem_cons_self ..)
    have := len_sub (xs := xs) (ys := ys.erase x) hn.2 fun y hy => (List.mem_erase_of_ne (fun e : y = x => hn.1 (by rw [← e]; exact hy))).mpr (h y (List.mem_cons_of_mem _ hy))
    rw [List.length_erase_of_mem hx] at this
    have := List.length_pos_of_mem hx
    rw [List.length_cons]
    omega
theorem valid_row {rows : List Row2} (v : Valid rows) (l : rows.length ≤ 20) {r : Row2} (h : r ∈ rows) : nmS r.1 = true ∧ (∀ s ∈ r.2, nmS s = true) ∧ r.2.length ≤ 20 := by
  obtain ⟨i, hi, e⟩ := List.getElem_of_mem h
  obtain ⟨n, ss⟩ := r
  obtain ⟨h1, h2, h3, h4⟩ := v i n ss (by rw [List.getElem?_eq_getElem hi, e])
  refine ⟨h1, fun s hs => ?_, ?_⟩
  · have := h4 s hs
    unfold fsts at this
    obtain ⟨q, hq, rfl⟩ := List.mem_map.mp this
    obtain ⟨j, hj, ej⟩ := List.getElem_of_mem (List.mem_of_mem_take hq)
    obtain ⟨m, ts⟩ := q
    exact (v j m ts (by rw [List.getElem?_eq_getElem hj, ej])).1
  · have := len_sub h3 h4
    unfold fsts at this
    rw [List.length_map, List.length_take] at this
    show ss.length ≤ 20
    omega
def rowP (r : Row2) : PyData := .tuple [.str r.1, .tuple (r.2.map PyData.str)]
def rowsP (rows : List Row2) : PyData := .list (rows.map rowP)
theorem toPy_row (r : Row2) : toPy (rowD r) = some (rowP r) := by
  unfold rowD rowP
  simp only [toPy, toPys, toPys_strs, Option.map_some]
theorem toPy_rows (rows : List Row2) : toPy (.lst (rows.map rowD)) = some (rowsP rows) := by
  unfold rowsP
  simp only [toPy, toPys_map rowD rowP rows fun r _ => toPy_row r, Option.map_some]
theorem lay_map {α : Type} (g : α → PyData) (m : Nat) : ∀ xs : List α, (∀ x ∈ xs, (g x).canLay0 = true ∧ (g x).depth ≤ m) → PyData.canLayAll0 (xs.map g) = true ∧ PyData.depthAll (xs.map g) ≤ m
  | [], _ => ⟨by simp [PyData.canLayAll0], by simp [PyData.depthAll]⟩
  | x :: xs, h => by
    have ih := lay_map g m xs fun y hy => h y (List.mem_cons_of_mem _ hy)
    have h1 := h x (List.mem_cons_self ..)
    rw [List.map_cons]
    refine ⟨by simp [PyData.canLayAll0, h1.1, ih.1], ?_⟩
    simp only [PyData.depthAll]
    exact Nat.max_le.mpr ⟨h1.2, ih.2⟩
theorem nm_ok {x : Str} (h : nmS x = true) : PyData.strOk x = true := sm_ok (name_sm h)
theorem lay_row {r : Row2} (h1 : nmS r.1 = true) (h2 : ∀ s ∈ r.2, nmS s = true) : (rowP r).canLay0 = true ∧ (rowP r).depth ≤ 2 := by
  obtain ⟨a, b⟩ := canLay_strs r.2 fun x hx => nm_ok (h2 x hx)
  unfold rowP
  refine ⟨by simp [PyData.canLay0, PyData.canLayAll0, nm_ok h1, a], ?_⟩
  simp [PyData.depth, PyData.depthAll, b]
theorem shaped_rows {rows : List Row2} (v : Valid rows) (l : rows.length ≤ 20) : SeqAt.shaped (rowsP rows) = true := by
  obtain ⟨a, b⟩ := lay_map rowP 2 rows fun r hr => let ⟨h1, h2, _⟩ := valid_row v l hr; lay_row h1 h2
  unfold SeqAt.shaped rowsP
  rw [Bool.and_eq_true]
  refine ⟨by simp only [PyData.canLay0]; exact a, decide_eq_true ?_⟩
  simp only [PyData.depth]
  omega
theorem eqA_rows {rows : List Row2} (v : Valid rows) (l : rows.length ≤ 20) : eqA (.lst (rows.map rowD)) (.lst (rows.map rowD)) = some true := by
  have s := shaped_rows v l
  unfold eqA eqS eqP
  rw [toPy_rows]
  simp only [flV, Option.orElse, s, Bool.and_self, if_true]
  rw [PySem.SeqAt.eqv_refl _ (SeqAt.canLay_of_shaped s)]
theorem eq_rows {rows : List Row2} (v : Valid rows) (l : rows.length ≤ 20) : opEq (.lst (rows.map rowD)) (.lst (rows.map rowD)) = some (.bl true) := by
  unfold opEq; rw [eqA_rows v l]; rfl
theorem nb {b : Bool} (h : (!b) = true) : b = false := by cases b <;> simp_all
theorem nb2 {b : Bool} (h : (!b) = false) : b = true := by cases b <;> simp_all
theorem fit_row {r : Row2} (h1 : nmS r.1 = true) (h2 : ∀ s ∈ r.2, nmS s = true) (l : r.2.length ≤ 20) : Fit 190 2 (rowP r) := by
  have a : Fit 8 0 (.str r.1) := (name_sm h1).fit
  have b : Fit (9 * r.2.length) 1 (.tuple (r.2.map PyData.str)) := Fit.tup (fitAll_of PyData.str r.2 fun x hx => (name_sm (h2 x hx)).fit)
  exact (Fit.tup (FitAll.cons (a.mono (Nat.le_refl _) (Nat.zero_le _)) (FitAll.cons b fitAll_nil))).mono (by omega) (Nat.le_refl _)
theorem fit_rows {rows : List Row2} (v : Valid rows) (l : rows.length ≤ 20) : Fit 3820 3 (rowsP rows) := by
  have := Fit.lst (fitAll_of (n := 190) (m := 2) rowP rows fun r hr => let ⟨h1, h2, h3⟩ := valid_row v l hr; fit_row h1 h2 h3)
  exact this.mono (by omega) (Nat.le_refl _)
def showT (rows : List Row2) : Str := (rowsP rows).shown
theorem showT_len {rows : List Row2} (v : Valid rows) (l : rows.length ≤ 20) : (showT rows).length ≤ 1000000 := by
  have f := fit_rows v l
  have := PyData.shown_le 250 (by decide) (rowsP rows) f.2.1
  have h2 := f.2.2.1
  show (rowsP rows).shown.length ≤ _
  omega
theorem sh_rows {rows : List Row2} (v : Valid rows) (l : rows.length ≤ 20) : shD (.lst (rows.map rowD)) = some (.str (showT rows)) := sh_of (toPy_rows rows) (fit_rows v l) (by decide) (by decide)
def reprT (rows : List Row2) : Str := (("Hierarchy(" : Str) ++ showT rows) ++ (")" : Str)
theorem emp_app (x : Str) : Str.empty ++ x = x := TL.ext_tl (by rw [TL.tl_append]; rfl)
theorem h_len : ("Hierarchy(" : Str).length = 10 := by decide +kernel
theorem p_len : (")" : Str).length = 1 := by decide +kernel
theorem app_len (a b : Str) : (a ++ b).length = a.length + b.length := by rw [TL.len_tl, TL.len_tl a, TL.len_tl b, TL.tl_append, List.length_append]
section
variable {z : Zf} {E : QE} {Q : R → En → Prop}
theorem s_has {rows : List Row2} {v : D} (hv : tyS v ≠ none) (k : Q (.val (.bl (hasN (fsts rows) v))) [.un, .un]) : W (F_Hierarchy_has_class z) [.val (hierD z.c_Hierarchy rows), .val v] Q E := by
  unfold F_Hierarchy_has_class
  refine w_fn (by rfl) ?_
  walk_at "w"
  refine w_lft (isi_str v hv) ?_
  walk_at "w"
  cases v <;> first | exact absurd rfl hv | skip
  case str x =>
    walk_at "w"
    refine w_ifB (fun c => ?_) fun c => (nomatch c)
    walk_at "w"
    refine w_lft (fld_places _ _) ?_
    refine w_lft (in_dic (idx_len rows)) ?_
    exact k
  all_goals
    refine w_ifB (fun c => (nomatch c)) fun c => ?_
    walk_at "w"
    exact k
theorem s_req {rows : List Row2} {v : D} (hv : tyS v ≠ none) (k : hasN (fsts rows) v = true → Q (.val .non) [.un, .un]) (k2 : hasN (fsts rows) v = false → E (.ref z.c_NotFound) ["value"] [v] [.un, .un]) : W (F_Hierarchy_require_class z) [.val (hierD z.c_Hierarchy rows), .val v] Q E := by
  unfold F_Hierarchy_require_class
  refine w_fn (by rfl) ?_
  walk_at "w"
  refine ⟨hier_obj (by decide +kernel), ?_⟩
  walk_at "w"
  refine s_has hv ?_
  walk_at "w"
  refine s_ifB (fun c => ?_) fun c => ?_
  · walk_at "w"
    exact k2 (by simpa using c)
  · walk_at "w"
    exact k (by simpa using c)
theorem keys_strs (ns : List Str) : ((ns.map (Sum.inr : Str → Key)).map keyD) = ns.map D.str := by rw [List.map_map]; rfl
theorem s_nms {rows : List Row2} (k : Q (.own (.lst ((fsts rows).map D.str))) [.un]) : W (F_Hierarchy_names z) [.val (hierD z.c_Hierarchy rows)] Q E := by
  unfold F_Hierarchy_names
  refine w_fn (by rfl) ?_
  walk_at "w"
  refine w_lft (fld_places _ _) ?_
  refine w_lft (a := .own (.lst (((fsts rows).map (Sum.inr : Str → Key)).map keyD))) (by rfl) ?_
  rw [keys_strs]
  exact k
theorem s_anc {rows : List Row2} {x : Str} (l : rows.length ≤ 20) (hx : x ∈ fsts rows) (k : Q (.own (.lst (((fsts rows).filter fun o => decide (o ∈ Anc rows x)).map D.str))) [.un, .un]) : W (F_Hierarchy_ancestors z) [.val (hierD z.c_Hierarchy rows), .val (.str x)] Q E := by
  unfold F_Hierarchy_ancestors
  have hfl := fsts_len rows
  refine w_fn (by rfl) ?_
  walk_at "w"
  refine ⟨hier_obj (by decide +kernel), ?_⟩
  walk_at "w"
  refine s_req (by intro h; cases h) (fun _ => ?_) fun h => absurd h (by show ¬ decide _ = false; simp [hx])
  walk_at "w"
  refine w_lc ?_
  walk_at "w"
  refine ⟨hier_obj (by decide +kernel), ?_⟩
  walk_at "w"
  refine s_nms ?_
  walk_at "w"
  refine lc_filter D.str (fun o => decide (o ∈ Anc rows x)) D.str (fsts rows) (by omega) (fun o ho => ⟨_, rfl, ?_⟩) ?_
  · walk_at "w"
    refine w_lft (fld_above _ _) ?_
    walk_at "w"
    refine w_lft (above_at hx) ?_
    refine w_lft (in_flag o _) ?_
    walk_at "w"
    by_cases c : o ∈ Anc rows x
    · refine pIteB (fun _ => ?_) fun h => absurd h (by simp [c])
      walk_at "w"
      exact ⟨by simp [c], rfl⟩
    · refine pIteB (fun h => absurd h (by simp [c])) fun _ => ?_
      exact ⟨by simp [c], rfl⟩
  · walk_at "w"
    exact k
theorem s_repr {rows : List Row2} (v : Valid rows) (l : rows.length ≤ 20) (k : Q (.val (.str (reprT rows))) [.un]) : W (F_Hierarchy_repr z) [.val (hierD z.c_Hierarchy rows)] Q E := by
  unfold F_Hierarchy_repr
  have lt := showT_len v l
  refine w_fn (by rfl) ?_
  walk_at "w"
  refine w_jn1 ?_
  walk_at "w"
  rw [emp_app]
  refine w_jn1 ?_
  walk_at "w"
  refine w_lft (fld_rows _ _) ?_
  walk_at "w"
  refine w_lft (show shR (.lst (rows.map rowD)) = _ from sh_rows v l) ?_
  refine ⟨_, rfl, ?_, ?_⟩
  · rw [app_len, sizeLine_eq, h_len]; omega
  refine w_jn1 ?_
  walk_at "w"
  refine ⟨?_, ?_⟩
  · rw [app_len, app_len, sizeLine_eq, h_len, p_len]; omega
  refine w_jn0 ?_
  exact k
theorem s_eq {rows : List Row2} (v : Valid rows) (l : rows.length ≤ 20) (k : Q (.val (.bl true)) [.un, .un]) : W (F_Hierarchy_eq z) [.val (hierD z.c_Hierarchy rows), .val (hierD z.c_Hierarchy rows)] Q E := by
  unfold F_Hierarchy_eq
  refine w_fn (by rfl) ?_
  walk_at "w"
  refine w_lft (show isO z.c_Hierarchy (hierD z.c_Hierarchy rows) = some (.bl true) from if_pos rfl) ?_
  walk_at "w"
  refine w_ifB (fun _ => ?_) fun c => (nomatch c)
  walk_at "w"
  refine w_lft (fld_rows _ _) ?_
  walk_at "w"
  refine w_lft (fld_rows _ _) ?_
  refine w_lft (eq_rows v l) ?_
  exact k
theorem w_eqH {ρ : En} {fa fb : P D} {g : R → Option D} {d : D} {Q : D → En → Prop} {rows : List Row2} (v : Valid rows) (l : rows.length ≤ 20) (hg : g (.val (.bl true)) = some d)
    (h : W fa ρ (fun d1 ρ1 => W fb ρ1 (fun d2 ρ2 => d1 = hierD z.c_Hierarchy rows ∧ d2 = hierD z.c_Hierarchy rows ∧ Q d ρ2) E) E) : W (eqO z.c_Hierarchy (F_Hierarchy_eq z) g fa fb) ρ Q E :=
  w_eqO (h.mono (fun d1 ρ1 h => h.mono (fun d2 ρ2 h => by
    obtain ⟨rfl, rfl, q⟩ := h
    exact ⟨hier_obj (by decide +kernel), hier_obj (by decide +kernel), s_eq v l ⟨_, hg, q⟩⟩) (fun _ _ _ _ h => h)) (fun _ _ _ _ h => h))
theorem w_repH {ρ : En} {f : P D} {Q : D → En → Prop} {rows : List Row2} (v : Valid rows) (l : rows.length ≤ 20) (h : W f ρ (fun d ρ1 => d = hierD z.c_Hierarchy rows ∧ Q (.str (reprT rows)) ρ1) E) : W (shO z.c_Hierarchy "__repr__" (F_Hierarchy_repr z) f) ρ Q E :=
  w_shO (h.mono (fun d ρ1 h => by
    obtain ⟨rfl, q⟩ := h
    exact ⟨hier_obj (by decide +kernel), s_repr v l ⟨_, rfl, q⟩⟩) (fun _ _ _ _ h => h))
end
end Fk
namespace Fk
open Tm
open PySem PySem.Spec PyProof.Rows L2 Kv Pu
/-! ### what is drawn, and judged -/
def VlOk (v : D) : Prop := (∃ ss : List Str, v = .tup (ss.map D.str) ∧ ss.length ≤ 20 ∧ ∀ s ∈ ss, Sm 9 s) ∨ v = .tup [.non] ∨ v = .tup [.lst []] ∨ (isTp v = false ∧ tyS v ≠ none)
theorem VlOk.ty {v : D} (h : VlOk v) : tyS v ≠ none := by
  rcases h with ⟨ss, rfl, _⟩ | rfl | rfl | h
  · intro h; cases h
  · intro h; cases h
  · intro h; cases h
  · exact h.2
theorem isTp_of {v : D} (h : isTp v = false) : tupOf v = none := by
  cases v <;> first | rfl | cases h
theorem VlOk.tup {v : D} (h : VlOk v) : ∀ es, tupOf v = some es → es.length ≤ 900 ∧ ∀ e ∈ es, tyS e ≠ none := fun es e => by
  rcases h with ⟨ss, rfl, l, _⟩ | rfl | rfl | h
  · cases e
    refine ⟨by rw [List.length_map]; omega, fun e he => ?_⟩
    obtain ⟨x, _, rfl⟩ := List.mem_map.mp he
    intro h; cases h
  · cases e
    exact ⟨by decide, fun e he => by rw [List.mem_singleton.mp he]; intro h; cases h⟩
  · cases e
    exact ⟨by decide, fun e he => by rw [List.mem_singleton.mp he]; intro h; cases h⟩
  · rw [isTp_of h.1] at e; cases e
def LbOk (l : Str) : Prop := l = "Side" ∨ l = "ninechars" ∨ nmS l = true
def badV (l : Str) (dn : List Str) (v : D) : Option Str := if l = "Side" ∨ l = "ninechars" then some "name" else if Lx.areT dn v = false then some "superclasses" else none
def firstBad : List (Str × D) → List Str → Nat → Option (Str × Nat)
  | [], _, _ => none
  | (l, v) :: r, dn, i => match badV l dn v with
    | some p => some (p, i)
    | none => firstBad r (dn ++ [l]) (i + 1)
def rowT (p : Str × D) : D := .tup [.str p.1, p.2]
theorem duo_zip : ∀ {ls : List Str} {vs : List D}, ls.length = vs.length → duo (ls.map D.str) vs = (ls.zip vs).map rowT
  | [], _, _ => rfl
  | _ :: _, [], h => nomatch h
  | l :: ls, v :: vs, h => by
    show D.tup [.str l, v] :: duo (ls.map D.str) vs = _
    rw [duo_zip (Nat.succ.inj h)]
    rfl
theorem nm_side : nmS "Side" = false := by decide +kernel
theorem nm_nine : nmS "ninechars" = false := by decide +kernel
theorem LbOk.bad {l : Str} (h : LbOk l) : (l = "Side" ∨ l = "ninechars") ↔ nmS l = false := by
  constructor
  · rintro (rfl | rfl)
    · exact nm_side
    · exact nm_nine
  · intro e
    rcases h with h | h | h
    · exact .inl h
    · exact .inr h
    · rw [h] at e; cases e
theorem LbOk.len {l : Str} (h : LbOk l) : l.length ≤ 9 := by
  rcases h with rfl | rfl | h
  · decide +kernel
  · decide +kernel
  · exact Nat.le_trans (name_sm h).1 (by decide)
theorem okR_rowT {l : Str} {v : D} (hl : LbOk l) (hv : VlOk v) : Lx.OkR (rowT (l, v)) := by
  refine ⟨(by intro h; cases h), fun a b e => ?_⟩
  cases e
  exact ⟨(by intro h; cases h), (fun x e => by cases e; exact Nat.le_trans hl.len (by decide)), hv.ty, hv.tup⟩
theorem probT_row {l : Str} {v : D} {dn : List Str} (hl : LbOk l) (hn : l ∉ dn) : Lx.probT dn (rowT (l, v)) = badV l dn v := by
  show (if Lx.nameT (.str l) = false then some ("name" : Str) else if Lx.inT dn (.str l) = true then some ("duplicate" : Str) else if Lx.areT dn v = false then some ("superclasses" : Str) else none) = _
  unfold badV
  have e1 : Lx.nameT (.str l) = nmS l := rfl
  have e2 : Lx.inT dn (.str l) = false := decide_eq_false hn
  rw [e1, e2]
  by_cases c : nmS l = false
  · rw [if_pos c, if_pos (hl.bad.mpr c)]
  · rw [if_neg c, if_neg fun z => c (hl.bad.mp z), if_neg (by decide)]
theorem are_ok {v : D} {dn : List Str} (hv : VlOk v) (h : Lx.areT dn v = true) : ∃ ss : List Str, v = .tup (ss.map D.str) ∧ ss.Nodup ∧ ∀ s ∈ ss, s ∈ dn := by
  rcases hv with ⟨ss, rfl, _⟩ | rfl | rfl | hv
  · rw [Lx.areT_strs, Bool.and_eq_true, decide_eq_true_eq, List.all_eq_true] at h
    exact ⟨ss, rfl, h.2, fun s hs => of_decide_eq_true (h.1 s hs)⟩
  · cases h
  · cases h
  · unfold Lx.areT at h
    rw [isTp_of hv.1] at h
    cases h
theorem judge_first : ∀ (ps : List (Str × D)) (acc : List Row2), Valid acc → (∀ p ∈ ps, LbOk p.1 ∧ VlOk p.2) → (fsts acc ++ ps.map (·.1)).Nodup →
    (∀ p i, firstBad ps (fsts acc) acc.length = some (p, i) → Lx.judge acc (ps.map rowT) = some (.error (p, i))) ∧
    (firstBad ps (fsts acc) acc.length = none → ∃ rows, Lx.judge acc (ps.map rowT) = some (.ok (acc ++ rows)) ∧ ps.map rowT = rows.map rowD ∧ Valid (acc ++ rows) ∧ rows.length = ps.length ∧ fsts rows = ps.map (·.1))
  | [], acc, v, _, _ => ⟨fun p i e => (nomatch e), fun _ => ⟨[], by rw [List.append_nil]; rfl, rfl, by rw [List.append_nil]; exact v, rfl, rfl⟩⟩
  | (l, v) :: ps, acc, va, hp, nd => by
    have h0 := hp (l, v) (List.mem_cons_self ..)
    have hn : l ∉ fsts acc := fun m => (List.nodup_append.mp nd).2.2 l m l (by simp) rfl
    have ej : Lx.judge acc (((l, v) :: ps).map rowT) = match badV l (fsts acc) v with
      | some p => some (.error (p, acc.length))
      | none => match Pu.rowOf (rowT (l, v)) with
        | some r => Lx.judge (acc ++ [r]) (ps.map rowT)
        | none => none := by
      rw [List.map_cons]
      conv => lhs; unfold Lx.judge
      rw [if_pos (okR_rowT h0.1 h0.2), probT_row h0.1 hn]
      all_goals rfl
    have ef : firstBad ((l, v) :: ps) (fsts acc) acc.length = match badV l (fsts acc) v with
      | some p => some (p, acc.length)
      | none => firstBad ps (fsts acc ++ [l]) (acc.length + 1) := rfl
    rw [ej, ef]
    cases eb : badV l (fsts acc) v with
    | some p => exact ⟨fun q i e => by cases e; rfl, fun e => nomatch e⟩
    | none =>
      have hb : nmS l = true ∧ Lx.areT (fsts acc) v = true := by
        unfold badV at eb
        split at eb
        · cases eb
        · rename_i c
          split at eb
          · cases eb
          · rename_i c2
            exact ⟨by cases z : nmS l with
              | true => rfl
              | false => exact absurd (h0.1.bad.mpr z) c, by cases z : Lx.areT (fsts acc) v with
              | true => rfl
              | false => exact absurd z c2⟩
      obtain ⟨ss, rfl, n1, n2⟩ := are_ok h0.2 hb.2
      have er : Pu.rowOf (rowT (l, .tup (ss.map D.str))) = some (l, ss) := Lx.rowOf_row (l, ss)
      simp only [er]
      have va2 : Valid (acc ++ [(l, ss)]) := va.snoc hb.1 hn n1 n2
      have nd2 : (fsts (acc ++ [(l, ss)]) ++ ps.map (·.1)).Nodup := by rw [fsts_snoc, List.append_assoc]; exact nd
      have ih := judge_first ps (acc ++ [(l, ss)]) va2 (fun p h => hp p (List.mem_cons_of_mem _ h)) nd2
      rw [fsts_snoc, List.length_append, List.length_singleton] at ih
      refine ⟨ih.1, fun e => ?_⟩
      obtain ⟨rows, e1, e2, e3, e4, e5⟩ := ih.2 e
      refine ⟨(l, ss) :: rows, ?_, ?_, ?_, ?_, ?_⟩
      · rw [e1, List.append_assoc]; rfl
      · rw [List.map_cons, List.map_cons, e2]; rfl
      · rw [List.append_assoc] at e3; exact e3
      · rw [List.length_cons, List.length_cons, e4]
      · show l :: fsts rows = _
        rw [e5]
        rfl
/-! ### the labels of a way -/
def labs : Nat → List Str
  | 0 => ["top", "side", "edge", "low"]
  | 1 => ["low", "edge", "side", "top"]
  | 2 => ["side", "top", "low"]
  | 3 => ["top"]
  | 4 => []
  | 5 => ["top", "Side", "low"]
  | _ => ["ninechars", "low"]
theorem labs_ok : ∀ w : Nat, w < 7 → ((labs w).length ≤ 4 ∧ (labs w).Nodup ∧ ∀ l ∈ labs w, LbOk l ∧ Sm 9 l) := by
  have key : ∀ w : Nat, w < 7 → ((labs w).length ≤ 4 ∧ (labs w).Nodup ∧ ∀ l ∈ labs w, (l = "Side" ∨ l = "ninechars" ∨ nmS l = true) ∧ l.length ≤ 9 ∧ ∀ c ∈ l.cps.toList, c < 128) := by decide +kernel
  intro w hw
  obtain ⟨a, b, c⟩ := key w hw
  exact ⟨a, b, fun l hl => ⟨(c l hl).1, (c l hl).2⟩⟩
section
variable {z : Zf} {E : QE} {Q : R → En → Prop}
theorem addL {xs ys : List D} (h : xs.length + ys.length ≤ 1000) : opAdd (.lst xs) (.lst ys) = some (.lst (xs ++ ys)) := by
  show (if xs.length + ys.length ≤ sizeLine then some (D.lst (xs ++ ys)) else none) = _
  rw [if_pos (le_line (by omega))]
theorem addTX {xs ys : List D} (h0 : ys.isEmpty = false) (h : xs.length + ys.length ≤ 1000) : opAddX (.tup xs) (.tup ys) = some (.tup (xs ++ ys)) := by
  cases xs with
  | nil =>
    have e : opAdd (.tup []) (.tup ys) = none := rfl
    unfold opAddX
    rw [e]
    show (if 0 + ys.length ≤ sizeLine then some (if true = true then D.tup ys else _) else none) = _
    rw [if_pos (le_line (by simp at h; omega))]
    rfl
  | cons x xs =>
    refine opAddX_of ?_
    show (if false = false ∧ (x :: xs).length + ys.length ≤ sizeLine then some (D.tup (x :: xs ++ ys)) else none) = _
    rw [if_pos ⟨rfl, le_line (by omega)⟩]
theorem s_labels {w : Nat} (hw : w < 7) (k : Q (.val (.lst ((labs w).map D.str))) [.un]) : W (F__law_labels z) [.val (.int w)] Q E := by
  unfold F__law_labels
  refine w_fn (by rfl) ?_
  walk_at "w"
  refine w_lft (a := .lst [.lst [.str "top", .str "side", .str "edge", .str "low"], .lst [.str "low", .str "edge", .str "side", .str "top"], .lst [.str "side", .str "top", .str "low"], .lst [.str "top"], .lst [], .lst [.str "top", .str "Side", .str "low"], .lst [.str "ninechars", .str "low"]]) ?_ ?_
  · exact addL (by decide)
  · walk_at "w"
    have key : ∀ w : Nat, w < 7 → ([.lst [.str "top", .str "side", .str "edge", .str "low"], .lst [.str "low", .str "edge", .str "side", .str "top"], .lst [.str "side", .str "top", .str "low"], .lst [.str "top"], .lst [], .lst [.str "top", .str "Side", .str "low"], .lst [.str "ninechars", .str "low"]] : List D)[w]? = some (.lst ((labs w).map D.str)) := fun w h => by
      match w, h with
      | 0, _ => rfl
      | 1, _ => rfl
      | 2, _ => rfl
      | 3, _ => rfl
      | 4, _ => rfl
      | 5, _ => rfl
      | 6, _ => rfl
    refine w_ixL (key w hw) ?_
    walk_at "w"
    exact k
theorem notTp {d : D} (h : isTp d = false) (t : tyS d ≠ none) : VlOk d := .inr (.inr (.inr ⟨h, t⟩))
theorem s_value {p : D} {ls : List Str} {l : Str} (hp : Pot p) (hl : ls.length ≤ 4) (h1 : ∀ x ∈ ls, Sm 9 x) (h2 : Sm 9 l) (k : ∀ v p2, VlOk v → Pot p2 → Q (.val v) [.own p2, .un, .un]) : W (F__law_value z) [.own p, .val (.lst (ls.map D.str)), .val (.str l)] Q E := by
  unfold F__law_value
  refine w_fn (by rfl) ?_
  walk_at "w"
  refine s_mixed hp (by rw [List.length_map]; omega) fun ys p2 pm hp2 => ?_
  obtain ⟨zs, rfl, pm2⟩ := map_perm pm
  walk_at "w"
  refine s_drawN (n := 4) hp2 (by omega) (by omega) fun x p3 hx hp3 => ?_
  walk_at "w"
  rw [cut_takeD, ← List.map_take]
  have hz : (zs.take x).length ≤ 3 := by rw [List.length_take]; omega
  have hs : ∀ s ∈ zs.take x, Sm 9 s := fun s h => h1 s (pm2.mem_iff.mp (List.mem_of_mem_take h))
  generalize zs.take x = ss at hz hs
  refine s_drawN (n := 6) hp3 (by omega) (by omega) fun y p4 hy hp4 => ?_
  walk_at "w"
  refine s_ifB (fun _ => ?_) fun _ => ?_
  · walk_at "w"
    exact k _ _ (.inl ⟨ss, rfl, by omega, hs⟩) hp4
  · walk_at "w"
    have m1 : ss.map D.str ++ [.str "abc"] = (ss ++ [("abc" : Str)]).map D.str := by rw [List.map_append]; rfl
    have m2 : ss.map D.str ++ ss.map D.str = (ss ++ ss).map D.str := by rw [List.map_append]
    refine w_lft (addTX rfl (by rw [List.length_map]; simp; omega)) ?_
    walk_at "w"
    refine w_lft (opAddX_of (addL (by rw [List.length_map]; omega))) ?_
    walk_at "w"
    refine s_drawN (n := 10) hp4 (by omega) (by omega) fun j p5 hj hp5 => ?_
    walk_at "w"
    rw [m1, m2]
    have abc : Sm 9 "abc" := ⟨by decide +kernel, by decide +kernel⟩
    have emp : Sm 9 "" := ⟨by decide +kernel, by decide +kernel⟩
    match j, hj with
    | 0, _ => exact w_ixL (n := 0) rfl (k _ _ (notTp rfl (by intro h; cases h)) hp5)
    | 1, _ => exact w_ixL (n := 1) rfl (k _ _ (notTp rfl (by intro h; cases h)) hp5)
    | 2, _ => exact w_ixL (n := 2) rfl (k _ _ (notTp rfl (by intro h; cases h)) hp5)
    | 3, _ => exact w_ixL (n := 3) rfl (k _ _ (.inl ⟨[l], rfl, by simp, fun s h => by rw [List.mem_singleton.mp h]; exact h2⟩) hp5)
    | 4, _ => exact w_ixL (n := 4) rfl (k _ _ (.inl ⟨_, rfl, by simp; omega, fun s h => by
        rcases List.mem_append.mp h with h | h
        · exact hs s h
        · rw [List.mem_singleton.mp h]; exact abc⟩) hp5)
    | 5, _ => exact w_ixL (n := 5) rfl (k _ _ (.inl ⟨_, rfl, by simp; omega, fun s h => by
        rcases List.mem_append.mp h with h | h
        · exact hs s h
        · exact hs s h⟩) hp5)
    | 6, _ => exact w_ixL (n := 6) rfl (k _ _ (.inr (.inl rfl)) hp5)
    | 7, _ => exact w_ixL (n := 7) rfl (k _ _ (.inr (.inr (.inl rfl))) hp5)
    | 8, _ => exact w_ixL (n := 8) rfl (k _ _ (notTp rfl (by intro h; cases h)) hp5)
    | 9, _ => exact w_ixL (n := 9) rfl (k _ _ (notTp rfl (by intro h; cases h)) hp5)
end
end Fk
namespace Fk
open Tm
open PySem PySem.Spec PyProof.Rows L2 Kv Pu
theorem slice_in {a b c : Str} {i : Nat} (ha : a.length = i) (hc : c.length = 1) : Txt.slice ((a ++ b) ++ c) (some (i : Int)) (some (-1)) = b := by
  have la : a.cps.toList.length = i := by rw [← Kv.len_list]; exact ha
  have lc : c.cps.toList.length = 1 := by rw [← Kv.len_list]; exact hc
  have e : ((a ++ b) ++ c).cps.toList = (a.cps.toList ++ b.cps.toList) ++ c.cps.toList := by
    show TL.tl _ = (TL.tl a ++ TL.tl b) ++ TL.tl c
    rw [TL.tl_append, TL.tl_append]
  have hl : ((a ++ b) ++ c).length = i + b.cps.toList.length + 1 := by rw [Kv.len_list, e, List.length_append, List.length_append, la, lc]
  have e1 : Txt.slice ((a ++ b) ++ c) (some (i : Int)) (some (-1)) = Txt.slice ((a ++ b) ++ c) (some (i : Int)) (some ((i + b.cps.toList.length : Nat) : Int)) := by
    unfold Txt.slice
    rw [hl, L2.sidx, L2.sidx]
    have z1 : HT.sIx (i + b.cps.toList.length + 1) (i + b.cps.toList.length + 1) (some (-1)) = i + b.cps.toList.length := by
      show (if (-1 : Int) < 0 then (-1 + ((i + b.cps.toList.length + 1 : Nat) : Int)).toNat else min (-1 : Int).toNat (i + b.cps.toList.length + 1)) = _
      rw [if_pos (by decide)]
      omega
    have z2 : HT.sIx (i + b.cps.toList.length + 1) (i + b.cps.toList.length + 1) (some ((i + b.cps.toList.length : Nat) : Int)) = i + b.cps.toList.length := by
      rw [HT.sIx_nat]; omega
    rw [z1, z2]
  rw [e1]
  have e2 := beq_iff_eq.mp (PyProof.Rows.slice_closesL (x := (a ++ b) ++ c) (i := (i : Int)) (j := ((i + b.cps.toList.length : Nat) : Int)) (by omega) (by omega) (by rw [hl]; omega))
  rw [e2]
  refine TL.ext_tl ?_
  show ((((a ++ b) ++ c).cps.toList.drop (i : Int).toNat).take (((i + b.cps.toList.length : Nat) : Int) - (i : Int)).toNat) = b.cps.toList
  rw [e, Int.toNat_natCast, List.append_assoc, ← la, List.drop_left]
  rw [show (((a.cps.toList.length + b.cps.toList.length : Nat) : Int) - (a.cps.toList.length : Int)).toNat = b.cps.toList.length by omega, List.take_left]
theorem eqA_self {x : D} {p : PyData} (hf : flV x = none) (h : toPy x = some p) (s : SeqAt.shaped p = true) : eqA x x = some true := by
  unfold eqA eqS eqP
  rw [h]
  simp only [hf, Option.orElse, s, Bool.and_self, if_true]
  rw [PySem.SeqAt.eqv_refl _ (SeqAt.canLay_of_shaped s)]
theorem lol_py {β : Type} (f : β → List Str) (xs : List β) : toPy (.lst (xs.map fun x => .lst ((f x).map D.str))) = some (.list (xs.map fun x => .list ((f x).map PyData.str))) := by
  simp only [toPy, toPys_map (fun x => D.lst ((f x).map D.str)) (fun x => PyData.list ((f x).map PyData.str)) xs fun x _ => by simp only [toPy, toPys_strs, Option.map_some], Option.map_some]
theorem lol_shaped {β : Type} (f : β → List Str) (xs : List β) (h : ∀ x ∈ xs, ∀ y ∈ f x, PyData.strOk y = true) : SeqAt.shaped (.list (xs.map fun x => .list ((f x).map PyData.str))) = true := by
  obtain ⟨a, b⟩ := lay_map (fun x => PyData.list ((f x).map PyData.str)) 1 xs fun x hx => by
    obtain ⟨p, q⟩ := canLay_strs (f x) (h x hx)
    exact ⟨by simpa [PyData.canLay0] using p, by simp only [PyData.depth, q]; omega⟩
  unfold SeqAt.shaped
  rw [Bool.and_eq_true]
  refine ⟨by simp only [PyData.canLay0]; exact a, decide_eq_true ?_⟩
  simp only [PyData.depth]
  omega
theorem w_mkEL {ρ : En} {E : QE} {i : Nat} {C CI : Addr} {fe : P D} {Q : R → En → Prop} (e : ρ[i]? = some (.val (.opq C))) (h : W (Lx.mkE C CI fe) ρ Q E) : W (Lx.mkEL i C CI fe) ρ Q E :=
  w_bnd (w_rdV e (w_ifT (by show decide (C = C) = true; simp) h))
structure Jd (z : Zf) (ls : List Str) (vs : List D) (Q : R → Prop) (E : Value → List Str → List D → Prop) : Prop where
  er : ∀ p i, firstBad (ls.zip vs) [] 0 = some (p, i) → E (.ref z.c_InvalidHierarchy) ["position", "problem"] [.int (i : Nat), .str p]
  ok : firstBad (ls.zip vs) [] 0 = none → ∀ rows : List Row2, (ls.zip vs).map rowT = rows.map rowD → Valid rows → rows.length = ls.length → fsts rows = ls → rows.length ≤ 20 → Q (.val (hierD z.c_Hierarchy rows))
  mn : firstBad (ls.zip vs) [] 0 = none → ¬ ls.length ≤ 20 → E (.ref z.c_InvalidHierarchy) ["position", "problem"] [.int 20, .str "count"]
structure Lv (ls : List Str) (vs : List D) : Prop where
  len : ls.length = vs.length
  l30 : ls.length ≤ 30
  ok : ∀ p ∈ ls.zip vs, LbOk p.1 ∧ VlOk p.2
  nd : ls.Nodup
theorem Lv.fst {ls : List Str} {vs : List D} (h : Lv ls vs) : (ls.zip vs).map (·.1) = ls := by
  rw [List.map_fst_zip]; have := h.len; omega
section
variable {z : Zf} {E : QE} {Q : R → En → Prop}
theorem w_mkJ {ρ : En} {ls : List Str} {vs : List D} {fe : P D} (lv : Lv ls vs) (h : W fe ρ (fun d ρ' => seqD d = some (duo (ls.map D.str) vs) ∧ Jd z ls vs (fun r => Q r ρ') (fun c ns ds => E c ns ds ρ')) E) : W (Lx.mkE z.c_Hierarchy z.c_InvalidHierarchy fe) ρ Q E := by
  obtain ⟨j1, j2⟩ := judge_first (ls.zip vs) [] (fun i n ss h => by simp at h) lv.ok (by rw [lv.fst]; exact lv.nd)
  refine Lx.w_mkE (h.mono (fun d ρ' h => ?_) fun _ _ _ _ h => h)
  obtain ⟨e, j⟩ := h
  have l90 : ((ls.zip vs).map rowT).length ≤ 90 := by rw [List.length_map, List.length_zip]; have := lv.l30; omega
  cases ef : firstBad (ls.zip vs) [] 0 with
  | some q =>
    obtain ⟨p, i⟩ := q
    exact ⟨_, .error (p, i), e, by rw [duo_zip lv.len]; exact l90, by rw [duo_zip lv.len]; exact j1 p i ef, (fun _ q => by cases q), (fun _ q => by cases q), fun p2 i2 q => by cases q; exact j.er p i ef⟩
  | none =>
    obtain ⟨rows, e1, e2, e3, e4, e5⟩ := j2 ef
    rw [List.nil_append] at e1 e3
    have hl : rows.length = ls.length := by rw [e4, List.length_zip]; have := lv.len; omega
    refine ⟨_, .ok rows, e, by rw [duo_zip lv.len]; exact l90, by rw [duo_zip lv.len]; exact e1, fun r q hz => ?_, fun r q hz => ?_, fun p i q => by cases q⟩
    · cases q
      exact j.ok ef rows e2 e3 hl (by rw [e5, lv.fst]) hz
    · cases q
      exact j.mn ef (by omega)
theorem s_of {ls : List Str} {vs : List D} (lv : Lv ls vs) (j : Jd z ls vs (fun r => Q r [.un, .un]) (fun c ns ds => E c ns ds [.un, .un])) : W (F_Hierarchy_of z) [.val (.opq z.c_Hierarchy), .val (.dic (ls.map Sum.inr) vs)] Q E := by
  unfold F_Hierarchy_of
  refine w_fn (by rfl) ?_
  walk_at "w"
  refine w_mkEL rfl ?_
  refine w_mkJ lv ?_
  walk_at "w"
  have e : ∀ (ls : List Str) (vs : List D), (((ls.map (Sum.inr : Str → Key)).zip vs).map fun p => D.tup [keyD p.1, p.2]) = duo (ls.map D.str) vs := fun ls => by
    induction ls with
    | nil => intro vs; rfl
    | cons l ls ih =>
      intro vs
      cases vs with
      | nil => rfl
      | cons v vs =>
        show D.tup [.str l, v] :: _ = D.tup [.str l, v] :: duo (ls.map D.str) vs
        rw [← ih vs]
        rfl
  refine w_lft (a := .own (.lst (duo (ls.map D.str) vs))) (by rw [← e]; rfl) ?_
  exact ⟨rfl, j⟩
theorem s_no {N B C : En → Prop} {T : R → En → Prop} {ρ : En} {f g : S} {i j : Int} (ne : i ≠ j) (h : WS g ρ N T B C E) : WS (if decide (i = j) = true then f else g) ρ N T B C E := by
  rw [if_neg (by simp [ne])]; exact h
theorem s_ye {N B C : En → Prop} {T : R → En → Prop} {ρ : En} {f g : S} {i j : Int} (e : i = j) (h : WS f ρ N T B C E) : WS (if decide (i = j) = true then f else g) ρ N T B C E := by
  rw [if_pos (by simp [e])]; exact h
theorem s_called {w : Nat} {vs : List D} (hw : w < 7) (lv : Lv (labs w) vs) (j : Jd z (labs w) vs (fun r => Q r [.un, .un]) (fun c ns ds => E c ns ds [.un, .un])) : W (F__law_called z) [.val (.int w), .val (.lst vs)] Q E := by
  unfold F__law_called
  refine w_fn (by rfl) ?_
  match w, hw with
  | 0, _ =>
    match vs, lv.len with
    | [a, b, c, d], _ =>
      walk_at "w"
      refine s_ye rfl ?_
      walk_at "w"
      refine w_calCW ?_
      walk_at "w"
      exact s_of lv j
  | 1, _ =>
    match vs, lv.len with
    | [a, b, c, d], _ =>
      walk_at "w"
      refine s_no (by decide) ?_
      walk_at "w"
      refine s_ye rfl ?_
      walk_at "w"
      refine w_calCW ?_
      walk_at "w"
      exact s_of lv j
  | 2, _ =>
    match vs, lv.len with
    | [a, b, c], _ =>
      walk_at "w"
      refine s_no (by decide) ?_
      walk_at "w"
      refine s_no (by decide) ?_
      walk_at "w"
      refine s_ye rfl ?_
      walk_at "w"
      refine w_objCW ?_
      walk_at "w"
      refine Lx.w_mkE ?_
      walk_at "w"
      refine ⟨[], .ok [], rfl, by decide, rfl, fun rows e _ => ?_, fun rows e h => ?_, fun p i e => by cases e⟩
      · cases e
        refine ⟨hier_obj (by decide +kernel), ?_⟩
        refine w_calCW ?_
        walk_at "w"
        exact s_of lv j
      · cases e
        exact absurd (by decide) h
  | 3, _ =>
    match vs, lv.len with
    | [a], _ =>
      walk_at "w"
      refine s_no (by decide) ?_
      walk_at "w"
      refine s_no (by decide) ?_
      walk_at "w"
      refine s_no (by decide) ?_
      walk_at "w"
      refine s_ye rfl ?_
      walk_at "w"
      refine w_calCW ?_
      walk_at "w"
      exact s_of lv j
  | 4, _ =>
    match vs, lv.len with
    | [], _ =>
      walk_at "w"
      refine s_no (by decide) ?_
      walk_at "w"
      refine s_no (by decide) ?_
      walk_at "w"
      refine s_no (by decide) ?_
      walk_at "w"
      refine s_no (by decide) ?_
      walk_at "w"
      refine s_ye rfl ?_
      walk_at "w"
      refine w_calCW ?_
      walk_at "w"
      exact s_of lv j
  | 5, _ =>
    match vs, lv.len with
    | [a, b, c], _ =>
      walk_at "w"
      refine s_no (by decide) ?_
      walk_at "w"
      refine s_no (by decide) ?_
      walk_at "w"
      refine s_no (by decide) ?_
      walk_at "w"
      refine s_no (by decide) ?_
      walk_at "w"
      refine s_no (by decide) ?_
      walk_at "w"
      refine s_ye rfl ?_
      walk_at "w"
      refine w_calCW ?_
      walk_at "w"
      exact s_of lv j
  | 6, _ =>
    match vs, lv.len with
    | [a, b], _ =>
      walk_at "w"
      refine s_no (by decide) ?_
      walk_at "w"
      refine s_no (by decide) ?_
      walk_at "w"
      refine s_no (by decide) ?_
      walk_at "w"
      refine s_no (by decide) ?_
      walk_at "w"
      refine s_no (by decide) ?_
      walk_at "w"
      refine s_no (by decide) ?_
      walk_at "w"
      refine w_calCW ?_
      walk_at "w"
      exact s_of lv j
end
end Fk
namespace Fk
open Tm
open PySem PySem.Spec PyProof.Rows L2 Kv Pu
structure Ex19 (z : Zf) : Prop where
  h : PySem.W.exmOne z.K (.ref z.c_InvalidHierarchy) (.ref z.c_InvalidHierarchy) = some true
theorem exf_p {C a dx : Addr} {x y : D} : exf a dx (.ref C) C "problem" (.exn a dx (.ref C) ["position", "problem"] [x, y]) = some y := by
  show (if a = a ∧ dx = dx ∧ (Value.ref C) = .ref C then valD (["position", "problem"] : List Str) [x, y] ("problem" : Str) else none) = _
  rw [if_pos ⟨rfl, rfl, rfl⟩]
  show (if ("position" : Str) = "problem" then some x else if ("problem" : Str) = "problem" then some y else none) = _
  rw [if_neg (by decide +kernel), if_pos rfl]
theorem exf_q {C a dx : Addr} {x y : D} : exf a dx (.ref C) C "position" (.exn a dx (.ref C) ["position", "problem"] [x, y]) = some x := by
  show (if a = a ∧ dx = dx ∧ (Value.ref C) = .ref C then valD (["position", "problem"] : List Str) [x, y] ("position" : Str) else none) = _
  rw [if_pos ⟨rfl, rfl, rfl⟩]
  show (if ("position" : Str) = "position" then some x else _) = _
  rw [if_pos rfl]
section
variable {z : Zf} {E : QE} {Q : R → En → Prop}
theorem s_told {w : Nat} {vs : List D} (x : Ex19 z) (hw : w < 7) (lv : Lv (labs w) vs)
    (k1 : ∀ p i, firstBad ((labs w).zip vs) [] 0 = some (p, i) → Q (.val (.tup [.str p, .int (i : Nat)])) [.un, .un, .un])
    (k2 : firstBad ((labs w).zip vs) [] 0 = none → ∀ rows : List Row2, ((labs w).zip vs).map rowT = rows.map rowD → Valid rows → rows.length ≤ 20 → Q (.val (.tup [.str "created", .str (showT rows)])) [.un, .un, .un]) :
    W (F__law_told z) [.val (.int w), .val (.lst ((labs w).map D.str)), .val (.lst vs)] Q E := by
  unfold F__law_told
  refine w_fn (by rfl) ?_
  walk_at "w"
  have ll := (labs_ok w hw).1
  refine s_tryN ?_
  walk_at "w"
  refine s_called hw lv ⟨fun p i e => ?_, fun e rows e1 v l f l2 => ?_, fun _ h => absurd (show (labs w).length ≤ 20 by omega) h⟩
  · refine ⟨x.h, [.val (.int w), .val (.lst ((labs w).map D.str)), .val (.lst vs), .val (.tup [.str p, .int (i : Nat)]), .un, .un, .un, .un, .un, .un], fun a dx => ?_, ?_⟩
    · walk_at "w"
      refine w_lft exf_p ?_
      walk_at "w"
      refine w_lft exf_q ?_
      walk_at "w"
      rfl
    · walk_at "w"
      exact k1 p i e
  · walk_at "w"
    refine w_mkJ lv ?_
    walk_at "w"
    have ez : zip2R [D.lst ((labs w).map D.str), .lst vs] = some (.own (.lst (duo ((labs w).map D.str) vs))) := if_pos (by rw [List.length_map]; exact lv.len)
    refine w_lft ez ?_
    refine ⟨rfl, ⟨(fun p i e2 => by rw [e] at e2; cases e2), fun _ rows2 e2 v2 l3 f2 l4 => ?_, fun _ h => absurd (show (labs w).length ≤ 20 by omega) h⟩⟩
    have er : rows2 = rows := by
      have h1 : rows.map rowD = rows2.map rowD := e1.symm.trans e2
      have key : ∀ (a b : List Row2), a.map rowD = b.map rowD → b = a := fun a => by
        induction a with
        | nil => intro b h; cases b with
          | nil => rfl
          | cons _ _ => cases h
        | cons r a ih =>
          intro b h
          cases b with
          | nil => cases h
          | cons s b =>
            obtain ⟨h1, h2⟩ := List.cons.inj h
            have h3 : rowD r = rowD s := h1
            have h4 := Lx.rowOf_row r
            rw [h3, Lx.rowOf_row s] at h4
            rw [Option.some.inj h4, ih b h2]
      exact key _ _ h1
    subst er
    have hx : ∀ x ∈ labs w, x ∈ fsts rows2 := fun x h => by rw [f]; exact h
    walk_at "w"
    refine w_lc ?_
    walk_at "w"
    refine lc_map D.str (fun x => .lst (((fsts rows2).filter fun o => decide (o ∈ Anc rows2 x)).map D.str)) (labs w) (by omega) (fun x hm => ⟨_, rfl, ?_⟩) ?_
    · walk_at "w"
      refine ⟨hier_obj (by decide +kernel), ?_⟩
      walk_at "w"
      refine s_anc l2 (hx x hm) ?_
      exact ⟨rfl, rfl⟩
    · walk_at "w"
      refine w_eqH v l2 rfl ?_
      walk_at "w"
      refine w_ifB (fun _ => ?_) fun c => (nomatch c)
      walk_at "w"
      refine w_lc ?_
      walk_at "w"
      refine lc_map D.str (fun x => .lst (((fsts rows2).filter fun o => decide (o ∈ Anc rows2 x)).map D.str)) (labs w) (by omega) (fun x hm => ⟨_, rfl, ?_⟩) ?_
      · walk_at "w"
        refine ⟨hier_obj (by decide +kernel), ?_⟩
        walk_at "w"
        refine s_anc l2 (hx x hm) ?_
        exact ⟨rfl, rfl⟩
      · walk_at "w"
        have sh := lol_shaped (fun x => (fsts rows2).filter fun o => decide (o ∈ Anc rows2 x)) (labs w) fun x _ y hy => by
          obtain ⟨r, hr, rfl⟩ := List.mem_map.mp (List.mem_filter.mp hy).1
          exact nm_ok (valid_row v l2 hr).1
        refine w_lft (a := .bl true) (by unfold opEq; rw [eqA_self rfl (lol_py _ _) sh]; rfl) ?_
        walk_at "w"
        refine w_ifB (fun _ => ?_) fun c => (nomatch c)
        walk_at "w"
        refine w_repH v l2 ?_
        walk_at "w"
        refine w_lft (a := .int (-1)) rfl ?_
        walk_at "w"
        have lt := showT_len v l2
        have lr : (reprT rows2).length ≤ sizeLine := Nat.le_trans (m := 2000000) (by unfold reprT; rw [app_len, app_len, h_len, p_len]; omega) (by rw [sizeLine_eq]; decide)
        refine w_lft (a := .val (.str (showT rows2))) ?_ ?_
        · show (if (reprT rows2).length ≤ sizeLine then some (R.val (.str (Txt.slice (reprT rows2) (some 10) (some (-1))))) else none) = _
          rw [if_pos lr]
          unfold reprT
          rw [show (some (10 : Int)) = some ((10 : Nat) : Int) from rfl, slice_in h_len p_len]
        · walk_at "w"
          exact k2 e rows2 e1 v l2
end
end Fk
namespace Fk
open Tm
open PySem PySem.Spec PyProof.Rows L2 Kv Pu
theorem nodup_take {ss : List Str} : ss.Nodup ↔ ∀ i x, ss[i]? = some x → x ∉ ss.take i := by
  rw [List.nodup_iff_pairwise_ne, List.pairwise_iff_getElem]
  constructor
  · intro h i x e m
    obtain ⟨j, hj, e2⟩ := List.getElem_of_mem m
    rw [List.length_take] at hj
    obtain ⟨hi, e3⟩ := List.getElem?_eq_some_iff.mp e
    rw [List.getElem_take] at e2
    exact h j i (by omega) hi (by omega) (by rw [e2, e3])
  · intro h i j hi hj hij e
    refine h j _ (List.getElem?_eq_getElem hj) ?_
    refine List.mem_of_getElem? (i := i) ?_
    rw [List.getElem?_take, if_pos hij, List.getElem?_eq_getElem hi, e]
theorem bad_any (ks ss : List Str) : (ss.zipIdx.any fun p => !decide (p.1 ∈ ks) || decide (p.1 ∈ ss.take p.2)) = !(ss.all (fun s => decide (s ∈ ks)) && decide ss.Nodup) := by
  rw [Bool.eq_iff_iff]
  rw [Bool.not_eq_true', List.any_eq_true]
  constructor
  · rintro ⟨⟨x, i⟩, hm, hb⟩
    have e := List.mem_zipIdx_iff_getElem?.mp hm
    rw [Bool.eq_false_iff]
    intro h
    rw [Bool.and_eq_true, List.all_eq_true] at h
    rw [Bool.or_eq_true] at hb
    rcases hb with hb | hb
    · have := h.1 x (List.mem_of_getElem? e)
      dsimp only at hb
      rw [this] at hb
      cases hb
    · exact nodup_take.mp (of_decide_eq_true h.2) i x e (of_decide_eq_true hb)
  · intro h
    by_cases c1 : ∃ s ∈ ss, s ∉ ks
    · obtain ⟨s, hs, hn⟩ := c1
      obtain ⟨i, hi, e⟩ := List.getElem_of_mem hs
      exact ⟨(s, i), List.mem_zipIdx_iff_getElem?.mpr (by rw [List.getElem?_eq_getElem hi, e]), by simp [hn]⟩
    · have c2 : ss.all (fun s => decide (s ∈ ks)) = true := List.all_eq_true.mpr fun s hs => decide_eq_true (Classical.byContradiction fun hn => c1 ⟨s, hs, hn⟩)
      rw [c2, Bool.true_and] at h
      have h := of_decide_eq_false h
      rw [nodup_take] at h
      refine Classical.byContradiction fun hn => h fun i x e m => hn ⟨(x, i), List.mem_zipIdx_iff_getElem?.mpr e, ?_⟩
      simp [m]
theorem enumL_map (ss : List Str) : enumL (ss.map D.str) = ss.zipIdx.map fun p => .tup [.int (p.2 : Nat), .str p.1] := by
  unfold enumL
  rw [List.zipIdx_map, List.map_map]
  rfl
theorem fb_step {ls : List Str} {vs : List D} (h : ls.length = vs.length) {i : Nat} {l : Str} {v : D} (e1 : ls[i]? = some l) (e2 : vs[i]? = some v) :
    firstBad ((ls.zip vs).drop i) (ls.take i) i = match badV l (ls.take i) v with
      | some p => some (p, i)
      | none => firstBad ((ls.zip vs).drop (i + 1)) (ls.take (i + 1)) (i + 1) := by
  have hi : i < (ls.zip vs).length := by rw [List.length_zip]; have := (List.getElem?_eq_some_iff.mp e1).1; omega
  have e : (ls.zip vs).drop i = (l, v) :: (ls.zip vs).drop (i + 1) := by
    rw [List.drop_eq_getElem_cons hi]
    congr 1
    rw [List.getElem_zip]
    obtain ⟨_, a⟩ := List.getElem?_eq_some_iff.mp e1
    obtain ⟨_, b⟩ := List.getElem?_eq_some_iff.mp e2
    rw [a, b]
  have et : ls.take (i + 1) = ls.take i ++ [l] := by rw [List.take_add_one, e1]; rfl
  rw [e, et]
  rfl
theorem notInX_non (xs : List Str) : opNotInX .non (.lst (xs.map D.str)) = some (.bl true) := by
  refine opNotInX_of ?_
  unfold opNotIn inD
  simp only [seqD, flV, flV_map, Option.map_some]
  have e : inV .non (xs.map V.str) = false := by
    induction xs with
    | nil => rfl
    | cons x xs ih => show (eqV (.str x) .non || inV .non (xs.map V.str)) = false; rw [ih]; rfl
  rw [e]
  rfl
theorem notInX_lst (xs : List Str) : opNotInX (.lst []) (.lst (xs.map D.str)) = some (.bl true) := by
  have e1 : inD (.lst []) (.lst (xs.map D.str)) = none := rfl
  have ey : toPy (.lst (xs.map D.str)) = some (.list (xs.map PyData.str)) := by show (toPys _).map PyData.list = _; rw [toPys_strs]; rfl
  have ex : toPy (.lst []) = some (.list []) := rfl
  unfold opNotInX inX
  rw [e1]
  show (inP _ _).map (fun b => D.bl (!b)) = _
  unfold inP
  rw [ex, ey]
  dsimp only
  have pl : ∀ xs : List Str, PyData.plainAll (xs.map PyData.str) = true := fun xs => plain_strs xs
  rw [if_pos ⟨pl xs, by simp [PyData.plain, PyData.plainAll], by simp [PyData.depth, PyData.depthAll]⟩, Option.map_some]
  have e : ((xs.map PyData.str).any fun e => PyData.eqv e (.list [])) = false := by
    induction xs with
    | nil => rfl
    | cons x xs ih =>
      rw [List.map_cons, List.any_cons, ih rfl (by show (toPys _).map PyData.list = _; rw [toPys_strs]; rfl)]
      rfl
  rw [e]
  rfl
section
variable {z : Zf} {E : QE} {Q : R → En → Prop}
theorem s_due {ls : List Str} {vs : List D} (lv : Lv ls vs)
    (k1 : ∀ p i, firstBad (ls.zip vs) [] 0 = some (p, i) → Q (.val (.tup [.str p, .int (i : Nat)])) [.un, .un])
    (k2 : firstBad (ls.zip vs) [] 0 = none → ∀ rows : List Row2, (ls.zip vs).map rowT = rows.map rowD → Valid rows → rows.length ≤ 20 → Q (.val (.tup [.str "created", .str (showT rows)])) [.un, .un]) (h20 : ls.length ≤ 20) :
    W (F__law_due z) [.val (.lst (ls.map D.str)), .val (.lst vs)] Q E := by
  obtain ⟨j1, j2⟩ := judge_first (ls.zip vs) [] (fun i n ss h => by simp at h) lv.ok (by rw [lv.fst]; exact lv.nd)
  unfold F__law_due
  refine w_fn (by rfl) ?_
  walk_at "w"
  refine w_lft (a := enumL (ls.map D.str)) rfl ?_
  rw [enumL_map]
  refine fr_list (fun p : Str × Nat => D.tup [.int (p.2 : Nat), .str p.1]) ls.zipIdx (fun dn ρ => ∃ s2 s3 s4, firstBad (ls.zip vs) [] 0 = firstBad ((ls.zip vs).drop dn.length) (ls.take dn.length) dn.length ∧ ρ = [.val (.lst (ls.map D.str)), .val (.lst vs), s2, s3, s4, .un, .un]) ⟨_, _, _, rfl, rfl⟩ (fun dn q td ρ e h => ?_) fun ρ h => ?_
  · obtain ⟨s2, s3, s4, hf, rfl⟩ := h
    obtain ⟨l, i⟩ := q
    have hi : i = dn.length := by
      have h2 := congrArg (fun x => x[dn.length]?) e
      simp only [List.getElem?_append_right (Nat.le_refl _), Nat.sub_self, List.getElem?_cons_zero] at h2
      rw [List.getElem?_zipIdx] at h2
      obtain ⟨a, _, ha⟩ := Option.map_eq_some_iff.mp h2
      cases ha
      omega
    subst hi
    have e1 : ls[dn.length]? = some l := by
      have hm : (l, dn.length) ∈ ls.zipIdx := by rw [e]; simp
      exact List.mem_zipIdx_iff_getElem?.mp hm
    have hlt := (List.getElem?_eq_some_iff.mp e1).1
    obtain ⟨v, e2⟩ : ∃ v, vs[dn.length]? = some v := ⟨vs[dn.length]'(by have := lv.len; omega), List.getElem?_eq_getElem _⟩
    have hok := lv.ok (l, v) (by
      refine List.mem_of_getElem? (i := dn.length) ?_
      rw [List.getElem?_zip_eq_some]; exact ⟨e1, e2⟩)
    rw [fb_step lv.len e1 e2] at hf
    refine ⟨_, rfl, ?_⟩
    walk_at "w"
    have ei : opInX (.str l) (.lst [.str "Side", .str "ninechars"]) = some (.bl (decide (l ∈ (["Side", "ninechars"] : List Str)))) := opInX_of (in_strs l ["Side", "ninechars"])
    refine w_lft ei ?_
    walk_at "w"
    refine s_ifB (fun c => ?_) fun c => ?_
    · have c : l ∈ (["Side", "ninechars"] : List Str) := of_decide_eq_true c
      have eb : badV l (ls.take dn.length) v = some "name" := if_pos (by simpa using c)
      rw [eb] at hf
      walk_at "w"
      exact k1 _ _ hf
    · have c : l ∉ (["Side", "ninechars"] : List Str) := of_decide_eq_false c
      have eb : badV l (ls.take dn.length) v = if Lx.areT (ls.take dn.length) v = false then some ("superclasses" : Str) else none := if_neg (by simpa using c)
      rw [eb] at hf
      walk_at "w"
      refine w_ixL e2 ?_
      walk_at "w"
      refine w_lft (isi_tuple _ hok.2.ty) ?_
      walk_at "w"
      have no : Lx.areT (ls.take dn.length) v = false → Q (.val (.tup [.str "superclasses", .int (dn.length : Nat)])) [.un, .un] := fun ea => by
        rw [if_pos ea] at hf
        exact k1 _ _ hf
      have h3 : (∃ ss : List Str, v = .tup (ss.map D.str) ∧ ss.length ≤ 20) ∨ (∃ u : D, v = .tup [u] ∧ Lx.areT (ls.take dn.length) v = false ∧ opNotInX u (.lst ((ls.take dn.length).map D.str)) = some (.bl true)) ∨ isTp v = false := by
        rcases hok.2 with ⟨ss, e, l20, hs⟩ | e | e | hv
        · exact .inl ⟨ss, e, l20⟩
        · exact .inr (.inl ⟨.non, e, by have e : v = .tup [.non] := e; subst e; rfl, notInX_non _⟩)
        · exact .inr (.inl ⟨.lst [], e, by have e : v = .tup [.lst []] := e; subst e; rfl, notInX_lst _⟩)
        · exact .inr (.inr hv.1)
      rcases h3 with ⟨ss, rfl, l20⟩ | ⟨u, rfl, ea, en⟩ | hv
      · refine s_ifB (fun c => (nomatch c)) fun _ => ?_
        walk_at "w"
        refine w_lc ?_
        walk_at "w"
        refine w_lft (a := enumL (ss.map D.str)) rfl ?_
        rw [enumL_map]
        refine lc_map (fun p : Str × Nat => D.tup [.int (p.2 : Nat), .str p.1]) (fun p => .bl (!decide (p.1 ∈ ls.take dn.length) || decide (p.1 ∈ ss.take p.2))) ss.zipIdx (by rw [List.length_zipIdx]; omega) (fun p hp => ⟨_, rfl, ?_⟩) ?_
        · walk_at "w"
          rw [cut_takeD, ← List.map_take]
          refine w_lft (opNotInX_of (notIn_strs p.1 (ls.take dn.length))) ?_
          walk_at "w"
          refine w_ifB (fun c => ?_) fun c => ?_
          · walk_at "w"
            rw [c]
            exact ⟨rfl, rfl⟩
          · walk_at "w"
            rw [cut_takeD, ← List.map_take]
            refine w_lft (opInX_of (in_strsT p.1 (ss.take p.2))) ?_
            rw [c]
            exact ⟨rfl, rfl⟩
        · walk_at "w"
          refine w_lft (any_map _ _) ?_
          walk_at "w"
          rw [bad_any, ← Lx.areT_strs]
          refine s_ifB (fun c => ?_) fun c => ?_
          · walk_at "w"
            exact no (nb c)
          · walk_at "w"
            rw [if_neg (by rw [nb2 c]; decide)] at hf
            refine ⟨_, _, _, ?_, rfl⟩
            rw [List.length_append, List.length_singleton]
            exact hf
      · refine s_ifB (fun c => (nomatch c)) fun _ => ?_
        walk_at "w"
        refine w_lc ?_
        walk_at "w"
        refine w_lft (a := [.tup [.int ((0 : Nat) : Int), u]]) rfl ?_
        refine lc_map (fun _ : Unit => D.tup [.int ((0 : Nat) : Int), u]) (fun _ => .bl true) [()] (by decide) (fun _ _ => ⟨_, rfl, ?_⟩) ?_
        · walk_at "w"
          rw [cut_takeD, ← List.map_take]
          refine w_lft en ?_
          walk_at "w"
          refine w_ifB (fun _ => ?_) fun c => (nomatch c)
          walk_at "w"
          first | exact ⟨rfl, rfl⟩ | rfl
        · walk_at "w"
          refine w_lft (a := .bl true) rfl ?_
          walk_at "w"
          refine s_ifB (fun _ => ?_) fun c => (nomatch c)
          walk_at "w"
          exact no ea
      · have ea : Lx.areT (ls.take dn.length) v = false := by unfold Lx.areT; rw [isTp_of hv]
        rw [hv]
        refine s_ifB (fun _ => ?_) fun c => (nomatch c)
        walk_at "w"
        exact no ea
  · obtain ⟨s2, s3, s4, hf, rfl⟩ := h
    have hn : firstBad (ls.zip vs) [] 0 = none := by
      rw [hf, List.length_zipIdx, List.drop_of_length_le (by rw [List.length_zip]; omega)]
      rfl
    obtain ⟨rows, e1, e2, e3, e4, e5⟩ := j2 hn
    rw [List.nil_append] at e3
    have l20 : rows.length ≤ 20 := by rw [e4, List.length_zip]; omega
    walk_at "w"
    have ez : zip2R [D.lst (ls.map D.str), .lst vs] = some (.own (.lst (duo (ls.map D.str) vs))) := if_pos (by rw [List.length_map]; exact lv.len)
    refine w_lft ez ?_
    rw [duo_zip lv.len, e2]
    refine w_lft (sh_rows e3 l20) ?_
    walk_at "w"
    exact k2 hn rows e2 e3 l20
end
end Fk
/-! What repr gives of plain data in plain signs is in plain signs. -/
namespace Pu
open PySem PySem.Spec PyProof.Rows L2 Kv
def As (x : Str) : Prop := ∀ c ∈ x.cps.toList, c < 128
theorem As.app {x y : Str} (h : As x) (k : As y) : As (x ++ y) := by
  intro c hc
  have e : (x ++ y).cps.toList = x.cps.toList ++ y.cps.toList := TL.tl_append x y
  rw [e] at hc
  rcases List.mem_append.mp hc with hc | hc
  · exact h c hc
  · exact k c hc
theorem As.dec {x : Str} (h : (x.cps.toList.all fun c => decide (c < 128)) = true) : As x := fun c hc => of_decide_eq_true (List.all_eq_true.mp h c hc)
theorem As.join {y : Str} (hy : As y) : ∀ {ps : List Str}, (∀ p ∈ ps, As p) → As (Str.join y ps)
  | [], _ => fun c hc => by cases hc
  | [p], h => h p (List.mem_cons_self ..)
  | p :: q :: r, h => by
    have ih := As.join hy (ps := q :: r) fun z hz => h z (List.mem_cons_of_mem _ hz)
    show As (p ++ y ++ Str.join y (q :: r))
    exact ((h p (List.mem_cons_self ..)).app hy).app ih
theorem As.from : ∀ {ps : List Str} {k : Nat} {acc : Str}, As acc → (∀ p ∈ ps, As p) → As (PySem.textFrom k acc ps)
  | [], k, acc, ha, _ => ha
  | t :: ts, k, acc, ha, h => by
    refine As.from (ps := ts) ?_ fun p hp => h p (List.mem_cons_of_mem _ hp)
    refine (ha.app ?_).app (h t (List.mem_cons_self ..))
    split <;> exact As.dec (by decide +kernel)
theorem repr_char {q c : Nat} (hq : q = 34 ∨ q = 39) (hc : c < 128) : ∀ d ∈ Builtin.Str.reprChar q c, d < 128 := by
  have : ∀ c : Fin 128, ((Builtin.Str.reprChar 34 c.1).all fun d => decide (d < 128)) = true ∧ ((Builtin.Str.reprChar 39 c.1).all fun d => decide (d < 128)) = true := by decide +kernel
  have t := this ⟨c, hc⟩
  intro d hd
  rcases hq with rfl | rfl
  · exact of_decide_eq_true (List.all_eq_true.mp t.1 d hd)
  · exact of_decide_eq_true (List.all_eq_true.mp t.2 d hd)
theorem fold_as {q : Nat} (hq : q = 34 ∨ q = 39) : ∀ (l : List Nat) (acc : Array Nat), (∀ c ∈ l, c < 128) → (∀ c ∈ acc.toList, c < 128) → ∀ c ∈ (l.foldl (fun out c => out ++ (Builtin.Str.reprChar q c).toArray) acc).toList, c < 128
  | [], acc, _, h => h
  | d :: r, acc, h1, h2 => by
    rw [List.foldl_cons]
    refine fold_as hq r _ (fun c hc => h1 c (List.mem_cons_of_mem _ hc)) fun c hc => ?_
    rw [Array.toList_append] at hc
    rcases List.mem_append.mp hc with hc | hc
    · exact h2 c hc
    · exact repr_char hq (h1 d (List.mem_cons_self ..)) c hc
theorem As.repr {x : Str} (h : As x) : As (reprText x) := by
  have hq : reprQuote x = 34 ∨ reprQuote x = 39 := by unfold reprQuote; split <;> simp
  have hq2 : reprQuote x < 128 := by rcases hq with e | e <;> rw [e] <;> decide
  intro c hc
  unfold reprText at hc
  rw [← Array.foldl_toList] at hc
  have hc : c ∈ ((x.cps.toList.foldl (fun out c => out ++ (Builtin.Str.reprChar (reprQuote x) c).toArray) #[reprQuote x]).push (reprQuote x)).toList := hc
  rw [Array.toList_push] at hc
  rcases List.mem_append.mp hc with hc | hc
  · refine fold_as hq _ _ h (fun d hd => ?_) c hc
    have : d = reprQuote x := by simpa using hd
    rw [this]; exact hq2
  · rw [List.mem_singleton.mp hc]; exact hq2
mutual
def ascP : PyData → Bool
  | .none => true
  | .bool _ => true
  | .int i => (toString i : Str).cps.toList.all fun c => decide (c < 128)
  | .str x => x.cps.toList.all fun c => decide (c < 128)
  | .list xs => ascAll xs
  | .tuple xs => ascAll xs
  | .dict kvs => ascKv kvs
def ascAll : List PyData → Bool
  | [] => true
  | x :: xs => ascP x && ascAll xs
def ascKv : List (PyData × PyData) → Bool
  | [] => true
  | (k, v) :: r => ascP k && ascP v && ascKv r
end
mutual
theorem asc_shown : ∀ p : PyData, ascP p = true → As p.shown
  | .none, _ => by simp only [PyData.shown]; exact As.dec (by decide +kernel)
  | .bool b, _ => by simp only [PyData.shown]; cases b <;> exact As.dec (by decide +kernel)
  | .int i, h => by simp only [PyData.shown]; exact As.dec (by simpa only [ascP] using h)
  | .str x, h => by simp only [PyData.shown]; exact As.repr (As.dec (by simpa only [ascP] using h))
  | .list xs, h => by
    simp only [PyData.shown]
    have ih := asc_all xs (by simpa only [ascP] using h)
    exact (As.from (As.dec (by decide +kernel)) ih).app (As.dec (by decide +kernel))
  | .tuple xs, h => by
    simp only [PyData.shown]
    have ih := asc_all xs (by simpa only [ascP] using h)
    unfold tupleText
    refine ((As.dec (by decide +kernel)).app (As.join (As.dec (by decide +kernel)) ih)).app ?_
    split <;> exact As.dec (by decide +kernel)
  | .dict kvs, h => by
    simp only [PyData.shown]
    have ih := asc_kv kvs (by simpa only [ascP] using h)
    unfold dictText
    exact ((As.dec (by decide +kernel)).app (As.join (As.dec (by decide +kernel)) ih)).app (As.dec (by decide +kernel))
theorem asc_all : ∀ xs : List PyData, ascAll xs = true → ∀ t ∈ PyData.shownAll xs, As t
  | [], _, t, ht => by simp only [PyData.shownAll] at ht; cases ht
  | x :: xs, h, t, ht => by
    simp only [ascAll, Bool.and_eq_true] at h
    simp only [PyData.shownAll] at ht
    rcases List.mem_cons.mp ht with rfl | ht
    · exact asc_shown x h.1
    · exact asc_all xs h.2 t ht
theorem asc_kv : ∀ xs : List (PyData × PyData), ascKv xs = true → ∀ t ∈ PyData.shownKv xs, As t
  | [], _, t, ht => by simp only [PyData.shownKv] at ht; cases ht
  | (k, v) :: xs, h, t, ht => by
    simp only [ascKv, Bool.and_eq_true] at h
    simp only [PyData.shownKv] at ht
    rcases List.mem_cons.mp ht with rfl | ht
    · exact ((asc_shown k h.1.1).app (As.dec (by decide +kernel))).app (asc_shown v h.1.2)
    · exact asc_kv xs h.2 t ht
end
end Pu
namespace Fk
open Tm
open PySem PySem.Spec PyProof.Rows L2 Kv Pu
section
variable {z : Zf} {E : QE} {Q : R → En → Prop}
def kws21 : List Str := ["aa", "ab", "ac", "ad", "ae", "af", "ag", "ah", "ai", "aj", "ak", "al", "am", "an", "ao", "ap", "aq", "ar", "au", "az", "av"]
def vs21 : List D := List.replicate 20 (.tup []) ++ [.tup [.str "aa"]]
theorem lv21 : Lv kws21 vs21 where
  len := by decide
  l30 := by decide
  nd := by decide +kernel
  ok := fun p hp => by
    refine ⟨?_, ?_⟩
    · have h : p.1 ∈ kws21 := (List.of_mem_zip hp).1
      have key : ∀ l ∈ kws21, nmS l = true := by decide +kernel
      exact .inr (.inr (key _ h))
    · have h : p.2 ∈ vs21 := (List.of_mem_zip hp).2
      rcases List.mem_append.mp h with h | h
      · rw [List.eq_of_mem_replicate h]
        exact .inl ⟨[], rfl, by decide, fun s h => nomatch h⟩
      · rw [List.mem_singleton.mp h]
        exact .inl ⟨["aa"], rfl, by decide, fun s h => by rw [List.mem_singleton.mp h]; exact ⟨by decide +kernel, by decide +kernel⟩⟩
theorem fb21 : firstBad (kws21.zip vs21) [] 0 = none := by decide +kernel
theorem eq_cnt : opEq (.tup [.str "count", .int 20]) (.tup [.str "count", .int 20]) = some (.bl true) := by
  unfold opEq
  rw [eqA_self (p := .tuple [.str "count", .int 20]) rfl rfl (by decide +kernel)]
  rfl
theorem s_21 (x : Ex19 z) (k : Q (.val (.bl true)) []) : W (F__law_twenty_one z) [] Q E := by
  unfold F__law_twenty_one
  refine w_fn (by rfl) ?_
  walk_at "w"
  refine s_tryN ?_
  walk_at "w"
  refine w_calCW ?_
  walk_at "w"
  refine s_of lv21 ⟨(fun p i e => by have e : firstBad (kws21.zip vs21) [] 0 = some (p, i) := e; rw [fb21] at e; cases e), fun _ rows e1 v l f l2 => absurd (show kws21.length ≤ 20 from l ▸ l2) (by decide), fun _ _ => ?_⟩
  refine ⟨x.h, [.val (.tup [.str "count", .int 20]), .un], fun a dx => ?_, ?_⟩
  · walk_at "w"
    refine w_lft exf_p ?_
    walk_at "w"
    refine w_lft exf_q ?_
    walk_at "w"
    rfl
  · walk_at "w"
    refine w_lft eq_cnt ?_
    exact k
/-! ### what is told is shown -/
theorem ls_map {α : Type} (g : α → PyData) : ∀ xs : List α, (∀ x ∈ xs, (g x).leavesShort 8 = true) → PyData.leavesShortAll 8 (xs.map g) = true
  | [], _ => by simp [PyData.leavesShortAll]
  | x :: xs, h => by
    rw [List.map_cons]
    simp only [PyData.leavesShortAll, h x (List.mem_cons_self ..), ls_map g xs fun y hy => h y (List.mem_cons_of_mem _ hy), Bool.and_self]
theorem ls_str {n : Nat} {x : Str} (h : Sm n x) : (PyData.str x).leavesShort 8 = true := by
  simp only [PyData.leavesShort, List.all_eq_true, decide_eq_true_eq]
  exact fun c hc => Nat.lt_trans (h.2 c hc) (by decide)
theorem as_map {α : Type} (g : α → PyData) : ∀ xs : List α, (∀ x ∈ xs, ascP (g x) = true) → ascAll (xs.map g) = true
  | [], _ => by simp [ascAll]
  | x :: xs, h => by
    rw [List.map_cons]
    simp only [ascAll, h x (List.mem_cons_self ..), as_map g xs fun y hy => h y (List.mem_cons_of_mem _ hy), Bool.and_self]
theorem as_str {n : Nat} {x : Str} (h : Sm n x) : ascP (.str x) = true := by
  simp only [ascP]
  exact List.all_eq_true.mpr fun c hc => decide_eq_true (h.2 c hc)
theorem showT_sm {rows : List Row2} (v : Valid rows) (l : rows.length ≤ 20) : Sm 38300 (showT rows) := by
  have f := fit_rows v l
  refine ⟨?_, ?_⟩
  · have h : (rowsP rows).leavesShort 8 = true := by
      unfold rowsP
      simp only [PyData.leavesShort]
      refine ls_map rowP rows fun r hr => ?_
      obtain ⟨h1, h2, _⟩ := valid_row v l hr
      unfold rowP
      simp only [PyData.leavesShort, PyData.leavesShortAll, ls_map PyData.str r.2 fun s hs => ls_str (name_sm (h2 s hs)), Bool.and_true]
      exact ls_str (name_sm h1)
    have := PyData.shown_le 8 (by decide) (rowsP rows) h
    have h2 := f.2.2.1
    show (rowsP rows).shown.length ≤ _
    omega
  · refine asc_shown _ ?_
    unfold rowsP
    simp only [ascP]
    refine as_map rowP rows fun r hr => ?_
    obtain ⟨h1, h2, _⟩ := valid_row v l hr
    unfold rowP
    have a1 := as_str (name_sm h1)
    have a2 := as_map PyData.str r.2 fun s hs => as_str (name_sm (h2 s hs))
    simp only [ascP] at a1 ⊢
    simp only [ascAll, ascP, a1, a2, Bool.and_self]
theorem fb_word : ∀ (ps : List (Str × D)) (dn : List Str) (n : Nat) (p : Str) (i : Nat), firstBad ps dn n = some (p, i) → Sm 12 p ∧ i < n + ps.length
  | [], _, _, _, _, h => nomatch h
  | (l, v) :: ps, dn, n, p, i, h => by
    have h : (match badV l dn v with
      | some p => some (p, n)
      | none => firstBad ps (dn ++ [l]) (n + 1)) = some (p, i) := h
    cases e : badV l dn v with
    | none =>
      rw [e] at h
      obtain ⟨a, b⟩ := fb_word ps _ _ p i h
      exact ⟨a, by rw [List.length_cons]; omega⟩
    | some q =>
      rw [e] at h
      cases h
      refine ⟨?_, by rw [List.length_cons]; omega⟩
      unfold badV at e
      split at e
      · cases e; exact ⟨by decide +kernel, by decide +kernel⟩
      · split at e
        · cases e; exact ⟨by decide +kernel, by decide +kernel⟩
        · cases e
theorem sh_er {p : Str} {i : Nat} (h : Sm 12 p) (hi : i ≤ 100) : ∃ T, shD (.tup [.str p, .int (i : Nat)]) = some (.str T) :=
  ⟨_, sh_of (p := .tuple [.str p, .int (i : Nat)]) rfl (Fit.tup (FitAll.cons (h.fit) (FitAll.cons (fit_int (i := ((i : Nat) : Int)) (Nat.le_trans (show ((i : Nat) : Int).natAbs ≤ 100 by omega) (by decide))) fitAll_nil))) (by decide) (by decide)⟩
theorem sh_ok {t : Str} (h : Sm 38300 t) : ∃ T, shD (.tup [.str "created", .str t]) = some (.str T) :=
  ⟨_, sh_of (p := .tuple [.str "created", .str t]) rfl (Fit.tup (FitAll.cons ((show Sm 12 "created" from ⟨by decide +kernel, by decide +kernel⟩).fit) (FitAll.cons h.fit fitAll_nil))) (by decide) (by decide)⟩
theorem s_law (x : PySem.W.exmOne z.K (.ref z.c_InvalidHierarchy) (.ref z.c_InvalidHierarchy) = some true) {ns : List Int} (k : Q (.val (.bl true)) [.un]) : W (F_law z) [.val (.flst (ns.map D.int))] Q E := by
  unfold F_law
  refine w_fn (by rfl) ?_
  walk_at "w"
  obtain ⟨m, hm, em⟩ := cells (ns.map D.int).length 4 (by decide) (by decide)
  rw [em]
  refine w_rng (by omega) ?_
  refine fr_list _ (List.range m) (fun dn ρ => ∃ s1 s2 s3 s4 s5 s6, ρ = [.val (.flst (ns.map D.int)), s1, s2, s3, s4, s5, s6, .un, .un]) ⟨_, _, _, _, _, _, rfl⟩ (fun dn j td ρ e h => ?_) fun ρ h => ?_
  · obtain ⟨s1, s2, s3, s4, s5, s6, rfl⟩ := h
    have hj : j < m := List.mem_range.mp (by rw [e]; simp)
    refine ⟨_, rfl, ?_⟩
    walk_at "w"
    refine s_pot (by omega) fun p hp => ?_
    walk_at "w"
    refine w_rng (n := 6) (by omega) ?_
    refine fr_list _ (List.range 6) (fun dn ρ => ∃ p s1 s3 s4 s5 s6, Pot p ∧ ρ = [.val (.flst (ns.map D.int)), s1, .own p, s3, s4, s5, s6, .un, .un]) ⟨_, _, _, _, _, _, hp, rfl⟩ (fun dn j td ρ e h => ?_) fun ρ h => ?_
    · obtain ⟨p, s1, s3, s4, s5, s6, hp, rfl⟩ := h
      refine ⟨_, rfl, ?_⟩
      walk_at "w"
      refine s_drawN (n := 7) hp (by omega) (by omega) fun w p2 hw hp2 => ?_
      walk_at "w"
      refine s_labels hw ?_
      obtain ⟨l4, nd, ok⟩ := labs_ok w hw
      walk_at "w"
      refine w_lc ?_
      walk_at "w"
      refine w_lft (a := enumL ((labs w).map D.str)) rfl ?_
      rw [enumL_map]
      have ok2 : ∀ q ∈ (labs w).zipIdx, Sm 9 q.1 ∧ q.2 < (labs w).length := fun q hq => by
        have := List.mem_zipIdx' hq
        exact ⟨(ok q.1 (this.2 ▸ List.getElem_mem _)).2, this.1⟩
      refine lc_list (fun p : Str × Nat => D.tup [.int (p.2 : Nat), .str p.1]) (labs w).zipIdx (by rw [List.length_zipIdx]; omega) (fun dn acc ρ => ∃ p, Pot p ∧ acc.length = dn.length ∧ (∀ v ∈ acc, VlOk v) ∧ ρ = [.val (.flst (ns.map D.int)), s1, .own p, .val (.int (j : Nat)), .val (.int (w : Nat)), .val (.lst ((labs w).map D.str)), s6, .un, .un])
        ⟨p2, hp2, rfl, (fun v h => nomatch h), rfl⟩ (fun dn q td acc ρ e h => ?_) fun acc ρ h => ?_
      · obtain ⟨p, hp, h1, h2, rfl⟩ := h
        have hq := ok2 q (by rw [e]; simp)
        refine ⟨_, rfl, ?_⟩
        walk_at "w"
        rw [cut_takeD, ← List.map_take]
        refine s_value hp (by rw [List.length_take]; omega) (fun x hx => (ok x (List.mem_of_mem_take hx)).2) hq.1 fun v p3 hv hp3 => ?_
        walk_at "w"
        refine ⟨p3, hp3, by simp [h1], fun u hu => ?_, rfl⟩
        rcases List.mem_append.mp hu with hu | hu
        · exact h2 u hu
        · have : u = v := by simpa using hu
          rw [this]; exact hv
      · obtain ⟨p, hp, h1, h2, rfl⟩ := h
        rw [List.length_zipIdx] at h1
        have lv : Lv (labs w) acc := ⟨h1.symm, by omega, fun q hq => ⟨(ok q.1 (List.of_mem_zip hq).1).1, h2 q.2 (List.of_mem_zip hq).2⟩, nd⟩
        walk_at "w"
        have fin : ∀ T : Str, opNe (.str T) (.str T) = some (.bl false) := fun T => by rw [Pu.ne_str]; simp
        refine s_told ⟨x⟩ hw lv (fun p i e => ?_) fun e rows e1 v l20 => ?_
        · obtain ⟨a, b⟩ := fb_word _ _ _ _ _ e
          rw [List.length_zip] at b
          obtain ⟨T, eT⟩ := sh_er a (i := i) (by omega)
          refine w_lft eT ?_
          walk_at "w"
          refine s_due lv (fun p2 i2 e2 => ?_) (fun e2 => by rw [e] at e2; cases e2) (by omega)
          rw [e] at e2
          cases e2
          refine w_lft eT ?_
          refine w_lft (fin T) ?_
          walk_at "w"
          refine s_ifB (fun c => (nomatch c)) fun _ => ?_
          walk_at "w"
          exact ⟨_, _, _, _, _, _, hp, rfl⟩
        · obtain ⟨T, eT⟩ := sh_ok (showT_sm v l20)
          refine w_lft eT ?_
          walk_at "w"
          refine s_due lv (fun p2 i2 e2 => (by rw [e] at e2; cases e2)) (fun _ rows2 e2 v2 l2 => ?_) (by omega)
          have er : rows2 = rows := by
            have h1 : rows.map rowD = rows2.map rowD := e1.symm.trans e2
            have := congrArg (fun l => l.map Pu.rowOf) h1
            rw [List.map_map, List.map_map, show (Pu.rowOf ∘ rowD) = some from funext Lx.rowOf_row] at this
            exact (List.map_inj_right (fun a b h => Option.some.inj h)).mp this.symm
          subst er
          refine w_lft eT ?_
          refine w_lft (fin T) ?_
          walk_at "w"
          refine s_ifB (fun c => (nomatch c)) fun _ => ?_
          walk_at "w"
          exact ⟨_, _, _, _, _, _, hp, rfl⟩
    · obtain ⟨p, s1, s3, s4, s5, s6, hp, rfl⟩ := h
      exact ⟨_, _, _, _, _, _, rfl⟩
  · obtain ⟨s1, s2, s3, s4, s5, s6, rfl⟩ := h
    walk_at "w"
    refine w_cal0 ?_
    refine s_21 ⟨x⟩ ?_
    walk_at "w"
    refine w_ifB (fun _ => ?_) fun c => (nomatch c)
    walk_at "w"
    refine w_calCW ?_
    walk_at "w"
    have fb1 : firstBad ((["top"] : List Str).zip [D.tup []]) [] 0 = none := by decide +kernel
    refine s_of (ls := ["top"]) (vs := [.tup []]) ⟨rfl, by decide, fun p hp => ?_, by decide⟩ ⟨(fun p i e => by rw [fb1] at e; cases e), fun _ rows _ _ _ _ _ => ?_, fun _ h => absurd (by decide) h⟩
    · rw [List.mem_singleton.mp hp]
      exact ⟨.inr (.inr (by decide +kernel)), .inl ⟨[], rfl, by decide, (fun s h => nomatch h)⟩⟩
    · walk_at "w"
      refine w_lft (a := .int 20) ?_ ?_
      · show (if z.c_Hierarchy = z.c_Hierarchy ∧ ("LIMIT" : Str) ∉ _ then some (D.int 20) else none) = _
        rw [if_pos ⟨rfl, by decide +kernel⟩]
      · walk_at "w"
        refine w_lft (a := .str "[20, 20]") ?_ ?_
        · have f : Fit 500 2 (.list [.int 20, .int 20]) := Fit.mono (Fit.lst (FitAll.cons (fit_int (i := 20) (by decide)) (FitAll.cons (fit_int (i := 20) (by decide)) fitAll_nil))) (by decide) (by decide)
          have e := sh_of (d := .lst [.int 20, .int 20]) rfl f (by decide) (by decide)
          rw [show (PyData.list [.int 20, .int 20]).shown = "[20, 20]" from by decide +kernel] at e
          exact e
        · walk_at "w"
          rw [decide_eq_true rfl]
          exact k
end
end Fk
/-! From the law's function on trees to the law's promise. -/
namespace Pu
open PySem PySem.Spec PyProof.Rows L2 Kv
def spLaw (K : PySem.W.Frag) : Sp := fun vs H Q _ => ∃ (a : Addr) (ns : List Int), vs = [.ref a] ∧ Only H ∧ SqL K H a (ns.map V.int) ∧ ns.length ≤ 63 ∧ ∀ H', Q (.bl true) H'
theorem ints_rep {K : PySem.W.Frag} {ok : Addr → Prop} {H : Hp} : ∀ ns : List Int, Reps K ok H (ns.map V.int) (ns.map D.int)
  | [] => .nil
  | n :: ns => .cons (.int n) (ints_rep ns)
theorem lawG {P' : Program} {w : World} {K : PySem.W.Frag} {mg : Str → Option Value} {base : Heap} {k : Nat} {f : Addr} {fd : FuncData} {x : Str} {F : P R} (G : FnG P' w K mg base (L2.CX P' w) k f fd [x] (spP K [] 1 F))
    (h : ∀ ns : List Int, ns.length ≤ 63 → W F [.val (.flst (ns.map D.int))] (fun r _ => r = .val (.bl true)) NX) : FnG P' w K mg base CX0 k f fd [x] (spLaw K) := by
  refine ⟨fun vs H Q E hs => ?_, fun A fr s H ar us vs Q E hg hr e0 hb rv hs => ?_⟩
  · obtain ⟨a, ns, rfl, _⟩ := hs
    rfl
  · obtain ⟨a, ns, rfl, on, sq, hl, q⟩ := hs
    refine codeAny_mono (G.goes A fr s H ar us [.ref a] Q (fun _ _ _ => False) hg hr e0 hb rv ?_) fun r s' hr' => ?_
    · refine ⟨fun _ => True, [.val (.flst (ns.map D.int))], rfl, ?_, ?_⟩
      · have fz : FzL K H a (ns.map V.int) := by
          rcases sq with (h1 | h1) | h1
          · rcases on a with z | ⟨o, xs, z⟩
            · rw [z] at h1; cases h1
            · rw [z] at h1; cases h1
          · exact .inl h1
          · exact .inr h1
        refine ⟨rfl, fun _ _ => trivial, fun _ h => h, fun i d hi => ?_, fun i d hi => ?_, fun i j d e q hi => ?_, TbOk.nil⟩
        · match i, hi with
          | 0, hi => cases hi; exact ⟨_, rfl, .lstF fz (ints_rep ns)⟩
          | i + 1, hi => cases hi
        · match i, hi with
          | 0, hi => cases hi
          | i + 1, hi => cases hi
        · match i, hi with
          | 0, hi => cases hi
          | i + 1, hi => cases hi
      · have hw := h ns hl
        unfold W at hw
        split at hw
        · exact hw.elim
        · rename_i z
          subst hw
          rw [z]
          intro v H' ok' _ _ r1
          have r1 : Rep K ok' H' v (.bl true) := r1
          cases r1
          exact q H'
        · exact hw.elim
    · unfold CR at hr' ⊢
      cases r with
      | ok fl =>
        cases fl with
        | ret u => exact hr'
        | _ => exact hr'.elim
      | error e =>
        obtain ⟨_, _, _, _, _, _, _, _, _, _, _, _, z⟩ := hr'
        exact z.elim
end Pu
/-! From the law's function on trees to the law's promise, when tables of code objects are tracked. -/
namespace Pu
open PySem PySem.Spec PyProof.Rows L2 Kv
end Pu
namespace Lw
open PySem PySem.Spec PyProof.Rows L2 Kv Pu Fk
theorem all_mk {l : PySem.W.OpenLaw} {w : World} {K : PySem.W.Frag} {h : Heap} {mg : Str → Option Value} {fa : Addr} (X : K.In h) (G : h.Ns mainGlobals mg) (hfa : mg "law" = some (.ref fa))
    {C_Hierarchy : Addr} (a_Hierarchy : PySem.W.nsIn K mainGlobals "Hierarchy" = some (some (.ref C_Hierarchy)))
     (pg_Hierarchy : PySem.W.plainGet K C_Hierarchy Str.empty = true)
     (hd_Hierarchy : PySem.W.hasDictIn K C_Hierarchy = true)
     (po_Hierarchy : PySem.W.plainOver K C_Hierarchy = true)
     (sa_Hierarchy : PySem.W.findIn K (.ref C_Hierarchy) "__setattr__" = some (some (.builtin "object.__setattr__")))
     (na_Hierarchy_rows : PySem.W.findIn K (.ref C_Hierarchy) "rows" = some none)
     (na_Hierarchy_places : PySem.W.findIn K (.ref C_Hierarchy) "places" = some none)
     (na_Hierarchy_above : PySem.W.findIn K (.ref C_Hierarchy) "above" = some none)
    {h_init : Addr} (m_init : PySem.W.findIn K (.ref C_Hierarchy) "__init__" = some (some (.ref h_init)))
     (i_init : PySem.W.isFn K (.ref h_init) = true)
    {TD T0 : Addr} {oc_init kV_init dc_init pm_init cd_init ct_init : Value} {od_init an_init : Option Addr} {sl_init : Array (Option Value)} (l_init : K.lookup h_init = some ⟨oc_init, od_init, .func (PySem.W.fnOf "__init__" "Hierarchy.__init__" (defArgs Lw.m_init) (defBody Lw.m_init) (defScope Lw.m_init)
      (.ref TD) kV_init dc_init pm_init an_init cd_init ct_init), sl_init⟩)
     (c_init_c : PySem.W.codeIn K cd_init "Hierarchy.__init__" = true)
     (kp_init : PySem.W.keepIn K (.ref h_init) = true)
    {ocT : Value} {odT odU : Option Addr} {nT nU : Nat} {slT slU : Array (Option Value)} {uL : Tok} (lT : K.lookup TD = some ⟨ocT, odT, .seq #[.ref T0] nT, slT⟩)
     (lU : K.lookup T0 = some ⟨.type "tuple", odU, .seq #[] nU, slU⟩)
     (mk : PySem.W.makesIn K C_Hierarchy = true)
     (kc : PySem.W.keepIn K (.ref C_Hierarchy) = true)
     (rd : PySem.W.readsIn K C_Hierarchy (.type "type") = true)
     (ga : PySem.W.specialIn K (.ref C_Hierarchy) "__getattribute__" = some (some (.builtin "type.__getattribute__")))
     (cl : PySem.W.findCls K (.ref C_Hierarchy) (.type "type") "LIMIT" = some (.val (.int 20 uL)))
    {f_is_name : Addr} (a_is_name : PySem.W.nsIn K mainGlobals "is_name" = some (some (.ref f_is_name)))
    {oc_is_name kV_is_name dc_is_name pm_is_name cd_is_name ct_is_name : Value} {od_is_name an_is_name : Option Addr} {sl_is_name : Array (Option Value)} (l_is_name : K.lookup f_is_name = some ⟨oc_is_name, od_is_name, .func (PySem.W.fnOf "is_name" "is_name" (defArgs Lw.sIsName) (defBody Lw.sIsName) (defScope Lw.sIsName)
      .none kV_is_name dc_is_name pm_is_name an_is_name cd_is_name ct_is_name), sl_is_name⟩)
     (c_is_name_c : PySem.W.codeIn K cd_is_name "is_name" = true)
     (kp_is_name : PySem.W.keepIn K (.ref f_is_name) = true)
    {f_are_superclasses : Addr} (a_are_superclasses : PySem.W.nsIn K mainGlobals "are_superclasses" = some (some (.ref f_are_superclasses)))
    {oc_are_superclasses kV_are_superclasses dc_are_superclasses pm_are_superclasses cd_are_superclasses ct_are_superclasses : Value} {od_are_superclasses an_are_superclasses : Option Addr} {sl_are_superclasses : Array (Option Value)} (l_are_superclasses : K.lookup f_are_superclasses = some ⟨oc_are_superclasses, od_are_superclasses, .func (PySem.W.fnOf "are_superclasses" "are_superclasses" (defArgs Lw.sAre) (defBody Lw.sAre) (defScope Lw.sAre)
      .none kV_are_superclasses dc_are_superclasses pm_are_superclasses an_are_superclasses cd_are_superclasses ct_are_superclasses), sl_are_superclasses⟩)
     (c_are_superclasses_c : PySem.W.codeIn K cd_are_superclasses "are_superclasses" = true)
     (kp_are_superclasses : PySem.W.keepIn K (.ref f_are_superclasses) = true)
    {f_row_problem : Addr} (a_row_problem : PySem.W.nsIn K mainGlobals "row_problem" = some (some (.ref f_row_problem)))
    {oc_row_problem kV_row_problem dc_row_problem pm_row_problem cd_row_problem ct_row_problem : Value} {od_row_problem an_row_problem : Option Addr} {sl_row_problem : Array (Option Value)} (l_row_problem : K.lookup f_row_problem = some ⟨oc_row_problem, od_row_problem, .func (PySem.W.fnOf "row_problem" "row_problem" (defArgs Lw.sProb) (defBody Lw.sProb) (defScope Lw.sProb)
      .none kV_row_problem dc_row_problem pm_row_problem an_row_problem cd_row_problem ct_row_problem), sl_row_problem⟩)
     (c_row_problem_c : PySem.W.codeIn K cd_row_problem "row_problem" = true)
     (kp_row_problem : PySem.W.keepIn K (.ref f_row_problem) = true)
    {f_ancestors_of : Addr} (a_ancestors_of : PySem.W.nsIn K mainGlobals "ancestors_of" = some (some (.ref f_ancestors_of)))
    {oc_ancestors_of kV_ancestors_of dc_ancestors_of pm_ancestors_of cd_ancestors_of ct_ancestors_of : Value} {od_ancestors_of an_ancestors_of : Option Addr} {sl_ancestors_of : Array (Option Value)} (l_ancestors_of : K.lookup f_ancestors_of = some ⟨oc_ancestors_of, od_ancestors_of, .func (PySem.W.fnOf "ancestors_of" "ancestors_of" (defArgs Lw.sAnc) (defBody Lw.sAnc) (defScope Lw.sAnc)
      .none kV_ancestors_of dc_ancestors_of pm_ancestors_of an_ancestors_of cd_ancestors_of ct_ancestors_of), sl_ancestors_of⟩)
     (c_ancestors_of_c : PySem.W.codeIn K cd_ancestors_of "ancestors_of" = true)
     (kp_ancestors_of : PySem.W.keepIn K (.ref f_ancestors_of) = true)
    {C_NotFound : Addr} (a_NotFound : PySem.W.nsIn K mainGlobals "NotFound" = some (some (.ref C_NotFound)))
     (xi_NotFound : PySem.W.excInitIn K C_NotFound [.type "LookupError", .type "Exception", .type "BaseException", .type "object"] "LookupError.__new__" = true)
     (xo_NotFound : PySem.W.excOver K C_NotFound [.type "LookupError", .type "Exception", .type "BaseException", .type "object"] = true)
     (xsa_NotFound : PySem.W.findIn K (.ref C_NotFound) "__setattr__" = some (some (.builtin "object.__setattr__")))
     (xhd_NotFound : PySem.W.hasDictIn K C_NotFound = true)
     (xex_NotFound : PySem.W.subIn K (.ref C_NotFound) (.type "BaseException") = some true)
     (xty_NotFound : PySem.W.typeIn K (.ref C_NotFound) = some (.type "type"))
     (xk_NotFound : PySem.W.keepIn K (.ref C_NotFound) = true)
    {f_NotFound_init : Addr} (xin_NotFound : PySem.W.findIn K (.ref C_NotFound) "__init__" = some (some (.ref f_NotFound_init)))
     (xtf_NotFound : PySem.W.typeIn K (.ref f_NotFound_init) = some (.type "function"))
     (nv_NotFound_value : PySem.W.findIn K (.ref C_NotFound) "value" = some none)
    {oc_NotFound_init kV_NotFound_init dc_NotFound_init pm_NotFound_init cd_NotFound_init ct_NotFound_init : Value} {od_NotFound_init an_NotFound_init : Option Addr} {sl_NotFound_init : Array (Option Value)} (l_NotFound_init : K.lookup f_NotFound_init = some ⟨oc_NotFound_init, od_NotFound_init, .func (PySem.W.fnOf "__init__" "NotFound.__init__" (defArgs i_NotFound) (defBody i_NotFound) (defScope i_NotFound)
      .none kV_NotFound_init dc_NotFound_init pm_NotFound_init an_NotFound_init cd_NotFound_init ct_NotFound_init), sl_NotFound_init⟩)
     (c_NotFound_init_c : PySem.W.codeIn K cd_NotFound_init "NotFound.__init__" = true)
     (kp_NotFound_init : PySem.W.keepIn K (.ref f_NotFound_init) = true)
     (xv_LookupError : PySem.W.findCls K (.type "LookupError") (.type "type") "__init__" = some (.val (.builtin "LookupError.__init__")))
    {C_InvalidHierarchy : Addr} (a_InvalidHierarchy : PySem.W.nsIn K mainGlobals "InvalidHierarchy" = some (some (.ref C_InvalidHierarchy)))
     (xi_InvalidHierarchy : PySem.W.excInitIn K C_InvalidHierarchy [.type "ValueError", .type "Exception", .type "BaseException", .type "object"] "ValueError.__new__" = true)
     (xo_InvalidHierarchy : PySem.W.excOver K C_InvalidHierarchy [.type "ValueError", .type "Exception", .type "BaseException", .type "object"] = true)
     (xsa_InvalidHierarchy : PySem.W.findIn K (.ref C_InvalidHierarchy) "__setattr__" = some (some (.builtin "object.__setattr__")))
     (xhd_InvalidHierarchy : PySem.W.hasDictIn K C_InvalidHierarchy = true)
     (xex_InvalidHierarchy : PySem.W.subIn K (.ref C_InvalidHierarchy) (.type "BaseException") = some true)
     (xty_InvalidHierarchy : PySem.W.typeIn K (.ref C_InvalidHierarchy) = some (.type "type"))
     (xk_InvalidHierarchy : PySem.W.keepIn K (.ref C_InvalidHierarchy) = true)
    {f_InvalidHierarchy_init : Addr} (xin_InvalidHierarchy : PySem.W.findIn K (.ref C_InvalidHierarchy) "__init__" = some (some (.ref f_InvalidHierarchy_init)))
     (xtf_InvalidHierarchy : PySem.W.typeIn K (.ref f_InvalidHierarchy_init) = some (.type "function"))
     (nv_InvalidHierarchy_problem : PySem.W.findIn K (.ref C_InvalidHierarchy) "problem" = some none)
     (nv_InvalidHierarchy_position : PySem.W.findIn K (.ref C_InvalidHierarchy) "position" = some none)
    {oc_InvalidHierarchy_init kV_InvalidHierarchy_init dc_InvalidHierarchy_init pm_InvalidHierarchy_init cd_InvalidHierarchy_init ct_InvalidHierarchy_init : Value} {od_InvalidHierarchy_init an_InvalidHierarchy_init : Option Addr} {sl_InvalidHierarchy_init : Array (Option Value)} (l_InvalidHierarchy_init : K.lookup f_InvalidHierarchy_init = some ⟨oc_InvalidHierarchy_init, od_InvalidHierarchy_init, .func (PySem.W.fnOf "__init__" "InvalidHierarchy.__init__" (defArgs i_InvalidHierarchy) (defBody i_InvalidHierarchy) (defScope i_InvalidHierarchy)
      .none kV_InvalidHierarchy_init dc_InvalidHierarchy_init pm_InvalidHierarchy_init an_InvalidHierarchy_init cd_InvalidHierarchy_init ct_InvalidHierarchy_init), sl_InvalidHierarchy_init⟩)
     (c_InvalidHierarchy_init_c : PySem.W.codeIn K cd_InvalidHierarchy_init "InvalidHierarchy.__init__" = true)
     (kp_InvalidHierarchy_init : PySem.W.keepIn K (.ref f_InvalidHierarchy_init) = true)
     (xv_ValueError : PySem.W.findCls K (.type "ValueError") (.type "type") "__init__" = some (.val (.builtin "ValueError.__init__")))
    {C_MethodsError : Addr} (a_MethodsError : PySem.W.nsIn K mainGlobals "MethodsError" = some (some (.ref C_MethodsError)))
     (me_rd : PySem.W.readsIn K C_MethodsError (.type "type") = true)
     (me_ga : PySem.W.specialIn K (.ref C_MethodsError) "__getattribute__" = some (some (.builtin "type.__getattribute__")))
    {f_ME : Addr} (me_ci : PySem.W.findCls K (.ref C_MethodsError) (.type "type") "__init__" = some (.val (.ref f_ME)))
    {oc_MEi kV_MEi dc_MEi pm_MEi cd_MEi ct_MEi : Value} {od_MEi an_MEi : Option Addr} {sl_MEi : Array (Option Value)} (l_MEi : K.lookup f_ME = some ⟨oc_MEi, od_MEi, .func (PySem.W.fnOf "__init__" "MethodsError.__init__" (defArgs i_MethodsError) (defBody i_MethodsError) (defScope i_MethodsError)
      .none kV_MEi dc_MEi pm_MEi an_MEi cd_MEi ct_MEi), sl_MEi⟩)
     (c_MEi_c : PySem.W.codeIn K cd_MEi "MethodsError.__init__" = true)
     (kp_MEi : PySem.W.keepIn K (.ref f_ME) = true)
     (xga_InvalidHierarchy : PySem.W.findIn K (.ref C_InvalidHierarchy) "__getattribute__" = some (some (.builtin "BaseException.__getattribute__")))
     (xgg_InvalidHierarchy : PySem.W.findIn K (.ref C_InvalidHierarchy) "__getattr__" = some none)
     (xse_InvalidHierarchy : PySem.W.subIn K (.ref C_InvalidHierarchy) (.ref C_InvalidHierarchy) = some true)
    {nU0 : Nat} {slU0 : Array (Option Value)} (lU0 : K.lookup T0 = some ⟨.type "tuple", none, .seq #[] nU0, slU0⟩)
    {uo_Hierarchy_LIMIT : Tok} (oc_Hierarchy_LIMIT : PySem.W.findIn K (.ref C_Hierarchy) "LIMIT" = some (some (.int 20 uo_Hierarchy_LIMIT)))
     (og_Hierarchy_LIMIT : PySem.W.specialIn K (.int 20 uo_Hierarchy_LIMIT) "__get__" = some none)
     (xcl0 : PySem.W.specialIn K (.builtin "object.__class__") "__get__" = some (some (.builtin "getset_descriptor.__get__")))
     (xcl1 : PySem.W.takesIn K (.builtin "object.__class__") = some true)
     (xcc_InvalidHierarchy : PySem.W.findIn K (.ref C_InvalidHierarchy) "__class__" = some (some (.builtin "object.__class__")))
     (xmr_InvalidHierarchy : PySem.W.mroIn K C_InvalidHierarchy (.type "object") = some true)
     (kh_InvalidHierarchy : PySem.W.hasDictIn K C_InvalidHierarchy = true)
     (kt_InvalidHierarchy : PySem.W.typeIn K (.ref C_InvalidHierarchy) = some (.type "type"))
     (kx_InvalidHierarchy : PySem.W.subIn K (.ref C_InvalidHierarchy) (.type "BaseException") = some true)
     (km_InvalidHierarchy_InvalidHierarchy : PySem.W.subIn K (.ref C_InvalidHierarchy) (.ref C_InvalidHierarchy) = some true)
    {f__law_pot : Addr} (a__law_pot : PySem.W.nsIn K mainGlobals "_law_pot" = some (some (.ref f__law_pot)))
    {oc__law_pot kV__law_pot dc__law_pot pm__law_pot cd__law_pot ct__law_pot : Value} {od__law_pot an__law_pot : Option Addr} {sl__law_pot : Array (Option Value)} (l__law_pot : K.lookup f__law_pot = some ⟨oc__law_pot, od__law_pot, .func (PySem.W.fnOf "_law_pot" "_law_pot" (defArgs s__law_pot) (defBody s__law_pot) (defScope s__law_pot)
      .none kV__law_pot dc__law_pot pm__law_pot an__law_pot cd__law_pot ct__law_pot), sl__law_pot⟩)
     (c__law_pot_c : PySem.W.codeIn K cd__law_pot "_law_pot" = true)
     (kp__law_pot : PySem.W.keepIn K (.ref f__law_pot) = true)
    {f__law_draw : Addr} (a__law_draw : PySem.W.nsIn K mainGlobals "_law_draw" = some (some (.ref f__law_draw)))
    {oc__law_draw kV__law_draw dc__law_draw pm__law_draw cd__law_draw ct__law_draw : Value} {od__law_draw an__law_draw : Option Addr} {sl__law_draw : Array (Option Value)} (l__law_draw : K.lookup f__law_draw = some ⟨oc__law_draw, od__law_draw, .func (PySem.W.fnOf "_law_draw" "_law_draw" (defArgs s__law_draw) (defBody s__law_draw) (defScope s__law_draw)
      .none kV__law_draw dc__law_draw pm__law_draw an__law_draw cd__law_draw ct__law_draw), sl__law_draw⟩)
     (c__law_draw_c : PySem.W.codeIn K cd__law_draw "_law_draw" = true)
     (kp__law_draw : PySem.W.keepIn K (.ref f__law_draw) = true)
    {f__law_labels : Addr} (a__law_labels : PySem.W.nsIn K mainGlobals "_law_labels" = some (some (.ref f__law_labels)))
    {oc__law_labels kV__law_labels dc__law_labels pm__law_labels cd__law_labels ct__law_labels : Value} {od__law_labels an__law_labels : Option Addr} {sl__law_labels : Array (Option Value)} (l__law_labels : K.lookup f__law_labels = some ⟨oc__law_labels, od__law_labels, .func (PySem.W.fnOf "_law_labels" "_law_labels" (defArgs s__law_labels) (defBody s__law_labels) (defScope s__law_labels)
      .none kV__law_labels dc__law_labels pm__law_labels an__law_labels cd__law_labels ct__law_labels), sl__law_labels⟩)
     (c__law_labels_c : PySem.W.codeIn K cd__law_labels "_law_labels" = true)
     (kp__law_labels : PySem.W.keepIn K (.ref f__law_labels) = true)
    {f__law_mixed : Addr} (a__law_mixed : PySem.W.nsIn K mainGlobals "_law_mixed" = some (some (.ref f__law_mixed)))
    {oc__law_mixed kV__law_mixed dc__law_mixed pm__law_mixed cd__law_mixed ct__law_mixed : Value} {od__law_mixed an__law_mixed : Option Addr} {sl__law_mixed : Array (Option Value)} (l__law_mixed : K.lookup f__law_mixed = some ⟨oc__law_mixed, od__law_mixed, .func (PySem.W.fnOf "_law_mixed" "_law_mixed" (defArgs s__law_mixed) (defBody s__law_mixed) (defScope s__law_mixed)
      .none kV__law_mixed dc__law_mixed pm__law_mixed an__law_mixed cd__law_mixed ct__law_mixed), sl__law_mixed⟩)
     (c__law_mixed_c : PySem.W.codeIn K cd__law_mixed "_law_mixed" = true)
     (kp__law_mixed : PySem.W.keepIn K (.ref f__law_mixed) = true)
    {f__law_value : Addr} (a__law_value : PySem.W.nsIn K mainGlobals "_law_value" = some (some (.ref f__law_value)))
    {oc__law_value kV__law_value dc__law_value pm__law_value cd__law_value ct__law_value : Value} {od__law_value an__law_value : Option Addr} {sl__law_value : Array (Option Value)} (l__law_value : K.lookup f__law_value = some ⟨oc__law_value, od__law_value, .func (PySem.W.fnOf "_law_value" "_law_value" (defArgs s__law_value) (defBody s__law_value) (defScope s__law_value)
      .none kV__law_value dc__law_value pm__law_value an__law_value cd__law_value ct__law_value), sl__law_value⟩)
     (c__law_value_c : PySem.W.codeIn K cd__law_value "_law_value" = true)
     (kp__law_value : PySem.W.keepIn K (.ref f__law_value) = true)
    {p_Hierarchy_of : Addr} (m_Hierarchy_of_m : PySem.W.findCls K (.ref C_Hierarchy) (.type "type") "of" = some (.get (.builtin "classmethod.__get__") (.ref p_Hierarchy_of) .none (.ref C_Hierarchy)))
    {h_Hierarchy_of : Addr} {rest_Hierarchy_of : List Value} (rc_Hierarchy_of : PySem.W.recIn K p_Hierarchy_of "classmethod" = some (.ref h_Hierarchy_of :: rest_Hierarchy_of))
     (fi_Hierarchy_of : PySem.W.fnIn K h_Hierarchy_of = true)
    {oc_Hierarchy_of kV_Hierarchy_of dc_Hierarchy_of pm_Hierarchy_of cd_Hierarchy_of ct_Hierarchy_of : Value} {od_Hierarchy_of an_Hierarchy_of : Option Addr} {sl_Hierarchy_of : Array (Option Value)} (l_Hierarchy_of : K.lookup h_Hierarchy_of = some ⟨oc_Hierarchy_of, od_Hierarchy_of, .func (PySem.W.fnOf "of" "Hierarchy.of" (defArgs m_Hierarchy_of) (defBody m_Hierarchy_of) (defScope m_Hierarchy_of)
      .none kV_Hierarchy_of dc_Hierarchy_of pm_Hierarchy_of an_Hierarchy_of cd_Hierarchy_of ct_Hierarchy_of), sl_Hierarchy_of⟩)
     (c_Hierarchy_of_c : PySem.W.codeIn K cd_Hierarchy_of "Hierarchy.of" = true)
     (kp_Hierarchy_of : PySem.W.keepIn K (.ref h_Hierarchy_of) = true)
     (ic_Hierarchy : PySem.W.isClsIn K C_Hierarchy = true)
     (mi_Hierarchy_of : PySem.W.findIn K (.ref C_Hierarchy) "of" = some (some (.ref p_Hierarchy_of)))
     (ty_Hierarchy_of : PySem.W.typeIn K (.ref p_Hierarchy_of) = some (.type "classmethod"))
     (gt_Hierarchy_of : PySem.W.specialIn K (.ref p_Hierarchy_of) "__get__" = some (some (.builtin "classmethod.__get__")))
     (tk_Hierarchy_of : PySem.W.takesIn K (.ref p_Hierarchy_of) = some false)
    {f__law_called : Addr} (a__law_called : PySem.W.nsIn K mainGlobals "_law_called" = some (some (.ref f__law_called)))
    {oc__law_called kV__law_called dc__law_called pm__law_called cd__law_called ct__law_called : Value} {od__law_called an__law_called : Option Addr} {sl__law_called : Array (Option Value)} (l__law_called : K.lookup f__law_called = some ⟨oc__law_called, od__law_called, .func (PySem.W.fnOf "_law_called" "_law_called" (defArgs s__law_called) (defBody s__law_called) (defScope s__law_called)
      .none kV__law_called dc__law_called pm__law_called an__law_called cd__law_called ct__law_called), sl__law_called⟩)
     (c__law_called_c : PySem.W.codeIn K cd__law_called "_law_called" = true)
     (kp__law_called : PySem.W.keepIn K (.ref f__law_called) = true)
    {h_Hierarchy_has_class : Addr} (m_Hierarchy_has_class_m : PySem.W.findIn K (.ref C_Hierarchy) "has_class" = some (some (.ref h_Hierarchy_has_class)))
     (i_Hierarchy_has_class : PySem.W.isFn K (.ref h_Hierarchy_has_class) = true)
    {oc_Hierarchy_has_class kV_Hierarchy_has_class dc_Hierarchy_has_class pm_Hierarchy_has_class cd_Hierarchy_has_class ct_Hierarchy_has_class : Value} {od_Hierarchy_has_class an_Hierarchy_has_class : Option Addr} {sl_Hierarchy_has_class : Array (Option Value)} (l_Hierarchy_has_class : K.lookup h_Hierarchy_has_class = some ⟨oc_Hierarchy_has_class, od_Hierarchy_has_class, .func (PySem.W.fnOf "has_class" "Hierarchy.has_class" (defArgs m_Hierarchy_has_class) (defBody m_Hierarchy_has_class) (defScope m_Hierarchy_has_class)
      .none kV_Hierarchy_has_class dc_Hierarchy_has_class pm_Hierarchy_has_class an_Hierarchy_has_class cd_Hierarchy_has_class ct_Hierarchy_has_class), sl_Hierarchy_has_class⟩)
     (c_Hierarchy_has_class_c : PySem.W.codeIn K cd_Hierarchy_has_class "Hierarchy.has_class" = true)
     (kp_Hierarchy_has_class : PySem.W.keepIn K (.ref h_Hierarchy_has_class) = true)
    {h_Hierarchy_require_class : Addr} (m_Hierarchy_require_class_m : PySem.W.findIn K (.ref C_Hierarchy) "require_class" = some (some (.ref h_Hierarchy_require_class)))
     (i_Hierarchy_require_class : PySem.W.isFn K (.ref h_Hierarchy_require_class) = true)
    {oc_Hierarchy_require_class kV_Hierarchy_require_class dc_Hierarchy_require_class pm_Hierarchy_require_class cd_Hierarchy_require_class ct_Hierarchy_require_class : Value} {od_Hierarchy_require_class an_Hierarchy_require_class : Option Addr} {sl_Hierarchy_require_class : Array (Option Value)} (l_Hierarchy_require_class : K.lookup h_Hierarchy_require_class = some ⟨oc_Hierarchy_require_class, od_Hierarchy_require_class, .func (PySem.W.fnOf "require_class" "Hierarchy.require_class" (defArgs m_Hierarchy_require_class) (defBody m_Hierarchy_require_class) (defScope m_Hierarchy_require_class)
      .none kV_Hierarchy_require_class dc_Hierarchy_require_class pm_Hierarchy_require_class an_Hierarchy_require_class cd_Hierarchy_require_class ct_Hierarchy_require_class), sl_Hierarchy_require_class⟩)
     (c_Hierarchy_require_class_c : PySem.W.codeIn K cd_Hierarchy_require_class "Hierarchy.require_class" = true)
     (kp_Hierarchy_require_class : PySem.W.keepIn K (.ref h_Hierarchy_require_class) = true)
    {h_Hierarchy_names : Addr} (m_Hierarchy_names_m : PySem.W.findIn K (.ref C_Hierarchy) "names" = some (some (.ref h_Hierarchy_names)))
     (i_Hierarchy_names : PySem.W.isFn K (.ref h_Hierarchy_names) = true)
    {oc_Hierarchy_names kV_Hierarchy_names dc_Hierarchy_names pm_Hierarchy_names cd_Hierarchy_names ct_Hierarchy_names : Value} {od_Hierarchy_names an_Hierarchy_names : Option Addr} {sl_Hierarchy_names : Array (Option Value)} (l_Hierarchy_names : K.lookup h_Hierarchy_names = some ⟨oc_Hierarchy_names, od_Hierarchy_names, .func (PySem.W.fnOf "names" "Hierarchy.names" (defArgs m_Hierarchy_names) (defBody m_Hierarchy_names) (defScope m_Hierarchy_names)
      .none kV_Hierarchy_names dc_Hierarchy_names pm_Hierarchy_names an_Hierarchy_names cd_Hierarchy_names ct_Hierarchy_names), sl_Hierarchy_names⟩)
     (c_Hierarchy_names_c : PySem.W.codeIn K cd_Hierarchy_names "Hierarchy.names" = true)
     (kp_Hierarchy_names : PySem.W.keepIn K (.ref h_Hierarchy_names) = true)
    {h_Hierarchy_ancestors : Addr} (m_Hierarchy_ancestors_m : PySem.W.findIn K (.ref C_Hierarchy) "ancestors" = some (some (.ref h_Hierarchy_ancestors)))
     (i_Hierarchy_ancestors : PySem.W.isFn K (.ref h_Hierarchy_ancestors) = true)
    {oc_Hierarchy_ancestors kV_Hierarchy_ancestors dc_Hierarchy_ancestors pm_Hierarchy_ancestors cd_Hierarchy_ancestors ct_Hierarchy_ancestors : Value} {od_Hierarchy_ancestors an_Hierarchy_ancestors : Option Addr} {sl_Hierarchy_ancestors : Array (Option Value)} (l_Hierarchy_ancestors : K.lookup h_Hierarchy_ancestors = some ⟨oc_Hierarchy_ancestors, od_Hierarchy_ancestors, .func (PySem.W.fnOf "ancestors" "Hierarchy.ancestors" (defArgs m_Hierarchy_ancestors) (defBody m_Hierarchy_ancestors) (defScope m_Hierarchy_ancestors)
      .none kV_Hierarchy_ancestors dc_Hierarchy_ancestors pm_Hierarchy_ancestors an_Hierarchy_ancestors cd_Hierarchy_ancestors ct_Hierarchy_ancestors), sl_Hierarchy_ancestors⟩)
     (c_Hierarchy_ancestors_c : PySem.W.codeIn K cd_Hierarchy_ancestors "Hierarchy.ancestors" = true)
     (kp_Hierarchy_ancestors : PySem.W.keepIn K (.ref h_Hierarchy_ancestors) = true)
    {h_Hierarchy_eq : Addr} (m_Hierarchy_eq_m : PySem.W.findIn K (.ref C_Hierarchy) "__eq__" = some (some (.ref h_Hierarchy_eq)))
     (i_Hierarchy_eq : PySem.W.isFn K (.ref h_Hierarchy_eq) = true)
    {oc_Hierarchy_eq kV_Hierarchy_eq dc_Hierarchy_eq pm_Hierarchy_eq cd_Hierarchy_eq ct_Hierarchy_eq : Value} {od_Hierarchy_eq an_Hierarchy_eq : Option Addr} {sl_Hierarchy_eq : Array (Option Value)} (l_Hierarchy_eq : K.lookup h_Hierarchy_eq = some ⟨oc_Hierarchy_eq, od_Hierarchy_eq, .func (PySem.W.fnOf "__eq__" "Hierarchy.__eq__" (defArgs m_Hierarchy_eq) (defBody m_Hierarchy_eq) (defScope m_Hierarchy_eq)
      .none kV_Hierarchy_eq dc_Hierarchy_eq pm_Hierarchy_eq an_Hierarchy_eq cd_Hierarchy_eq ct_Hierarchy_eq), sl_Hierarchy_eq⟩)
     (c_Hierarchy_eq_c : PySem.W.codeIn K cd_Hierarchy_eq "Hierarchy.__eq__" = true)
     (kp_Hierarchy_eq : PySem.W.keepIn K (.ref h_Hierarchy_eq) = true)
    {h_Hierarchy_repr : Addr} (m_Hierarchy_repr_m : PySem.W.findIn K (.ref C_Hierarchy) "__repr__" = some (some (.ref h_Hierarchy_repr)))
     (i_Hierarchy_repr : PySem.W.isFn K (.ref h_Hierarchy_repr) = true)
    {oc_Hierarchy_repr kV_Hierarchy_repr dc_Hierarchy_repr pm_Hierarchy_repr cd_Hierarchy_repr ct_Hierarchy_repr : Value} {od_Hierarchy_repr an_Hierarchy_repr : Option Addr} {sl_Hierarchy_repr : Array (Option Value)} (l_Hierarchy_repr : K.lookup h_Hierarchy_repr = some ⟨oc_Hierarchy_repr, od_Hierarchy_repr, .func (PySem.W.fnOf "__repr__" "Hierarchy.__repr__" (defArgs m_Hierarchy_repr) (defBody m_Hierarchy_repr) (defScope m_Hierarchy_repr)
      .none kV_Hierarchy_repr dc_Hierarchy_repr pm_Hierarchy_repr an_Hierarchy_repr cd_Hierarchy_repr ct_Hierarchy_repr), sl_Hierarchy_repr⟩)
     (c_Hierarchy_repr_c : PySem.W.codeIn K cd_Hierarchy_repr "Hierarchy.__repr__" = true)
     (kp_Hierarchy_repr : PySem.W.keepIn K (.ref h_Hierarchy_repr) = true)
    {f__law_told : Addr} (a__law_told : PySem.W.nsIn K mainGlobals "_law_told" = some (some (.ref f__law_told)))
    {oc__law_told kV__law_told dc__law_told pm__law_told cd__law_told ct__law_told : Value} {od__law_told an__law_told : Option Addr} {sl__law_told : Array (Option Value)} (l__law_told : K.lookup f__law_told = some ⟨oc__law_told, od__law_told, .func (PySem.W.fnOf "_law_told" "_law_told" (defArgs s__law_told) (defBody s__law_told) (defScope s__law_told)
      .none kV__law_told dc__law_told pm__law_told an__law_told cd__law_told ct__law_told), sl__law_told⟩)
     (c__law_told_c : PySem.W.codeIn K cd__law_told "_law_told" = true)
     (kp__law_told : PySem.W.keepIn K (.ref f__law_told) = true)
    {f__law_due : Addr} (a__law_due : PySem.W.nsIn K mainGlobals "_law_due" = some (some (.ref f__law_due)))
    {oc__law_due kV__law_due dc__law_due pm__law_due cd__law_due ct__law_due : Value} {od__law_due an__law_due : Option Addr} {sl__law_due : Array (Option Value)} (l__law_due : K.lookup f__law_due = some ⟨oc__law_due, od__law_due, .func (PySem.W.fnOf "_law_due" "_law_due" (defArgs s__law_due) (defBody s__law_due) (defScope s__law_due)
      .none kV__law_due dc__law_due pm__law_due an__law_due cd__law_due ct__law_due), sl__law_due⟩)
     (c__law_due_c : PySem.W.codeIn K cd__law_due "_law_due" = true)
     (kp__law_due : PySem.W.keepIn K (.ref f__law_due) = true)
    {f__law_twenty_one : Addr} (a__law_twenty_one : PySem.W.nsIn K mainGlobals "_law_twenty_one" = some (some (.ref f__law_twenty_one)))
    {oc__law_twenty_one kV__law_twenty_one dc__law_twenty_one pm__law_twenty_one cd__law_twenty_one ct__law_twenty_one : Value} {od__law_twenty_one an__law_twenty_one : Option Addr} {sl__law_twenty_one : Array (Option Value)} (l__law_twenty_one : K.lookup f__law_twenty_one = some ⟨oc__law_twenty_one, od__law_twenty_one, .func (PySem.W.fnOf "_law_twenty_one" "_law_twenty_one" (defArgs s__law_twenty_one) (defBody s__law_twenty_one) (defScope s__law_twenty_one)
      .none kV__law_twenty_one dc__law_twenty_one pm__law_twenty_one an__law_twenty_one cd__law_twenty_one ct__law_twenty_one), sl__law_twenty_one⟩)
     (c__law_twenty_one_c : PySem.W.codeIn K cd__law_twenty_one "_law_twenty_one" = true)
     (kp__law_twenty_one : PySem.W.keepIn K (.ref f__law_twenty_one) = true)
    {f_law : Addr} (a_law : PySem.W.nsIn K mainGlobals "law" = some (some (.ref f_law)))
    {oc_law kV_law dc_law pm_law cd_law ct_law : Value} {od_law an_law : Option Addr} {sl_law : Array (Option Value)} (l_law : K.lookup f_law = some ⟨oc_law, od_law, .func (PySem.W.fnOf "law" "law" (defArgs s_law) (defBody s_law) (defScope s_law)
      .none kV_law dc_law pm_law an_law cd_law ct_law), sl_law⟩)
     (c_law_c : PySem.W.codeIn K cd_law "law" = true)
     (kp_law : PySem.W.keepIn K (.ref f_law) = true)
     (mo_Hierarchy : PySem.W.mroIn K C_Hierarchy (.type "object") = some true)
     (hcc_Hierarchy : PySem.W.findIn K (.ref C_Hierarchy) "__class__" = some (some (.builtin "object.__class__")))
     (hty_Hierarchy : PySem.W.typeIn K (.ref C_Hierarchy) = some (.type "type"))
     (hsc_Hierarchy : PySem.W.subIn K (.ref C_Hierarchy) (.ref C_Hierarchy) = some true)
     (z_LookupError : PySem.W.nsIn K mainGlobals "LookupError" = some none)
     (z_ValueError : PySem.W.nsIn K mainGlobals "ValueError" = some none)
     (z_abs : PySem.W.nsIn K mainGlobals "abs" = some none)
     (z_all : PySem.W.nsIn K mainGlobals "all" = some none)
     (z_any : PySem.W.nsIn K mainGlobals "any" = some none)
     (z_divmod : PySem.W.nsIn K mainGlobals "divmod" = some none)
     (z_enumerate : PySem.W.nsIn K mainGlobals "enumerate" = some none)
     (z_isinstance : PySem.W.nsIn K mainGlobals "isinstance" = some none)
     (z_len : PySem.W.nsIn K mainGlobals "len" = some none)
     (z_list : PySem.W.nsIn K mainGlobals "list" = some none)
     (z_max : PySem.W.nsIn K mainGlobals "max" = some none)
     (z_min : PySem.W.nsIn K mainGlobals "min" = some none)
     (z_range : PySem.W.nsIn K mainGlobals "range" = some none)
     (z_repr : PySem.W.nsIn K mainGlobals "repr" = some none)
     (z_set : PySem.W.nsIn K mainGlobals "set" = some none)
     (z_str : PySem.W.nsIn K mainGlobals "str" = some none)
     (z_tuple : PySem.W.nsIn K mainGlobals "tuple" = some none)
     (z_zip : PySem.W.nsIn K mainGlobals "zip" = some none)
    {ut_LETTERS : Tok} (e_LETTERS : PySem.W.nsIn K mainGlobals "LETTERS" = some (some (.str "abcdefghijklmnopqrstuvwxyz" ut_LETTERS)))
    {ut_LONGEST_NAME : Tok} (e_LONGEST_NAME : PySem.W.nsIn K mainGlobals "LONGEST_NAME" = some (some (.int 8 ut_LONGEST_NAME)))
    : ∃ fd : FuncData, (∀ (s : Shared) (v : Value), BindsTo s fd ⟨[v], []⟩ [("_law_script", v)]) ∧
      ∀ base : Heap, K.In base → base.Ns mainGlobals mg → sysModules < base.objs.size →
        FnG l.prog w K mg base CX0 9 fa fd ["_law_script"] (Pu.spLaw K) := by
  have e := hfa.symm.trans (PySem.W.mg_of X G a_law)
  cases e
  have k_Hierarchy : Cls K C_Hierarchy := ⟨pg_Hierarchy, hd_Hierarchy, po_Hierarchy, sa_Hierarchy⟩
  have g_Hierarchy := PySem.W.mg_of X G a_Hierarchy
  have T : HTxt K mg C_Hierarchy := ⟨k_Hierarchy, na_Hierarchy_rows, na_Hierarchy_places, na_Hierarchy_above, g_Hierarchy, _, _, ⟨rd, ga⟩, ⟨cl, ⟨_, rfl⟩⟩⟩
  obtain ⟨fdI, F_init⟩ : ∃ fdI, FunD K "__init__" "Hierarchy.__init__" (defArgs Lw.m_init) (defBody Lw.m_init) (defScope Lw.m_init) [.ref T0] [] h_init fdI :=
    ⟨_, ⟨_, _, .ref TD, _, _, _, _, _, _, _, rfl, l_init, c_init_c, .inr ⟨by simp, TD, _, [.ref T0], _, rfl, lT, rfl, .cons rfl .nil⟩, .inl rfl⟩, kp_init⟩
  have b_init1 : Binds K fdI ["self", "classes"] [] := by
    obtain ⟨ds, r, b⟩ := F_init.binds1 (ps := ["self", "classes"]) 2 1 (by simp) rfl fun _ _ _ _ _ _ _ us its hu hi =>
      match us, its, hu, hi with | [_, _], [_], _, _ => ⟨_, rfl, rfl⟩
    cases r
    exact b
  have M : Mk K C_Hierarchy h_init := ⟨mk, m_init, i_init, kc⟩
  have U_is_name := fun_mk (st := Lw.sIsName) l_is_name c_is_name_c kp_is_name
  have b_is_name := U_is_name.binds (ps := ["value"]) fun _ _ _ _ _ _ us hl =>
    match us, hl with | [_], _ => rfl
  have g_is_name := PySem.W.mg_of X G a_is_name
  have d_is_name : Def K mg "is_name" Lw.sIsName ["value"] := ⟨_, _, U_is_name, b_is_name, g_is_name⟩
  have U_are_superclasses := fun_mk (st := Lw.sAre) l_are_superclasses c_are_superclasses_c kp_are_superclasses
  have b_are_superclasses := U_are_superclasses.binds (ps := ["value", "known"]) fun _ _ _ _ _ _ us hl =>
    match us, hl with | [_, _], _ => rfl
  have g_are_superclasses := PySem.W.mg_of X G a_are_superclasses
  have d_are_superclasses : Def K mg "are_superclasses" Lw.sAre ["value", "known"] := ⟨_, _, U_are_superclasses, b_are_superclasses, g_are_superclasses⟩
  have U_row_problem := fun_mk (st := Lw.sProb) l_row_problem c_row_problem_c kp_row_problem
  have b_row_problem := U_row_problem.binds (ps := ["row", "known"]) fun _ _ _ _ _ _ us hl =>
    match us, hl with | [_, _], _ => rfl
  have g_row_problem := PySem.W.mg_of X G a_row_problem
  have d_row_problem : Def K mg "row_problem" Lw.sProb ["row", "known"] := ⟨_, _, U_row_problem, b_row_problem, g_row_problem⟩
  have U_ancestors_of := fun_mk (st := Lw.sAnc) l_ancestors_of c_ancestors_of_c kp_ancestors_of
  have b_ancestors_of := U_ancestors_of.binds (ps := ["name", "superclasses", "above"]) fun _ _ _ _ _ _ us hl =>
    match us, hl with | [_, _, _], _ => rfl
  have g_ancestors_of := PySem.W.mg_of X G a_ancestors_of
  have d_ancestors_of : Def K mg "ancestors_of" Lw.sAnc ["name", "superclasses", "above"] := ⟨_, _, U_ancestors_of, b_ancestors_of, g_ancestors_of⟩
  have ca_Hierarchy_LIMIT : CAt K mg "Hierarchy" C_Hierarchy "LIMIT" 20 := ⟨_, _, ⟨rd, ga⟩, ⟨cl, ⟨_, rfl⟩⟩, g_Hierarchy⟩
  have g_NotFound := PySem.W.mg_of X G a_NotFound
  have O_NotFound : Er.Over K C_NotFound "LookupError" "LookupError.__new__" "LookupError.__init__" [.type "LookupError", .type "Exception", .type "BaseException", .type "object"] := ⟨PySem.F.excBase_LookupError, PySem.F.store_LookupError, xi_NotFound, xo_NotFound, xsa_NotFound, xhd_NotFound, xex_NotFound, xty_NotFound, xk_NotFound⟩
  have U_NotFound_init := fun_mk (st := i_NotFound) l_NotFound_init c_NotFound_init_c kp_NotFound_init
  have b_NotFound_init := U_NotFound_init.binds (ps := ["self", "value"]) fun _ _ _ _ _ _ us hl =>
    match us, hl with | [_, _], _ => rfl
  have g_InvalidHierarchy := PySem.W.mg_of X G a_InvalidHierarchy
  have O_InvalidHierarchy : Er.Over K C_InvalidHierarchy "ValueError" "ValueError.__new__" "ValueError.__init__" [.type "ValueError", .type "Exception", .type "BaseException", .type "object"] := ⟨PySem.F.excBase_ValueError, PySem.F.store_ValueError, xi_InvalidHierarchy, xo_InvalidHierarchy, xsa_InvalidHierarchy, xhd_InvalidHierarchy, xex_InvalidHierarchy, xty_InvalidHierarchy, xk_InvalidHierarchy⟩
  have U_InvalidHierarchy_init := fun_mk (st := i_InvalidHierarchy) l_InvalidHierarchy_init c_InvalidHierarchy_init_c kp_InvalidHierarchy_init
  have b_InvalidHierarchy_init := U_InvalidHierarchy_init.binds (ps := ["self", "problem", "position"]) fun _ _ _ _ _ _ us hl =>
    match us, hl with | [_, _, _], _ => rfl
  have g_MethodsError := PySem.W.mg_of X G a_MethodsError
  have U_MEi := fun_mk (st := i_MethodsError) l_MEi c_MEi_c kp_MEi
  have b_MEi := U_MEi.binds (ps := ["self", "message"]) fun _ _ _ _ _ _ us hl =>
    match us, hl with | [_, _], _ => rfl
  have xf_InvalidHierarchy : XfC K C_InvalidHierarchy := ⟨xga_InvalidHierarchy, xgg_InvalidHierarchy, xex_InvalidHierarchy, xhd_InvalidHierarchy⟩
  have ex_InvalidHierarchy := PySem.W.exm_ref xex_InvalidHierarchy xhd_InvalidHierarchy xty_InvalidHierarchy xse_InvalidHierarchy
  have b_init0 : Binds K fdI ["self", "classes"] [.ref T0] := by
    obtain ⟨ds, r, b⟩ := F_init.binds1 (ps := ["self", "classes"]) 1 0 (by simp) rfl fun _ _ _ _ _ _ _ us its hu hi =>
      match us, its, hu, hi with | [_], [_], _, _ => ⟨_, rfl, rfl⟩
    cases r with
    | cons h t => cases t; cases h; exact b
  have ocon_Hierarchy_LIMIT : OCon K C_Hierarchy "LIMIT" 20 := ⟨k_Hierarchy, _, oc_Hierarchy_LIMIT, ⟨_, rfl⟩, og_Hierarchy_LIMIT, by decide +kernel⟩
  have xc_InvalidHierarchy : ExcC K C_InvalidHierarchy := ⟨xga_InvalidHierarchy, xgg_InvalidHierarchy, xex_InvalidHierarchy, xhd_InvalidHierarchy, xcc_InvalidHierarchy, xcl0, xcl1, xmr_InvalidHierarchy⟩
  have ex_InvalidHierarchy_InvalidHierarchy := PySem.W.exm_ref kx_InvalidHierarchy kh_InvalidHierarchy kt_InvalidHierarchy km_InvalidHierarchy_InvalidHierarchy
  have U__law_pot := fun_mk (st := s__law_pot) l__law_pot c__law_pot_c kp__law_pot
  have b__law_pot := U__law_pot.binds (ps := ["_law_script", "_law_k"]) fun _ _ _ _ _ _ us hl =>
    match us, hl with | [_, _], _ => rfl
  have g__law_pot := PySem.W.mg_of X G a__law_pot
  have d__law_pot : Def K mg "_law_pot" s__law_pot ["_law_script", "_law_k"] := ⟨_, _, U__law_pot, b__law_pot, g__law_pot⟩
  have U__law_draw := fun_mk (st := s__law_draw) l__law_draw c__law_draw_c kp__law_draw
  have b__law_draw := U__law_draw.binds (ps := ["_law_pot_here", "_law_many"]) fun _ _ _ _ _ _ us hl =>
    match us, hl with | [_, _], _ => rfl
  have g__law_draw := PySem.W.mg_of X G a__law_draw
  have d__law_draw : Def K mg "_law_draw" s__law_draw ["_law_pot_here", "_law_many"] := ⟨_, _, U__law_draw, b__law_draw, g__law_draw⟩
  have U__law_labels := fun_mk (st := s__law_labels) l__law_labels c__law_labels_c kp__law_labels
  have b__law_labels := U__law_labels.binds (ps := ["_law_way"]) fun _ _ _ _ _ _ us hl =>
    match us, hl with | [_], _ => rfl
  have g__law_labels := PySem.W.mg_of X G a__law_labels
  have d__law_labels : Def K mg "_law_labels" s__law_labels ["_law_way"] := ⟨_, _, U__law_labels, b__law_labels, g__law_labels⟩
  have U__law_mixed := fun_mk (st := s__law_mixed) l__law_mixed c__law_mixed_c kp__law_mixed
  have b__law_mixed := U__law_mixed.binds (ps := ["_law_pot_here", "_law_some"]) fun _ _ _ _ _ _ us hl =>
    match us, hl with | [_, _], _ => rfl
  have g__law_mixed := PySem.W.mg_of X G a__law_mixed
  have d__law_mixed : Def K mg "_law_mixed" s__law_mixed ["_law_pot_here", "_law_some"] := ⟨_, _, U__law_mixed, b__law_mixed, g__law_mixed⟩
  have U__law_value := fun_mk (st := s__law_value) l__law_value c__law_value_c kp__law_value
  have b__law_value := U__law_value.binds (ps := ["_law_pot_here", "_law_labels_here", "_law_label"]) fun _ _ _ _ _ _ us hl =>
    match us, hl with | [_, _, _], _ => rfl
  have g__law_value := PySem.W.mg_of X G a__law_value
  have d__law_value : Def K mg "_law_value" s__law_value ["_law_pot_here", "_law_labels_here", "_law_label"] := ⟨_, _, U__law_value, b__law_value, g__law_value⟩
  have U_Hierarchy_of := fun_mk (st := m_Hierarchy_of) l_Hierarchy_of c_Hierarchy_of_c kp_Hierarchy_of
  have dw_Hierarchy_of_4 : DefCW K mg "Hierarchy" C_Hierarchy "of" "Hierarchy.of" m_Hierarchy_of "cls" "superclasses" [] := ⟨_, _, _, _, U_Hierarchy_of, fun a us hl =>
    match us, hl with | [], _ => by kernel_rfl, ⟨rd, ga⟩, ⟨m_Hierarchy_of_m, ⟨_, rc_Hierarchy_of⟩, fi_Hierarchy_of⟩, g_Hierarchy⟩
  have dw_Hierarchy_of_7 : DefCW K mg "Hierarchy" C_Hierarchy "of" "Hierarchy.of" m_Hierarchy_of "cls" "superclasses" ["aa", "ab", "ac", "ad", "ae", "af", "ag", "ah", "ai", "aj", "ak", "al", "am", "an", "ao", "ap", "aq", "ar", "au", "az", "av"] := ⟨_, _, _, _, U_Hierarchy_of, fun a us hl =>
    match us, hl with | [_, _, _, _, _, _, _, _, _, _, _, _, _, _, _, _, _, _, _, _, _], _ => by kernel_rfl, ⟨rd, ga⟩, ⟨m_Hierarchy_of_m, ⟨_, rc_Hierarchy_of⟩, fi_Hierarchy_of⟩, g_Hierarchy⟩
  have dw_Hierarchy_of_1 : DefCW K mg "Hierarchy" C_Hierarchy "of" "Hierarchy.of" m_Hierarchy_of "cls" "superclasses" ["low", "edge", "side", "top"] := ⟨_, _, _, _, U_Hierarchy_of, fun a us hl =>
    match us, hl with | [_, _, _, _], _ => by kernel_rfl, ⟨rd, ga⟩, ⟨m_Hierarchy_of_m, ⟨_, rc_Hierarchy_of⟩, fi_Hierarchy_of⟩, g_Hierarchy⟩
  have dw_Hierarchy_of_6 : DefCW K mg "Hierarchy" C_Hierarchy "of" "Hierarchy.of" m_Hierarchy_of "cls" "superclasses" ["ninechars", "low"] := ⟨_, _, _, _, U_Hierarchy_of, fun a us hl =>
    match us, hl with | [_, _], _ => by kernel_rfl, ⟨rd, ga⟩, ⟨m_Hierarchy_of_m, ⟨_, rc_Hierarchy_of⟩, fi_Hierarchy_of⟩, g_Hierarchy⟩
  have dwi_Hierarchy_of_2 : DefIW K C_Hierarchy "of" "Hierarchy.of" m_Hierarchy_of "cls" "superclasses" ["side", "top", "low"] := ⟨_, _, _, U_Hierarchy_of, fun a us hl =>
    match us, hl with | [_, _, _], _ => by kernel_rfl, ⟨pg_Hierarchy, ic_Hierarchy, mi_Hierarchy_of, ty_Hierarchy_of, gt_Hierarchy_of, tk_Hierarchy_of, by decide +kernel, ⟨_, rc_Hierarchy_of⟩, fi_Hierarchy_of⟩⟩
  have dw_Hierarchy_of_3 : DefCW K mg "Hierarchy" C_Hierarchy "of" "Hierarchy.of" m_Hierarchy_of "cls" "superclasses" ["top"] := ⟨_, _, _, _, U_Hierarchy_of, fun a us hl =>
    match us, hl with | [_], _ => by kernel_rfl, ⟨rd, ga⟩, ⟨m_Hierarchy_of_m, ⟨_, rc_Hierarchy_of⟩, fi_Hierarchy_of⟩, g_Hierarchy⟩
  have dw_Hierarchy_of_5 : DefCW K mg "Hierarchy" C_Hierarchy "of" "Hierarchy.of" m_Hierarchy_of "cls" "superclasses" ["top", "Side", "low"] := ⟨_, _, _, _, U_Hierarchy_of, fun a us hl =>
    match us, hl with | [_, _, _], _ => by kernel_rfl, ⟨rd, ga⟩, ⟨m_Hierarchy_of_m, ⟨_, rc_Hierarchy_of⟩, fi_Hierarchy_of⟩, g_Hierarchy⟩
  have dw_Hierarchy_of_0 : DefCW K mg "Hierarchy" C_Hierarchy "of" "Hierarchy.of" m_Hierarchy_of "cls" "superclasses" ["top", "side", "edge", "low"] := ⟨_, _, _, _, U_Hierarchy_of, fun a us hl =>
    match us, hl with | [_, _, _, _], _ => by kernel_rfl, ⟨rd, ga⟩, ⟨m_Hierarchy_of_m, ⟨_, rc_Hierarchy_of⟩, fi_Hierarchy_of⟩, g_Hierarchy⟩
  have U__law_called := fun_mk (st := s__law_called) l__law_called c__law_called_c kp__law_called
  have b__law_called := U__law_called.binds (ps := ["_law_way", "_law_some"]) fun _ _ _ _ _ _ us hl =>
    match us, hl with | [_, _], _ => rfl
  have g__law_called := PySem.W.mg_of X G a__law_called
  have d__law_called : Def K mg "_law_called" s__law_called ["_law_way", "_law_some"] := ⟨_, _, U__law_called, b__law_called, g__law_called⟩
  have U_Hierarchy_has_class := fun_mk (st := m_Hierarchy_has_class) l_Hierarchy_has_class c_Hierarchy_has_class_c kp_Hierarchy_has_class
  have b_Hierarchy_has_class := U_Hierarchy_has_class.binds (ps := ["self", "value"]) fun _ _ _ _ _ _ us hl =>
    match us, hl with | [_, _], _ => rfl
  have d_Hierarchy_has_class : DefM K C_Hierarchy "has_class" "Hierarchy.has_class" m_Hierarchy_has_class ["self", "value"] := ⟨_, _, U_Hierarchy_has_class, b_Hierarchy_has_class, ⟨m_Hierarchy_has_class_m, i_Hierarchy_has_class, kp_Hierarchy_has_class⟩, k_Hierarchy⟩
  have U_Hierarchy_require_class := fun_mk (st := m_Hierarchy_require_class) l_Hierarchy_require_class c_Hierarchy_require_class_c kp_Hierarchy_require_class
  have b_Hierarchy_require_class := U_Hierarchy_require_class.binds (ps := ["self", "value"]) fun _ _ _ _ _ _ us hl =>
    match us, hl with | [_, _], _ => rfl
  have d_Hierarchy_require_class : DefM K C_Hierarchy "require_class" "Hierarchy.require_class" m_Hierarchy_require_class ["self", "value"] := ⟨_, _, U_Hierarchy_require_class, b_Hierarchy_require_class, ⟨m_Hierarchy_require_class_m, i_Hierarchy_require_class, kp_Hierarchy_require_class⟩, k_Hierarchy⟩
  have U_Hierarchy_names := fun_mk (st := m_Hierarchy_names) l_Hierarchy_names c_Hierarchy_names_c kp_Hierarchy_names
  have b_Hierarchy_names := U_Hierarchy_names.binds (ps := ["self"]) fun _ _ _ _ _ _ us hl =>
    match us, hl with | [_], _ => rfl
  have d_Hierarchy_names : DefM K C_Hierarchy "names" "Hierarchy.names" m_Hierarchy_names ["self"] := ⟨_, _, U_Hierarchy_names, b_Hierarchy_names, ⟨m_Hierarchy_names_m, i_Hierarchy_names, kp_Hierarchy_names⟩, k_Hierarchy⟩
  have U_Hierarchy_ancestors := fun_mk (st := m_Hierarchy_ancestors) l_Hierarchy_ancestors c_Hierarchy_ancestors_c kp_Hierarchy_ancestors
  have b_Hierarchy_ancestors := U_Hierarchy_ancestors.binds (ps := ["self", "name"]) fun _ _ _ _ _ _ us hl =>
    match us, hl with | [_, _], _ => rfl
  have d_Hierarchy_ancestors : DefM K C_Hierarchy "ancestors" "Hierarchy.ancestors" m_Hierarchy_ancestors ["self", "name"] := ⟨_, _, U_Hierarchy_ancestors, b_Hierarchy_ancestors, ⟨m_Hierarchy_ancestors_m, i_Hierarchy_ancestors, kp_Hierarchy_ancestors⟩, k_Hierarchy⟩
  have U_Hierarchy_eq := fun_mk (st := m_Hierarchy_eq) l_Hierarchy_eq c_Hierarchy_eq_c kp_Hierarchy_eq
  have b_Hierarchy_eq := U_Hierarchy_eq.binds (ps := ["self", "other"]) fun _ _ _ _ _ _ us hl =>
    match us, hl with | [_, _], _ => rfl
  have d_Hierarchy_eq : DefM K C_Hierarchy "__eq__" "Hierarchy.__eq__" m_Hierarchy_eq ["self", "other"] := ⟨_, _, U_Hierarchy_eq, b_Hierarchy_eq, ⟨m_Hierarchy_eq_m, i_Hierarchy_eq, kp_Hierarchy_eq⟩, k_Hierarchy⟩
  have U_Hierarchy_repr := fun_mk (st := m_Hierarchy_repr) l_Hierarchy_repr c_Hierarchy_repr_c kp_Hierarchy_repr
  have b_Hierarchy_repr := U_Hierarchy_repr.binds (ps := ["self"]) fun _ _ _ _ _ _ us hl =>
    match us, hl with | [_], _ => rfl
  have d_Hierarchy_repr : DefM K C_Hierarchy "__repr__" "Hierarchy.__repr__" m_Hierarchy_repr ["self"] := ⟨_, _, U_Hierarchy_repr, b_Hierarchy_repr, ⟨m_Hierarchy_repr_m, i_Hierarchy_repr, kp_Hierarchy_repr⟩, k_Hierarchy⟩
  have U__law_told := fun_mk (st := s__law_told) l__law_told c__law_told_c kp__law_told
  have b__law_told := U__law_told.binds (ps := ["_law_way", "_law_labels_here", "_law_some"]) fun _ _ _ _ _ _ us hl =>
    match us, hl with | [_, _, _], _ => rfl
  have g__law_told := PySem.W.mg_of X G a__law_told
  have d__law_told : Def K mg "_law_told" s__law_told ["_law_way", "_law_labels_here", "_law_some"] := ⟨_, _, U__law_told, b__law_told, g__law_told⟩
  have U__law_due := fun_mk (st := s__law_due) l__law_due c__law_due_c kp__law_due
  have b__law_due := U__law_due.binds (ps := ["_law_labels_here", "_law_some"]) fun _ _ _ _ _ _ us hl =>
    match us, hl with | [_, _], _ => rfl
  have g__law_due := PySem.W.mg_of X G a__law_due
  have d__law_due : Def K mg "_law_due" s__law_due ["_law_labels_here", "_law_some"] := ⟨_, _, U__law_due, b__law_due, g__law_due⟩
  have U__law_twenty_one := fun_mk (st := s__law_twenty_one) l__law_twenty_one c__law_twenty_one_c kp__law_twenty_one
  have b__law_twenty_one := U__law_twenty_one.binds (ps := []) fun _ _ _ _ _ _ us hl =>
    match us, hl with | [], _ => rfl
  have g__law_twenty_one := PySem.W.mg_of X G a__law_twenty_one
  have d__law_twenty_one : Def K mg "_law_twenty_one" s__law_twenty_one [] := ⟨_, _, U__law_twenty_one, b__law_twenty_one, g__law_twenty_one⟩
  have U_law := fun_mk (st := s_law) l_law c_law_c kp_law
  have oi_Hierarchy : OIs K C_Hierarchy := ⟨k_Hierarchy, hcc_Hierarchy, xcl0, xcl1, mo_Hierarchy, Pu.kitR hd_Hierarchy hty_Hierarchy hsc_Hierarchy hsc_Hierarchy⟩
  have n_LookupError := PySem.W.mg_none_of X G z_LookupError
  have n_ValueError := PySem.W.mg_none_of X G z_ValueError
  have n_abs := PySem.W.mg_none_of X G z_abs
  have n_all := PySem.W.mg_none_of X G z_all
  have n_any := PySem.W.mg_none_of X G z_any
  have n_divmod := PySem.W.mg_none_of X G z_divmod
  have n_enumerate := PySem.W.mg_none_of X G z_enumerate
  have n_isinstance := PySem.W.mg_none_of X G z_isinstance
  have n_len := PySem.W.mg_none_of X G z_len
  have n_list := PySem.W.mg_none_of X G z_list
  have n_max := PySem.W.mg_none_of X G z_max
  have n_min := PySem.W.mg_none_of X G z_min
  have n_range := PySem.W.mg_none_of X G z_range
  have n_repr := PySem.W.mg_none_of X G z_repr
  have n_set := PySem.W.mg_none_of X G z_set
  have n_str := PySem.W.mg_none_of X G z_str
  have n_tuple := PySem.W.mg_none_of X G z_tuple
  have n_zip := PySem.W.mg_none_of X G z_zip
  have g_LETTERS := PySem.W.mg_of X G e_LETTERS
  have g_LONGEST_NAME := PySem.W.mg_of X G e_LONGEST_NAME
  refine ⟨PySem.W.fnOf "law" "law" (defArgs s_law) (defBody s_law) (defScope s_law)
      .none kV_law dc_law pm_law an_law cd_law ct_law, fun s v => ?_, fun base _ _ low => ?_⟩
  · exact .of_eq rfl
  · have GA := Lw.ok_are (P := l.prog) (w := w) (base := base) (k := 0) U_are_superclasses n_isinstance n_tuple n_str n_all n_len n_set
    have GIN := Lw.ok_isname (P := l.prog) (w := w) (base := base) (k := 0) U_is_name n_isinstance n_str n_len n_all g_LETTERS g_LONGEST_NAME
    have GPr := Lw.ok_prob (P := l.prog) (w := w) (base := base) (k := 0) U_row_problem U_is_name b_is_name g_is_name U_are_superclasses b_are_superclasses g_are_superclasses GIN GA n_isinstance n_tuple n_len
    have GAn := Lw.ok_anc (P := l.prog) (w := w) (mg := mg) (base := base) (k := 0) U_ancestors_of
    have GI := Lw.ok_init (P := l.prog) (w := w) (base := base) (k := 0) F_init T U_row_problem b_row_problem g_row_problem U_ancestors_of b_ancestors_of g_ancestors_of GPr GAn n_isinstance n_tuple n_list n_enumerate n_len
    have mkHier : Lw.MkHi l.prog w K mg base C_Hierarchy 3 := ⟨_, _, M, GI, g_Hierarchy, b_init1⟩
    have r_NotFound : RsC l.prog w K mg base 1 "NotFound" C_NotFound ["value"] (fun _ => true) := ⟨_, _, ["self", "value"], fun _ _ => True, ⟨_, _, _, _, O_NotFound⟩, xin_NotFound, xtf_NotFound, ok_NotFound (k := 0) U_NotFound_init O_NotFound n_LookupError xv_LookupError nv_NotFound_value, b_NotFound_init, g_NotFound, rfl, by decide, fun _ _ _ _ _ _ _ _ _ => trivial⟩
    have GME := ok_MethodsError (P' := l.prog) (w := w) (mg := mg) (base := base) (k := 0) U_MEi n_ValueError xv_ValueError
    have r_InvalidHierarchy : RsC l.prog w K mg base 2 "InvalidHierarchy" C_InvalidHierarchy ["problem", "position"] (Lx.textI) := ⟨_, _, ["self", "problem", "position"], fun ws _ => ∃ (p : Str) (i : Int), ws = [.str p, .int i] ∧ p.length ≤ 100 ∧ 0 ≤ i ∧ i ≤ 1000000, ⟨_, _, _, _, O_InvalidHierarchy⟩, xin_InvalidHierarchy, xtf_InvalidHierarchy, ok_InvalidHierarchy (k := 0) U_InvalidHierarchy_init O_InvalidHierarchy U_MEi b_MEi GME g_MethodsError ⟨me_rd, me_ga⟩ me_ci nv_InvalidHierarchy_problem nv_InvalidHierarchy_position, b_InvalidHierarchy_init, g_InvalidHierarchy, rfl, by decide, fun ok H vs ds r hd a o _ => Lx.textI_ok r hd⟩
    have GAX := Lx.ok_are (P := l.prog) (w := w) (base := base) (k := 0) U_are_superclasses n_isinstance n_tuple n_str n_all n_len n_set
    have GINX := Lx.ok_isname (P := l.prog) (w := w) (base := base) (k := 0) U_is_name n_isinstance n_str n_len n_all g_LETTERS g_LONGEST_NAME
    have GPX := Lx.ok_prob (P := l.prog) (w := w) (base := base) (k := 0) U_row_problem U_is_name b_is_name g_is_name U_are_superclasses b_are_superclasses g_are_superclasses GINX GAX n_isinstance n_tuple n_len
    have GIX := Lx.ok_initX (P := l.prog) (w := w) (base := base) (k := 0) (kI := 2) F_init T U_row_problem b_row_problem g_row_problem U_ancestors_of b_ancestors_of g_ancestors_of r_InvalidHierarchy (by decide) GPX GAn n_isinstance n_tuple n_list n_enumerate n_len
    have mkHierX : Lx.MkHX l.prog w K mg base C_Hierarchy C_InvalidHierarchy 4 := ⟨_, _, M, GIX, g_Hierarchy, b_init1⟩
    have mkHier0 : Lx.MkHX0 l.prog w K mg base C_Hierarchy C_InvalidHierarchy 4 := ⟨_, _, T0, M, GIX, g_Hierarchy, fun s a kin => b_init0 s [a] kin rfl, fun _ _ => .tupO (.inr ⟨rfl, _, _, _, lU0, rfl, rfl, rfl, by simp, .nil⟩) .nil⟩
    have c__law_pot := t__law_pot (T := []) (P' := l.prog) (w := w) (mg := mg) (base := base) (z := { K := K, c_Hierarchy := C_Hierarchy, c_NotFound := C_NotFound, c_InvalidHierarchy := C_InvalidHierarchy, c_MethodsError := C_MethodsError }) (d := d__law_pot) (n_len := n_len) (n_abs := n_abs) (n_max := n_max)
    have c__law_draw := t__law_draw (T := []) (P' := l.prog) (w := w) (mg := mg) (base := base) (z := { K := K, c_Hierarchy := C_Hierarchy, c_NotFound := C_NotFound, c_InvalidHierarchy := C_InvalidHierarchy, c_MethodsError := C_MethodsError }) (d := d__law_draw) (n_divmod := n_divmod)
    have c__law_labels := t__law_labels (T := []) (P' := l.prog) (w := w) (mg := mg) (base := base) (z := { K := K, c_Hierarchy := C_Hierarchy, c_NotFound := C_NotFound, c_InvalidHierarchy := C_InvalidHierarchy, c_MethodsError := C_MethodsError }) (d := d__law_labels) 
    have c__law_mixed := t__law_mixed (T := []) (P' := l.prog) (w := w) (mg := mg) (base := base) (z := { K := K, c_Hierarchy := C_Hierarchy, c_NotFound := C_NotFound, c_InvalidHierarchy := C_InvalidHierarchy, c_MethodsError := C_MethodsError }) (d := d__law_mixed) (n_list := n_list) (n_len := n_len) (n_range := n_range) (c__law_draw := c__law_draw)
    have c__law_value := t__law_value (T := []) (P' := l.prog) (w := w) (mg := mg) (base := base) (z := { K := K, c_Hierarchy := C_Hierarchy, c_NotFound := C_NotFound, c_InvalidHierarchy := C_InvalidHierarchy, c_MethodsError := C_MethodsError }) (d := d__law_value) (c__law_mixed := c__law_mixed) (c__law_draw := c__law_draw) (n_tuple := n_tuple)
    have ccw_Hierarchy_of_4 := tw_Hierarchy_of_4 (T := []) (P' := l.prog) (w := w) (mg := mg) (base := base) (z := { K := K, c_Hierarchy := C_Hierarchy, c_NotFound := C_NotFound, c_InvalidHierarchy := C_InvalidHierarchy, c_MethodsError := C_MethodsError }) (d := dw_Hierarchy_of_4) (n_list := n_list) (mkHierX := mkHierX)
    have ccw_Hierarchy_of_7 := tw_Hierarchy_of_7 (T := []) (P' := l.prog) (w := w) (mg := mg) (base := base) (z := { K := K, c_Hierarchy := C_Hierarchy, c_NotFound := C_NotFound, c_InvalidHierarchy := C_InvalidHierarchy, c_MethodsError := C_MethodsError }) (d := dw_Hierarchy_of_7) (n_list := n_list) (mkHierX := mkHierX)
    have ccw_Hierarchy_of_1 := tw_Hierarchy_of_1 (T := []) (P' := l.prog) (w := w) (mg := mg) (base := base) (z := { K := K, c_Hierarchy := C_Hierarchy, c_NotFound := C_NotFound, c_InvalidHierarchy := C_InvalidHierarchy, c_MethodsError := C_MethodsError }) (d := dw_Hierarchy_of_1) (n_list := n_list) (mkHierX := mkHierX)
    have ccw_Hierarchy_of_6 := tw_Hierarchy_of_6 (T := []) (P' := l.prog) (w := w) (mg := mg) (base := base) (z := { K := K, c_Hierarchy := C_Hierarchy, c_NotFound := C_NotFound, c_InvalidHierarchy := C_InvalidHierarchy, c_MethodsError := C_MethodsError }) (d := dw_Hierarchy_of_6) (n_list := n_list) (mkHierX := mkHierX)
    have cciw_Hierarchy_of_2 := twi_Hierarchy_of_2 (T := []) (P' := l.prog) (w := w) (mg := mg) (base := base) (z := { K := K, c_Hierarchy := C_Hierarchy, c_NotFound := C_NotFound, c_InvalidHierarchy := C_InvalidHierarchy, c_MethodsError := C_MethodsError }) (d := dwi_Hierarchy_of_2) (n_list := n_list) (mkHierX := mkHierX)
    have ccw_Hierarchy_of_3 := tw_Hierarchy_of_3 (T := []) (P' := l.prog) (w := w) (mg := mg) (base := base) (z := { K := K, c_Hierarchy := C_Hierarchy, c_NotFound := C_NotFound, c_InvalidHierarchy := C_InvalidHierarchy, c_MethodsError := C_MethodsError }) (d := dw_Hierarchy_of_3) (n_list := n_list) (mkHierX := mkHierX)
    have ccw_Hierarchy_of_5 := tw_Hierarchy_of_5 (T := []) (P' := l.prog) (w := w) (mg := mg) (base := base) (z := { K := K, c_Hierarchy := C_Hierarchy, c_NotFound := C_NotFound, c_InvalidHierarchy := C_InvalidHierarchy, c_MethodsError := C_MethodsError }) (d := dw_Hierarchy_of_5) (n_list := n_list) (mkHierX := mkHierX)
    have ccw_Hierarchy_of_0 := tw_Hierarchy_of_0 (T := []) (P' := l.prog) (w := w) (mg := mg) (base := base) (z := { K := K, c_Hierarchy := C_Hierarchy, c_NotFound := C_NotFound, c_InvalidHierarchy := C_InvalidHierarchy, c_MethodsError := C_MethodsError }) (d := dw_Hierarchy_of_0) (n_list := n_list) (mkHierX := mkHierX)
    have c__law_called := t__law_called (T := []) (P' := l.prog) (w := w) (mg := mg) (base := base) (z := { K := K, c_Hierarchy := C_Hierarchy, c_NotFound := C_NotFound, c_InvalidHierarchy := C_InvalidHierarchy, c_MethodsError := C_MethodsError }) (d := d__law_called) (ccw_Hierarchy_of_0 := ccw_Hierarchy_of_0) (ccw_Hierarchy_of_1 := ccw_Hierarchy_of_1) (cciw_Hierarchy_of_2 := cciw_Hierarchy_of_2) (mkHier0 := mkHier0) (ccw_Hierarchy_of_3 := ccw_Hierarchy_of_3) (ccw_Hierarchy_of_4 := ccw_Hierarchy_of_4) (ccw_Hierarchy_of_5 := ccw_Hierarchy_of_5) (ccw_Hierarchy_of_6 := ccw_Hierarchy_of_6)
    have c_Hierarchy_has_class := t_Hierarchy_has_class (T := []) (P' := l.prog) (w := w) (mg := mg) (base := base) (z := { K := K, c_Hierarchy := C_Hierarchy, c_NotFound := C_NotFound, c_InvalidHierarchy := C_InvalidHierarchy, c_MethodsError := C_MethodsError }) (d := d_Hierarchy_has_class) (k_Hierarchy := k_Hierarchy) (na_Hierarchy_places := na_Hierarchy_places) (n_isinstance := n_isinstance) (n_str := n_str)
    have c_Hierarchy_require_class := t_Hierarchy_require_class (T := []) (P' := l.prog) (w := w) (mg := mg) (base := base) (z := { K := K, c_Hierarchy := C_Hierarchy, c_NotFound := C_NotFound, c_InvalidHierarchy := C_InvalidHierarchy, c_MethodsError := C_MethodsError }) (d := d_Hierarchy_require_class) (c_Hierarchy_has_class := c_Hierarchy_has_class) (r_NotFound := r_NotFound)
    have c_Hierarchy_names := t_Hierarchy_names (T := []) (P' := l.prog) (w := w) (mg := mg) (base := base) (z := { K := K, c_Hierarchy := C_Hierarchy, c_NotFound := C_NotFound, c_InvalidHierarchy := C_InvalidHierarchy, c_MethodsError := C_MethodsError }) (d := d_Hierarchy_names) (k_Hierarchy := k_Hierarchy) (na_Hierarchy_places := na_Hierarchy_places) (n_list := n_list)
    have c_Hierarchy_ancestors := t_Hierarchy_ancestors (T := []) (P' := l.prog) (w := w) (mg := mg) (base := base) (z := { K := K, c_Hierarchy := C_Hierarchy, c_NotFound := C_NotFound, c_InvalidHierarchy := C_InvalidHierarchy, c_MethodsError := C_MethodsError }) (d := d_Hierarchy_ancestors) (c_Hierarchy_require_class := c_Hierarchy_require_class) (c_Hierarchy_names := c_Hierarchy_names) (k_Hierarchy := k_Hierarchy) (na_Hierarchy_above := na_Hierarchy_above)
    have c_Hierarchy_eq := t_Hierarchy_eq (T := []) (P' := l.prog) (w := w) (mg := mg) (base := base) (z := { K := K, c_Hierarchy := C_Hierarchy, c_NotFound := C_NotFound, c_InvalidHierarchy := C_InvalidHierarchy, c_MethodsError := C_MethodsError }) (d := d_Hierarchy_eq) (k_Hierarchy := k_Hierarchy) (na_Hierarchy_rows := na_Hierarchy_rows) (oi_Hierarchy := oi_Hierarchy) (n_isinstance := n_isinstance) (g_Hierarchy := g_Hierarchy)
    have c_Hierarchy_repr := t_Hierarchy_repr (T := []) (P' := l.prog) (w := w) (mg := mg) (base := base) (z := { K := K, c_Hierarchy := C_Hierarchy, c_NotFound := C_NotFound, c_InvalidHierarchy := C_InvalidHierarchy, c_MethodsError := C_MethodsError }) (d := d_Hierarchy_repr) (k_Hierarchy := k_Hierarchy) (na_Hierarchy_rows := na_Hierarchy_rows)
    have c__law_told := t__law_told (T := []) (P' := l.prog) (w := w) (mg := mg) (base := base) (z := { K := K, c_Hierarchy := C_Hierarchy, c_NotFound := C_NotFound, c_InvalidHierarchy := C_InvalidHierarchy, c_MethodsError := C_MethodsError }) (d := d__law_told) (n_list := n_list) (n_zip := n_zip) (mkHierX := mkHierX) (c__law_called := c__law_called) (c_Hierarchy_ancestors := c_Hierarchy_ancestors) (c_Hierarchy_eq := c_Hierarchy_eq) (c_Hierarchy_repr := c_Hierarchy_repr) (n_repr := n_repr) (xf_InvalidHierarchy := xf_InvalidHierarchy) (nv_InvalidHierarchy_position := nv_InvalidHierarchy_position) (nv_InvalidHierarchy_problem := nv_InvalidHierarchy_problem) (g_InvalidHierarchy := g_InvalidHierarchy)
    have c__law_due := t__law_due (T := []) (P' := l.prog) (w := w) (mg := mg) (base := base) (z := { K := K, c_Hierarchy := C_Hierarchy, c_NotFound := C_NotFound, c_InvalidHierarchy := C_InvalidHierarchy, c_MethodsError := C_MethodsError }) (d := d__law_due) (n_enumerate := n_enumerate) (n_isinstance := n_isinstance) (n_tuple := n_tuple) (n_any := n_any) (n_list := n_list) (n_zip := n_zip) (n_repr := n_repr)
    have c__law_twenty_one := t__law_twenty_one (T := []) (P' := l.prog) (w := w) (mg := mg) (base := base) (z := { K := K, c_Hierarchy := C_Hierarchy, c_NotFound := C_NotFound, c_InvalidHierarchy := C_InvalidHierarchy, c_MethodsError := C_MethodsError }) (d := d__law_twenty_one) (ccw_Hierarchy_of_7 := ccw_Hierarchy_of_7) (xf_InvalidHierarchy := xf_InvalidHierarchy) (nv_InvalidHierarchy_position := nv_InvalidHierarchy_position) (nv_InvalidHierarchy_problem := nv_InvalidHierarchy_problem) (g_InvalidHierarchy := g_InvalidHierarchy)
    exact lawG (tl_law (T := []) (P' := l.prog) (w := w) (base := base) (z := { K := K, c_Hierarchy := C_Hierarchy, c_NotFound := C_NotFound, c_InvalidHierarchy := C_InvalidHierarchy, c_MethodsError := C_MethodsError }) U_law (n_len := n_len) (n_min := n_min) (n_max := n_max) (n_range := n_range) (c__law_pot := c__law_pot) (c__law_draw := c__law_draw) (c__law_labels := c__law_labels) (n_enumerate := n_enumerate) (c__law_value := c__law_value) (c__law_told := c__law_told) (n_repr := n_repr) (c__law_due := c__law_due) (ccw_Hierarchy_of_3 := ccw_Hierarchy_of_3) (ocon_Hierarchy_LIMIT := ocon_Hierarchy_LIMIT) (ca_Hierarchy_LIMIT := ca_Hierarchy_LIMIT) (c__law_twenty_one := c__law_twenty_one)) (fun ns hl => Fk.s_law ex_InvalidHierarchy_InvalidHierarchy rfl)
end Lw
open PySem PySem.W PyProof.Rows
set_option maxHeartbeats 0 in
theorem PySem.Challenge.cw_fewestmethods_k19_class_methods_of_hiera_holds : PySem.Challenge.rw_fewestmethods_k19_class_methods_of_hiera.Holds := by
  w_on; o_law; k_head; (case hw => w_witness2)
  k_fill
  refine Kv.walk_ofG (l := PySem.Challenge.rw_fewestmethods_k19_class_methods_of_hiera) (n := 63) (k := 9) (x := "_law_script") (sp := fun w => Pu.spLaw _)
    rfl (by decide) rfl ⟨rfl, by decide, by decide⟩ (fun w h Y => PySem.W.kIn_of Y) ?F
    (fun _ _ a ns hl _ hO hS => ⟨a, ns, rfl, hO, hS, hl, fun _ => rfl⟩)
  case F =>
    intro w mg fa h KX G hmg
    refine' Lw.all_mk KX G hmg
      ?a_Hierarchy ?pg_Hierarchy ?hd_Hierarchy ?po_Hierarchy ?sa_Hierarchy ?na_Hierarchy_rows ?na_Hierarchy_places ?na_Hierarchy_above ?m_init ?i_init ?l_init ?c_init_c
      ?kp_init ?lT ?lU ?mk ?kc ?rd ?ga ?cl ?a_is_name ?l_is_name ?c_is_name_c ?kp_is_name
      ?a_are_superclasses ?l_are_superclasses ?c_are_superclasses_c ?kp_are_superclasses ?a_row_problem ?l_row_problem ?c_row_problem_c ?kp_row_problem ?a_ancestors_of ?l_ancestors_of ?c_ancestors_of_c ?kp_ancestors_of
      ?a_NotFound ?xi_NotFound ?xo_NotFound ?xsa_NotFound ?xhd_NotFound ?xex_NotFound ?xty_NotFound ?xk_NotFound ?xin_NotFound ?xtf_NotFound ?nv_NotFound_value ?l_NotFound_init
      ?c_NotFound_init_c ?kp_NotFound_init ?xv_LookupError ?a_InvalidHierarchy ?xi_InvalidHierarchy ?xo_InvalidHierarchy ?xsa_InvalidHierarchy ?xhd_InvalidHierarchy ?xex_InvalidHierarchy ?xty_InvalidHierarchy ?xk_InvalidHierarchy ?xin_InvalidHierarchy
      ?xtf_InvalidHierarchy ?nv_InvalidHierarchy_problem ?nv_InvalidHierarchy_position ?l_InvalidHierarchy_init ?c_InvalidHierarchy_init_c ?kp_InvalidHierarchy_init ?xv_ValueError ?a_MethodsError ?me_rd ?me_ga ?me_ci ?l_MEi
      ?c_MEi_c ?kp_MEi ?xga_InvalidHierarchy ?xgg_InvalidHierarchy ?xse_InvalidHierarchy ?lU0 ?oc_Hierarchy_LIMIT ?og_Hierarchy_LIMIT ?xcl0 ?xcl1 ?xcc_InvalidHierarchy ?xmr_InvalidHierarchy
      ?kh_InvalidHierarchy ?kt_InvalidHierarchy ?kx_InvalidHierarchy ?km_InvalidHierarchy_InvalidHierarchy ?a__law_pot ?l__law_pot ?c__law_pot_c ?kp__law_pot ?a__law_draw ?l__law_draw ?c__law_draw_c ?kp__law_draw
      ?a__law_labels ?l__law_labels ?c__law_labels_c ?kp__law_labels ?a__law_mixed ?l__law_mixed ?c__law_mixed_c ?kp__law_mixed ?a__law_value ?l__law_value ?c__law_value_c ?kp__law_value
      ?m_Hierarchy_of_m ?rc_Hierarchy_of ?fi_Hierarchy_of ?l_Hierarchy_of ?c_Hierarchy_of_c ?kp_Hierarchy_of ?ic_Hierarchy ?mi_Hierarchy_of ?ty_Hierarchy_of ?gt_Hierarchy_of ?tk_Hierarchy_of ?a__law_called
      ?l__law_called ?c__law_called_c ?kp__law_called ?m_Hierarchy_has_class_m ?i_Hierarchy_has_class ?l_Hierarchy_has_class ?c_Hierarchy_has_class_c ?kp_Hierarchy_has_class ?m_Hierarchy_require_class_m ?i_Hierarchy_require_class ?l_Hierarchy_require_class ?c_Hierarchy_require_class_c
      ?kp_Hierarchy_require_class ?m_Hierarchy_names_m ?i_Hierarchy_names ?l_Hierarchy_names ?c_Hierarchy_names_c ?kp_Hierarchy_names ?m_Hierarchy_ancestors_m ?i_Hierarchy_ancestors ?l_Hierarchy_ancestors ?c_Hierarchy_ancestors_c ?kp_Hierarchy_ancestors ?m_Hierarchy_eq_m
      ?i_Hierarchy_eq ?l_Hierarchy_eq ?c_Hierarchy_eq_c ?kp_Hierarchy_eq ?m_Hierarchy_repr_m ?i_Hierarchy_repr ?l_Hierarchy_repr ?c_Hierarchy_repr_c ?kp_Hierarchy_repr ?a__law_told ?l__law_told ?c__law_told_c
      ?kp__law_told ?a__law_due ?l__law_due ?c__law_due_c ?kp__law_due ?a__law_twenty_one ?l__law_twenty_one ?c__law_twenty_one_c ?kp__law_twenty_one ?a_law ?l_law ?c_law_c
      ?kp_law ?mo_Hierarchy ?hcc_Hierarchy ?hty_Hierarchy ?hsc_Hierarchy ?z_LookupError ?z_ValueError ?z_abs ?z_all ?z_any ?z_divmod ?z_enumerate
      ?z_isinstance ?z_len ?z_list ?z_max ?z_min ?z_range ?z_repr ?z_set ?z_str ?z_tuple ?z_zip ?e_LETTERS
      ?e_LONGEST_NAME
    (case a_Hierarchy => k_is); (case pg_Hierarchy => k_is); (case hd_Hierarchy => k_is); (case po_Hierarchy => k_is)
    (case sa_Hierarchy => k_is); (case na_Hierarchy_rows => k_is); (case na_Hierarchy_places => k_is); (case na_Hierarchy_above => k_is)
    (case m_init => k_is); (case i_init => k_is); (case l_init => k_is); (case c_init_c => k_is)
    (case kp_init => k_is); (case lT => k_is); (case lU => k_is); (case mk => k_is)
    (case kc => k_is); (case rd => k_is); (case ga => k_is); (case cl => k_is)
    (case a_is_name => k_is); (case l_is_name => k_is); (case c_is_name_c => k_is); (case kp_is_name => k_is)
    (case a_are_superclasses => k_is); (case l_are_superclasses => k_is); (case c_are_superclasses_c => k_is); (case kp_are_superclasses => k_is)
    (case a_row_problem => k_is); (case l_row_problem => k_is); (case c_row_problem_c => k_is); (case kp_row_problem => k_is)
    (case a_ancestors_of => k_is); (case l_ancestors_of => k_is); (case c_ancestors_of_c => k_is); (case kp_ancestors_of => k_is)
    (case a_NotFound => k_is); (case xi_NotFound => kx_is); (case xo_NotFound => kx_is); (case xsa_NotFound => k_is)
    (case xhd_NotFound => k_is); (case xex_NotFound => k_is); (case xty_NotFound => k_is); (case xk_NotFound => k_is)
    (case xin_NotFound => k_is); (case xtf_NotFound => k_is); (case nv_NotFound_value => k_is); (case l_NotFound_init => k_is)
    (case c_NotFound_init_c => k_is); (case kp_NotFound_init => k_is); (case xv_LookupError => k_is); (case a_InvalidHierarchy => k_is)
    (case xi_InvalidHierarchy => kx_is); (case xo_InvalidHierarchy => kx_is); (case xsa_InvalidHierarchy => k_is); (case xhd_InvalidHierarchy => k_is)
    (case xex_InvalidHierarchy => k_is); (case xty_InvalidHierarchy => k_is); (case xk_InvalidHierarchy => k_is); (case xin_InvalidHierarchy => k_is)
    (case xtf_InvalidHierarchy => k_is); (case nv_InvalidHierarchy_problem => k_is); (case nv_InvalidHierarchy_position => k_is); (case l_InvalidHierarchy_init => k_is)
    (case c_InvalidHierarchy_init_c => k_is); (case kp_InvalidHierarchy_init => k_is); (case xv_ValueError => k_is); (case a_MethodsError => k_is)
    (case me_rd => k_is); (case me_ga => k_is); (case me_ci => k_is); (case l_MEi => k_is)
    (case c_MEi_c => k_is); (case kp_MEi => k_is); (case xga_InvalidHierarchy => k_is); (case xgg_InvalidHierarchy => k_is)
    (case xse_InvalidHierarchy => k_is); (case lU0 => k_is); (case oc_Hierarchy_LIMIT => k_is); (case og_Hierarchy_LIMIT => k_is)
    (case xcl0 => k_is); (case xcl1 => k_is); (case xcc_InvalidHierarchy => k_is); (case xmr_InvalidHierarchy => k_is)
    (case kh_InvalidHierarchy => k_is); (case kt_InvalidHierarchy => k_is); (case kx_InvalidHierarchy => k_is); (case km_InvalidHierarchy_InvalidHierarchy => k_is)
    (case a__law_pot => k_is); (case l__law_pot => k_is); (case c__law_pot_c => k_is); (case kp__law_pot => k_is)
    (case a__law_draw => k_is); (case l__law_draw => k_is); (case c__law_draw_c => k_is); (case kp__law_draw => k_is)
    (case a__law_labels => k_is); (case l__law_labels => k_is); (case c__law_labels_c => k_is); (case kp__law_labels => k_is)
    (case a__law_mixed => k_is); (case l__law_mixed => k_is); (case c__law_mixed_c => k_is); (case kp__law_mixed => k_is)
    (case a__law_value => k_is); (case l__law_value => k_is); (case c__law_value_c => k_is); (case kp__law_value => k_is)
    (case m_Hierarchy_of_m => k_is); (case rc_Hierarchy_of => k_is); (case fi_Hierarchy_of => k_is); (case l_Hierarchy_of => k_is)
    (case c_Hierarchy_of_c => k_is); (case kp_Hierarchy_of => k_is); (case ic_Hierarchy => k_is); (case mi_Hierarchy_of => k_is)
    (case ty_Hierarchy_of => k_is); (case gt_Hierarchy_of => k_is); (case tk_Hierarchy_of => k_is); (case a__law_called => k_is)
    (case l__law_called => k_is); (case c__law_called_c => k_is); (case kp__law_called => k_is); (case m_Hierarchy_has_class_m => k_is)
    (case i_Hierarchy_has_class => k_is); (case l_Hierarchy_has_class => k_is); (case c_Hierarchy_has_class_c => k_is); (case kp_Hierarchy_has_class => k_is)
    (case m_Hierarchy_require_class_m => k_is); (case i_Hierarchy_require_class => k_is); (case l_Hierarchy_require_class => k_is); (case c_Hierarchy_require_class_c => k_is)
    (case kp_Hierarchy_require_class => k_is); (case m_Hierarchy_names_m => k_is); (case i_Hierarchy_names => k_is); (case l_Hierarchy_names => k_is)
    (case c_Hierarchy_names_c => k_is); (case kp_Hierarchy_names => k_is); (case m_Hierarchy_ancestors_m => k_is); (case i_Hierarchy_ancestors => k_is)
    (case l_Hierarchy_ancestors => k_is); (case c_Hierarchy_ancestors_c => k_is); (case kp_Hierarchy_ancestors => k_is); (case m_Hierarchy_eq_m => k_is)
    (case i_Hierarchy_eq => k_is); (case l_Hierarchy_eq => k_is); (case c_Hierarchy_eq_c => k_is); (case kp_Hierarchy_eq => k_is)
    (case m_Hierarchy_repr_m => k_is); (case i_Hierarchy_repr => k_is); (case l_Hierarchy_repr => k_is); (case c_Hierarchy_repr_c => k_is)
    (case kp_Hierarchy_repr => k_is); (case a__law_told => k_is); (case l__law_told => k_is); (case c__law_told_c => k_is)
    (case kp__law_told => k_is); (case a__law_due => k_is); (case l__law_due => k_is); (case c__law_due_c => k_is)
    (case kp__law_due => k_is); (case a__law_twenty_one => k_is); (case l__law_twenty_one => k_is); (case c__law_twenty_one_c => k_is)
    (case kp__law_twenty_one => k_is); (case a_law => k_is); (case l_law => k_is); (case c_law_c => k_is)
    (case kp_law => k_is); (case mo_Hierarchy => k_is); (case hcc_Hierarchy => k_is); (case hty_Hierarchy => k_is)
    (case hsc_Hierarchy => k_is); (case z_LookupError => k_is); (case z_ValueError => k_is); (case z_abs => k_is)
    (case z_all => k_is); (case z_any => k_is); (case z_divmod => k_is); (case z_enumerate => k_is)
    (case z_isinstance => k_is); (case z_len => k_is); (case z_list => k_is); (case z_max => k_is)
    (case z_min => k_is); (case z_range => k_is); (case z_repr => k_is); (case z_set => k_is)
    (case z_str => k_is); (case z_tuple => k_is); (case z_zip => k_is); (case e_LETTERS => k_is)
    (case e_LONGEST_NAME => k_is)
