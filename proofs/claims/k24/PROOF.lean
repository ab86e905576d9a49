import PyProof.Rows.All
import Wide.All
import OpenK.AllK
import Wide.FinOn
import HandS.ForMost
import HandS.IsInst
import HandS.WideBits
import PyProof.ReprRoads
import HandS.EndBits
import HandS.Walk
import PyProof.ReprLen
import HandS.Strs
import KE.GoesMore
import HandS.ClsMeth
import HandS.Defaults
import HandS.Lambda
import HandS.Star
import HandS.ExcOwn
import HandS.WordsExc
import HandS.WordsDict
import HandS.TupLen
import HandS.ExcInit
import HandS.Deep
import HandS.Style
import PyProof.EqKinds
import HandS.CallSlots
import HandS.ExcIs
import HandS.ExcField
import HandS.FStr
import KE.KExcIs
import KE.KExcInit
import HandS.Text
import HandS.Conv
import HandS.Small
import HandS.Rev
import HandS.Zip
import KE.GoesZip
import HandS.TupAny
import HandS.Codes
import HandS.Nested
import KE.SortKeyHeap
import HandS.CallLocal
import PyProof.P3Eq
import PyProof.EqLayable
import KE.KFmtOwn
import HandS.NoneIn
import KE.DataMinMax
import PyProof.FactsAll.object
import HandS.DictComp
import KE.DataEq
import PyProof.SeqIndex
import KE.DataFind
import KE.KNest
import HandS.DictTup
import KE.KDictWalk
import HandS.DeepEq
import KE.KDictItemsList
import HandS.ListItems
import KE.KDictPairs
import KE.GoesEnum
import KE.KDictZip
import HandS.More
import KE.SortData
import KE.KExcLine
import PySem.Challenge.RW_fewestmethods_k24_whole_highest_common_p
set_option Elab.async false
set_option linter.all false
set_option maxRecDepth 100000
set_option maxHeartbeats 4000000
/-! Defs that show values with repr: the promise of a def that is called while no repr is under way. -/
namespace Kv
open PySem PySem.Spec PyProof.Rows L2
structure FnG (P : Program) (w : World) (K : PySem.W.Frag) (mg : Str → Option Value)
    (base : Heap) (CX : CXT) (k : Nat) (f : Addr) (fd : FuncData) (ps : List Str) (sp : Sp) : Prop where
  many : ∀ vs H Q E, sp vs H Q E → vs.length = ps.length
  goes : ∀ (A : Around) (fr : List Env) (s : Shared) (H : Hp) (ar : Args)
    (us : List Value) (vs : List V) (Q : VK) (E : XK), A.guards = some [] → Room k A →
    Env0 P w K mg base A fr s H → BindsTo s fd ar (ps.zip us) → Vals vs us → sp vs H Q E →
    codeAny (model P w) A (.call (.ref f) ar) (CR CX fr P w H s Q E) s
theorem FnG.of {P : Program} {w : World} {K : PySem.W.Frag} {mg : Str → Option Value}
    {base : Heap} {CX : CXT} {k : Nat} {f : Addr} {fd : FuncData} {ps : List Str} {sp : Sp}
    (F : FnOk P w K mg base CX k f fd ps sp) : FnG P w K mg base CX k f fd ps sp :=
  ⟨F.len, fun A fr s H ar us vs Q E _ => F.run A fr s H ar us vs Q E⟩
section
variable {P : Program} {w : World} {K : PySem.W.Frag} {mg : Str → Option Value} {base : Heap}
end
section
variable {X : Cx} {CX : CXT} {k : Nat} {f : Addr} {fd : FuncData} {ps : List Str} {sp : Sp}
  {dvs : List V} {ds : List Value} {E : XK} {x : Str} {p pos : Pos} {e : Expr} {es : List Expr} {t : TA}
end
/-! ### what repr shows -/
mutual
/-- the value v is the datum d. nd: no dict is in it -/
inductive Sh (K : PySem.W.Frag) (nd : Bool) (H : Hp) : V → PyData → Prop
  | non : Sh K nd H .non .none
  | bl (b : Bool) : Sh K nd H (.bl b) (.bool b)
  | int (i : Int) : Sh K nd H (.int i) (.int i)
  | str (x : Str) : Sh K nd H (.str x) (.str x)
  | lst {a : Addr} {xs : List V} {ds : List PyData} : SqL K H a xs → (nd = false → a ≠ sysModules) →
      ShAll K nd H xs ds → Sh K nd H (.ref a) (.list ds)
  | tup {a : Addr} {xs : List V} {ds : List PyData} : SqT K H a xs →
      ShAll K nd H xs ds → Sh K nd H (.ref a) (.tuple ds)
  | dict {a : Addr} {kvs : List (Key × V)} {ks vs : List PyData} : nd = false → H a = some (.dK kvs) →
      ShAll K nd H (kvs.map fun p => kV p.1) ks → ShAll K nd H (kvs.map fun p => p.2) vs →
      Sh K nd H (.ref a) (.dict (ks.zip vs))
inductive ShAll (K : PySem.W.Frag) (nd : Bool) (H : Hp) : List V → List PyData → Prop
  | nil : ShAll K nd H [] []
  | cons {v : V} {vs : List V} {d : PyData} {ds : List PyData} : Sh K nd H v d →
      ShAll K nd H vs ds → ShAll K nd H (v :: vs) (d :: ds)
end
theorem ShAll.length {K : PySem.W.Frag} {nd : Bool} {H : Hp} : ∀ {vs : List V} {ds : List PyData}, ShAll K nd H vs ds → vs.length = ds.length
  | _, _, .nil => rfl
  | _, _, .cons _ t => by rw [List.length_cons, List.length_cons, t.length]
theorem pairs_vals {P : Program} {w : World} : ∀ {es : List DictEntry} {kvs : List (Key × V)} {vs : List (Key × Value)},
    KV kvs vs → Pairs (mixKind P w) es vs →
    Vals (kvs.map fun p => kV p.1) (es.map (·.key)) ∧ Vals (kvs.map fun p => p.2) (es.map (·.val))
  | _, _, _, .nil, .nil => ⟨.nil, .nil⟩
  | _, _, _, .cons ⟨e1, r1⟩ t, .cons h1 h2 ht => by
    obtain ⟨q1, q2⟩ := pairs_vals t ht
    refine ⟨.cons ?_ q1, .cons (by show RelV _ (DictEntry.val _); rw [h2]; exact r1) q2⟩
    have h1' : keyIs _ _ = true := h1
    rw [← e1] at h1'
    show RelV (kV (Prod.fst _)) (DictEntry.key _)
    rcases keyIs_shape h1' with ⟨i, t, e, e2⟩ | ⟨x, t, e, e2⟩
    · rw [e, e2]
      exact ⟨t, rfl⟩
    · rw [e, e2]
      exact ⟨t, rfl⟩
theorem zip_fst : ∀ {α β : Type} (xs : List α) (ys : List β), xs.length = ys.length → (xs.zip ys).map (·.1) = xs
  | _, _, [], _, _ => rfl
  | _, _, x :: xs, y :: ys, h => by
    show x :: (xs.zip ys).map (·.1) = x :: xs
    rw [zip_fst xs ys (Nat.succ.inj h)]
theorem zip_snd : ∀ {α β : Type} (xs : List α) (ys : List β), xs.length = ys.length → (xs.zip ys).map (·.2) = ys
  | _, _, [], [], _ => rfl
  | _, _, x :: xs, y :: ys, h => by
    show y :: (xs.zip ys).map (·.2) = y :: ys
    rw [zip_snd xs ys (Nat.succ.inj h)]
section
variable {X : Cx} {pins : List (Addr × Obj)} {σ : L2.St} {H : Hp} {s : Shared} {nd : Bool}
mutual
theorem Sh.reads (I : Inv X pins σ H s) : ∀ {v : V} {d : PyData} {u : Value}, Sh X.K nd H v d → RelV v u →
    ∃ as, Reads s.heap u d as ∧ (nd = false → sysModules ∉ as) ∧ (nd = true → d.hasDict = false)
  | _, _, _, .non, r => by
    cases r
    exact ⟨_, Reads.none, fun _ h => (nomatch h), fun _ => by simp [PyData.hasDict]⟩
  | _, _, _, .bl b, r => by
    cases r
    exact ⟨_, Reads.bool b, fun _ h => (nomatch h), fun _ => by simp [PyData.hasDict]⟩
  | _, _, _, .int i, r => by
    obtain ⟨t, rfl⟩ := r
    exact ⟨_, Reads.int i t, fun _ h => (nomatch h), fun _ => by simp [PyData.hasDict]⟩
  | _, _, _, .str x, r => by
    obtain ⟨t, rfl⟩ := r
    exact ⟨_, Reads.str x t, fun _ h => (nomatch h), fun _ => by simp [PyData.hasDict]⟩
  | _, _, _, .lst hs hne ha, r => by
    cases r
    obtain ⟨its, rv, ⟨o, n, ho, hc, _, hd⟩, _⟩ := I.list hs
    obtain ⟨as, h1, h2, h3⟩ := ShAll.reads I ha rv
    refine ⟨_, Reads.list ho hc hd h1, fun e hm => ?_, fun e => by simp only [PyData.hasDict]; exact h3 e⟩
    rcases List.mem_cons.mp hm with z | z
    · exact hne e z.symm
    · exact h2 e z
  | _, _, _, .tup hs ha, r => by
    cases r
    obtain ⟨its, rv, ⟨o, ho, hc, n, hd⟩, _⟩ := I.tuple hs
    obtain ⟨as, h1, h2, h3⟩ := ShAll.reads I ha rv
    exact ⟨_, Reads.tuple ho hc hd h1, h2, fun e => by simp only [PyData.hasDict]; exact h3 e⟩
  | _, _, _, .dict (a := a) (kvs := kvs) (ks := ks) (vs := ds) e0 hs hk hv, r => by
    cases r
    have l1 := hk.length
    have l2 := hv.length
    rw [List.length_map] at l1 l2
    have l3 : ks.length = ds.length := l1.symm.trans l2
    obtain ⟨_, hne, vs, kv, o, es, ep, g1, g2, g3, _, g5, _⟩ :=
      (show ObjOk X.prog X.w H s.heap a (.dK kvs) from I.hok a _ hs)
    obtain ⟨v1, v2⟩ := pairs_vals kv g5
    obtain ⟨as, h1, h2, _⟩ := ShAll.reads I hk v1
    obtain ⟨bs, k1, k2, _⟩ := ShAll.reads I hv v2
    refine ⟨_, Reads.dict (kvs := ks.zip ds) g1 g2.1 g3 (by rw [zip_fst ks ds l3]; exact h1)
      (by rw [zip_snd ks ds l3]; exact k1), fun e hm => ?_, fun e => by rw [e0] at e; cases e⟩
    rcases List.mem_append.mp hm with z | z
    · rcases List.mem_cons.mp z with y | y
      · rw [← y] at hne
        simp at hne
      · exact h2 e y
    · exact k2 e z
theorem ShAll.reads (I : Inv X pins σ H s) : ∀ {vs : List V} {ds : List PyData} {us : List Value},
    ShAll X.K nd H vs ds → Vals vs us →
    ∃ as, ReadsAll s.heap us ds as ∧ (nd = false → sysModules ∉ as) ∧ (nd = true → PyData.hasDictAll ds = false)
  | _, _, _, .nil, r => by
    cases r
    exact ⟨_, ReadsAll.nil, fun _ h => (nomatch h), fun _ => by simp [PyData.hasDictAll]⟩
  | _, _, _, .cons h1 h2, .cons r1 r2 => by
    obtain ⟨as, q1, q2, q3⟩ := Sh.reads I h1 r1
    obtain ⟨bs, k1, k2, k3⟩ := ShAll.reads I h2 r2
    refine ⟨_, ReadsAll.cons q1 k1, fun e hm => ?_, fun e => by simp only [PyData.hasDictAll, q3 e, k3 e, Bool.or_self]⟩
    rcases List.mem_append.mp hm with z | z
    · exact q2 e z
    · exact k2 e z
end
def rRepr (K : PySem.W.Frag) : List V → Hp → VK → Prop := fun xs H Q => ∃ (nd : Bool) (x : V) (d : PyData), xs = [x] ∧
  Sh K nd H x d ∧ d.showable = true ∧ d.shown.length ≤ sizeLine ∧ d.depth ≤ 60 ∧ Q (.str d.shown) H
theorem call_reprD (hg : X.A.guards = some []) (hu : X.A.units + 64 < cLine) : CallR X (.builtin "repr") (rRepr X.K) := by
  intro pins s σ H xs us Q I r h
  obtain ⟨nd, x, d, rfl, sh, hs, hz, hd, q⟩ := h
  obtain ⟨u, rfl, ru⟩ : ∃ u, us = [u] ∧ RelV x u := by
    cases r with
    | cons r1 r2 =>
      cases r2
      exact ⟨_, rfl, r1⟩
  obtain ⟨as, rd, n1, n2⟩ := sh.reads I ru
  cases sh with
  | non =>
    cases ru
    exact PySem.P.repr_of_none ⟨.str "None", H, I.tok _, ⟨_, rfl⟩, by simpa [PyData.shown] using q⟩
  | bl b =>
    cases ru
    exact PySem.P.repr_of_bool ⟨.str (if b then "True" else "False"), H, I.tok _, ⟨_, rfl⟩, by simpa [PyData.shown] using q⟩
  | int i =>
    obtain ⟨t, rfl⟩ := ru
    exact PySem.P.repr_of_int (by simpa [PyData.showable] using hs) ⟨.str (toString i), H, I.tok _, ⟨_, rfl⟩, by simpa [PyData.shown] using q⟩
  | str z =>
    obtain ⟨t, rfl⟩ := ru
    exact PySem.P.repr_of_str ⟨.str (reprText z), H, I.tok _, ⟨_, rfl⟩, by simpa [PyData.shown] using q⟩ (by simpa [PyData.shown] using hz)
  | lst h1 h2 h3 =>
    cases ru
    exact repr_of_reads' rd hs (fun e => by cases nd with
      | false => exact n1 rfl
      | true => rw [n2 rfl] at e; cases e) hg (by omega) (fun _ _ e => e) (fun h2 u tk hk => ⟨.str _, H, I.kept hk, ⟨_, rfl⟩, q⟩) hz
  | tup h1 h2 =>
    cases ru
    exact repr_of_reads' rd hs (fun e => by cases nd with
      | false => exact n1 rfl
      | true => rw [n2 rfl] at e; cases e) hg (by omega) (fun _ _ e => e) (fun h2 u tk hk => ⟨.str _, H, I.kept hk, ⟨_, rfl⟩, q⟩) hz
  | dict h1 h2 h3 h4 =>
    cases ru
    exact repr_of_reads' rd hs (fun e => by cases nd with
      | false => exact n1 rfl
      | true => rw [n2 rfl] at e; cases e) hg (by omega) (fun _ _ e => e) (fun h2 u tk hk => ⟨.str _, H, I.kept hk, ⟨_, rfl⟩, q⟩) hz
end
end Kv
/-! The end of a law whose def shows values with repr. -/
namespace Kv
open PySem PySem.Spec PyProof.Rows L2
section
variable {P : Program} {w : World} {K : PySem.W.Frag} {mg mb : Str → Option Value} {CX : CXT} {k : Nat}
  {fa a : Addr} {fd : FuncData} {x : Str} {sp : Sp} {s1 : Shared} {vs : List Value} {ns : List Int}
abbrev scr (vs : List Value) : Obj := { cls := .type "list", data := .seq vs.toArray }
abbrev Done (s1 : Shared) (r : Result) (s2 : Shared) : Prop :=
  r = .ok (.ret (.bool true)) ∧ OldK s1.heap s2.heap ∧ s2.os = s1.os ∧ AllBare s2.gens
theorem law_from (H : Hp) (KX : K.In s1.heap) (hns : s1.heap.Ns mainGlobals mg) (hb : s1.heap.Ns builtinsNs mb)
    (hbb : ∀ y : Str, y ≠ "__name__" → mb y = bootBuiltins y) (hlim : s1.heap.NoLimit) (hg : s1.gens = #[])
    (ha : s1.heap.get? a = some (scr vs)) (hr : Room k callerA) (low : sysModules < s1.heap.objs.size)
    (F : ∀ base : Heap, K.In base → base.Ns mainGlobals mg → sysModules < base.objs.size →
      FnG P w K mg base CX k fa fd [x] sp)
    (bind : ∀ (s : Shared) (u : Value), BindsTo s fd ⟨[u], []⟩ [(x, u)])
    (hsp : sp [.ref a] H (fun v _ => v = .bl true) fun _ _ _ => False)
    (hCX : ∀ e s2, CX [] H s1 (fun _ _ _ => False) e s2 → False)
    (hO : Only H) (hok : HOk P w H s1.heap) (hA : ∀ b u, H b = some u → b = a)
    (hK : ∀ u, H a = some u → K.lookup a = none) :
    codeAny (model P w) callerA (.call (.ref fa) ⟨[.ref a], []⟩) (Done s1) s1 := by
  have nodict : ∀ {b : Addr} {o : Obj} {es : Array DictEntry} {ep : Nat},
      s1.heap.get? b = some o → o.data = .dict es ep → H b = none := by
    intro b o es ep e d
    cases q : H b with
    | none => rfl
    | some u =>
      rw [hA b u q, ha] at e
      cases e
      exact nomatch (show Data.seq vs.toArray _ = Data.dict es ep from d)
  have ns2 : ∀ {b : Addr} {m : Str → Option Value}, s1.heap.Ns b m → (hidT s1.heap H).Ns b m := by
    intro b m h
    obtain ⟨o, es, ep, e, d, r⟩ := h
    exact ⟨o, es, ep, hidT_get e (nodict e d), d, r⟩
  have kin : K.In (hidT s1.heap H) := by
    intro b o e
    refine hidT_get (KX b o e) ?_
    cases q : H b with
    | none => rfl
    | some u =>
      have z := hA b u q
      subst z
      rw [hK u q] at e
      cases e
  have md : Mod K mg (hidT s1.heap H) := by
    obtain ⟨mc, l1, l2⟩ := hlim
    exact ⟨kin, ns2 hns, ⟨mb, ns2 hb, hbb⟩, ⟨mc, ns2 l1, l2⟩⟩
  have e0 : Env0 P w K mg (hidT s1.heap H) callerA [] s1 H := by
    refine ⟨rfl, md, fun b o e => of_hidT e, Nat.le_of_eq (hidT_size _ _), trivial, ?_, hok, .of_eq hg⟩
    intro b z
    exact nomatch (show b ∈ ([] : List Addr) from z)
  have low2 : sysModules < (hidT s1.heap H).objs.size := by
    rw [hidT_size]
    exact low
  refine codeAny_mono ((F _ kin (ns2 hns) low2).goes callerA [] s1 H ⟨[.ref a], []⟩ [.ref a] [.ref a] _ _
    rfl hr e0 (bind s1 (.ref a)) (.cons rfl .nil) hsp) fun r s2 h => ?_
  cases r with
  | error e => exact (hCX e s2 h).elim
  | ok fl =>
    cases fl with
    | next => exact h.elim
    | brk => exact h.elim
    | cont => exact h.elim
    | ret u =>
      obtain ⟨v, H2, os, bare, un, hok2, r2, q2⟩ := h
      have q3 : v = .bl true := q2
      subst q3
      obtain rfl : u = Value.bool true := r2
      refine ⟨rfl, OldK.of_keep fun b o e => ?_, os, bare⟩
      rcases hO b with z | ⟨ob, xs, z⟩
      · exact un.keep b o e z (fun y => nomatch (show b ∈ ([] : List Addr) from y)) (by simp)
      · obtain ⟨e1, _⟩ := hok b _ z
        obtain ⟨e2, _⟩ := hok2 b _ (un.frzs b ob _ z)
        rw [e] at e1
        cases e1
        exact e2
theorem law_callG (KX : K.In s1.heap) (hns : s1.heap.Ns mainGlobals mg) (hb : s1.heap.Ns builtinsNs mb)
    (hbb : ∀ y : Str, y ≠ "__name__" → mb y = bootBuiltins y) (hlim : s1.heap.NoLimit) (hg : s1.gens = #[])
    (ha : s1.heap.get? a = some (scr vs)) (hi : IntsAre vs ns) (hl : ns.length ≤ sizeLine)
    (hr : Room k callerA) (low : sysModules < s1.heap.objs.size)
    (F : ∀ base : Heap, K.In base → base.Ns mainGlobals mg → sysModules < base.objs.size →
      FnG P w K mg base CX k fa fd [x] sp)
    (bind : ∀ (s : Shared) (u : Value), BindsTo s fd ⟨[u], []⟩ [(x, u)])
    (hsp : ∀ H : Hp, Only H → SqL K H a (ns.map V.int) →
      sp [.ref a] H (fun v _ => v = .bl true) fun _ _ _ => False)
    (hCX : ∀ H e s2, CX [] H s1 (fun _ _ _ => False) e s2 → False) :
    codeAny (model P w) callerA (.call (.ref fa) ⟨[.ref a], []⟩) (Done s1) s1 := by
  have rv : Vals (ns.map V.int) vs := vals_ints hi
  have len : vs.length = ns.length := by
    have := rv.length
    rw [List.length_map] at this
    exact this.symm
  cases hk : K.lookup a with
  | some o =>
    have e := KX a o hk
    rw [ha] at e
    cases e
    have sq : SqL K (fun _ => none) a (ns.map V.int) := by
      refine Or.inr ⟨_, vs.toArray, _, hk, rfl, rfl, rfl, ?_, by simpa using rv⟩
      rw [List.size_toArray, len]
      exact hl
    have on : Only fun _ => none := fun _ => Or.inl rfl
    refine law_from (fun _ => none) KX hns hb hbb hlim hg ha hr low F bind (hsp _ on sq) (hCX _) on ?_ ?_ ?_
    · intro b u z
      exact nomatch z
    · intro b u z
      exact nomatch z
    · intro u z
      exact nomatch z
  | none =>
    let H : Hp := fun b => if b = a then some (.frz (scr vs) (.lst (ns.map V.int))) else none
    have at1 : H a = some (.frz (scr vs) (.lst (ns.map V.int))) := if_pos rfl
    have out : ∀ b u, H b = some u → b = a ∧ u = .frz (scr vs) (.lst (ns.map V.int)) := by
      intro b u z
      by_cases hb : b = a
      · subst hb
        rw [at1] at z
        exact ⟨rfl, (Option.some.inj z).symm⟩
      · have z2 : (none : Option HO) = some u := (if_neg hb).symm.trans z
        cases z2
    have on : Only H := by
      intro b
      by_cases hb : b = a
      · exact Or.inr ⟨_, _, by rw [hb]; exact at1⟩
      · exact Or.inl (if_neg hb)
    refine law_from H KX hns hb hbb hlim hg ha hr low F bind (hsp _ on (Or.inl (Or.inr ⟨_, at1⟩))) (hCX _) on ?_
      (fun b u z => (out b u z).1) fun _ _ => hk
    intro b u z
    obtain ⟨rfl, rfl⟩ := out b u z
    refine ⟨ha, ?_, vs, _, rv, ha⟩
    rw [List.length_map]
    exact hl
end
theorem walk_ofG {l : PySem.W.OpenLaw} {n k : Nat} {q : Program} {loose : List Str}
    {XP : (Str → Option Value) → Heap → Prop} {YP : World → Heap → Prop} {d : DefRec} {K : Params → PySem.W.Frag}
    {sp : World → Sp} {x : Str}
    (hn : l.most = some n) (hn2 : n ≤ sizeLine) (hdf : d.params.defaults = []) (hr : Room k callerA)
    (hY : ∀ (w : World) (h : Heap), YP w h → (K w.params).In h)
    (F : ∀ (w : World) (mg : Str → Option Value) (fa : Addr) (h : Heap), (K w.params).In h →
      h.Ns mainGlobals mg → mg d.name = some (.ref fa) →
      ∃ fd : FuncData, (∀ (s : Shared) (u : Value), BindsTo s fd ⟨[u], []⟩ [(x, u)]) ∧
        ∀ base : Heap, (K w.params).In base → base.Ns mainGlobals mg → sysModules < base.objs.size →
          FnG l.prog w (K w.params) mg base CX0 k fa fd [x] (sp w))
    (hsp : ∀ (w : World) (H : Hp) (a : Addr) (ns : List Int), ns.length ≤ n →
      (∀ z ∈ ns, Builtin.Int.intBits z ≤ 1048576) → Only H → SqL (K w.params) H a (ns.map V.int) →
      sp w [.ref a] H (fun v _ => v = .bl true) fun _ _ _ => False) :
    PySem.W.WalkO q loose XP YP l.row.toRowW d [] (fun f vs => PySem.call f vs) := by
  refine Att.attach_callB hn hdf ?_
  intro w s0 s1 mg mb fa o pm cd doc a vs ns G Y ho hd hcd hmg hobj hints hlen hbits hgens
  have KX := hY w _ Y
  obtain ⟨fd, hb, hF⟩ := F w mg fa _ KX G.T.g hmg
  exact law_callG KX G.T.g G.T.b G.T.builtins G.T.nolimit hgens hobj hints (Nat.le_trans hlen hn2) hr G.low hF hb
    (fun H hO hS => hsp w H a ns hlen hbits hO hS) fun H e s2 z => z
end Kv
/-! Texts of few plain signs; what isinstance says of a datum. -/
namespace Kv
open PySem PySem.Spec PyProof.Rows L2
def Sm (n : Nat) (x : Str) : Prop := x.length ≤ n ∧ ∀ c ∈ x.cps.toList, c < 128
theorem len_list (x : Str) : x.length = x.cps.toList.length := by
  show x.cps.size = _
  rw [Array.length_toList]
theorem Sm.mono {n m : Nat} {x : Str} (h : Sm n x) (hn : n ≤ m) : Sm m x := ⟨Nat.le_trans h.1 hn, h.2⟩
theorem Sm.app {n m : Nat} {x y : Str} (h : Sm n x) (k : Sm m y) : Sm (n + m) (x ++ y) := by
  have e : (x ++ y).cps.toList = x.cps.toList ++ y.cps.toList := TL.tl_append x y
  refine ⟨?_, fun c hc => ?_⟩
  · rw [len_list, e, List.length_append, ← len_list, ← len_list]
    exact Nat.add_le_add h.1 k.1
  · rw [e] at hc
    rcases List.mem_append.mp hc with z | z
    · exact h.2 c z
    · exact k.2 c z
theorem Sm.cut {n : Nat} {x : Str} (h : Sm n x) (lo hi : Option Int) : Sm n (cutS x lo hi) := by
  have e : (cutS x lo hi).cps.toList = (x.cps.toList.drop (HT.sIx x.length 0 lo)).take (HT.sIx x.length x.length hi - HT.sIx x.length 0 lo) := by
    unfold cutS
    rfl
  refine ⟨?_, fun c hc => ?_⟩
  · rw [len_list, e]
    rw [List.length_take, List.length_drop, ← len_list]
    have := h.1
    omega
  · rw [e] at hc
    exact h.2 c (List.mem_of_mem_drop (List.mem_of_mem_take hc))
theorem joinL_nil : ∀ ps : List (List Nat), TL.joinL [] ps = ps.flatten
  | [] => rfl
  | [p] => by simp [TL.joinL]
  | p :: q :: r => by
    show p ++ ([] ++ TL.joinL [] (q :: r)) = _
    rw [joinL_nil (q :: r)]
    simp
theorem Sm.join : ∀ {ys : List Str}, (∀ y ∈ ys, Sm 1 y) → Sm ys.length (Txt.join "" ys) := by
  intro ys hy
  have e : (Txt.join "" ys).cps.toList = (ys.map TL.tl).flatten := by
    rw [TL.join_eq]
    show TL.tl (Str.join _ _) = _
    rw [TL.tl_join]
    exact joinL_nil _
  refine ⟨?_, fun c hc => ?_⟩
  · rw [len_list, e]
    clear e
    induction ys with
    | nil => exact Nat.le_refl _
    | cons y r ih =>
      have h1 := (hy y (List.mem_cons_self ..)).1
      have h2 := ih fun z hz => hy z (List.mem_cons_of_mem _ hz)
      rw [len_list] at h1
      simp only [List.map_cons, List.flatten_cons, List.length_append, List.length_cons]
      have h3 : (TL.tl y).length ≤ 1 := h1
      omega
  · rw [e] at hc
    obtain ⟨l, hl, hcl⟩ := List.mem_flatten.mp hc
    obtain ⟨y, hm, rfl⟩ := List.mem_map.mp hl
    exact (hy y hm).2 c hcl
theorem Sm.shown {n : Nat} {x : Str} (h : Sm n x) : (reprText x).length ≤ 10 * n + 2 := by
  have := PySem.StrLaws.reprText_len x fun c hc => Nat.lt_trans (h.2 c hc) (by decide)
  have := h.1
  omega
theorem sz1 : ∀ {n : Nat}, n ≤ 1000 → n < sizeLine := fun h => small1000 h
theorem szle {n : Nat} (h : n ≤ 10000) : n ≤ sizeLine := Nat.le_trans h (by decide)
theorem Sh.ty {K : PySem.W.Frag} {nd : Bool} {H : Hp} {v : V} {d : PyData} (h : Sh K nd H v d) :
    ∃ T : String, TyX K H v (.type T) ∧ ((∃ x, v = .str x ∧ T = "str") ∨ ((∀ x, v ≠ .str x) ∧ (T = "NoneType" ∨ T = "bool" ∨ T = "int" ∨ T = "list" ∨ T = "tuple" ∨ T = "dict"))) := by
  cases h with
  | non => exact ⟨_, .base .non, .inr ⟨(fun x e => nomatch e), by simp⟩⟩
  | bl b => exact ⟨_, .base (.bl b), .inr ⟨(fun x e => nomatch e), by simp⟩⟩
  | int i => exact ⟨_, .base (.int i), .inr ⟨(fun x e => nomatch e), by simp⟩⟩
  | str x => exact ⟨_, .base (.str x), .inl ⟨x, rfl, rfl⟩⟩
  | lst hs _ _ =>
    refine ⟨"list", ?_, .inr ⟨(fun x e => nomatch e), by simp⟩⟩
    rcases hs with (h | ⟨o, h⟩) | ⟨o, its, n, hk, hc, _⟩
    · exact .base (.lst h)
    · exact .base (.frz h)
    · exact .kList hk hc
  | tup hs _ =>
    refine ⟨"tuple", ?_, .inr ⟨(fun x e => nomatch e), by simp⟩⟩
    rcases hs with (h | ⟨o, h⟩) | ⟨o, its, n, hk, hc, _⟩
    · exact .base (.tup h)
    · exact .fTuple h
    · exact .kTuple hk hc
  | dict _ h _ _ => exact ⟨"dict", .base (.dK h), .inr ⟨(fun x e => nomatch e), by simp⟩⟩
mutual
theorem Sh.same {K : PySem.W.Frag} {nd : Bool} {H H' : Hp} (s : Same H H') : ∀ {v : V} {d : PyData}, Sh K nd H v d → Sh K nd H' v d
  | _, _, .non => .non
  | _, _, .bl b => .bl b
  | _, _, .int i => .int i
  | _, _, .str x => .str x
  | _, _, .lst h1 h2 h3 => .lst (s.seq h1) h2 (ShAll.same s h3)
  | _, _, .tup h1 h3 => .tup (by
      rcases h1 with (h | ⟨o, h⟩) | h
      · exact .inl (.inl (s _ _ h))
      · exact .inl (.inr ⟨o, s _ _ h⟩)
      · exact .inr h) (ShAll.same s h3)
  | _, _, .dict e h1 h2 h3 => .dict e (s _ _ h1) (ShAll.same s h2) (ShAll.same s h3)
theorem ShAll.same {K : PySem.W.Frag} {nd : Bool} {H H' : Hp} (s : Same H H') : ∀ {vs : List V} {ds : List PyData}, ShAll K nd H vs ds → ShAll K nd H' vs ds
  | _, _, .nil => .nil
  | _, _, .cons h1 h2 => .cons (Sh.same s h1) (ShAll.same s h2)
end
/-! ### f(k = v): keywords alone -/
section
variable {X : Cx} {CX : CXT} {k : Nat} {f : Addr} {fd : FuncData} {ps ks : List Str} {sp : Sp} {E : XK}
  {x : Str} {p pos : Pos} {kws : List Keyword} {tk : TA}
  {g : List Value → List Value → List Value} {gV : List V → List V → List V}
end
end Kv
/-! Data that are small enough to be shown. -/
namespace Kv
open PySem PySem.Spec PyProof.Rows L2
def Fit (n m : Nat) (d : PyData) : Prop := d.showable = true ∧ d.leavesShort 250 = true ∧ d.weight ≤ n ∧ d.depth ≤ m
def FitAll (n m : Nat) (ds : List PyData) : Prop :=
  PyData.showableAll ds = true ∧ PyData.leavesShortAll 250 ds = true ∧ PyData.weightAll ds ≤ n ∧ PyData.depthAll ds ≤ m
def FitKv (n m : Nat) (ds : List (PyData × PyData)) : Prop :=
  PyData.showableKv ds = true ∧ PyData.leavesShortKv 250 ds = true ∧ PyData.weightKv ds ≤ n ∧ PyData.depthKv ds ≤ m
theorem Fit.mono {n m n' m' : Nat} {d : PyData} (h : Fit n m d) (a : n ≤ n') (b : m ≤ m') : Fit n' m' d :=
  ⟨h.1, h.2.1, Nat.le_trans h.2.2.1 a, Nat.le_trans h.2.2.2 b⟩
theorem FitAll.mono {n m n' m' : Nat} {d : List PyData} (h : FitAll n m d) (a : n ≤ n') (b : m ≤ m') : FitAll n' m' d :=
  ⟨h.1, h.2.1, Nat.le_trans h.2.2.1 a, Nat.le_trans h.2.2.2 b⟩
theorem fit_non : Fit 0 0 .none := ⟨by simp [PyData.showable], by simp [PyData.leavesShort], by simp [PyData.weight], by simp [PyData.depth]⟩
theorem fit_bl {b : Bool} : Fit 0 0 (.bool b) := ⟨by simp [PyData.showable], by simp [PyData.leavesShort], by simp [PyData.weight], by simp [PyData.depth]⟩
theorem log2_small {i : Int} (h : i.natAbs ≤ 10 ^ 60) : i.natAbs.log2 < 200 := by
  by_cases h0 : i.natAbs = 0
  · rw [h0]
    decide
  · exact (Nat.log2_lt h0).mpr (Nat.lt_of_le_of_lt h (by decide))
theorem fit_int {i : Int} (h : i.natAbs ≤ 10 ^ 60) : Fit 200 0 (.int i) := by
  have hl := log2_small h
  refine ⟨?_, ?_, ?_, by simp [PyData.depth]⟩
  · simp only [PyData.showable, decide_eq_true_eq]
    omega
  · simp only [PyData.leavesShort]
    refine decide_eq_true ?_
    have e := int_text_length_le (k := 200) (by decide) hl
    have e2 : (PyData.shown (.int i)).length = (toString i).length := by
      simp only [PyData.shown]
      exact PySem.ofString_length _
    omega
  · simp only [PyData.weight]
    split <;> omega
theorem Sm.fit {n : Nat} {x : Str} (h : Sm n x) : Fit n 0 (.str x) := by
  refine ⟨by simp [PyData.showable], ?_, ?_, by simp [PyData.depth]⟩
  · simp only [PyData.leavesShort, List.all_eq_true, decide_eq_true_eq]
    intro c hc
    exact Nat.lt_trans (h.2 c hc) (by decide)
  · simp only [PyData.weight]
    exact h.1
theorem fitAll_nil {m : Nat} : FitAll 0 m [] := ⟨by simp [PyData.showableAll], by simp [PyData.leavesShortAll], by simp [PyData.weightAll], by simp [PyData.depthAll]⟩
theorem FitAll.cons {n n' m : Nat} {d : PyData} {ds : List PyData} (a : Fit n m d) (b : FitAll n' m ds) : FitAll (n + 1 + n') m (d :: ds) := by
  obtain ⟨a1, a2, a3, a4⟩ := a
  obtain ⟨b1, b2, b3, b4⟩ := b
  refine ⟨?_, ?_, ?_, ?_⟩
  · simp only [PyData.showableAll, a1, b1, Bool.and_self]
  · simp only [PyData.leavesShortAll, a2, b2, Bool.and_self]
  · simp only [PyData.weightAll]
    omega
  · simp only [PyData.depthAll]
    omega
theorem Fit.lst {n m : Nat} {ds : List PyData} (a : FitAll n m ds) : Fit n (m + 1) (.list ds) := by
  obtain ⟨a1, a2, a3, a4⟩ := a
  refine ⟨?_, ?_, ?_, ?_⟩
  · simp only [PyData.showable, a1]
  · simp only [PyData.leavesShort, a2]
  · simp only [PyData.weight]
    omega
  · simp only [PyData.depth]
    omega
theorem Fit.tup {n m : Nat} {ds : List PyData} (a : FitAll n m ds) : Fit n (m + 1) (.tuple ds) := by
  obtain ⟨a1, a2, a3, a4⟩ := a
  refine ⟨?_, ?_, ?_, ?_⟩
  · simp only [PyData.showable, a1]
  · simp only [PyData.leavesShort, a2]
  · simp only [PyData.weight]
    omega
  · simp only [PyData.depth]
    omega
theorem Fit.dict {n m : Nat} {ds : List (PyData × PyData)} (a : FitKv n m ds) : Fit n (m + 1) (.dict ds) := by
  obtain ⟨a1, a2, a3, a4⟩ := a
  refine ⟨?_, ?_, ?_, ?_⟩
  · simp only [PyData.showable, a1]
  · simp only [PyData.leavesShort, a2]
  · simp only [PyData.weight]
    omega
  · simp only [PyData.depth]
    omega
theorem Fit.ok {n m : Nat} {d : PyData} (h : Fit n m d) (hn : n ≤ 60000) (hm : m ≤ 60) : d.showable = true ∧ d.shown.length ≤ sizeLine ∧ d.depth ≤ 60 := by
  obtain ⟨h1, h2, h3, h4⟩ := h
  refine ⟨h1, ?_, by omega⟩
  have := PyData.shown_le 250 (by decide) d h2
  rw [sizeLine_eq]
  omega
def Good (K : PySem.W.Frag) (H : Hp) (v : V) : Prop := ∃ (nd : Bool) (d : PyData), Sh K nd H v d ∧ Fit 2000 20 d ∧ ∀ x, v = .str x → Sm 1000 x
theorem Good.same {K : PySem.W.Frag} {H H' : Hp} {v : V} (g : Good K H v) (s : Same H H') : Good K H' v := by
  obtain ⟨nd, d, h, r⟩ := g
  exact ⟨nd, d, h.same s, r⟩
theorem Good.non {K : PySem.W.Frag} {H : Hp} : Good K H .non := ⟨true, _, .non, fit_non.mono (by decide) (by decide), fun x e => nomatch e⟩
theorem Good.bl {K : PySem.W.Frag} {H : Hp} {b : Bool} : Good K H (.bl b) := ⟨true, _, .bl b, fit_bl.mono (by decide) (by decide), fun x e => nomatch e⟩
theorem Good.int {K : PySem.W.Frag} {H : Hp} {i : Int} (h : i.natAbs ≤ 10 ^ 60) : Good K H (.int i) := ⟨true, _, .int i, (fit_int h).mono (by decide) (by decide), fun x e => nomatch e⟩
theorem Good.str {K : PySem.W.Frag} {H : Hp} {x : Str} {n : Nat} (h : Sm n x) (hn : n ≤ 1000 := by decide) : Good K H (.str x) :=
  ⟨true, _, .str x, h.fit.mono (by omega) (by decide), fun y e => by
    cases e
    exact h.mono hn⟩
end Kv
/-! len(set(t)), t a tuple of texts, of any number. -/
namespace Kv
open PySem PySem.Spec PyProof.Rows L2
def met (xs : List Str) : Nat → Nat
  | 0 => 0
  | i + 1 => if (xs.take i).any (· == xs.getD i Str.empty) then met xs i else met xs i + 1
theorem met_le (xs : List Str) : ∀ i, met xs i ≤ i
  | 0 => Nat.le_refl _
  | i + 1 => by
    have := met_le xs i
    show (if _ then met xs i else met xs i + 1) ≤ _
    split
    · exact Nat.le_succ_of_le this
    · exact Nat.succ_le_succ this
theorem met_nodup {xs : List Str} (h : xs.Nodup) : ∀ i, i ≤ xs.length → met xs i = i
  | 0, _ => rfl
  | i + 1, hi => by
    have ih := met_nodup h i (by omega)
    show (if _ then met xs i else met xs i + 1) = _
    have e : (xs.take i).any (· == xs.getD i Str.empty) = false := by
      rw [List.any_eq_false]
      intro y hy hb
      have hb2 : y = xs.getD i Str.empty := by simpa using hb
      rw [List.getD_eq_getElem?_getD, List.getElem?_eq_getElem (by omega : i < xs.length)] at hb2
      have hb3 : y = xs[i] := hb2
      obtain ⟨j, hj, e1⟩ := List.getElem_of_mem hy
      rw [List.getElem_take] at e1
      have hj2 : j < i := by
        rw [List.length_take] at hj
        omega
      exact (List.pairwise_iff_getElem.mp h j i (by omega) (by omega) hj2) (by rw [e1, hb3])
    rw [e]
    show met xs i + 1 = i + 1
    rw [ih]
section
variable {prog : Program} {w : World} {A : Around} {R : Result → Shared → Prop} {I : Addr} {fp wr : List Addr}
  {G : Array GenState → Array GenState → Prop} {n : Nat} {P : Nat → Value → Prop} {Z : Nat → Shared → Prop}
abbrev SetBy (prog : Program) (w : World) (h : Heap) (a : Addr) (xs : List Str) (i : Nat) : Prop :=
  h.SetOf (PySem.strKind prog w) a (fun y => (xs.take i).any (· == y)) (met xs i)
theorem SetBy.kept {h h2 : Heap} {a : Addr} {xs : List Str} {i : Nat} (q : SetBy prog w h a xs i)
    (k : ∀ o, h.get? a = some o → h2.get? a = some o) : SetBy prog w h2 a xs i := by
  obtain ⟨o, es, ep, tb, ho, rest⟩ := q
  exact ⟨o, es, ep, tb, k _ ho, rest⟩
theorem fill_texts (W : WalksS prog w A.in1 I fp wr G n P Z) (a : Addr) (ha : a ∉ fp) (xs : List Str)
    (hl : xs.length = n) (hn : n + 1 < scanBound) (hv : ∀ i v, P i v → ∃ t, v = .str (xs.getD i Str.empty) t) :
    ∀ (k i : Nat) (s : Shared), n - i = k → i ≤ n → Z i s → SetBy prog w s.heap a xs i →
      (∀ s2, Moved (a :: wr) G s s2 → SetBy prog w s2.heap a xs n → R (.ok (.ret .none)) s2) →
      codeAny (model prog w) A (.builtin "set.update.loop" ⟨[.ref a, .ref I], []⟩) R s := by
  have haw : a ∉ wr := fun z => ha (W.sub _ z)
  have sub : ∀ b ∈ wr, b ∈ a :: wr := fun b hb => List.mem_cons_of_mem _ hb
  intro k
  induction k with
  | zero =>
    intro i s hk hi hz hS hR
    obtain rfl : i = n := by omega
    refine codeAny_builtin PyProof.Rows.F.entry_set_update_loop ?_
    rw [Around.under_plainId PyProof.Rows.F.plain_set_update_loop _]
    show wpAny _ A.in1 (pyNext (.ref I) >>= _) _ _ s
    refine wpAny_bind (W.done s _ _ hz ?_)
    intro s2 hm
    show wpAny _ A.in1 (ret Value.none) _ _ s2
    refine wpAny_pure (hR s2 (hm.mono sub) (hS.kept ?_))
    intro o ho
    exact hm.heap a _ haw ho
  | succ k ih =>
    intro i s hk hi hz hS hR
    have lt : i < n := by omega
    have mle := met_le xs i
    refine codeAny_builtin PyProof.Rows.F.entry_set_update_loop ?_
    rw [Around.under_plainId PyProof.Rows.F.plain_set_update_loop _]
    show wpAny _ A.in1 (pyNext (.ref I) >>= _) _ _ s
    refine wpAny_bind (W.item i s _ _ lt hz ?_)
    intro v s2 hP hz2 hm
    obtain ⟨t, rfl⟩ := hv i v hP
    have hS2 : SetBy prog w s2.heap a xs i := hS.kept fun o ho => hm.heap a _ haw ho
    show wpAny _ A.in1 (holding [Value.str (xs.getD i Str.empty) t]
      (setAdd a (.str (xs.getD i Str.empty) t)) >>= _) _ _ s2
    refine wpAny_bind (wpAny_holding ?_)
    unfold setAdd
    refine wpAny_holding ?_
    refine wpAny_bind ((PySem.strKind prog w).pyHash (k := xs.getD i Str.empty) (strKind_is _ _ _ _) ?_)
    refine wpAny_setAddHashed_of (knd := PySem.strKind prog w) (s := { s2 with toks := s2.toks + 1 })
      (strKind_is _ _ _ _) rfl hS2 (by omega) ?_
    intro h3 same hS3
    have hS4 : SetBy prog w h3 a xs (i + 1) := by
      refine SetOf_congr hS3 ?_ rfl
      intro y
      have ei : xs[i]? = some (xs.getD i Str.empty) := by
        rw [List.getD_eq_getElem?_getD, List.getElem?_eq_getElem (by omega : i < xs.length)]
        rfl
      rw [List.take_add_one, ei, List.any_append]
      congr 1
      show decide (y = xs.getD i Str.empty) = ([xs.getD i Str.empty].any (· == y))
      simp only [List.any_cons, List.any_nil, Bool.or_false]
      by_cases e : y = xs.getD i Str.empty
      · rw [decide_eq_true e, ← e]
        exact (beq_self_eq_true y).symm
      · rw [decide_eq_false e]
        exact (beq_eq_false_iff_ne.mpr fun z => e z.symm).symm
    refine wpAny_pure ⟨plainId_quiet PyProof.Rows.F.plain_set_update_loop _, ?_⟩
    refine ih (i + 1) _ (by omega) lt (W.frame _ s2 _ _ hz2 (Nat.le_succ _) ?_) hS4 ?_
    · intro b hb o e
      rw [same.2 b (fun z : b = a => ha (z ▸ hb))]
      exact e
    · intro s5 hm5 hS5
      refine hR s5 (Moved.trans W.gtrans ((hm.mono sub).then_heap (Nat.le_succ _) ?_) hm5) hS5
      intro b o hb e
      rw [same.2 b (fun z : b = a => hb (z ▸ List.mem_cons_self))]
      exact e
end
abbrev emptySet (led : Bool) : Obj := { cls := .type "set", dict := none, data := .set #[] 0 (.fresh 0 0 led) }
section
variable {prog : Program} {w : World} {A : Around} {E : Value → Shared → Prop} {s : Shared}
set_option maxHeartbeats 3200000 in
theorem set_of_texts {t : Addr} {its : Array Value} {xs : List Str} {Q : Value → Shared → Prop}
    (hh : A.handled = none) (ht : s.heap.IsTuple t its) (hx : PyProof.Rows.StrsAre its.toList xs)
    (hb : xs.length + 1 < scanBound)
    (h : ∀ (h2 : Heap) (tk : Nat), SetBy prog w h2 s.heap.objs.size xs its.size →
      (∀ b o, b < s.heap.objs.size → s.heap.get? b = some o → h2.get? b = some o) →
      Q (.ref s.heap.objs.size) { s with heap := h2, toks := tk }) :
    wpAny (model prog w) A (call (.type "set") [.ref t]) Q E s := by
  obtain ⟨cc, ctl, hmro⟩ := PySem.F.called_set.mro
  have k1 := PySem.F.called_set.made
  have k2 := PySem.F.called_set.sub
  have k3 := PySem.F.called_set.notType
  have k4 := PySem.F.called_set.canCreate
  have k5 := PySem.F.typeCall_set_1 (.ref t)
  refine wpAny_call (codeAny_of_tree ?_)
  show wpAny _ _ (callAny (.type "set") _) _ _ _
  refine wpAny_pure ⟨Code.quiet_builtin _ (by decide +kernel),
    codeAny_builtin PySem.F.entry_type_call ?_⟩
  rw [Around.under_plain (weight_type_call_type "set" [.ref t] []) rfl]
  repeat (any_goals (first | assumption | wp_step))
  refine codeAny_mono (code_set_new_1 (.ref t) (E := E)
    (Q₁ := fun obj s1 => ∃ led : Bool, obj = .ref s.heap.objs.size ∧
      s1 = { s with heap := s.heap.push (emptySet led) }) fun led => ⟨led, rfl, rfl⟩) fun r s1 hr => ?_
  cases r with
  | error e => exact hr
  | ok fl =>
    cases fl with
    | next => exact hr.elim
    | brk => exact hr.elim
    | cont => exact hr.elim
    | ret obj =>
      obtain ⟨led, rfl, rfl⟩ := hr
      have hS : (s.heap.push (emptySet led)).get? s.heap.objs.size = some (emptySet led) :=
        Heap.get?_push_size _ rfl
      have hT : Shared.TypeIs { s with heap := s.heap.push (emptySet led) }
        (.ref s.heap.objs.size) "set" := ⟨_, hS, rfl⟩
      have k6 := PySem.F.called_set.init.lookup
      have k7 := PySem.F.called_set.init.bind (.ref s.heap.objs.size)
      repeat (any_goals (first | assumption | wp_step))
      refine codeAny_mono (codeAny_call_builtin
        (R := wants (fun r s2 => r = .none ∧ ∃ h2 tk, s2 = { s with heap := h2, toks := tk } ∧
          SetBy prog w h2 s.heap.objs.size xs its.size ∧
          (∀ b o, b < s.heap.objs.size → s.heap.get? b = some o → h2.get? b = some o)) E)
        PySem.F.called_set.init.plain PySem.F.entry_set_init (check_set_init_1 hT ?_)) fun r2 s2 hr2 => ?_
      · obtain ⟨ot, hot, hc, nt, hd⟩ := ht
        obtain ⟨c1, d1, dt, sl⟩ := ot
        simp only at hc hd
        subst hc hd
        have hot2 := Heap.get?_push_of_some (emptySet led) hot
        have k8 := PySem.F.sub_tuple_set
        have k9 := PySem.F.sub_tuple_frozenset
        have k10 : (Value.type "tuple" == Value.type "dict") = false := by decide
        have ht1 : (s.heap.push (emptySet led)).IsTuple t its := ⟨_, hot2, rfl, nt, rfl⟩
        unfold Builtin.«set.__init__» noKeywords Builtin.Frozenset.updateFrom
        generalize hPI : pyIter = PI
        wp_walk
        subst hPI
        refine wpAny_pyIter_tuple ht1 ?_
        refine wpAny_bind (wpAny_runValue ?_)
        have ltS : t < s.heap.objs.size := Heap.lt_size hot
        have hh3 : A.in1.in1.in1.handled = none := by simp [hh]
        have ne1 : t ≠ (s.heap.push (emptySet led)).objs.size := by
          rw [Heap.size_push]
          exact Nat.ne_of_lt (Nat.lt_succ_of_lt ltS)
        have nf : s.heap.objs.size ∉ [(s.heap.push (emptySet led)).objs.size, t] := by
          rw [Heap.size_push]
          intro z
          rcases List.mem_cons.mp z with y | y
          · exact absurd y (Nat.ne_of_lt (Nat.lt_succ_self _))
          · exact absurd (List.mem_singleton.mp y) (Nat.ne_of_gt ltS)
        have sz : xs.length = its.size := by
          rw [← StrsAre.len_eq hx, Array.length_toList]
        refine fill_texts ((Walks.tuple hh3 _ t ne1 its).toS) s.heap.objs.size nf xs sz (by omega)
          (fun i v e => SS.strs_at hx i v (by rw [Array.getElem?_toList]; exact e)) (its.size - 0) 0 _ (by omega) (Nat.zero_le _)
          ⟨⟨_, Heap.get?_push_size _ rfl, rfl, rfl⟩, (ht1.push _)⟩ ?c0 ?c1
        case c0 =>
          refine PyProof.Rows.SetOf_congr ((PyProof.Rows.setObjOf_fresh (knd := PySem.strKind prog w) led).setOf
            (Heap.get?_push_of_some _ hS) (by unfold scanBound; omega)) (fun _ => rfl) rfl
        case c1 =>
          intro s3 hm hS3
          obtain ⟨h3, g3, d3, tk3, os3⟩ := s3
          obtain rfl : g3 = s.gens := hm.gens
          obtain rfl : d3 = s.drawn := hm.drawn
          obtain rfl : os3 = s.os := hm.os
          show wpAny _ _ _ _ _ _
          refine wpAny_pure ?_
          show wpAny _ _ (ret Value.none) _ _ _
          refine wpAny_pure ⟨rfl, h3, tk3, rfl, hS3, ?_⟩
          intro b o hb e
          refine hm.heap b o ?_ (Heap.get?_push_of_some _ (Heap.get?_push_of_some _ e))
          intro z
          rcases List.mem_cons.mp z with y | y
          · exact absurd y (Nat.ne_of_lt hb)
          · have y2 := List.mem_singleton.mp y
            rw [Heap.size_push] at y2
            exact absurd y2 (Nat.ne_of_lt (Nat.lt_succ_of_lt hb))
      · cases r2 with
        | error e => exact hr2
        | ok fl2 =>
          cases fl2 with
          | next => exact hr2.elim
          | brk => exact hr2.elim
          | cont => exact hr2.elim
          | ret r =>
            obtain ⟨rfl, h2, tk, rfl, hS2, kp⟩ := hr2
            repeat (any_goals (first | assumption | wp_step))
            exact h _ _ hS2 kp
end
def tLenTexts (K : PySem.W.Frag) (ta : TE) : TE := fun σ H Q => ta σ H fun x H1 =>
  ∃ (l : Addr) (xs : List Str), x = .ref l ∧ SqT K H1 l (xs.map V.str) ∧ xs.length ≤ 4000 ∧ Q (.int (met xs xs.length : Nat)) H1
section
variable {X : Cx} {a : Expr} {ta : TE} {p p2 q pos : Pos}
theorem pe_lenTexts (hc : X.calm = true) (hg : Gl X "len") (hm : X.mg "len" = none) (hg2 : Gl X "set")
    (hm2 : X.mg "set" = none) (ha : PE X a ta)
    (na : starEach [a] X.env = (false, eval a X.env) :: starEach [] X.env := by rfl) :
    PE X (.Call (.Name "len" p) [.Call (.Name "set" p2) [a] [] q] [] pos) (tLenTexts X.K ta) := by
  constructor
  intro pins s σ H Q I h
  refine Call_ (ld_blt I hg hm boot_len ?_)
  refine PyProof.Rows.callWith_builtin1
    (PyProof.Rows.args_cons ?_ rfl) rfl rfl
  refine Call_ (ld_blt I hg2 hm2 boot_set ?_)
  refine PyProof.Rows.callWith_type1 (PyProof.Rows.args_cons (thn (ha.run pins s σ H _ I h)
    fun v s1 ⟨x, H1, I1, r1, q1⟩ => PyProof.Rows.args_nil ?_) na) na rfl
  obtain ⟨l, xs, rfl, hq, hn, q1⟩ := q1
  cases r1
  obtain ⟨its, r, pl, hz⟩ := I1.tuple hq
  have hl : its.toArray.size = xs.length := by
    rw [List.size_toArray, ← r.length, List.length_map]
  refine set_of_texts (I1.ok.hd hc) pl (by simpa using strsAre_of r) (by unfold scanBound; omega) ?_
  intro h2 tk hS hk
  refine PyProof.Rows.args_nil ?_
  rw [hl] at hS
  obtain ⟨o, es, ep, t, ho, hex, hd, _, _, _, hf, hsz⟩ := hS
  have I2 : Inv X pins σ H1 { s1 with heap := h2, toks := tk } :=
    I1.kept fun b o e => hk b o (Heap.lt_size e) e
  have mle := met_le xs xs.length
  exact call_len_set ho hex hd hf (by rw [hsz]; omega)
    ⟨.int (met xs xs.length : Nat), H1, I2.tok _, ⟨_, by rw [hsz]⟩, q1⟩
end
end Kv
namespace Kv
open PySem PySem.Spec PyProof.Rows L2
def PotAt (H : Hp) (p : Addr) : Prop := ∃ r g : Int, H p = some (.lst [.int r, .int g]) ∧ 0 ≤ r ∧ 0 ≤ g ∧ g < 2147483647
def But (p : Addr) (H H' : Hp) : Prop := ∀ b o, b ≠ p → H b = some o → H' b = some o
theorem But.refl {p : Addr} {H : Hp} : But p H H := fun _ _ _ h => h
theorem But.trans {p : Addr} {H H1 H2 : Hp} (a : But p H H1) (b : But p H1 H2) : But p H H2 :=
  fun c o n h => b c o n (a c o n h)
theorem But.of_same {p : Addr} {H H1 : Hp} (a : Same H H1) : But p H H1 := fun c o _ h => a c o h
theorem same_new {H : Hp} {p : Addr} {o : HO} (h : H p = none) : Same H (upd H p o) := by
  intro b x e
  rw [upd_ne (ne_of_none e h)]
  exact e
theorem PotAt.same {H H' : Hp} {p : Addr} (h : PotAt H p) (s : Same H H') : PotAt H' p := by
  obtain ⟨r, g, e, q⟩ := h
  exact ⟨r, g, s _ _ e, q⟩
theorem divp_small {i j : Int} (hj : 0 < j) (h : j.natAbs < 2 ^ 8000) : CDivP i j := by
  refine ⟨hj, ?_⟩
  have hl : j.natAbs.log2 < 8000 := (Nat.log2_lt (by omega)).mpr h
  show (decide ((if j == 0 then 0 else j.natAbs.log2 / 30 + 1) > 300) && decide (_ > _)) = false
  have z : ¬ ((if j == 0 then 0 else j.natAbs.log2 / 30 + 1) > 300) := by
    split <;> omega
  rw [decide_eq_false z, Bool.false_and]
theorem But.new {p q : Addr} {H H1 : Hp} {o : HO} (a : But p H H1) (n : H1 q = none) : But p H (upd H1 q o) :=
  fun c u nc h => same_new n c u (a c u nc h)
theorem same_new2 {H : Hp} {p : Addr} {o u : HO} (h : H p = none) : Same H (upd (upd H p o) p u) := by
  rw [upd_upd]
  exact same_new h
theorem But.same {p : Addr} {H0 H H' : Hp} (h : But p H H') (n : H0 p = none) (s : Same H0 H) : Same H0 H' :=
  fun b o e => h b o (ne_of_none e n) (s b o e)
def az : List Nat := ("abcdefghijklmnopqrstuvwxyz" : Str).cps.toList
def inAz (c : Nat) : Bool := decide (c ∈ az)
def nameV : V → Bool
  | .str x => (decide (1 ≤ x.length) && decide (x.length ≤ 8)) && x.cps.toList.all inAz
  | _ => false
theorem nameV_not {v : V} (h : ∀ x, v ≠ .str x) : nameV v = false := by
  cases v with
  | str x => exact absurd rfl (h x)
  | _ => rfl
end Kv
/-! Rows of a hierarchy: names and superclasses. -/
namespace Kv
open PySem PySem.Spec PyProof.Rows L2
abbrev Row2 := Str × List Str
def fsts (rows : List Row2) : List Str := rows.map (·.1)
def Valid (rows : List Row2) : Prop := ∀ (i : Nat) (n : Str) (ss : List Str), rows[i]? = some (n, ss) →
  nameV (.str n) = true ∧ n ∉ fsts (rows.take i) ∧ ss.Nodup ∧ ∀ s ∈ ss, s ∈ fsts (rows.take i)
theorem valid_nil : Valid [] := fun i n ss h => by simp at h
theorem Valid.snoc {rows : List Row2} {n : Str} {ss : List Str} (v : Valid rows) (h1 : nameV (.str n) = true)
    (h2 : n ∉ fsts rows) (h3 : ss.Nodup) (h4 : ∀ s ∈ ss, s ∈ fsts rows) : Valid (rows ++ [(n, ss)]) := by
  intro i m ts h
  by_cases hi : i < rows.length
  · rw [List.getElem?_append_left hi] at h
    rw [List.take_append_of_le_length (by omega)]
    exact v i m ts h
  · have hi2 : i = rows.length := by
      have := (List.getElem?_eq_some_iff.mp h).1
      rw [List.length_append] at this
      have h1 : [(n, ss)].length = 1 := rfl
      omega
    subst hi2
    rw [List.getElem?_append_right (Nat.le_refl _), Nat.sub_self] at h
    cases h
    rw [List.take_append_of_le_length (Nat.le_refl _), List.take_length]
    exact ⟨h1, h2, h3, h4⟩
def RowAt (H : Hp) (v : V) (r : Row2) : Prop := ∃ t s, v = .ref t ∧ H t = some (.tup [.str r.1, .ref s]) ∧ H s = some (.tup (r.2.map V.str))
def RowsAre (H : Hp) : List V → List Row2 → Prop := Paired (RowAt H)
theorem RowAt.same {H H' : Hp} (s : Same H H') {v : V} {r : Row2} (h : RowAt H v r) : RowAt H' v r := by
  obtain ⟨t, u, e, h1, h2⟩ := h
  exact ⟨t, u, e, s _ _ h1, s _ _ h2⟩
theorem RowsAre.same {H H' : Hp} (s : Same H H') {vs : List V} {rows : List Row2} (h : RowsAre H vs rows) : RowsAre H' vs rows :=
  Paired.mapP h fun _ _ z => z.same s
theorem RowsAre.length {H : Hp} {vs : List V} {rows : List Row2} (h : RowsAre H vs rows) : vs.length = rows.length := Paired.length h
theorem RowsAre.snoc {H : Hp} : ∀ {vs : List V} {rows : List Row2} {v : V} {r : Row2}, RowsAre H vs rows → RowAt H v r → RowsAre H (vs ++ [v]) (rows ++ [r])
  | _, _, _, _, .nil, h => .cons h .nil
  | _, _, _, _, .cons a b, h => .cons a (RowsAre.snoc b h)
theorem RowsAre.get {H : Hp} : ∀ {vs : List V} {rows : List Row2} {i : Nat} {v : V}, RowsAre H vs rows → vs[i]? = some v → ∃ r, rows[i]? = some r ∧ RowAt H v r
  | _, _, _, _, .nil, e => by simp at e
  | _, _, 0, _, .cons a _, e => by
    simp at e
    subst e
    exact ⟨_, rfl, a⟩
  | _, _, i + 1, v, .cons _ b, e => by
    obtain ⟨r, h1, h2⟩ := RowsAre.get (i := i) (v := v) b (by simpa using e)
    exact ⟨r, by simpa using h1, h2⟩
theorem RowAt.wr {H : Hp} {R : Addr} {xs : List V} {o : HO} (h : H R = some (.lst xs)) {v : V} {r : Row2} (a : RowAt H v r) : RowAt (upd H R o) v r := by
  obtain ⟨t, u, e, h1, h2⟩ := a
  exact ⟨t, u, e, by rw [upd_ne (ne_of h1 h (by intro z; cases z))]; exact h1, by rw [upd_ne (ne_of h2 h (by intro z; cases z))]; exact h2⟩
theorem RowsAre.wr {H : Hp} {R : Addr} {xs : List V} {o : HO} (h : H R = some (.lst xs)) {vs : List V} {rows : List Row2} (a : RowsAre H vs rows) : RowsAre (upd H R o) vs rows :=
  Paired.mapP a fun _ _ z => z.wr h
theorem fsts_snoc (rows : List Row2) (n : Str) (ss : List Str) : fsts (rows ++ [(n, ss)]) = fsts rows ++ [n] := by
  unfold fsts
  rw [List.map_append]
  rfl
/-! ### permuted texts -/
/-! ### letters that are left -/
theorem inV_strs (y : Str) : ∀ xs : List Str, inV (.str y) (xs.map V.str) = decide (y ∈ xs)
  | [] => rfl
  | x :: r => by
    have ih := inV_strs y r
    show (eqV (.str x) (.str y) || inV (.str y) (r.map V.str)) = _
    rw [ih]
    show ((x == y) || decide (y ∈ r)) = decide (y ∈ x :: r)
    by_cases e : x = y
    · subst e
      simp
    · have e2 : (x == y) = false := beq_eq_false_iff_ne.mpr e
      rw [e2, Bool.false_or]
      by_cases h : y ∈ r
      · rw [decide_eq_true h, decide_eq_true (List.mem_cons_of_mem _ h)]
      · rw [decide_eq_false h, decide_eq_false (fun z => by
          rcases List.mem_cons.mp z with z | z
          · exact e z.symm
          · exact h z)]
theorem filter_one {α : Type} [DecidableEq α] (f : α) : ∀ {L : List α}, L.Nodup → L.length ≤ (L.filter fun y => decide (y ≠ f)).length + 1
  | [], _ => Nat.zero_le _
  | x :: r, h => by
    obtain ⟨h1, h2⟩ := List.nodup_cons.mp h
    by_cases e : x = f
    · subst e
      have e2 : r.filter (fun y => decide (y ≠ x)) = r := List.filter_eq_self.mpr fun y hy => decide_eq_true fun z => h1 (z ▸ hy)
      rw [List.filter_cons_of_neg (by simp), e2]
      exact Nat.le_refl _
    · have ih := filter_one f h2
      rw [List.filter_cons_of_pos (by simpa using e), List.length_cons, List.length_cons]
      omega
theorem filter_left {α : Type} [DecidableEq α] : ∀ (F : List α) {L : List α}, L.Nodup → L.length ≤ (L.filter fun y => decide (y ∉ F)).length + F.length
  | [], L, h => by
    have : L.filter (fun y => decide (y ∉ ([] : List α))) = L := List.filter_eq_self.mpr fun y _ => by simp
    rw [this]
    exact Nat.le_add_right _ _
  | f :: F, L, h => by
    have ih := filter_left F h
    have h2 : (L.filter fun y => decide (y ∉ F)).Nodup := h.filter _
    have h3 := filter_one f h2
    have e : (L.filter fun y => decide (y ∉ F)).filter (fun y => decide (y ≠ f)) = L.filter fun y => decide (y ∉ f :: F) := by
      rw [List.filter_filter]
      refine List.filter_congr fun y _ => ?_
      by_cases a : y = f <;> by_cases b : y ∈ F <;> simp [a, b]
    rw [e] at h3
    rw [List.length_cons]
    omega
def letters : List Str := az.map fun c => ⟨#[c]⟩
theorem letters_nodup : letters.Nodup := by decide +kernel
theorem letters_len : letters.length = 26 := by decide +kernel
theorem letter_name : ∀ y ∈ letters, nameV (.str y) = true := by decide +kernel
end Kv
/-! for i, x in enumerate(t), t a tuple. -/
namespace Kv
open PySem PySem.Spec PyProof.Rows L2
open AutoSeq1 (wpAny_loadPart')
abbrev tupIt (t : Addr) : Obj := { cls := .type "tuple_iterator", data := .fields #[.ref t, .int 0 0] }
abbrev enumOf (it : Addr) : Obj := { cls := .type "enumerate", data := .fields #[.none, .bool false, .ref it, rawInt 0, .none, .none] }
set_option maxHeartbeats 1000000 in
theorem enum_new (t : Addr) (items : Array Value) (n : Nat) (dct : Option Addr) (sl : Array (Option Value)) :
    Meets (Builtin.«enumerate.__new__» ⟨[.type "enumerate", .ref t], []⟩) (fun _ R s =>
      s.heap.get? t = some { cls := .type "tuple", dict := dct, data := .seq items n, slots := sl } ∧
      R (.ok (.ret (.ref (s.heap.push (tupIt t)).objs.size)))
        { s with heap := (s.heap.push (tupIt t)).push (enumOf s.heap.objs.size) }) :=
  .of_wp fun prog w A R s h => by
    obtain ⟨hp, g, d, tk, os⟩ := s
    obtain ⟨hl, h⟩ := h
    have hsub := sub_enumerate
    have hT : Heap.IsTuple (Shared.heap ⟨hp, g, d, tk, os⟩) t items :=
      ⟨_, hl, rfl, n, rfl⟩
    wp_walk using wpAny_loadPart' hl
    refine wpAny_stack_any fun st =>
      wpAny_pure ?_
    split
    · rename_i c _ _ _ _ _
      cases (c == Value.type "enumerate") <;>
        (wp_walk using wpAny_loadPart' hl, wpAny_pyIter_tuple hT
         exact ⟨_, rfl, h⟩)
    · wp_walk using wpAny_loadPart' hl, wpAny_pyIter_tuple hT
      exact ⟨_, rfl, h⟩
section
variable {prog : Program} {w : World} {A : Around} {E : Value → Shared → Prop} {s : Shared}
theorem enum_call {t : Addr} {items : Array Value} {Q : Value → Shared → Prop} (hL : s.heap.IsTuple t items)
    (h : ∀ h2, IsEnum h2 (s.heap.objs.size + 1) s.heap.objs.size 0 .none → h2.IsTupleIter s.heap.objs.size t 0 →
      (∀ b o, s.heap.get? b = some o → h2.get? b = some o) →
      Q (.ref (s.heap.objs.size + 1)) { s with heap := h2 }) :
    wpAny (model prog w) A (call (.type "enumerate") [.ref t]) Q E s := by
  obtain ⟨⟨c, dct, dt, sl⟩, hl, hc, n, hd⟩ := hL
  obtain rfl : c = .type "tuple" := hc
  obtain rfl : dt = .seq items n := hd
  refine callType_new F.called_enumerate (by decide) (F.typeCall_enumerate_1 _) (F.newCall_enumerate_1 _)
    (fun obj => F.args_object_init_2 obj _) F.entry_enumerate_new (enum_new t items n dct sl) ⟨hl, ?_⟩
  have hz : (s.heap.push (tupIt t)).objs.size = s.heap.objs.size + 1 := Heap.size_push ..
  show _ ∧ _
  rw [hz]
  have he : IsEnum ((s.heap.push (tupIt t)).push (enumOf s.heap.objs.size)) (s.heap.objs.size + 1) s.heap.objs.size 0 .none := by
    have q := Heap.get?_push_size (s.heap.push (tupIt t)) (o := enumOf s.heap.objs.size) rfl
    rw [hz] at q
    exact q
  refine ⟨⟨_, he, rfl⟩, h _ he ?_ ?_⟩
  · exact ⟨_, Heap.get?_push_of_some _ (Heap.get?_push_size _ rfl), rfl, rfl⟩
  · intro b o x
    exact Heap.get?_push_of_some _ (Heap.get?_push_of_some _ x)
end
def Itet (K : PySem.W.Frag) (a : Addr) : It :=
  ⟨fun i H => ∃ (xs : List V) (x : V), SqT K H a xs ∧ xs[i]? = some x,
   fun i H v H' => ∃ T x, v = .ref T ∧ H T = none ∧ H' = upd H T (.tup [.int (i : Nat), x]) ∧
     ∀ xs, SqT K H a xs → xs[i]? = some x,
   fun i H => ∃ xs : List V, SqT K H a xs ∧ xs.length = i⟩
theorem turn_enumT {P : Program} {w : World} {K : PySem.W.Frag} {elts : List Expr} {kk : Nat} {tpos : Pos} (a e it : Addr) :
    Turn P w K (.Tuple elts kk tpos) (Itet K a) [e, it] e
      (fun i h => (∃ old, IsEnum h e it ((i : Nat) : Int) old) ∧ h.IsTupleIter it a i ∧ e ≠ it ∧ a ≠ it ∧ a ≠ e) where
  mem := by simp
  obj := by
    intro i h st b hb
    obtain ⟨⟨old, he⟩, ⟨o, ho, hc, hd⟩, _⟩ := st
    rcases List.mem_cons.mp hb with z | z
    · rw [z]
      exact ⟨_, he, fun v q => nomatch q⟩
    · rw [List.mem_singleton.mp z]
      exact ⟨o, ho, fun v q => by rw [hd] at q; cases q⟩
  keep := by
    intro i h h2 st k
    obtain ⟨⟨old, he⟩, hi, ne⟩ := st
    exact ⟨⟨old, k e (by simp) _ he⟩, hi.at fun o q => k it (by simp) o q, ne⟩
  item := by
    intro X hP hw hK hc i pins s σ H E I hf st hg
    subst hP hw hK
    obtain ⟨⟨old, he⟩, hit, hne, nai, nae⟩ := st
    obtain ⟨xs, x, hq, hx⟩ := hg
    obtain ⟨its, rv, p, hz⟩ := I.tuple hq
    obtain ⟨u, hu, ru⟩ := rv.get hx
    have lte : e < s.heap.objs.size := Heap.lt_size he
    have lti : it < s.heap.objs.size := by
      obtain ⟨_, q, _⟩ := hit
      exact Heap.lt_size q
    have hil : i < its.toArray.size := by
      rw [List.size_toArray]
      exact (List.getElem?_eq_some_iff.mp hu).1
    refine wpAny_pyNext_enum_itemD (Draws.tuple (A := X.A.in1) (I.ok.hd hc) it a nai its.toArray) he ⟨hit, p⟩ hil hne ?_ ?_
    · intro z
      rcases List.mem_cons.mp z with y | y
      · exact hne y
      · exact nae (List.mem_singleton.mp y).symm
    intro y h2 tk hy ho hit2 hT hsz hk
    obtain rfl : y = u := by
      have hy2 : its.toArray[i]? = some y := hy
      have hu2 : its.toArray[i]? = some u := by simpa using hu
      rw [hu2] at hy2
      exact (Option.some.inj hy2).symm
    refine ⟨_, rfl, wpAny_letOwnedTupleGo_enum (s := { s with heap := h2, toks := tk + 1 }) ho ?_⟩
    intro h3 he3 sb
    have hT3 : h3.get? s.heap.objs.size = some { cls := .type "tuple", data := .seq #[.int i tk, y] } :=
      (sb.2 _ (Nat.ne_of_gt lte)).trans hT
    have new : ObjOk X.prog X.w (upd H s.heap.objs.size (.tup [.int (i : Nat), x])) h3 s.heap.objs.size (.tup [.int (i : Nat), x]) := by
      refine ⟨(by decide : 2 ≤ sizeLine), [.int i tk, y], .cons ⟨_, rfl⟩ (.cons ru .nil), ?_⟩
      exact ⟨_, hT3, rfl, _, rfl⟩
    have I1 : Inv X pins σ (upd H s.heap.objs.size (.tup [.int (i : Nat), x])) { s with heap := h3, toks := tk + 1 } := by
      refine I.turnedNew (ch := [e, it]) ?_ hf (Nat.le_refl _) new
      intro b ob hb q
      have nb1 : b ≠ e := fun z => hb (by simp [z])
      have nb2 : b ≠ it := fun z => hb (by simp [z])
      exact (sb.2 b nb1).trans (hk b ob nb1 nb2 q)
    refine ⟨.ref s.heap.objs.size, _, I1, rfl, ⟨_, x, rfl, I.hok.fresh (Nat.le_refl _), rfl, ?_⟩, ⟨⟨y, ?_⟩, ?_, hne, nai, nae⟩, ?_⟩
    · intro ys hys
      rw [I.tuple_inj hys hq]
      exact hx
    · have e1 : ((i + 1 : Nat) : Int) = (i : Int) + 1 := by omega
      rw [e1]
      exact he3
    · exact hit2.1.at fun o q => (sb.2 it (Ne.symm hne)).trans q
    · intro b hb
      have lb : b < s.heap.objs.size := by
        rcases List.mem_cons.mp hb with z | z
        · rw [z]
          exact lte
        · rw [List.mem_singleton.mp z]
          exact lti
      rw [upd_ne (Nat.ne_of_lt lb)]
      exact (hf b hb).1
  done := by
    intro X hP hw hK hc i pins s σ H E I hf st hg
    subst hP hw hK
    obtain ⟨⟨old, he⟩, hit, hne, nai, nae⟩ := st
    obtain ⟨xs, hq, hx⟩ := hg
    obtain ⟨its, rv, p, hz⟩ := I.tuple hq
    obtain ⟨f0, f1, f2, f3, f4, f5⟩ := hf it (by simp)
    have hl := rv.length
    have ei : its.toArray.size = i := by
      rw [List.size_toArray, ← hl]
      exact hx
    refine wpAny_pyNext_enum_endD (Draws.tuple (A := X.A.in1) (I.ok.hd hc) it a nai its.toArray) he ⟨?_, p⟩ ?_
    · rw [ei]
      exact hit
    · intro h2 eb
      exact ⟨rfl, I.turned (t' := s.toks) (fun b o hb q => eb b o hb q) f0 f1 f3 f4 f5⟩
  self := by
    intro A i s Q E st h
    obtain ⟨⟨_, he⟩, _⟩ := st
    exact wpAny_pyIter_enum he h
def iEnumS (K : PySem.W.Frag) (ta : TA) : TI := fun σ H R => ta σ H fun vs H1 =>
  (∃ a xs, vs = [.ref a] ∧ SqL K H1 a xs ∧ R (Ite K a) H1) ∨ ∃ a xs, vs = [.ref a] ∧ SqT K H1 a xs ∧ R (Itet K a) H1
theorem pi_enumS {X : Cx} {e : Expr} {ta : TA} {p pos tpos : Pos} {elts : List Expr} {kk : Nat} (hg : Gl X "enumerate")
    (hm : X.mg "enumerate" = none) (ha : PA X [e] ta) (hs : starEach [e] X.env = [(false, eval e X.env)] := by rfl) :
    PI X (.Tuple elts kk tpos) (.Call (.Name "enumerate" p) [e] [] pos) (iEnumS X.K ta) := by
  constructor
  intro pins s σ H R I h
  refine Call_ (ld_blt I hg hm boot_enumerate (PyProof.Rows.callWith_type1
    (thn (ha.run pos pins s σ H _ I h) fun us s1 ⟨vs, H1, I1, r1, q1⟩ => ?_) hs rfl))
  have fresh : ∀ b ∈ [s1.heap.objs.size + 1, s1.heap.objs.size], FpOk X pins H1 b := by
    intro b hb
    have le : s1.heap.objs.size ≤ b := by
      rcases List.mem_cons.mp hb with z | z
      · rw [z]
        exact Nat.le_succ _
      · rw [List.mem_singleton.mp z]
        exact Nat.le_refl _
    exact I1.fpOk le (I1.hok.fresh le)
  rcases q1 with ⟨a, xs, rfl, hq, q⟩ | ⟨a, xs, rfl, hq, q⟩
  · cases r1 with
    | cons r rr =>
      cases rr
      cases r
      obtain ⟨its, rv, pl, hz⟩ := I1.list hq
      refine call_enumerate_list pl.isList fun h2 he hit hsz hk => wpAny_pyIter_enum he ?_
      exact ⟨s1.heap.objs.size + 1, [s1.heap.objs.size + 1, s1.heap.objs.size], _, _, H1, rfl, I1.kept (t' := s1.toks) hk,
        turn_enum a (s1.heap.objs.size + 1) s1.heap.objs.size, ⟨⟨.none, he⟩, hit, Nat.succ_ne_self _⟩, fresh, q⟩
  · cases r1 with
    | cons r rr =>
      cases rr
      cases r
      obtain ⟨its, rv, pl, hz⟩ := I1.tuple hq
      have lta : a < s1.heap.objs.size := by
        obtain ⟨o, ho, _⟩ := pl
        exact Heap.lt_size ho
      refine enum_call pl fun h2 he hit hk => wpAny_pyIter_enum he ?_
      exact ⟨s1.heap.objs.size + 1, [s1.heap.objs.size + 1, s1.heap.objs.size], _, _, H1, rfl, I1.kept (t' := s1.toks) hk,
        turn_enumT a (s1.heap.objs.size + 1) s1.heap.objs.size,
        ⟨⟨.none, he⟩, hit, Nat.succ_ne_self _, Nat.ne_of_lt lta, Nat.ne_of_lt (Nat.lt_succ_of_lt lta)⟩, fresh, q⟩
end Kv
/-! The classes above a class, as a hierarchy keeps them. -/
namespace Kv
open PySem PySem.Spec PyProof.Rows L2
def flag (as : List Str) : List (Key × V) := as.map fun a => (Sum.inr a, V.bl true)
def addA (acc : List Str) (a : Str) : List Str := if a ∈ acc then acc else acc ++ [a]
def addAll (acc as : List Str) : List Str := as.foldl addA acc
abbrev Tab := List (Str × List Str)
def look (tab : Tab) (x : Str) : List Str := (tab.lookup x).getD []
def ancOf (tab : Tab) (n : Str) (ss : List Str) : List Str := ss.foldl (fun acc s => addAll acc (look tab s)) [n]
def tabKeys (tab : Tab) : List Str := tab.map (·.1)
def ancTab (rows : List Row2) : Tab := rows.foldl (fun tab r => tab ++ [(r.1, ancOf tab r.1 r.2)]) []
theorem keyr_ne {a b : Str} (h : a ≠ b) : ¬ ((Sum.inr a : Key) = Sum.inr b) := fun z => h (Sum.inr.inj z)
theorem valV_flag (a : Str) : ∀ as : List Str, valV (flag as) (Sum.inr a : Key) = if a ∈ as then some (.bl true) else none
  | [] => rfl
  | x :: r => by
    have ih := valV_flag a r
    show valV (((Sum.inr x : Key), V.bl true) :: flag r) _ = _
    by_cases e : x = a
    · subst e
      rw [valV_pos rfl, if_pos (List.mem_cons_self ..)]
    · rw [valV_neg (keyr_ne e), ih]
      by_cases h : a ∈ r
      · rw [if_pos h, if_pos (List.mem_cons_of_mem _ h)]
      · rw [if_neg h, if_neg (fun z => by
          rcases List.mem_cons.mp z with z | z
          · exact e z.symm
          · exact h z)]
theorem flag_map (a : Str) : ∀ as : List Str, (flag as).map (fun kv => if kv.1 = (Sum.inr a : Key) then (kv.1, V.bl true) else kv) = flag as
  | [] => rfl
  | x :: r => by
    show (if (Sum.inr x : Key) = Sum.inr a then ((Sum.inr x : Key), V.bl true) else ((Sum.inr x : Key), V.bl true)) :: (flag r).map _ = ((Sum.inr x : Key), V.bl true) :: flag r
    rw [flag_map a r]
    split <;> rfl
theorem put_flag (acc : List Str) (a : Str) : putK (flag acc) (Sum.inr a : Key) (.bl true) = flag (addA acc a) := by
  unfold putK addA
  rw [valV_any, valV_flag]
  by_cases h : a ∈ acc
  · rw [if_pos h, if_pos h]
    rw [if_pos (by rfl : (some (V.bl true)).isSome = true)]
    exact flag_map a acc
  · rw [if_neg h, if_neg h]
    show (if (none : Option V).isSome = true then _ else _) = _
    rw [if_neg (by simp)]
    unfold flag
    rw [List.map_append]
    rfl
theorem flag_len (as : List Str) : (flag as).length = as.length := List.length_map _
theorem addA_nodup {acc : List Str} {a : Str} (h : acc.Nodup) : (addA acc a).Nodup := by
  unfold addA
  split
  · exact h
  · rename_i hn
    rw [List.nodup_append]
    refine ⟨h, List.pairwise_singleton _ _, fun x hx y hy => ?_⟩
    rw [List.mem_singleton.mp hy]
    rintro rfl
    exact hn hx
theorem mem_addA {acc : List Str} {a x : Str} : x ∈ addA acc a ↔ x ∈ acc ∨ x = a := by
  unfold addA
  split
  · rename_i h
    constructor
    · exact Or.inl
    · rintro (z | rfl)
      · exact z
      · exact h
  · rw [List.mem_append, List.mem_singleton]
theorem addAll_snoc (acc as : List Str) (a : Str) : addAll acc (as ++ [a]) = addA (addAll acc as) a := by
  unfold addAll
  rw [List.foldl_append]
  rfl
theorem addAll_take {as : List Str} {i : Nat} {a : Str} (acc : List Str) (h : as[i]? = some a) : addAll acc (as.take (i + 1)) = addA (addAll acc (as.take i)) a := by
  rw [List.take_add_one, h]
  exact addAll_snoc ..
theorem addAll_nodup : ∀ {as acc : List Str}, acc.Nodup → (addAll acc as).Nodup
  | [], _, h => h
  | a :: r, acc, h => addAll_nodup (as := r) (addA_nodup h)
theorem mem_addAll {x : Str} : ∀ {as acc : List Str}, x ∈ addAll acc as ↔ x ∈ acc ∨ x ∈ as
  | [], acc => by
    show x ∈ acc ↔ _
    simp
  | a :: r, acc => by
    show x ∈ addAll (addA acc a) r ↔ _
    rw [mem_addAll, mem_addA, List.mem_cons]
    constructor
    · rintro ((z | z) | z)
      · exact Or.inl z
      · exact Or.inr (Or.inl z)
      · exact Or.inr (Or.inr z)
    · rintro (z | z | z)
      · exact Or.inl (Or.inl z)
      · exact Or.inl (Or.inr z)
      · exact Or.inr z
def ancAt (tab : Tab) (n : Str) (ss : List Str) (i : Nat) : List Str := ancOf tab n (ss.take i)
theorem ancAt_next {tab : Tab} {n : Str} {ss : List Str} {i : Nat} {s : Str} (h : ss[i]? = some s) : ancAt tab n ss (i + 1) = addAll (ancAt tab n ss i) (look tab s) := by
  unfold ancAt ancOf
  rw [List.take_add_one, h, List.foldl_append]
  rfl
theorem ancOf_nodup {tab : Tab} {n : Str} {ss : List Str} : (ancOf tab n ss).Nodup := by
  unfold ancOf
  have : ∀ (l acc : List Str), acc.Nodup → (l.foldl (fun acc s => addAll acc (look tab s)) acc).Nodup := by
    intro l
    induction l with
    | nil => intro acc h; exact h
    | cons a r ih => intro acc h; exact ih _ (addAll_nodup h)
  exact this ss [n] (List.pairwise_singleton _ _)
theorem mem_ancOf {tab : Tab} {n x : Str} {ss : List Str} : x ∈ ancOf tab n ss ↔ x = n ∨ ∃ s ∈ ss, x ∈ look tab s := by
  have : ∀ (l acc : List Str), x ∈ l.foldl (fun acc s => addAll acc (look tab s)) acc ↔ x ∈ acc ∨ ∃ s ∈ l, x ∈ look tab s := by
    intro l
    induction l with
    | nil => intro acc; simp
    | cons a r ih =>
      intro acc
      show x ∈ r.foldl _ (addAll acc (look tab a)) ↔ _
      rw [ih, mem_addAll]
      constructor
      · rintro ((z | z) | ⟨s, hs, z⟩)
        · exact Or.inl z
        · exact Or.inr ⟨a, List.mem_cons_self .., z⟩
        · exact Or.inr ⟨s, List.mem_cons_of_mem _ hs, z⟩
      · rintro (z | ⟨s, hs, z⟩)
        · exact Or.inl (Or.inl z)
        · rcases List.mem_cons.mp hs with rfl | hs
          · exact Or.inl (Or.inr z)
          · exact Or.inr ⟨s, hs, z⟩
  unfold ancOf
  rw [this, List.mem_singleton]
def TabOk (tab : Tab) : Prop := ∀ (x : Str) (as : List Str), (x, as) ∈ tab → as.Nodup ∧ ∀ a ∈ as, a ∈ tabKeys tab
theorem mem_look {tab : Tab} : ∀ {x : Str}, x ∈ tabKeys tab → (x, look tab x) ∈ tab := by
  induction tab with
  | nil => intro x h; cases h
  | cons p r ih =>
    intro x h
    obtain ⟨y, as⟩ := p
    unfold look
    rw [List.lookup_cons]
    by_cases e : x = y
    · subst e
      rw [beq_self_eq_true]
      exact List.mem_cons_self ..
    · rw [beq_eq_false_iff_ne.mpr e]
      refine List.mem_cons_of_mem _ (ih ?_)
      rcases List.mem_cons.mp h with z | z
      · exact absurd z e
      · exact z
theorem look_none {tab : Tab} : ∀ {x : Str}, x ∉ tabKeys tab → look tab x = [] := by
  induction tab with
  | nil => intro x _; rfl
  | cons p r ih =>
    intro x h
    obtain ⟨y, as⟩ := p
    have h1 : x ≠ y := fun z => h (z ▸ List.mem_cons_self ..)
    have h2 := ih (x := x) fun z => h (List.mem_cons_of_mem _ z)
    unfold look at h2 ⊢
    rw [List.lookup_cons, beq_eq_false_iff_ne.mpr h1]
    exact h2
theorem look_sub {tab : Tab} (ok : TabOk tab) {x a : Str} (h : a ∈ look tab x) : a ∈ tabKeys tab := by
  by_cases hx : x ∈ tabKeys tab
  · exact (ok _ _ (mem_look hx)).2 a h
  · rw [look_none hx] at h
    cases h
theorem nodup_le {L F : List Str} (h : L.Nodup) (s : ∀ x ∈ L, x ∈ F) : L.length ≤ F.length := by
  have := filter_left F h
  have e : L.filter (fun y => decide (y ∉ F)) = [] := List.filter_eq_nil_iff.mpr fun y hy => by simpa using s y hy
  rw [e] at this
  have z : ([] : List Str).length = 0 := rfl
  omega
theorem TabOk.snoc {tab : Tab} (ok : TabOk tab) (n : Str) (ss : List Str) : TabOk (tab ++ [(n, ancOf tab n ss)]) := by
  intro x as h
  have ek : tabKeys (tab ++ [(n, ancOf tab n ss)]) = tabKeys tab ++ [n] := by
    unfold tabKeys
    rw [List.map_append]
    rfl
  rw [ek]
  rcases List.mem_append.mp h with z | z
  · obtain ⟨h1, h2⟩ := ok x as z
    exact ⟨h1, fun a ha => List.mem_append_left _ (h2 a ha)⟩
  · have := List.mem_singleton.mp z
    cases this
    refine ⟨ancOf_nodup, fun a ha => ?_⟩
    rcases mem_ancOf.mp ha with rfl | ⟨s, _, hs⟩
    · exact List.mem_append_right _ (List.mem_singleton.mpr rfl)
    · exact List.mem_append_left _ (look_sub ok hs)
theorem tabOk_nil : TabOk [] := fun x as h => by cases h
theorem ancTab_snoc (rows : List Row2) (r : Row2) : ancTab (rows ++ [r]) = ancTab rows ++ [(r.1, ancOf (ancTab rows) r.1 r.2)] := by
  unfold ancTab
  rw [List.foldl_append]
  rfl
theorem ancTab_take {rows : List Row2} {i : Nat} {r : Row2} (h : rows[i]? = some r) : ancTab (rows.take (i + 1)) = ancTab (rows.take i) ++ [(r.1, ancOf (ancTab (rows.take i)) r.1 r.2)] := by
  rw [List.take_add_one, h]
  exact ancTab_snoc ..
theorem ancTab_ok (rows : List Row2) : ∀ i, TabOk (ancTab (rows.take i))
  | 0 => tabOk_nil
  | i + 1 => by
    cases h : rows[i]? with
    | none =>
      rw [List.take_add_one, h]
      show TabOk (ancTab (rows.take i ++ []))
      rw [List.append_nil]
      exact ancTab_ok rows i
    | some r =>
      rw [ancTab_take h]
      exact (ancTab_ok rows i).snoc _ _
theorem ancTab_keys (rows : List Row2) : tabKeys (ancTab rows) = fsts rows := by
  have : ∀ (l : List Row2) (tab : Tab), tabKeys (l.foldl (fun tab r => tab ++ [(r.1, ancOf tab r.1 r.2)]) tab) = tabKeys tab ++ fsts l := by
    intro l
    induction l with
    | nil =>
      intro tab
      show tabKeys tab = tabKeys tab ++ []
      rw [List.append_nil]
    | cons r l ih =>
      intro tab
      show tabKeys (l.foldl _ (tab ++ [(r.1, ancOf tab r.1 r.2)])) = _
      rw [ih]
      unfold tabKeys fsts
      rw [List.map_append, List.append_assoc]
      rfl
  exact this rows []
/-! ### in the heap -/
def EntryAt (H : Hp) (kv : Key × V) (na : Str × List Str) : Prop := kv.1 = Sum.inr na.1 ∧ ∃ d, kv.2 = .ref d ∧ H d = some (.dK (flag na.2))
def Entries (H : Hp) : List (Key × V) → Tab → Prop := Paired (EntryAt H)
theorem Entries.mono {H H' : Hp} {kvs : List (Key × V)} {tab : Tab} (h : Entries H kvs tab) (k : ∀ d as, H d = some (.dK (flag as)) → H' d = some (.dK (flag as))) : Entries H' kvs tab :=
  Paired.mapP h fun _ _ ⟨e1, d, e2, e3⟩ => ⟨e1, d, e2, k d _ e3⟩
theorem Entries.look {H : Hp} : ∀ {kvs : List (Key × V)} {tab : Tab} {x : Str}, Entries H kvs tab → x ∈ tabKeys tab → ∃ d, valV kvs (Sum.inr x : Key) = some (.ref d) ∧ H d = some (.dK (flag (look tab x)))
  | _, _, _, .nil, h => by cases h
  | p :: _, (y, as) :: r, x, .cons ⟨e1, d, e2, e3⟩ t, h => by
    by_cases e : x = y
    · subst e
      refine ⟨d, ?_, ?_⟩
      · rw [valV_pos e1, e2]
      · unfold Kv.look
        rw [List.lookup_cons, beq_self_eq_true]
        exact e3
    · have hx : x ∈ tabKeys r := by
        rcases List.mem_cons.mp h with z | z
        · exact absurd z e
        · exact z
      obtain ⟨d2, g1, g2⟩ := Entries.look t hx
      refine ⟨d2, ?_, ?_⟩
      · rw [valV_neg (fun z => e (Sum.inr.inj (e1.symm.trans z)).symm)]
        exact g1
      · unfold Kv.look at g2 ⊢
        rw [List.lookup_cons, beq_eq_false_iff_ne.mpr e]
        exact g2
theorem Entries.none {H : Hp} : ∀ {kvs : List (Key × V)} {tab : Tab} {x : Str}, Entries H kvs tab → x ∉ tabKeys tab → valV kvs (Sum.inr x : Key) = none
  | _, _, _, .nil, _ => rfl
  | p :: _, (y, as) :: r, x, .cons ⟨e1, d, e2, e3⟩ t, h => by
    rw [valV_neg (fun z => h (by
      have : y = x := Sum.inr.inj (e1.symm.trans z)
      rw [this]
      exact List.mem_cons_self ..))]
    exact Entries.none t fun z => h (List.mem_cons_of_mem _ z)
theorem Entries.snoc {H : Hp} : ∀ {kvs : List (Key × V)} {tab : Tab} {kv : Key × V} {na : Str × List Str}, Entries H kvs tab → EntryAt H kv na → Entries H (kvs ++ [kv]) (tab ++ [na])
  | _, _, _, _, .nil, h => .cons h .nil
  | _, _, _, _, .cons a b, h => .cons a (Entries.snoc b h)
theorem Entries.length {H : Hp} {kvs : List (Key × V)} {tab : Tab} (h : Entries H kvs tab) : kvs.length = tab.length := Paired.length h
def placeKV (ns : List Str) : List (Key × V) := ns.zipIdx.map fun p => (Sum.inr p.1, V.int p.2)
theorem place_len (ns : List Str) : (placeKV ns).length = ns.length := by
  unfold placeKV
  rw [List.length_map, List.length_zipIdx]
theorem place_snoc (ns : List Str) (n : Str) : placeKV (ns ++ [n]) = placeKV ns ++ [(Sum.inr n, .int ns.length)] := by
  unfold placeKV
  rw [List.zipIdx_append, List.map_append]
  simp
theorem place_val (x : Str) : ∀ (ns : List Str), (valV (placeKV ns) (Sum.inr x : Key)).isSome = decide (x ∈ ns) := by
  intro ns
  unfold placeKV
  have : ∀ (l : List Str) (k : Nat), (valV ((l.zipIdx k).map fun p => ((Sum.inr p.1 : Key), V.int p.2)) (Sum.inr x : Key)).isSome = decide (x ∈ l) := by
    intro l
    induction l with
    | nil => intro k; rfl
    | cons y r ih =>
      intro k
      rw [List.zipIdx_cons, List.map_cons]
      by_cases e : y = x
      · subst e
        rw [valV_pos rfl, decide_eq_true (List.mem_cons_self ..)]
        rfl
      · rw [valV_neg (keyr_ne e), ih]
        by_cases h : x ∈ r
        · rw [decide_eq_true h, decide_eq_true (List.mem_cons_of_mem _ h)]
        · rw [decide_eq_false h, decide_eq_false (fun z => by
            rcases List.mem_cons.mp z with z | z
            · exact e z.symm
            · exact h z)]
  exact this ns 0
end Kv
/-! A hierarchy as an object. -/
namespace Kv
open PySem PySem.Spec PyProof.Rows L2
def flds (r q u : Addr) : List (Str × V) := putF "above" (.ref u) (putF "places" (.ref q) (putF "rows" (.ref r) []))
theorem f1 : ¬ (("rows" : Str) = "above") := by decide +kernel
theorem f2 : ¬ (("rows" : Str) = "places") := by decide +kernel
theorem f3 : ¬ (("places" : Str) = "above") := by decide +kernel
theorem flds_rows (r q u : Addr) : (flds r q u).lookup ("rows" : Str) = some (.ref r) := by
  unfold flds
  rw [lookup_putF, if_neg f1, lookup_putF, if_neg f2, lookup_putF, if_pos rfl]
theorem flds_places (r q u : Addr) : (flds r q u).lookup ("places" : Str) = some (.ref q) := by
  unfold flds
  rw [lookup_putF, if_neg f3, lookup_putF, if_pos rfl]
theorem flds_above (r q u : Addr) : (flds r q u).lookup ("above" : Str) = some (.ref u) := by
  unfold flds
  rw [lookup_putF, if_pos rfl]
theorem two_flds (r q : Addr) : (putF "places" (V.ref q) (putF "rows" (V.ref r) [])).length < 1000 := by
  show (if ("rows" : Str) = "places" then [(("rows" : Str), V.ref q)] else (("rows" : Str), V.ref r) :: putF "places" (V.ref q) []).length < 1000
  rw [if_neg f2]
  show 2 < 1000
  decide
structure HierAt (C : Addr) (H : Hp) (x : Addr) (rows : List Row2) : Prop where
  ex : ∃ (dx r q u : Addr) (rvs : List V) (kvs : List (Key × V)), H x = some (.ins C dx (flds r q u)) ∧ H r = some (.lst rvs) ∧ RowsAre H rvs rows ∧
    H q = some (.dK (placeKV (fsts rows))) ∧ H u = some (.dK kvs) ∧ Entries H kvs (ancTab rows)
theorem HierAt.same {C : Addr} {H H' : Hp} {x : Addr} {rows : List Row2} (h : HierAt C H x rows) (s : Same H H') : HierAt C H' x rows := by
  obtain ⟨dx, r, q, u, rvs, kvs, h1, h2, h3, h4, h5, h6⟩ := h.ex
  exact ⟨dx, r, q, u, rvs, kvs, s _ _ h1, s _ _ h2, h3.same s, s _ _ h4, s _ _ h5, h6.mono fun d as e => s _ _ e⟩
theorem RowAt.wrX {H : Hp} {R : Addr} {o0 o : HO} (h : H R = some o0) (hn : ∀ xs, HO.tup xs ≠ o0) {v : V} {r : Row2} (a : RowAt H v r) : RowAt (upd H R o) v r := by
  obtain ⟨t, u, e, h1, h2⟩ := a
  exact ⟨t, u, e, by rw [upd_ne (ne_of h1 h (hn _))]; exact h1, by rw [upd_ne (ne_of h2 h (hn _))]; exact h2⟩
theorem RowsAre.wrX {H : Hp} {R : Addr} {o0 o : HO} (h : H R = some o0) (hn : ∀ xs, HO.tup xs ≠ o0) {vs : List V} {rows : List Row2} (a : RowsAre H vs rows) : RowsAre (upd H R o) vs rows :=
  Paired.mapP a fun _ _ z => z.wrX h hn
theorem RowAt.butX {H H' : Hp} {x : Addr} {o0 : HO} (h : H x = some o0) (hn : ∀ xs, HO.tup xs ≠ o0) (b : But x H H') {v : V} {r : Row2} (a : RowAt H v r) : RowAt H' v r := by
  obtain ⟨t, u, e, h1, h2⟩ := a
  exact ⟨t, u, e, b _ _ (ne_of h1 h (hn _)) h1, b _ _ (ne_of h2 h (hn _)) h2⟩
theorem Entries.wr {H : Hp} {R : Addr} {o : HO} : ∀ {kvs : List (Key × V)} {tab : Tab}, Entries H kvs tab → (∀ kv ∈ kvs, kv.2 ≠ .ref R) → Entries (upd H R o) kvs tab
  | _, _, .nil, _ => .nil
  | p :: r, _, .cons ⟨e1, d, e2, e3⟩ t, h => by
    have hd : d ≠ R := fun z => h p (List.mem_cons_self ..) (by rw [e2, z])
    exact .cons ⟨e1, d, e2, by rw [upd_ne hd]; exact e3⟩ (Entries.wr t fun kv hk => h kv (List.mem_cons_of_mem _ hk))
theorem tyL {K : PySem.W.Frag} {H : Hp} {a : Addr} {xs : List V} (h : SqL K H a xs) : TyX K H (.ref a) (.type "list") := by
  rcases h with (h | ⟨o, h⟩) | ⟨o, its, n, hk, hc, _⟩
  · exact .base (.lst h)
  · exact .base (.frz h)
  · exact .kList hk hc
theorem tyT {K : PySem.W.Frag} {H : Hp} {a : Addr} {xs : List V} (h : SqT K H a xs) : TyX K H (.ref a) (.type "tuple") := by
  rcases h with (h | ⟨o, h⟩) | ⟨o, its, n, hk, hc, _⟩
  · exact .base (.tup h)
  · exact .fTuple h
  · exact .kTuple hk hc
theorem sqL_but {K : PySem.W.Frag} {H H' : Hp} {x c : Addr} {us : List V} {C dx : Addr} {fs : List (Str × V)} (h : SqL K H c us) (hx : H x = some (.ins C dx fs)) (b : But x H H') : SqL K H' c us := by
  rcases h with (h | ⟨o, h⟩) | h
  · exact .inl (.inl (b _ _ (ne_of h hx (by intro z; cases z)) h))
  · exact .inl (.inr ⟨o, b _ _ (ne_of h hx (by intro z; cases z)) h⟩)
  · exact .inr h
theorem sqT_but {K : PySem.W.Frag} {H H' : Hp} {x c : Addr} {us : List V} {C dx : Addr} {fs : List (Str × V)} (h : SqT K H c us) (hx : H x = some (.ins C dx fs)) (b : But x H H') : SqT K H' c us := by
  rcases h with (h | ⟨o, h⟩) | h
  · exact .inl (.inl (b _ _ (ne_of h hx (by intro z; cases z)) h))
  · exact .inl (.inr ⟨o, b _ _ (ne_of h hx (by intro z; cases z)) h⟩)
  · exact .inr h
theorem sqT_same {K : PySem.W.Frag} {H H' : Hp} {c : Addr} {us : List V} (h : SqT K H c us) (s : Same H H') : SqT K H' c us := by
  rcases h with (h | ⟨o, h⟩) | h
  · exact .inl (.inl (s _ _ h))
  · exact .inl (.inr ⟨o, s _ _ h⟩)
  · exact .inr h
theorem walk_enumT {K : PySem.W.Frag} {a : Addr} {xs : List V} : Walk (Itet K a) xs.length (fun H => SqT K H a xs) (YPair (fun i => some (.int (i : Nat))) (fun i => xs[i]?)) := by
  refine ⟨fun i H hi q => ⟨xs, xs[i], q, by simp [hi]⟩, fun H q => ⟨xs, q, rfl⟩, fun i H v H2 hi q y => ?_⟩
  obtain ⟨T, x, e1, e2, e3, e4⟩ := y
  exact ⟨T, .int (i : Nat), x, e1, e2, e3, rfl, e4 xs q⟩
structure HTxt (K : PySem.W.Frag) (mg : Str → Option Value) (C : Addr) : Prop where
  cl : Cls K C
  nR : NoAttr K C "rows"
  nP : NoAttr K C "places"
  nA : NoAttr K C "above"
  mgC : mg "Hierarchy" = some (.ref C)
  lim : ∃ mc u, ClX.CRead K C mc ∧ ClX.CVal K C mc "LIMIT" (.int 20) u
end Kv
/-! New lists do not lie where sys.modules lies. -/
namespace Kv
open PySem PySem.Spec PyProof.Rows L2
section
variable {X : Cx} {es : List Expr} {t : TA} {pos : Pos}
end
def GoodN (n m : Nat) (K : PySem.W.Frag) (H : Hp) (v : V) : Prop := ∃ d : PyData, Sh K false H v d ∧ Fit n m d
theorem GoodN.same {n m : Nat} {K : PySem.W.Frag} {H H' : Hp} {v : V} (g : GoodN n m K H v) (s : Same H H') : GoodN n m K H' v := by
  obtain ⟨d, h, r⟩ := g
  exact ⟨d, h.same s, r⟩
mutual
/-- the value v is the datum d, all in the heap; its lists lie where ok tells -/
inductive ShO (ok : Addr → Prop) (H : Hp) : V → PyData → Prop
  | non : ShO ok H .non .none
  | bl (b : Bool) : ShO ok H (.bl b) (.bool b)
  | int (i : Int) : ShO ok H (.int i) (.int i)
  | str (x : Str) : ShO ok H (.str x) (.str x)
  | lst {a : Addr} {xs : List V} {ds : List PyData} : H a = some (.lst xs) → ok a → ShOs ok H xs ds → ShO ok H (.ref a) (.list ds)
  | tup {a : Addr} {xs : List V} {ds : List PyData} : H a = some (.tup xs) → ShOs ok H xs ds → ShO ok H (.ref a) (.tuple ds)
  | dict {a : Addr} {kvs : List (Key × V)} {ks vs : List PyData} : H a = some (.dK kvs) → ShOs ok H (kvs.map fun p => kV p.1) ks →
      ShOs ok H (kvs.map fun p => p.2) vs → ShO ok H (.ref a) (.dict (ks.zip vs))
inductive ShOs (ok : Addr → Prop) (H : Hp) : List V → List PyData → Prop
  | nil : ShOs ok H [] []
  | cons {v : V} {vs : List V} {d : PyData} {ds : List PyData} : ShO ok H v d → ShOs ok H vs ds → ShOs ok H (v :: vs) (d :: ds)
end
mutual
theorem ShO.keep {ok : Addr → Prop} {H H' : Hp} (kL : ∀ a xs, ok a → H a = some (.lst xs) → H' a = some (.lst xs)) (kT : ∀ a xs, H a = some (.tup xs) → H' a = some (.tup xs))
    (kD : ∀ a xs, H a = some (.dK xs) → H' a = some (.dK xs)) : ∀ {v : V} {d : PyData}, ShO ok H v d → ShO ok H' v d
  | _, _, .non => .non
  | _, _, .bl b => .bl b
  | _, _, .int i => .int i
  | _, _, .str x => .str x
  | _, _, .lst h1 h2 h3 => .lst (kL _ _ h2 h1) h2 (ShOs.keep kL kT kD h3)
  | _, _, .tup h1 h3 => .tup (kT _ _ h1) (ShOs.keep kL kT kD h3)
  | _, _, .dict h1 h2 h3 => .dict (kD _ _ h1) (ShOs.keep kL kT kD h2) (ShOs.keep kL kT kD h3)
theorem ShOs.keep {ok : Addr → Prop} {H H' : Hp} (kL : ∀ a xs, ok a → H a = some (.lst xs) → H' a = some (.lst xs)) (kT : ∀ a xs, H a = some (.tup xs) → H' a = some (.tup xs))
    (kD : ∀ a xs, H a = some (.dK xs) → H' a = some (.dK xs)) : ∀ {vs : List V} {ds : List PyData}, ShOs ok H vs ds → ShOs ok H' vs ds
  | _, _, .nil => .nil
  | _, _, .cons h1 h2 => .cons (ShO.keep kL kT kD h1) (ShOs.keep kL kT kD h2)
end
theorem ShO.same {ok : Addr → Prop} {H H' : Hp} (s : Same H H') {v : V} {d : PyData} (h : ShO ok H v d) : ShO ok H' v d :=
  h.keep (fun _ _ _ e => s _ _ e) (fun _ _ e => s _ _ e) (fun _ _ e => s _ _ e)
theorem ShOs.same {ok : Addr → Prop} {H H' : Hp} (s : Same H H') {v : List V} {d : List PyData} (h : ShOs ok H v d) : ShOs ok H' v d :=
  h.keep (fun _ _ _ e => s _ _ e) (fun _ _ e => s _ _ e) (fun _ _ e => s _ _ e)
theorem ShOs.snoc {ok : Addr → Prop} {H : Hp} : ∀ {vs : List V} {ds : List PyData} {v : V} {d : PyData}, ShOs ok H vs ds → ShO ok H v d → ShOs ok H (vs ++ [v]) (ds ++ [d])
  | _, _, _, _, .nil, h => .cons h .nil
  | _, _, _, _, .cons a b, h => .cons a (ShOs.snoc b h)
theorem ShOs.length {ok : Addr → Prop} {H : Hp} : ∀ {vs : List V} {ds : List PyData}, ShOs ok H vs ds → vs.length = ds.length
  | _, _, .nil => rfl
  | _, _, .cons _ t => by rw [List.length_cons, List.length_cons, t.length]
mutual
theorem ShO.sh {K : PySem.W.Frag} {ok : Addr → Prop} {H : Hp} (hok : ∀ a, ok a → a ≠ sysModules) : ∀ {v : V} {d : PyData}, ShO ok H v d → Sh K false H v d
  | _, _, .non => .non
  | _, _, .bl b => .bl b
  | _, _, .int i => .int i
  | _, _, .str x => .str x
  | _, _, .lst h1 h2 h3 => .lst (.inl (.inl h1)) (fun _ => hok _ h2) (ShOs.sh hok h3)
  | _, _, .tup h1 h3 => .tup (.inl (.inl h1)) (ShOs.sh hok h3)
  | _, _, .dict h1 h2 h3 => .dict rfl h1 (ShOs.sh hok h2) (ShOs.sh hok h3)
theorem ShOs.sh {K : PySem.W.Frag} {ok : Addr → Prop} {H : Hp} (hok : ∀ a, ok a → a ≠ sysModules) : ∀ {vs : List V} {ds : List PyData}, ShOs ok H vs ds → ShAll K false H vs ds
  | _, _, .nil => .nil
  | _, _, .cons h1 h2 => .cons (ShO.sh hok h1) (ShOs.sh hok h2)
end
def Apart (p : Addr) : Addr → Prop := fun a => a ≠ p ∧ a ≠ sysModules
def Drawn (n m : Nat) (p : Addr) (H : Hp) (v : V) : Prop := ∃ d : PyData, ShO (Apart p) H v d ∧ Fit n m d
theorem Drawn.same {n m : Nat} {p : Addr} {H H' : Hp} {v : V} (g : Drawn n m p H v) (s : Same H H') : Drawn n m p H' v := by
  obtain ⟨d, h, r⟩ := g
  exact ⟨d, h.same s, r⟩
theorem Drawn.mono {n m n' m' : Nat} {p : Addr} {H : Hp} {v : V} (g : Drawn n m p H v) (a : n ≤ n') (b : m ≤ m') : Drawn n' m' p H v := by
  obtain ⟨d, h, r⟩ := g
  exact ⟨d, h, r.mono a b⟩
theorem Drawn.non {n m : Nat} {p : Addr} {H : Hp} : Drawn n m p H .non := ⟨_, .non, fit_non.mono (Nat.zero_le _) (Nat.zero_le _)⟩
theorem Drawn.bl {n m : Nat} {p : Addr} {H : Hp} {b : Bool} : Drawn n m p H (.bl b) := ⟨_, .bl b, fit_bl.mono (Nat.zero_le _) (Nat.zero_le _)⟩
theorem Drawn.int {n m : Nat} {p : Addr} {H : Hp} {i : Int} (h : i.natAbs ≤ 10 ^ 60) (hn : 200 ≤ n := by decide) : Drawn n m p H (.int i) := ⟨_, .int i, (fit_int h).mono hn (Nat.zero_le _)⟩
theorem Drawn.str {n m k : Nat} {p : Addr} {H : Hp} {x : Str} (h : Sm k x) (hn : k ≤ n := by decide) : Drawn n m p H (.str x) := ⟨_, .str x, h.fit.mono hn (Nat.zero_le _)⟩
end Kv
/-! A tuple in the heap, or the text's own empty one. -/
namespace Kv
open PySem PySem.Spec PyProof.Rows L2
def KT0 (K : PySem.W.Frag) (a : Addr) : Prop := ∃ (o : Obj) (its : Array Value) (n : Nat), K.lookup a = some o ∧ o.cls = .type "tuple" ∧ o.dict = none ∧ o.data = .seq its n ∧ its.size ≤ sizeLine ∧ Vals [] its.toList
def TpO (K : PySem.W.Frag) (H : Hp) (a : Addr) (xs : List V) : Prop := H a = some (.tup xs) ∨ (xs = [] ∧ KT0 K a)
section
variable {K : PySem.W.Frag} {H H' : Hp} {a : Addr} {xs : List V}
theorem TpO.sq (h : TpO K H a xs) : SqT K H a xs := by
  rcases h with h | ⟨rfl, o, its, n, h1, h2, _, h3⟩
  · exact .inl (.inl h)
  · exact .inr ⟨o, its, n, h1, h2, h3⟩
theorem TpO.at (h : TpO K H a xs) (n : xs ≠ []) : H a = some (.tup xs) := by
  rcases h with h | ⟨rfl, _⟩
  · exact h
  · exact absurd rfl n
theorem TpO.map (h : TpO K H a xs) (f : H a = some (.tup xs) → H' a = some (.tup xs)) : TpO K H' a xs := by
  rcases h with h | h
  · exact .inl (f h)
  · exact .inr h
theorem TpO.same (h : TpO K H a xs) (s : Same H H') : TpO K H' a xs := h.map (s _ _)
theorem TpO.ty (h : TpO K H a xs) : TyX K H (.ref a) (.type "tuple") := by
  rcases h with h | ⟨_, o, its, n, hk, hc, _⟩
  · exact .base (.tup h)
  · exact .kTuple hk hc
def RowK (K : PySem.W.Frag) (H : Hp) (v : V) (r : Row2) : Prop := ∃ t s, v = .ref t ∧ H t = some (.tup [.str r.1, .ref s]) ∧ TpO K H s (r.2.map V.str)
def RowsK (K : PySem.W.Frag) (H : Hp) : List V → List Row2 → Prop := Paired (RowK K H)
theorem RowK.same (s : Same H H') {v : V} {r : Row2} (h : RowK K H v r) : RowK K H' v r := by
  obtain ⟨t, u, e, h1, h2⟩ := h
  exact ⟨t, u, e, s _ _ h1, h2.same s⟩
theorem RowsK.same (s : Same H H') {vs : List V} {rows : List Row2} (h : RowsK K H vs rows) : RowsK K H' vs rows :=
  Paired.mapP h fun _ _ z => z.same s
theorem RowsK.length {vs : List V} {rows : List Row2} (h : RowsK K H vs rows) : vs.length = rows.length := Paired.length h
theorem RowsK.snoc : ∀ {vs : List V} {rows : List Row2} {v : V} {r : Row2}, RowsK K H vs rows → RowK K H v r → RowsK K H (vs ++ [v]) (rows ++ [r])
  | _, _, _, _, .nil, h => .cons h .nil
  | _, _, _, _, .cons a b, h => .cons a (RowsK.snoc b h)
theorem RowsK.get : ∀ {vs : List V} {rows : List Row2} {i : Nat} {v : V}, RowsK K H vs rows → vs[i]? = some v → ∃ r, rows[i]? = some r ∧ RowK K H v r
  | _, _, _, _, .nil, e => by simp at e
  | _, _, 0, _, .cons a _, e => by
    simp at e
    subst e
    exact ⟨_, rfl, a⟩
  | _, _, i + 1, v, .cons _ b, e => by
    obtain ⟨r, h1, h2⟩ := RowsK.get (i := i) (v := v) b (by simpa using e)
    exact ⟨r, by simpa using h1, h2⟩
theorem RowK.wrX {R : Addr} {o0 o : HO} (h : H R = some o0) (hn : ∀ xs, HO.tup xs ≠ o0) {v : V} {r : Row2} (a : RowK K H v r) : RowK K (upd H R o) v r := by
  obtain ⟨t, u, e, h1, h2⟩ := a
  exact ⟨t, u, e, by rw [upd_ne (ne_of h1 h (hn _))]; exact h1, h2.map fun h2 => by rw [upd_ne (ne_of h2 h (hn _))]; exact h2⟩
theorem RowsK.wrX {R : Addr} {o0 o : HO} (h : H R = some o0) (hn : ∀ xs, HO.tup xs ≠ o0) {vs : List V} {rows : List Row2} (a : RowsK K H vs rows) : RowsK K (upd H R o) vs rows :=
  Paired.mapP a fun _ _ z => z.wrX h hn
theorem RowK.butX {x : Addr} {o0 : HO} (h : H x = some o0) (hn : ∀ xs, HO.tup xs ≠ o0) (b : But x H H') {v : V} {r : Row2} (a : RowK K H v r) : RowK K H' v r := by
  obtain ⟨t, u, e, h1, h2⟩ := a
  exact ⟨t, u, e, b _ _ (ne_of h1 h (hn _)) h1, h2.map fun h2 => b _ _ (ne_of h2 h (hn _)) h2⟩
end
end Kv
/-! Values as trees; which lists and dicts are still written; what a frame's names hold. -/
namespace Pu
open PySem PySem.Spec PyProof.Rows L2 Kv
inductive D where
  | non
  | bl (b : Bool)
  | int (i : Int)
  | str (x : Str)
  | lst (xs : List D)
  | tup (xs : List D)
  | flst (xs : List D)
  | ftup (xs : List D)
  | dic (ks : List Key) (vs : List D)
  | dct (ks : List (List Key)) (vs : List D)
  | obj (C : Addr) (ns : List Str) (vs : List D)
  | exn (a dx : Addr) (c : Value) (ns : List Str) (vs : List D)
  | opq (a : Addr)
  | typ (n : String)
  | lsta (a : Addr) (xs : List D)
def FzL (K : PySem.W.Frag) (H : Hp) (a : Addr) (xs : List V) : Prop :=
  (∃ o, H a = some (.frz o (.lst xs))) ∨
    ∃ (o : Obj) (its : Array Value) (n : Nat), K.lookup a = some o ∧ o.cls = .type "list" ∧ o.dict = none ∧ o.data = .seq its n ∧ its.size ≤ sizeLine ∧ Vals xs its.toList
def FzT (K : PySem.W.Frag) (H : Hp) (a : Addr) (xs : List V) : Prop :=
  (∃ o, H a = some (.frz o (.tup xs)) ∧ o.dict = none) ∨
    ∃ (o : Obj) (its : Array Value) (n : Nat), K.lookup a = some o ∧ o.cls = .type "tuple" ∧ o.dict = none ∧ o.data = .seq its n ∧ its.size ≤ sizeLine ∧ Vals xs its.toList
theorem FzT.sq {K : PySem.W.Frag} {H : Hp} {a : Addr} {xs : List V} (h : FzT K H a xs) : SqT K H a xs := by
  rcases h with ⟨o, h, _⟩ | ⟨o, its, n, h1, h2, _, h3⟩
  · exact .inl (.inr ⟨o, h⟩)
  · exact .inr ⟨o, its, n, h1, h2, h3⟩
theorem FzL.sq {K : PySem.W.Frag} {H : Hp} {a : Addr} {xs : List V} (h : FzL K H a xs) : SqL K H a xs := by
  rcases h with h | h
  · exact .inl (.inr h)
  · exact .inr h
def RdO (ok : Addr → Prop) (H : Hp) (a : Addr) (u : HO) : Prop := (H a = some u ∧ ok a) ∨ ∃ o, H a = some (.frz o u)
theorem RdO.rd {ok : Addr → Prop} {H : Hp} {a : Addr} {u : HO} (h : RdO ok H a u) : Rd H a u := h.imp (·.1) id
mutual
/-- the value v is the tree d; the lists and dicts in it lie where ok tells -/
inductive Rep (K : PySem.W.Frag) (ok : Addr → Prop) (H : Hp) : V → D → Prop
  | non : Rep K ok H .non .non
  | bl (b : Bool) : Rep K ok H (.bl b) (.bl b)
  | int (i : Int) : Rep K ok H (.int i) (.int i)
  | str (x : Str) : Rep K ok H (.str x) (.str x)
  | lst {a : Addr} {vs : List V} {ds : List D} : H a = some (.lst vs) → ok a → Reps K ok H vs ds → Rep K ok H (.ref a) (.lst ds)
  | lstF {a : Addr} {vs : List V} {ds : List D} : FzL K H a vs → Reps K ok H vs ds → Rep K ok H (.ref a) (.flst ds)
  | tupO {a : Addr} {vs : List V} {ds : List D} : TpO K H a vs → Reps K ok H vs ds → Rep K ok H (.ref a) (.tup ds)
  | tupF {a : Addr} {vs : List V} {ds : List D} : FzT K H a vs → Reps K ok H vs ds → Rep K ok H (.ref a) (.ftup ds)
  | dic {a : Addr} {kvs : List (Key × V)} {ds : List D} : RdO ok H a (.dK kvs) → Reps K ok H (kvs.map (·.2)) ds → Rep K ok H (.ref a) (.dic (kvs.map (·.1)) ds)
  | dct {a : Addr} {kvs : List (List Key × V)} {ds : List D} : RdO ok H a (.dT kvs) → Reps K ok H (kvs.map (·.2)) ds → Rep K ok H (.ref a) (.dct (kvs.map (·.1)) ds)
  | obj {a C dx : Addr} {fs : List (Str × V)} {ds : List D} : H a = some (.ins C dx fs) → ok a → Reps K ok H (fs.map (·.2)) ds → Rep K ok H (.ref a) (.obj C (fs.map (·.1)) ds)
  | exn {a dx : Addr} {c : Value} {fs : List (Str × V)} {ds : List D} : H dx = some (.xd fs) → Reps K ok H (fs.map (·.2)) ds → Rep K ok H (.ref a) (.exn a dx c (fs.map (·.1)) ds)
  | opq (a : Addr) : Rep K ok H (.ref a) (.opq a)
  | typ (n : String) : Rep K ok H (.ty n) (.typ n)
  | lsta {a : Addr} {vs : List V} {ds : List D} : H a = some (.lst vs) → ok a → Reps K ok H vs ds → Rep K ok H (.ref a) (.lsta a ds)
inductive Reps (K : PySem.W.Frag) (ok : Addr → Prop) (H : Hp) : List V → List D → Prop
  | nil : Reps K ok H [] []
  | cons {v : V} {vs : List V} {d : D} {ds : List D} : Rep K ok H v d → Reps K ok H vs ds → Reps K ok H (v :: vs) (d :: ds)
end
def Vol : HO → Prop
  | .lst _ => True
  | .dK _ => True
  | .dT _ => True
  | .ins _ _ _ => True
  | .tbl _ => True
  | _ => False
def isDct : HO → Bool
  | .dK _ => true
  | .dT _ => true
  | _ => false
def Kept (H' : Hp) (a : Addr) (o : HO) : Prop := H' a = some o ∨ (isDct o = true ∧ ∃ ob, H' a = some (.frz ob o))
theorem Kept.there {H' : Hp} {a : Addr} {o : HO} (k : Kept H' a o) : ∃ o', H' a = some o' := by
  rcases k with h | ⟨_, ob, h⟩
  · exact ⟨_, h⟩
  · exact ⟨_, h⟩
theorem Kept.same {H' : Hp} {a : Addr} {o : HO} (k : Kept H' a o) (n : isDct o = false) : H' a = some o := by
  rcases k with h | ⟨z, _⟩
  · exact h
  · rw [n] at z; cases z
theorem Kept.then {H1 H2 : Hp} {a : Addr} {o : HO} (k : Kept H1 a o) (f : ∀ o', H1 a = some o' → Kept H2 a o') : Kept H2 a o := by
  rcases k with h | ⟨z, ob, h⟩
  · exact f _ h
  · exact .inr ⟨z, ob, (f _ h).same rfl⟩
structure Fr (ok : Addr → Prop) (H : Hp) (ok' : Addr → Prop) (H' : Hp) : Prop where
  keep : ∀ a o, H a = some o → (Vol o → ok a) → Kept H' a o
  mono : ∀ a o, H a = some o → ok a → ok' a
  all : ∀ a, H' a = none → H a = none
theorem Fr.of {ok : Addr → Prop} {H : Hp} {ok' : Addr → Prop} {H' : Hp} (k : ∀ a o, H a = some o → (Vol o → ok a) → H' a = some o) (m : ∀ a o, H a = some o → ok a → ok' a) (l : ∀ a, H' a = none → H a = none) : Fr ok H ok' H' := ⟨fun a o h v => .inl (k a o h v), m, l⟩
theorem Fr.refl {ok : Addr → Prop} {H : Hp} : Fr ok H ok H := .of (fun _ _ h _ => h) (fun _ _ _ h => h) (fun _ h => h)
theorem Fr.mono' {ok ok1 : Addr → Prop} {H H1 : Hp} (a : Fr ok H ok1 H1) {c : Addr} {o : HO} (h : H c = some o) (k : ok c) : ∃ o', H1 c = some o' ∧ ok1 c := by
  obtain ⟨o', h'⟩ := (a.keep c o h fun _ => k).there
  exact ⟨o', h', a.mono c o h k⟩
theorem Fr.trans {ok ok1 ok2 : Addr → Prop} {H H1 H2 : Hp} (a : Fr ok H ok1 H1) (b : Fr ok1 H1 ok2 H2) : Fr ok H ok2 H2 :=
  ⟨fun c o h v => (a.keep c o h v).then fun o' h' => b.keep c o' h' fun z => by
      rcases a.keep c o h v with k | ⟨_, ob, k⟩
      · rw [k] at h'; cases h'; exact a.mono c o h (v z)
      · rw [k] at h'; cases h'; exact z.elim, fun c o h k => by
    obtain ⟨o', h', k'⟩ := a.mono' h k
    exact b.mono c o' h' k', fun c h => a.all c (b.all c h)⟩
theorem Fr.rd {ok ok' : Addr → Prop} {H H' : Hp} (f : Fr ok H ok' H') {a : Addr} {o : HO} (h : H a = some o) (n : ¬ Vol o) : H' a = some o := (f.keep a o h fun z => absurd z n).same (by
  cases o <;> first | rfl | exact absurd trivial n)
theorem Fr.rdO {ok ok' : Addr → Prop} {H H' : Hp} (f : Fr ok H ok' H') {a : Addr} {u : HO} (h : RdO ok H a u) : RdO ok' H' a u := by
  rcases h with ⟨h, k⟩ | ⟨o, h⟩
  · rcases f.keep a u h fun _ => k with z | ⟨_, ob, z⟩
    · exact .inl ⟨z, f.mono a u h k⟩
    · exact .inr ⟨ob, z⟩
  · exact .inr ⟨o, f.rd h (fun z => z)⟩
theorem Fr.fzT {K : PySem.W.Frag} {ok ok' : Addr → Prop} {H H' : Hp} (f : Fr ok H ok' H') {a : Addr} {xs : List V} (h : FzT K H a xs) : FzT K H' a xs := by
  rcases h with ⟨o, h, hd⟩ | h
  · exact .inl ⟨o, f.rd h (fun z => z), hd⟩
  · exact .inr h
theorem Fr.fzL {K : PySem.W.Frag} {ok ok' : Addr → Prop} {H H' : Hp} (f : Fr ok H ok' H') {a : Addr} {xs : List V} (h : FzL K H a xs) : FzL K H' a xs := by
  rcases h with ⟨o, h⟩ | h
  · exact .inl ⟨o, f.rd h (fun z => z)⟩
  · exact .inr h
theorem Fr.tpO {K : PySem.W.Frag} {ok ok' : Addr → Prop} {H H' : Hp} (f : Fr ok H ok' H') {a : Addr} {xs : List V} (h : TpO K H a xs) : TpO K H' a xs := by
  rcases h with h | ⟨e, h⟩
  · exact .inl (f.rd h fun z => z)
  · exact .inr ⟨e, h⟩
theorem Rep.tup {K : PySem.W.Frag} {ok : Addr → Prop} {H : Hp} {a : Addr} {vs : List V} {ds : List D} (h : H a = some (.tup vs)) (r : Reps K ok H vs ds) : Rep K ok H (.ref a) (.tup ds) := .tupO (.inl h) r
mutual
theorem Rep.fr {K : PySem.W.Frag} {ok ok' : Addr → Prop} {H H' : Hp} (f : Fr ok H ok' H') : ∀ {v : V} {d : D}, Rep K ok H v d → Rep K ok' H' v d
  | _, _, .non => .non
  | _, _, .bl b => .bl b
  | _, _, .int i => .int i
  | _, _, .str x => .str x
  | _, _, .lst h k r => .lst ((f.keep _ _ h fun _ => k).same rfl) (f.mono _ _ h k) (Reps.fr f r)
  | _, _, .lstF h r => .lstF (f.fzL h) (Reps.fr f r)
  | _, _, .tupO h r => .tupO (f.tpO h) (Reps.fr f r)
  | _, _, .tupF h r => .tupF (f.fzT h) (Reps.fr f r)
  | _, _, .dic h r => .dic (f.rdO h) (Reps.fr f r)
  | _, _, .dct h r => .dct (f.rdO h) (Reps.fr f r)
  | _, _, .obj h k r => .obj ((f.keep _ _ h fun _ => k).same rfl) (f.mono _ _ h k) (Reps.fr f r)
  | _, _, .exn h r => .exn (f.rd h (fun z => z)) (Reps.fr f r)
  | _, _, .opq v => .opq v
  | _, _, .typ v => .typ v
  | _, _, .lsta h k r => .lsta ((f.keep _ _ h fun _ => k).same rfl) (f.mono _ _ h k) (Reps.fr f r)
theorem Reps.fr {K : PySem.W.Frag} {ok ok' : Addr → Prop} {H H' : Hp} (f : Fr ok H ok' H') : ∀ {vs : List V} {ds : List D}, Reps K ok H vs ds → Reps K ok' H' vs ds
  | _, _, .nil => .nil
  | _, _, .cons h t => .cons (Rep.fr f h) (Reps.fr f t)
end
section
variable {K : PySem.W.Frag} {ok : Addr → Prop} {H : Hp}
theorem Reps.length : ∀ {vs : List V} {ds : List D}, Reps K ok H vs ds → vs.length = ds.length
  | _, _, .nil => rfl
  | _, _, .cons _ t => congrArg (· + 1) (Reps.length t)
theorem Reps.get : ∀ {vs : List V} {ds : List D} {i : Nat} {v : V}, Reps K ok H vs ds → vs[i]? = some v → ∃ d, ds[i]? = some d ∧ Rep K ok H v d
  | _, _, _, _, .nil, e => by simp at e
  | _, _, 0, _, .cons a _, e => by
    simp at e
    subst e
    exact ⟨_, rfl, a⟩
  | _, _, i + 1, v, .cons _ b, e => by
    obtain ⟨r, h1, h2⟩ := Reps.get (i := i) (v := v) b (by simpa using e)
    exact ⟨r, by simpa using h1, h2⟩
theorem Reps.getD : ∀ {vs : List V} {ds : List D} {i : Nat} {d : D}, Reps K ok H vs ds → ds[i]? = some d → ∃ v, vs[i]? = some v ∧ Rep K ok H v d
  | _, _, _, _, .nil, e => by simp at e
  | _, _, 0, _, .cons a _, e => by
    simp at e
    subst e
    exact ⟨_, rfl, a⟩
  | _, _, i + 1, v, .cons _ b, e => by
    obtain ⟨r, h1, h2⟩ := Reps.getD (i := i) (d := v) b (by simpa using e)
    exact ⟨r, by simpa using h1, h2⟩
theorem Reps.app : ∀ {vs ws : List V} {ds es : List D}, Reps K ok H vs ds → Reps K ok H ws es → Reps K ok H (vs ++ ws) (ds ++ es)
  | _, _, _, _, .nil, h => h
  | _, _, _, _, .cons a t, h => .cons a (Reps.app t h)
theorem Reps.take : ∀ {vs : List V} {ds : List D} (n : Nat), Reps K ok H vs ds → Reps K ok H (vs.take n) (ds.take n)
  | _, _, 0, _ => by rw [List.take_zero, List.take_zero]; exact .nil
  | _, _, _ + 1, .nil => .nil
  | _, _, n + 1, .cons a t => .cons a (Reps.take n t)
theorem Reps.drop : ∀ {vs : List V} {ds : List D} (n : Nat), Reps K ok H vs ds → Reps K ok H (vs.drop n) (ds.drop n)
  | _, _, 0, h => h
  | _, _, _ + 1, .nil => .nil
  | _, _, n + 1, .cons _ t => Reps.drop n t
theorem Reps.rev : ∀ {vs : List V} {ds : List D}, Reps K ok H vs ds → Reps K ok H vs.reverse ds.reverse
  | _, _, .nil => .nil
  | _, _, .cons a t => by
    rw [List.reverse_cons, List.reverse_cons]
    exact (Reps.rev t).app (.cons a .nil)
end
inductive Slot where
  | un
  | val (d : D)
  | own (d : D)
abbrev En := List Slot
def OwnAt (K : PySem.W.Frag) (ok : Addr → Prop) (H : Hp) (q : Addr) : D → Prop
  | .lst ds => ∃ vs, H q = some (.lst vs) ∧ Reps K ok H vs ds
  | .dic ks ds => ∃ kvs, H q = some (.dK kvs) ∧ kvs.map (·.1) = ks ∧ Reps K ok H (kvs.map (·.2)) ds
  | .dct ks ds => ∃ kvs, H q = some (.dT kvs) ∧ kvs.map (·.1) = ks ∧ Reps K ok H (kvs.map (·.2)) ds
  | .obj C ns ds => ∃ dx fs, H q = some (.ins C dx fs) ∧ fs.map (·.1) = ns ∧ Reps K ok H (fs.map (·.2)) ds
  | .lsta a ds => q = a ∧ ∃ vs, H q = some (.lst vs) ∧ Reps K ok H vs ds
  | _ => False
theorem OwnAt.there {K : PySem.W.Frag} {ok : Addr → Prop} {H : Hp} {q : Addr} {d : D} (h : OwnAt K ok H q d) : ∃ o, H q = some o ∧ Vol o := by
  cases d with
  | lst ds => obtain ⟨vs, e, _⟩ := h; exact ⟨_, e, trivial⟩
  | dic ks ds => obtain ⟨vs, e, _⟩ := h; exact ⟨_, e, trivial⟩
  | dct ks ds => obtain ⟨vs, e, _⟩ := h; exact ⟨_, e, trivial⟩
  | obj C ns ds => obtain ⟨dx, fs, e, _⟩ := h; exact ⟨_, e, trivial⟩
  | lsta a ds => obtain ⟨_, vs, e, _⟩ := h; exact ⟨_, e, trivial⟩
  | _ => exact h.elim
theorem OwnAt.nt {K : PySem.W.Frag} {ok : Addr → Prop} {H : Hp} {q : Addr} {d : D} (h : OwnAt K ok H q d) (ps : Array Value) : H q ≠ some (.tbl ps) := fun z => by
  cases d with
  | lst ds => obtain ⟨vs, e, _⟩ := h; rw [e] at z; cases z
  | dic ks ds => obtain ⟨vs, e, _⟩ := h; rw [e] at z; cases z
  | dct ks ds => obtain ⟨vs, e, _⟩ := h; rw [e] at z; cases z
  | obj C ns ds => obtain ⟨dx, fs, e, _⟩ := h; rw [e] at z; cases z
  | lsta a ds => obtain ⟨_, vs, e, _⟩ := h; rw [e] at z; cases z
  | _ => exact h.elim
theorem OwnAt.fr {K : PySem.W.Frag} {ok ok' : Addr → Prop} {H H' : Hp} {q : Addr} {d : D} (f : Fr ok H ok' H') (e : H' q = H q) (h : OwnAt K ok H q d) : OwnAt K ok' H' q d := by
  cases d with
  | lst ds => obtain ⟨vs, e1, r⟩ := h; exact ⟨vs, e.trans e1, r.fr f⟩
  | dic ks ds => obtain ⟨vs, e1, k, r⟩ := h; exact ⟨vs, e.trans e1, k, r.fr f⟩
  | dct ks ds => obtain ⟨vs, e1, k, r⟩ := h; exact ⟨vs, e.trans e1, k, r.fr f⟩
  | obj C ns ds => obtain ⟨dx, vs, e1, k, r⟩ := h; exact ⟨dx, vs, e.trans e1, k, r.fr f⟩
  | lsta a ds => obtain ⟨ea, vs, e1, r⟩ := h; exact ⟨ea, vs, e.trans e1, r.fr f⟩
  | _ => exact h.elim
theorem own_tblX {K : PySem.W.Frag} {ok : Addr → Prop} {H : Hp} {q : Addr} {d : D} {u : HO} (h : OwnAt K ok H q d) (hu : H q = some u) (g : HO → Bool) (hg : ∀ o, g o = true → ∃ ps, o = .tbl ps) : g u = false := by
  cases e : g u with
  | false => rfl
  | true => obtain ⟨ps, rfl⟩ := hg u e; exact absurd hu (h.nt ps)
theorem OwnAt.rep {K : PySem.W.Frag} {ok ok' : Addr → Prop} {H : Hp} {q : Addr} {d : D} (f : Fr ok H ok' H) (k : ok' q) (h : OwnAt K ok H q d) : Rep K ok' H (.ref q) d := by
  cases d with
  | lst ds => obtain ⟨vs, e1, r⟩ := h; exact .lst e1 k (r.fr f)
  | dic ks ds => obtain ⟨vs, e1, kk, r⟩ := h; subst kk; exact .dic (.inl ⟨e1, k⟩) (r.fr f)
  | dct ks ds => obtain ⟨vs, e1, kk, r⟩ := h; subst kk; exact .dct (.inl ⟨e1, k⟩) (r.fr f)
  | obj C ns ds => obtain ⟨dx, vs, e1, kk, r⟩ := h; subst kk; exact .obj e1 k (r.fr f)
  | lsta a ds => obtain ⟨ea, vs, e1, r⟩ := h; subst ea; exact .lsta e1 k (r.fr f)
  | _ => exact h.elim
structure Gx where
  H0 : Hp
  B : List Nat
  T : List (Addr × Str)
def TbOk (T : List (Addr × Str)) (ok : Addr → Prop) (H : Hp) : Prop := ∀ p ∈ T, LamX.TabS H p.1 p.2 ∧ ¬ ok p.1
structure Wf (K : PySem.W.Frag) (g : Gx) (ok : Addr → Prop) (ρ : En) (σ : L2.St) (H : Hp) : Prop where
  len : σ.length = ρ.length
  fc : ∀ a, H a = none → ok a
  h0 : ∀ a, H a = none → g.H0 a = none
  val : ∀ (i : Nat) (d : D), ρ[i]? = some (.val d) → ∃ v, σ[i]? = some (some v) ∧ Rep K ok H v d
  own : ∀ (i : Nat) (d : D), ρ[i]? = some (.own d) → ∃ q, σ[i]? = some (some (.ref q)) ∧ OwnAt K ok H q d ∧ ¬ ok q ∧ (i ∈ g.B ∨ g.H0 q = none)
  apart : ∀ (i j : Nat) (d e : D) (q : Addr), ρ[i]? = some (.own d) → ρ[j]? = some (.own e) → σ[i]? = some (some (.ref q)) → σ[j]? = some (some (.ref q)) → i = j
  tb : TbOk g.T ok H
theorem TbOk.nil {ok : Addr → Prop} {H : Hp} : TbOk [] ok H := fun _ h => nomatch h
theorem TbOk.fr {T : List (Addr × Str)} {ok ok' : Addr → Prop} {H H' : Hp} (t : TbOk T ok H) (f : Fr ok H ok' H') (k : ∀ a ps, H a = some (.tbl ps) → H' a = some (.tbl ps)) (n : ∀ a ps, H a = some (.tbl ps) → ¬ ok a → ¬ ok' a) : TbOk T ok' H' := fun p hp => by
  obtain ⟨⟨ps, h1, h2, h3⟩, h4⟩ := t p hp
  refine ⟨⟨ps, k _ _ h1, h2, fun pos cv hc => ?_⟩, n _ _ h1 h4⟩
  obtain ⟨c, e1, e2⟩ := h3 pos cv hc
  exact ⟨c, e1, f.rd e2 (fun z => by unfold LamX.CodeO at z; exact z)⟩
section
variable {K : PySem.W.Frag} {g : Gx} {ok ok' : Addr → Prop} {ρ : En} {σ : L2.St} {H H' : Hp}
theorem Wf.step (w : Wf K g ok ρ σ H) (f : Fr ok H ok' H') (fc : ∀ a, H' a = none → ok' a) (tb : TbOk g.T ok' H')
    (ho : ∀ (i : Nat) (d : D) (q : Addr), ρ[i]? = some (.own d) → σ[i]? = some (some (.ref q)) → H' q = H q ∧ ¬ ok' q) : Wf K g ok' ρ σ H' := by
  refine ⟨w.len, fc, fun a h => w.h0 a (f.all a h), fun i d h => ?_, fun i d h => ?_, w.apart, tb⟩
  · obtain ⟨v, e, r⟩ := w.val i d h
    exact ⟨v, e, r.fr f⟩
  · obtain ⟨q, e, r, n, b⟩ := w.own i d h
    obtain ⟨h1, h2⟩ := ho i d q h e
    exact ⟨q, e, r.fr f h1, h2, b⟩
theorem fr_new {p : Addr} {o : HO} (n : H p = none) : Fr ok H ok (upd H p o) :=
  ⟨fun a u h _ => .inl (by rw [upd_ne (ne_of_none h n)]; exact h), fun _ _ _ h => h, fun a h => by
    by_cases z : a = p
    · rw [z]; exact n
    · rw [upd_ne z] at h; exact h⟩
theorem upd_tbl {p : Addr} {o : HO} (n : ∀ ps, H p ≠ some (.tbl ps)) : ∀ a ps, H a = some (.tbl ps) → upd H p o a = some (.tbl ps) := fun a ps h => by
  have hz : a ≠ p := fun z => n ps (by rw [← z]; exact h)
  rw [upd_ne hz]; exact h
theorem new_tbl {p : Addr} {o : HO} (n : H p = none) : ∀ a ps, H a = some (.tbl ps) → upd H p o a = some (.tbl ps) := upd_tbl fun ps z => by rw [n] at z; cases z
theorem Wf.new {p : Addr} {o : HO} (w : Wf K g ok ρ σ H) (n : H p = none) : Wf K g ok ρ σ (upd H p o) := by
  refine w.step (fr_new n) (fun a h => w.fc a ((fr_new (ok := ok) n).all a h)) (w.tb.fr (fr_new n) (new_tbl n) fun _ _ _ h => h) fun i d q h e => ?_
  obtain ⟨q', e', r, nk, _⟩ := w.own i d h
  rw [e] at e'
  cases e'
  obtain ⟨u, hu, _⟩ := r.there
  exact ⟨upd_ne (ne_of_none hu n), nk⟩
def sub1 (ok : Addr → Prop) (p : Addr) : Addr → Prop := fun a => ok a ∧ a ≠ p
def add1 (ok : Addr → Prop) (p : Addr) : Addr → Prop := fun a => ok a ∨ a = p
theorem fr_sub {p : Addr} {o : HO} (n : H p = none) : Fr ok H (sub1 ok p) (upd H p o) :=
  ⟨fun a u h _ => .inl (by rw [upd_ne (ne_of_none h n)]; exact h), fun _ _ h k => ⟨k, ne_of_none h n⟩, (fr_new (ok := ok) n).all⟩
theorem Wf.newO {p : Addr} {o : HO} (w : Wf K g ok ρ σ H) (n : H p = none) : Wf K g (sub1 ok p) ρ σ (upd H p o) := by
  refine w.step (fr_sub n) (fun a h => ?_) (w.tb.fr (fr_sub n) (new_tbl n) fun _ _ _ h z => h z.1) fun i d q h e => ?_
  · by_cases z : a = p
    · rw [z, upd_same] at h; cases h
    · rw [upd_ne z] at h; exact ⟨w.fc a h, z⟩
  · obtain ⟨q', e', r, nk, _⟩ := w.own i d h
    rw [e] at e'
    cases e'
    obtain ⟨u, hu, _⟩ := r.there
    exact ⟨upd_ne (ne_of_none hu n), fun z => nk z.1⟩
theorem fr_add {p : Addr} : Fr ok H (add1 ok p) H := ⟨fun _ _ h _ => .inl h, fun _ _ _ h => .inl h, fun _ h => h⟩
theorem Wf.add {p : Addr} (w : Wf K g ok ρ σ H) (nt : ∀ ps, H p ≠ some (.tbl ps)) (np : ∀ (j : Nat) (e : D), ρ[j]? = some (.own e) → σ[j]? ≠ some (some (.ref p))) : Wf K g (add1 ok p) ρ σ H := by
  refine w.step fr_add (fun a h => .inl (w.fc a h)) (w.tb.fr fr_add (fun _ _ h => h) fun a ps h n z => z.elim n fun y => nt ps (y ▸ h)) fun i d q h e => ⟨rfl, ?_⟩
  obtain ⟨q', e', r, nk, _⟩ := w.own i d h
  rw [e] at e'
  cases e'
  rintro (z | z)
  · exact nk z
  · exact np i d h (by rw [e, z])
theorem get_set_self {α : Type} {l : List α} {i : Nat} {x y : α} (h : (l.set i x)[i]? = some y) : y = x := by
  rw [List.getElem?_set] at h
  rw [if_pos rfl] at h
  split at h
  · exact (Option.some.inj h).symm
  · cases h
theorem Wf.freeze {i : Nat} {d : D} {q : Addr} (w : Wf K g ok ρ σ H) (h : ρ[i]? = some (.own d)) (hq : σ[i]? = some (some (.ref q))) :
    Wf K g (add1 ok q) (ρ.set i (.val d)) σ H ∧ Rep K (add1 ok q) H (.ref q) d := by
  obtain ⟨q', e', r, nk, b⟩ := w.own i d h
  rw [hq] at e'
  cases e'
  have rp : Rep K (add1 ok q) H (.ref q) d := r.rep fr_add (.inr rfl)
  have f : Fr ok H (add1 ok q) H := fr_add
  refine ⟨⟨by rw [List.length_set]; exact w.len, fun a z => .inl (w.fc a z), w.h0, fun j e z => ?_, fun j e z => ?_, fun j k d1 d2 p h1 h2 e1 e2 => ?_, w.tb.fr f (fun _ _ h => h) fun a ps h n z => z.elim n fun y => r.nt ps (y ▸ h)⟩, rp⟩
  · by_cases hj : j = i
    · subst hj
      cases get_set_self z
      exact ⟨_, hq, rp⟩
    · rw [List.getElem?_set_ne (Ne.symm hj)] at z
      obtain ⟨v, e1, r1⟩ := w.val j e z
      exact ⟨v, e1, r1.fr f⟩
  · by_cases hj : j = i
    · subst hj
      cases get_set_self z
    · rw [List.getElem?_set_ne (Ne.symm hj)] at z
      obtain ⟨p, e1, r1, n1, b1⟩ := w.own j e z
      refine ⟨p, e1, r1.fr f rfl, ?_, b1⟩
      rintro (y | y)
      · exact n1 y
      · exact hj (w.apart j i e d p z h e1 (by rw [hq, y]))
  · have n1 : j ≠ i := fun z => by subst z; cases get_set_self h1
    have n2 : k ≠ i := fun z => by subst z; cases get_set_self h2
    rw [List.getElem?_set_ne (Ne.symm n1)] at h1
    rw [List.getElem?_set_ne (Ne.symm n2)] at h2
    exact w.apart j k d1 d2 p h1 h2 e1 e2
theorem Wf.write {i : Nat} {d e : D} {q : Addr} {o : HO} (w : Wf K g ok ρ σ H) (h : ρ[i]? = some (.own d)) (hq : σ[i]? = some (some (.ref q)))
    (ne : OwnAt K ok (upd H q o) q e) : Wf K g ok (ρ.set i (.own e)) σ (upd H q o) ∧ Fr ok H ok (upd H q o) := by
  obtain ⟨q', e', r, nk, b⟩ := w.own i d h
  rw [hq] at e'
  cases e'
  obtain ⟨u, hu, hv⟩ := r.there
  have f : Fr ok H ok (upd H q o) := .of (fun a x ha hk => by
      have : a ≠ q := fun z => by
        subst z
        rw [hu] at ha
        cases ha
        exact nk (hk hv)
      rw [upd_ne this]; exact ha) (fun _ _ _ k => k) (fun a ha => by
    by_cases z : a = q
    · rw [z, upd_same] at ha; cases ha
    · rw [upd_ne z] at ha; exact ha)
  refine ⟨⟨by rw [List.length_set]; exact w.len, fun a z => w.fc a (f.all a z), fun a z => w.h0 a (f.all a z), fun j x z => ?_, fun j x z => ?_, fun j k d1 d2 p h1 h2 e1 e2 => ?_, w.tb.fr f (upd_tbl r.nt) fun _ _ _ n => n⟩, f⟩
  · have hj : j ≠ i := fun y => by subst y; cases get_set_self z
    rw [List.getElem?_set_ne (Ne.symm hj)] at z
    obtain ⟨v, e1, r1⟩ := w.val j x z
    exact ⟨v, e1, r1.fr f⟩
  · by_cases hj : j = i
    · subst hj
      cases get_set_self z
      exact ⟨q, hq, ne, nk, b⟩
    · rw [List.getElem?_set_ne (Ne.symm hj)] at z
      obtain ⟨p, e1, r1, n1, b1⟩ := w.own j x z
      refine ⟨p, e1, r1.fr f ?_, n1, b1⟩
      refine upd_ne fun y => hj (w.apart j i x d p z h e1 (by rw [hq, y]))
  · have o1 : ∃ x, ρ[j]? = some (.own x) := by
      by_cases hj : j = i
      · exact ⟨d, by rw [hj]; exact h⟩
      · rw [List.getElem?_set_ne (Ne.symm hj)] at h1; exact ⟨_, h1⟩
    have o2 : ∃ x, ρ[k]? = some (.own x) := by
      by_cases hj : k = i
      · exact ⟨d, by rw [hj]; exact h⟩
      · rw [List.getElem?_set_ne (Ne.symm hj)] at h2; exact ⟨_, h2⟩
    obtain ⟨x1, h1⟩ := o1
    obtain ⟨x2, h2⟩ := o2
    exact w.apart j k x1 x2 p h1 h2 e1 e2
theorem Wf.set {i : Nat} {v : V} {d : D} (w : Wf K g ok ρ σ H) (r : Rep K ok H v d) : Wf K g ok (ρ.set i (.val d)) (σ.set i (some v)) H := by
  refine ⟨by rw [List.length_set, List.length_set]; exact w.len, w.fc, w.h0, fun j e z => ?_, fun j e z => ?_, fun j k d1 d2 p h1 h2 e1 e2 => ?_, w.tb⟩
  · by_cases hj : j = i
    · subst hj
      cases get_set_self z
      refine ⟨v, ?_, r⟩
      have := (List.getElem?_eq_some_iff.mp z).1
      rw [List.length_set] at this
      rw [List.getElem?_set_self (by rw [w.len]; exact this)]
    · rw [List.getElem?_set_ne (Ne.symm hj)] at z ⊢
      exact w.val j e z
  · have hj : j ≠ i := fun y => by subst y; cases get_set_self z
    rw [List.getElem?_set_ne (Ne.symm hj)] at z ⊢
    exact w.own j e z
  · have n1 : j ≠ i := fun z => by subst z; cases get_set_self h1
    have n2 : k ≠ i := fun z => by subst z; cases get_set_self h2
    rw [List.getElem?_set_ne (Ne.symm n1)] at h1 e1
    rw [List.getElem?_set_ne (Ne.symm n2)] at h2 e2
    exact w.apart j k d1 d2 p h1 h2 e1 e2
theorem Wf.setO {i : Nat} {d : D} {q : Addr} (w : Wf K g ok ρ σ H) (r : OwnAt K ok H q d) (nk : ¬ ok q) (n0 : g.H0 q = none)
    (np : ∀ (j : Nat) (e : D), ρ[j]? = some (.own e) → σ[j]? ≠ some (some (.ref q))) : Wf K g ok (ρ.set i (.own d)) (σ.set i (some (.ref q))) H := by
  refine ⟨by rw [List.length_set, List.length_set]; exact w.len, w.fc, w.h0, fun j e z => ?_, fun j e z => ?_, fun j k d1 d2 p h1 h2 e1 e2 => ?_, w.tb⟩
  · have hj : j ≠ i := fun y => by subst y; cases get_set_self z
    rw [List.getElem?_set_ne (Ne.symm hj)] at z ⊢
    exact w.val j e z
  · by_cases hj : j = i
    · subst hj
      cases get_set_self z
      refine ⟨q, ?_, r, nk, .inr n0⟩
      have := (List.getElem?_eq_some_iff.mp z).1
      rw [List.length_set] at this
      rw [List.getElem?_set_self (by rw [w.len]; exact this)]
    · rw [List.getElem?_set_ne (Ne.symm hj)] at z ⊢
      exact w.own j e z
  · by_cases hj : j = i
    · by_cases hk : k = i
      · rw [hj, hk]
      · subst hj
        rw [List.getElem?_set_ne (Ne.symm hk)] at h2 e2
        cases get_set_self e1
        exact absurd e2 (np k d2 h2)
    · rw [List.getElem?_set_ne (Ne.symm hj)] at h1 e1
      by_cases hk : k = i
      · subst hk
        cases get_set_self e2
        exact absurd e1 (np j d1 h1)
      · rw [List.getElem?_set_ne (Ne.symm hk)] at h2 e2
        exact w.apart j k d1 d2 p h1 h2 e1 e2
theorem Wf.drop {i : Nat} (w : Wf K g ok ρ σ H) : Wf K g ok (ρ.set i .un) σ H := by
  have back : ∀ {j : Nat} {s : Slot}, s ≠ .un → (ρ.set i .un)[j]? = some s → ρ[j]? = some s := fun {j s} ns h => by
    by_cases hj : j = i
    · subst hj
      exact absurd (get_set_self h) ns
    · rw [List.getElem?_set_ne (Ne.symm hj)] at h; exact h
  exact ⟨by rw [List.length_set]; exact w.len, w.fc, w.h0, fun j e z => w.val j e (back (fun y => by cases y) z), fun j e z => w.own j e (back (fun y => by cases y) z), fun j k d1 d2 p h1 h2 e1 e2 => w.apart j k d1 d2 p (back (fun y => by cases y) h1) (back (fun y => by cases y) h2) e1 e2, w.tb⟩
def wrs (ρ : En) (σ : L2.St) (a : Addr) : Prop := ∃ (i : Nat) (d : D), ρ[i]? = some (.own d) ∧ σ[i]? = some (some (.ref a))
def isTbl : HO → Bool
  | .tbl _ => true
  | _ => false
theorem own_tbl {K : PySem.W.Frag} {ok : Addr → Prop} {H : Hp} {q : Addr} {d : D} {u : HO} (h : OwnAt K ok H q d) (hu : H q = some u) : isTbl u = false := own_tblX h hu isTbl fun o e => by
  cases o <;> first | exact ⟨_, rfl⟩ | cases e
def KeptO (ok : Addr → Prop) (H' : Hp) (a : Addr) (o : HO) : Prop := H' a = some o ∨ (ok a ∧ isDct o = true ∧ ∃ ob, H' a = some (.frz ob o)) ∨ (isTbl o = true ∧ ∃ ps, H' a = some (.tbl ps))
theorem KeptO.same {ok : Addr → Prop} {H' : Hp} {a : Addr} {o : HO} (k : KeptO ok H' a o) (n : ¬ ok a) (nt : isTbl o = false := by rfl) : H' a = some o := by
  rcases k with h | ⟨z, _⟩ | ⟨z, _⟩
  · exact h
  · exact absurd z n
  · rw [nt] at z; cases z
theorem KeptO.then {ok ok1 : Addr → Prop} {H1 H2 : Hp} {a : Addr} {o : HO} (k : KeptO ok H1 a o) (b : ∀ o', H1 a = some o' → KeptO ok1 H2 a o') (g : ok1 a → ok a) : KeptO ok H2 a o := by
  rcases k with h | ⟨z, d, ob, h⟩ | ⟨z, ps, h⟩
  · rcases b _ h with q | ⟨y, d, q⟩ | q
    · exact .inl q
    · exact .inr (.inl ⟨g y, d, q⟩)
    · exact .inr (.inr q)
  · rcases b _ h with q | ⟨_, d', _⟩ | ⟨d', _⟩
    · exact .inr (.inl ⟨z, d, ob, q⟩)
    · cases d'
    · cases d'
  · rcases b _ h with q | ⟨_, d', _⟩ | ⟨_, q⟩
    · exact .inr (.inr ⟨z, ps, q⟩)
    · cases d'
    · exact .inr (.inr ⟨z, q⟩)
structure Sx (σ : L2.St) (ρ : En) (ok : Addr → Prop) (H : Hp) (ρ' : En) (ok' : Addr → Prop) (H' : Hp) : Prop where
  fr : Fr ok H ok' H'
  keep : ∀ a o, H a = some o → ¬ wrs ρ σ a → KeptO ok H' a o
  sub : ∀ a, wrs ρ' σ a → wrs ρ σ a
  grow : ∀ a o, H a = some o → ok' a → ok a ∨ wrs ρ σ a
theorem Sx.refl : Sx σ ρ ok H ρ ok H := ⟨Fr.refl, fun _ _ h _ => .inl h, fun _ h => h, fun _ _ _ h => .inl h⟩
theorem Fr.there {ok ok' : Addr → Prop} {H H' : Hp} (f : Fr ok H ok' H') {a : Addr} {o : HO} (h : H a = some o) : ∃ o', H' a = some o' := by
  cases e : H' a with
  | none => rw [f.all a e] at h; cases h
  | some o' => exact ⟨o', rfl⟩
theorem Sx.trans {ρ1 ρ2 : En} {ok1 ok2 : Addr → Prop} {H1 H2 : Hp} (a : Sx σ ρ ok H ρ1 ok1 H1) (b : Sx σ ρ1 ok1 H1 ρ2 ok2 H2) : Sx σ ρ ok H ρ2 ok2 H2 :=
  ⟨a.fr.trans b.fr, fun c o h n => (a.keep c o h n).then (fun o' h' => b.keep c o' h' fun z => n (a.sub c z)) (fun z => (a.grow c o h z).elim id fun y => absurd y n), fun c h => a.sub c (b.sub c h), fun c o h k => by
    obtain ⟨o', h'⟩ := a.fr.there h
    rcases b.grow c o' h' k with z | z
    · exact a.grow c o h z
    · exact .inr (a.sub c z)⟩
theorem Sx.new {p : Addr} {o : HO} (n : H p = none) : Sx σ ρ ok H ρ ok (upd H p o) := ⟨fr_new n, fun a u h _ => .inl (by rw [upd_ne (ne_of_none h n)]; exact h), fun _ h => h, fun _ _ _ h => .inl h⟩
theorem Sx.newO {p : Addr} {o : HO} (n : H p = none) : Sx σ ρ ok H ρ (sub1 ok p) (upd H p o) := ⟨fr_sub n, fun a u h _ => .inl (by rw [upd_ne (ne_of_none h n)]; exact h), fun _ h => h, fun _ _ _ h => .inl h.1⟩
theorem wrs_set {i : Nat} {s : Slot} {a : Addr} (ns : ∀ d, s ≠ .own d) (h : wrs (ρ.set i s) σ a) : wrs ρ σ a := by
  obtain ⟨j, d, h1, h2⟩ := h
  have hj : j ≠ i := fun z => by subst z; exact ns d (get_set_self h1).symm
  rw [List.getElem?_set_ne (Ne.symm hj)] at h1
  exact ⟨j, d, h1, h2⟩
theorem Sx.freeze {i : Nat} {d : D} {q : Addr} (hi : ρ[i]? = some (.own d)) (hq : σ[i]? = some (some (.ref q))) : Sx σ ρ ok H (ρ.set i (.val d)) (add1 ok q) H := ⟨fr_add, fun _ _ h _ => .inl h, fun _ h => wrs_set (fun _ z => by cases z) h, fun a _ _ h => h.elim .inl fun z => .inr ⟨i, d, hi, by rw [z]; exact hq⟩⟩
theorem Sx.add {ρ1 : En} {ok1 : Addr → Prop} {H1 : Hp} {p : Addr} (s : Sx σ ρ ok H ρ1 ok1 H1) (n : H p = none) : Sx σ ρ ok H ρ1 (add1 ok1 p) H1 := ⟨s.fr.trans fr_add, s.keep, s.sub, fun a o h k => k.elim (s.grow a o h) fun z => by rw [z, n] at h; cases h⟩
theorem Sx.drop {i : Nat} : Sx σ ρ ok H (ρ.set i .un) ok H := ⟨Fr.refl, fun _ _ h _ => .inl h, fun _ h => wrs_set (fun _ z => by cases z) h, fun _ _ _ h => .inl h⟩
theorem Wf.wr {a : Addr} (w : Wf K g ok ρ σ H) (h : wrs ρ σ a) : ¬ ok a ∧ ∃ o, H a = some o ∧ Vol o := by
  obtain ⟨i, d, h1, h2⟩ := h
  obtain ⟨q, e, r, nk, _⟩ := w.own i d h1
  rw [h2] at e
  cases e
  exact ⟨nk, r.there⟩
theorem Sx.write {i : Nat} {d e : D} {q : Addr} {o : HO} (w : Wf K g ok ρ σ H) (h : ρ[i]? = some (.own d)) (hq : σ[i]? = some (some (.ref q)))
    (ne : OwnAt K ok (upd H q o) q e) : Sx σ ρ ok H (ρ.set i (.own e)) ok (upd H q o) := by
  refine ⟨(w.write h hq ne).2, fun a u ha na => ?_, fun a ha => ?_, fun _ _ _ k => .inl k⟩
  · exact .inl (by rw [upd_ne (fun z => na ⟨i, d, h, by rw [hq, z]⟩)]; exact ha)
  · obtain ⟨j, x, h1, h2⟩ := ha
    by_cases hj : j = i
    · subst hj
      exact ⟨j, d, h, h2⟩
    · rw [List.getElem?_set_ne (Ne.symm hj)] at h1
      exact ⟨j, x, h1, h2⟩
end
end Pu
/-! Readings in the tree world. -/
namespace Pu
open PySem PySem.Spec PyProof.Rows L2 Kv
inductive Ex (α : Type) where
  | ok (a : α) (ρ : En)
  | er (c : Value) (ns : List Str) (ds : List D) (ρ : En)
abbrev P (α : Type) := En → Option (Ex α)
section
variable {α β : Type}
def prt (a : α) : P α := fun ρ => some (.ok a ρ)
def bnd (m : P α) (k : α → P β) : P β := fun ρ => match m ρ with
  | none => none
  | some (.er c ns ds ρ') => some (.er c ns ds ρ')
  | some (.ok a ρ') => k a ρ'
def lft (o : Option α) : P α := fun ρ => match o with
  | some a => some (.ok a ρ)
  | none => none
theorem bnd_ok {m : P α} {k : α → P β} {ρ ρ' : En} {a : α} (h : m ρ = some (.ok a ρ')) : bnd m k ρ = k a ρ' := by unfold bnd; rw [h]
theorem bnd_er {m : P α} {k : α → P β} {ρ ρ' : En} {c : Value} {ns : List Str} {ds : List D} (h : m ρ = some (.er c ns ds ρ')) : bnd m k ρ = some (.er c ns ds ρ') := by unfold bnd; rw [h]
theorem bnd_none {m : P α} {k : α → P β} {ρ : En} (h : m ρ = none) : bnd m k ρ = none := by unfold bnd; rw [h]
end
abbrev Wx := L2.St → XK
def noE : Wx := fun _ _ _ _ => False
abbrev Rl (γ α : Type) := Hp → (Addr → Prop) → Hp → En → L2.St → γ → α → Prop
def Mono {γ α : Type} (R : Rl γ α) : Prop := ∀ H H1 ok' H' ρ' σ v a, (∀ a, H1 a = none → H a = none) → R H1 ok' H' ρ' σ v a → R H ok' H' ρ' σ v a
def Rs {γ α : Type} (K : PySem.W.Frag) (g : Gx) (E : Wx) (Rel : Rl γ α) (σ : L2.St) (ρ : En) (ok : Addr → Prop) (H : Hp) (o : Option (Ex α)) (Q : γ → Hp → Prop) : Prop :=
  match o with
  | none => False
  | some (.ok a ρ') => ∀ v H' ok', Wf K g ok' ρ' σ H' → Sx σ ρ ok H ρ' ok' H' → Rel H ok' H' ρ' σ v a → Q v H'
  | some (.er c ns ds ρ') => ∀ dx fs H' ok', Wf K g ok' ρ' σ H' → Sx σ ρ ok H ρ' ok' H' → H' dx = some (.xd fs) → fs.map (·.1) = ns → Reps K ok' H' (fs.map (·.2)) ds → E σ c (some dx) H'
def tX {γ α : Type} (K : PySem.W.Frag) (g : Gx) (E : Wx) (Rel : Rl γ α) (f : P α) : L2.St → Hp → (γ → Hp → Prop) → Prop := fun σ H Q =>
  ∃ ok ρ, Wf K g ok ρ σ H ∧ Rs K g E Rel σ ρ ok H (f ρ) Q
abbrev relD (K : PySem.W.Frag) : Rl V D := fun _ ok H _ _ v d => Rep K ok H v d
def Pk (K : PySem.W.Frag) (ok : Addr → Prop) (H : Hp) (v : V) (d : D) : Prop := Rep K ok H v d ∨ ∃ q, v = .ref q ∧ OwnAt K ok H q d
abbrev relP (K : PySem.W.Frag) : Rl V D := fun _ ok H _ _ v d => Pk K ok H v d
abbrev relB : Rl Bool Bool := fun _ _ _ _ _ c b => c = b
abbrev relA (K : PySem.W.Frag) : Rl (List V) (List D) := fun _ ok H _ _ v d => Reps K ok H v d
inductive R where
  | val (d : D)
  | own (d : D)
@[reducible] def R.d : R → D
  | .val d => d
  | .own d => d
def relR (K : PySem.W.Frag) : Rl V R := fun H0 ok H ρ σ v r => match r with
  | .val d => Rep K ok H v d
  | .own d => ∃ q, v = .ref q ∧ OwnAt K ok H q d ∧ ¬ ok q ∧ H0 q = none ∧ ∀ (j : Nat) (e : D), ρ[j]? = some (.own e) → σ[j]? ≠ some (some (.ref q))
theorem monoD {K : PySem.W.Frag} : Mono (relD K) := fun _ _ _ _ _ _ _ _ _ r => r
theorem monoP {K : PySem.W.Frag} : Mono (relP K) := fun _ _ _ _ _ _ _ _ _ r => r
theorem monoA {K : PySem.W.Frag} : Mono (relA K) := fun _ _ _ _ _ _ _ _ _ r => r
theorem monoB : Mono relB := fun _ _ _ _ _ _ _ _ _ r => r
theorem monoR {K : PySem.W.Frag} : Mono (relR K) := fun H H1 ok' H' ρ' σ v a h r => by
  cases a with
  | val d => exact r
  | own d => obtain ⟨q, e, o, nk, n0, np⟩ := r; exact ⟨q, e, o, nk, h q n0, np⟩
section
variable {γ δ α β : Type} {K : PySem.W.Frag} {g : Gx} {E : Wx} {σ : L2.St} {ok ok1 : Addr → Prop} {H H1 : Hp} {ρ : En}
theorem Rs.mono {Rel : Rl γ α} {o : Option (Ex α)} {Q Q' : γ → Hp → Prop} (h : Rs K g E Rel σ ρ ok H o Q) (q : ∀ v H', Q v H' → Q' v H') : Rs K g E Rel σ ρ ok H o Q' := by
  match o, h with
  | some (.ok a ρ'), h => exact fun v H' ok' w f r => q v H' (h v H' ok' w f r)
  | some (.er c ns ds ρ'), h => exact h
theorem Rs.shift {Rel : Rl γ α} {ρ1 : En} {o : Option (Ex α)} {Q : γ → Hp → Prop} (h : Rs K g E Rel σ ρ ok H o Q) (f : Sx σ ρ ok H ρ1 ok1 H1) (mo : Mono Rel) : Rs K g E Rel σ ρ1 ok1 H1 o Q := by
  match o, h with
  | some (.ok a ρ'), h => exact fun v H' ok' w f' r => h v H' ok' w (f.trans f') (mo _ _ _ _ _ _ _ _ f.fr.all r)
  | some (.er c ns ds ρ'), h => exact fun dx fs H' ok' w f' => h dx fs H' ok' w (f.trans f')
theorem Rs.bnd {RA : Rl γ α} {RB : Rl δ β} {m : P α} {k : α → P β} {Q : δ → Hp → Prop} (h : Rs K g E RB σ ρ ok H (bnd m k ρ) Q) (mo : Mono RB := by first | exact monoD | exact monoB | exact monoA | exact monoP | exact monoR | assumption) :
    Rs K g E RA σ ρ ok H (m ρ) (fun v1 H1 => ∃ ok1 ρ1 a, Wf K g ok1 ρ1 σ H1 ∧ Sx σ ρ ok H ρ1 ok1 H1 ∧ RA H ok1 H1 ρ1 σ v1 a ∧ Rs K g E RB σ ρ1 ok1 H1 (k a ρ1) Q) := by
  cases e : m ρ with
  | none => unfold Pu.bnd at h; rw [e] at h; exact h
  | some x =>
    cases x with
    | ok a ρ' =>
      rw [bnd_ok e] at h
      exact fun v H' ok' w f r => ⟨ok', ρ', a, w, f, r, h.shift f mo⟩
    | er c ns ds ρ' => rw [bnd_er e] at h; exact h
end
abbrev EV (X : Cx) (g : Gx) (E : Wx) (e : Expr) (f : P D) : Prop := PE X e (tX X.K g E (relD X.K) f)
abbrev EP (X : Cx) (g : Gx) (E : Wx) (e : Expr) (f : P D) : Prop := PE X e (tX X.K g E (relP X.K) f)
abbrev ER (X : Cx) (g : Gx) (E : Wx) (e : Expr) (f : P R) : Prop := PE X e (tX X.K g E (relR X.K) f)
abbrev ET (X : Cx) (g : Gx) (E : Wx) (e : Expr) (f : P Bool) : Prop := PT X e (tX X.K g E relB f)
abbrev EW (X : Cx) (g : Gx) (E : Wx) (e : Expr) (f : P Bool) : Prop := PW X e (tX X.K g E relB f)
abbrev EA (X : Cx) (g : Gx) (E : Wx) (es : List Expr) (f : P (List D)) : Prop := PA X es (tX X.K g E (relA X.K) f)
section
variable {X : Cx} {g : Gx} {E : Wx} {a b c e : Expr} {es : List Expr} {pos : Pos} {fa fb fc : P D}
theorem PE_imp {t t' : TE} (h : PE X e t) (q : ∀ σ H Q, t' σ H Q → t σ H Q) : PE X e t' := ⟨fun pins s σ H Q I z => h.run pins s σ H Q I (q σ H Q z)⟩
theorem PT_imp {t t' : TT} (h : PT X e t) (q : ∀ σ H Q, t' σ H Q → t σ H Q) : PT X e t' := ⟨fun pins s σ H Q I z => h.run pins s σ H Q I (q σ H Q z)⟩
theorem PW_imp {t t' : TT} (h : PW X e t) (q : ∀ σ H Q, t' σ H Q → t σ H Q) : PW X e t' := ⟨fun wh pins s σ H Q I z => h.run wh pins s σ H Q I (q σ H Q z)⟩
theorem PA_imp {t t' : TA} (h : PA X es t) (q : ∀ σ H Q, t' σ H Q → t σ H Q) : PA X es t' := ⟨fun po pins s σ H Q I z => h.run po pins s σ H Q I (q σ H Q z)⟩
theorem relR.toD {K : PySem.W.Frag} {ok ok1 : Addr → Prop} {H H1 : Hp} {ρ ρ1 : En} {σ : L2.St} {v : V} {r : R} (w : Wf K g ok1 ρ1 σ H1) (s : Sx σ ρ ok H ρ1 ok1 H1) (h : relR K H ok1 H1 ρ1 σ v r) :
    ∃ ok', Wf K g ok' ρ1 σ H1 ∧ Sx σ ρ ok H ρ1 ok' H1 ∧ Rep K ok' H1 v r.d := by
  cases r with
  | val d => exact ⟨ok1, w, s, h⟩
  | own d =>
    obtain ⟨q, rfl, o, nk, n0, np⟩ := h
    exact ⟨add1 ok1 q, w.add o.nt np, s.add n0, o.rep fr_add (.inr rfl)⟩
def fz (f : P R) : P D := bnd f fun r => prt r.d
def vl (f : P D) : P R := bnd f fun d => prt (.val d)
theorem ev_fz {f : P R} (h : ER X g E e f) : EV X g E e (fz f) := by
  refine PE_imp h fun σ H Q hq => ?_
  obtain ⟨ok, ρ, w, h⟩ := hq
  refine ⟨ok, ρ, w, ?_⟩
  unfold fz at h
  cases e : f ρ with
  | none => rw [bnd_none e] at h; exact h
  | some x =>
    cases x with
    | er c ns ds ρ' => rw [bnd_er e] at h; exact h
    | ok r ρ' =>
      rw [bnd_ok e] at h
      intro v H1 ok1 w1 s1 r1
      obtain ⟨ok2, w2, s2, r2⟩ := relR.toD w1 s1 r1
      exact h v H1 ok2 w2 s2 r2
theorem er_vl {f : P D} (h : EV X g E e f) : ER X g E e (vl f) := by
  refine PE_imp h fun σ H Q hq => ?_
  obtain ⟨ok, ρ, w, h⟩ := hq
  refine ⟨ok, ρ, w, (Rs.bnd (RA := relD X.K) h).mono fun v H1 hq => ?_⟩
  obtain ⟨ok1, ρ1, r, w1, f1, r1, h1⟩ := hq
  exact h1 v H1 ok1 w1 Sx.refl r1
def rd (i : Nat) : P D := fun ρ => match ρ[i]? with
  | some (.val d) => some (.ok d ρ)
  | some (.own d) => some (.ok d (ρ.set i (.val d)))
  | _ => none
theorem ev_name {i : Nat} {x : Str} (hN : X.N[i]? = some x) (hv : Vis X.env.scope x) (hd : (x == ("__debug__" : Str)) = false := by decide) (hcd : (x == ("__classdict__" : Str)) = false := by decide) : EV X g E (.Name x pos) (rd i) := by
  refine PE_imp (pe_var hN hv hd hcd) fun σ H Q hq => ?_
  obtain ⟨ok, ρ, w, h⟩ := hq
  unfold rd at h
  cases e : ρ[i]? with
  | none => rw [e] at h; exact h.elim
  | some s =>
    rw [e] at h
    cases s with
    | un => exact h.elim
    | val d =>
      obtain ⟨v, ev, r⟩ := w.val i d e
      exact ⟨v, ev, h v H ok w Sx.refl r⟩
    | own d =>
      obtain ⟨q, eq, _⟩ := w.own i d e
      obtain ⟨w2, r2⟩ := w.freeze e eq
      exact ⟨_, eq, h _ H _ w2 (Sx.freeze e eq) r2⟩
theorem ev_const {v : V} {d : D} (h : PE X e (tC v)) (r : ∀ ok H, Rep X.K ok H v d) : EV X g E e (prt d) := by
  refine PE_imp h fun σ H Q hq => ?_
  obtain ⟨ok, ρ, w, h⟩ := hq
  exact h v H ok w Sx.refl (r ok H)
theorem ev_int {i : Int} {j} : EV X g E (.Constant (.int i) j pos) (prt (.int i)) := ev_const pe_int fun _ _ => .int i
theorem ev_bl {b : Bool} {j} : EV X g E (.Constant (.bool b) j pos) (prt (.bl b)) := ev_const pe_bl fun _ _ => .bl b
theorem ev_non {j} : EV X g E (.Constant .none j pos) (prt .non) := ev_const pe_non fun _ _ => .non
theorem ev_str {x : Str} {j} : EV X g E (.Constant (.str x) j pos) (prt (.str x)) := ev_const pe_str fun _ _ => .str x
theorem ev_gint {x : Str} {z : Int} {t : Tok} (hg : Gl X x) (hm : X.mg x = some (.int z t)) (hd : (x == ("__debug__" : Str)) = false := by decide) : EV X g E (.Name x pos) (prt (.int z)) :=
  ev_const (pe_glob (v := .int z) hg hm ⟨_, rfl⟩ hd) fun _ _ => .int z
theorem ep_of {f : P D} (h : EV X g E e f) : EP X g E e f := by
  refine PE_imp h fun σ H Q hq => ?_
  obtain ⟨ok, ρ, w, h⟩ := hq
  refine ⟨ok, ρ, w, ?_⟩
  match f ρ, h with
  | some (.ok a ρ'), h => exact fun v H' ok' w f r => h v H' ok' w f (.inl r)
  | some (.er c ns ds ρ'), h => exact h
def pk (i : Nat) : P D := fun ρ => match ρ[i]? with
  | some (.val d) => some (.ok d ρ)
  | some (.own d) => some (.ok d ρ)
  | _ => none
theorem pk_wf {K : PySem.W.Frag} {ok : Addr → Prop} {ρ : En} {σ : L2.St} {H : Hp} {i : Nat} {d : D} (w : Wf K g ok ρ σ H) (h : ρ[i]? = some (.val d) ∨ ρ[i]? = some (.own d)) : ∃ v, σ[i]? = some (some v) ∧ Pk K ok H v d := by
  rcases h with h | h
  · obtain ⟨v, e, r⟩ := w.val i d h
    exact ⟨v, e, .inl r⟩
  · obtain ⟨q, e, r, _⟩ := w.own i d h
    exact ⟨_, e, .inr ⟨q, rfl, r⟩⟩
theorem pk_inv {ρ : En} {i : Nat} {x : Ex D} (h : pk i ρ = some x) : ∃ d, x = .ok d ρ ∧ (ρ[i]? = some (.val d) ∨ ρ[i]? = some (.own d)) := by
  unfold pk at h
  cases e : ρ[i]? with
  | none => rw [e] at h; cases h
  | some s =>
    rw [e] at h
    cases s with
    | un => cases h
    | val d => cases h; exact ⟨d, rfl, .inl rfl⟩
    | own d => cases h; exact ⟨d, rfl, .inr rfl⟩
theorem ep_name {i : Nat} {x : Str} (hN : X.N[i]? = some x) (hv : Vis X.env.scope x) (hd : (x == ("__debug__" : Str)) = false := by decide) (hcd : (x == ("__classdict__" : Str)) = false := by decide) : EP X g E (.Name x pos) (pk i) := by
  refine PE_imp (pe_var hN hv hd hcd) fun σ H Q hq => ?_
  obtain ⟨ok, ρ, w, h⟩ := hq
  cases e : pk i ρ with
  | none => rw [e] at h; exact h.elim
  | some x =>
    rw [e] at h
    obtain ⟨d, rfl, h2⟩ := pk_inv e
    obtain ⟨v, ev, r⟩ := pk_wf w h2
    exact ⟨v, ev, h v H ok w Sx.refl r⟩
/-! ### two values -/
def Can (K : PySem.W.Frag) (g : Gx) (ρ : En) (σ : L2.St) (ok : Addr → Prop) (H : Hp) (d : D) (Q : VK) : Prop :=
  ∀ v H' ok', Wf K g ok' ρ σ H' → Sx σ ρ ok H ρ ok' H' → Rep K ok' H' v d → Q v H'
theorem Can.at {K : PySem.W.Frag} {ρ : En} {σ : L2.St} {ok : Addr → Prop} {H : Hp} {d : D} {Q : VK} {v : V} (h : Can K g ρ σ ok H d Q) (w : Wf K g ok ρ σ H) (r : Rep K ok H v d) : Q v H := h v H ok w Sx.refl r
theorem Can.new {K : PySem.W.Frag} {ρ : En} {σ : L2.St} {ok : Addr → Prop} {H : Hp} {d : D} {Q : VK} {p : Addr} {o : HO} (h : Can K g ρ σ ok H d Q) (w : Wf K g ok ρ σ H) (n : H p = none)
    (r : ok p → (upd H p o) p = some o → Fr ok H ok (upd H p o) → Rep K ok (upd H p o) (.ref p) d) : Q (.ref p) (upd H p o) :=
  h (.ref p) _ ok (w.new n) (Sx.new n) (r (w.fc p n) upd_same (fr_new n))
def Op2 (K : PySem.W.Frag) (r : R2) (op : D → D → Option D) : Prop := ∀ (g : Gx) (ρ : En) (σ : L2.St) (ok : Addr → Prop) (H : Hp) (u v : V) (x y z : D) (Q : VK), Wf K g ok ρ σ H → Rep K ok H u x → Pk K ok H v y → op x y = some z → Can K g ρ σ ok H z Q → r u v H Q
def op2 (o : D → D → Option D) (fa fb : P D) : P D := bnd fa fun x => bnd fb fun y => lft (o x y)
theorem tX_op2 {r : R2} {o : D → D → Option D} (h2 : Op2 X.K r o) {σ : L2.St} {H : Hp} {Q : VK} (hq : tX X.K g E (relD X.K) (op2 o fa fb) σ H Q) :
    tOp r (tX X.K g E (relD X.K) fa) (tX X.K g E (relP X.K) fb) σ H Q := by
  obtain ⟨ok, ρ, w, h⟩ := hq
  refine ⟨ok, ρ, w, (Rs.bnd (RA := relD X.K) h).mono fun v1 H1 hq => ?_⟩
  obtain ⟨ok1, ρ1, x, w1, f1, r1, h1⟩ := hq
  refine ⟨ok1, ρ1, w1, (Rs.bnd (RA := relP X.K) h1).mono fun v2 H2 hq => ?_⟩
  obtain ⟨ok2, ρ2, y, w2, f2, r2, h2'⟩ := hq
  unfold lft at h2'
  cases e : o x y with
  | none => rw [e] at h2'; exact h2'.elim
  | some z => rw [e] at h2'; exact h2 g ρ2 σ ok2 H2 v1 v2 x y z Q w2 (Rep.fr f2.fr r1) r2 e h2'
theorem ev_bin {op : Operator} {r : R2} {o : D → D → Option D} (ho : OpR X (binaryOp op) r) (h2 : Op2 X.K r o) (ha : EV X g E a fa) (hb : EP X g E b fb) : EV X g E (.BinOp a op b pos) (op2 o fa fb) :=
  PE_imp (pe_op ho ha hb) fun σ H Q hq => tX_op2 h2 hq
theorem ev_cmp {op : CmpOp} {r : R2} {o : D → D → Option D} (ho : OpR X (compareOp op) r) (h2 : Op2 X.K r o) (ha : EV X g E a fa) (hb : EP X g E b fb) (hm : behindInMarks op b = false) : EV X g E (.Compare a [op] [b] pos) (op2 o fa fb) :=
  PE_imp (pe_cmpR ho ha hb hm) fun σ H Q hq => tX_op2 h2 hq
def asB : D → Option Bool
  | .bl b => some b
  | _ => none
def tst (f : P D) : P Bool := bnd f fun d => lft (asB d)
theorem tX_tst {t : TE} {f : P D} (ht : ∀ σ H Q, tX X.K g E (relD X.K) f σ H Q → t σ H Q) {σ : L2.St} {H : Hp} {Q : Bool → Hp → Prop} (hq : tX X.K g E relB (tst f) σ H Q) :
    t σ H (fun x H' => ∃ k, x = .bl k ∧ Q k H') := by
  obtain ⟨ok, ρ, w, h⟩ := hq
  refine ht σ H _ ⟨ok, ρ, w, (Rs.bnd (RA := relD X.K) h).mono fun v1 H1 hq => ?_⟩
  obtain ⟨ok1, ρ1, x, w1, f1, r1, h1⟩ := hq
  unfold lft at h1
  have r1 : Rep X.K ok1 H1 v1 x := r1
  cases r1 with
  | bl b => exact ⟨b, rfl, h1 b H1 ok1 w1 Sx.refl rfl⟩
  | _ => exact h1.elim
theorem et_cmp {op : CmpOp} {r : R2} {o : D → D → Option D} (ho : OpR X (compareOp op) r) (h2 : Op2 X.K r o) (ha : EV X g E a fa) (hb : EP X g E b fb) (hm : behindInMarks op b = false) : ET X g E (.Compare a [op] [b] pos) (tst (op2 o fa fb)) :=
  PT_imp (pt_cmpR ho ha hb hm) fun σ H Q hq => tX_tst (fun σ H Q h => tX_op2 h2 h) hq
theorem et_val {f : P D} (h : EV X g E e f) (he : ∀ whole, isTrue e X.env whole = (do let v ← whole; standAt e.pos; holding [v] (truthy v)) := by intro _; rfl) : ET X g E e (tst f) :=
  PT_imp (pt_val h he) fun σ H Q hq => tX_tst (fun σ H Q h => h) hq
/-! ### and, or, not, if else -/
variable {A B : P Bool} {rest : List Expr}
def andB (A B : P Bool) : P Bool := bnd A fun c => if c = true then B else prt false
def orB (A B : P Bool) : P Bool := bnd A fun c => if c = true then prt true else B
def notB (A : P Bool) : P Bool := bnd A fun c => prt (!c)
theorem ew_and1 (ha : ET X g E a A) : EW X g E (.BoolOp .And [a] pos) A := pw_and1 ha
theorem ew_or1 (ha : ET X g E a A) : EW X g E (.BoolOp .Or [a] pos) A := pw_or1 ha
theorem ew_and (ha : ET X g E a A) (hb : EW X g E (.BoolOp .And (b :: rest) pos) B) : EW X g E (.BoolOp .And (a :: b :: rest) pos) (andB A B) := by
  refine PW_imp (pw_and ha hb) fun σ H Q hq => ?_
  obtain ⟨ok, ρ, w, h⟩ := hq
  refine ⟨ok, ρ, w, (Rs.bnd (RA := relB) h).mono fun v1 H1 hq => ?_⟩
  obtain ⟨ok1, ρ1, x, w1, f1, r1, h1⟩ := hq
  have r1 : v1 = x := r1
  subst r1
  cases v1 with
  | true => exact ⟨ok1, ρ1, w1, h1⟩
  | false => exact h1 false H1 ok1 w1 Sx.refl rfl
theorem ew_or (ha : ET X g E a A) (hb : EW X g E (.BoolOp .Or (b :: rest) pos) B) : EW X g E (.BoolOp .Or (a :: b :: rest) pos) (orB A B) := by
  refine PW_imp (pw_or ha hb) fun σ H Q hq => ?_
  obtain ⟨ok, ρ, w, h⟩ := hq
  refine ⟨ok, ρ, w, (Rs.bnd (RA := relB) h).mono fun v1 H1 hq => ?_⟩
  obtain ⟨ok1, ρ1, x, w1, f1, r1, h1⟩ := hq
  have r1 : v1 = x := r1
  subst r1
  cases v1 with
  | true => exact h1 true H1 ok1 w1 Sx.refl rfl
  | false => exact ⟨ok1, ρ1, w1, h1⟩
theorem et_not (ha : ET X g E a A) : ET X g E (.UnaryOp .Not a pos) (notB A) := by
  refine PT_imp (pt_not ha) fun σ H Q hq => ?_
  obtain ⟨ok, ρ, w, h⟩ := hq
  refine ⟨ok, ρ, w, (Rs.bnd (RA := relB) h).mono fun v1 H1 hq => ?_⟩
  obtain ⟨ok1, ρ1, x, w1, f1, r1, h1⟩ := hq
  have r1 : v1 = x := r1
  subst r1
  exact h1 _ H1 ok1 w1 Sx.refl rfl
theorem et_w (h : EW X g E a A) : ET X g E a A := PW.pt h
def andV (fa fb : P D) : P D := bnd (tst fa) fun c => if c = true then fb else prt (.bl false)
def orV (fa fb : P D) : P D := bnd (tst fa) fun c => if c = true then prt (.bl true) else fb
def notV (fa : P D) : P D := bnd (tst fa) fun c => prt (.bl (!c))
theorem tX_tst2 {β : Type} {δ : Type} {RB : Rl δ β} {f : P D} {k : Bool → P β} {σ : L2.St} {H : Hp} {Q : δ → Hp → Prop} (hq : tX X.K g E RB (bnd (tst f) k) σ H Q) (mo : Mono RB := by first | exact monoD | exact monoB | exact monoA | exact monoP | exact monoR | assumption) :
    tX X.K g E (relD X.K) f σ H (fun x H1 => ∃ c, x = .bl c ∧ tX X.K g E RB (k c) σ H1 Q) := by
  obtain ⟨ok, ρ, w, h⟩ := hq
  refine tX_tst (X := X) (t := tX X.K g E (relD X.K) f) (Q := fun c H1 => tX X.K g E RB (k c) σ H1 Q) (fun σ H Q h => h) ⟨ok, ρ, w, (Rs.bnd (RA := relB) h).mono fun v1 H1 hq => ?_⟩
  obtain ⟨ok1, ρ1, x, w1, f1, r1, h1⟩ := hq
  have r1 : v1 = x := r1
  subst r1
  exact ⟨ok1, ρ1, w1, h1⟩
theorem tX_ret {γ α : Type} {Rel : Rl γ α} {d : α} {σ : L2.St} {H : Hp} {Q : γ → Hp → Prop} {v : γ} (hq : tX X.K g E Rel (prt d) σ H Q) (r : ∀ ok ρ, Wf X.K g ok ρ σ H → Rel H ok H ρ σ v d) : Q v H := by
  obtain ⟨ok, ρ, w, h⟩ := hq
  exact h v H ok w Sx.refl (r ok ρ w)
theorem ev_one {op} (h : EV X g E a fa) : EV X g E (.BoolOp op [a] pos) fa := pe_one h
theorem ev_and (ha : EV X g E a fa) (hb : EV X g E (.BoolOp .And (b :: rest) pos) fb) : EV X g E (.BoolOp .And (a :: b :: rest) pos) (andV fa fb) := by
  refine PE_imp (pe_and ha hb) fun σ H Q hq => ?_
  obtain ⟨ok, ρ, w, h⟩ := tX_tst2 hq
  refine ⟨ok, ρ, w, h.mono fun v H1 h1 => ?_⟩
  obtain ⟨c, e, h1⟩ := h1
  refine ⟨c, e, ?_⟩
  cases c with
  | true => exact h1
  | false => exact tX_ret (v := .bl false) h1 fun _ _ _ => .bl _
theorem ev_not (ha : EV X g E a fa) : EV X g E (.UnaryOp .Not a pos) (notV fa) := by
  refine PE_imp (pe_not ha) fun σ H Q hq => ?_
  obtain ⟨ok, ρ, w, h⟩ := tX_tst2 hq
  refine ⟨ok, ρ, w, h.mono fun v H1 h1 => ?_⟩
  obtain ⟨c, e, h1⟩ := h1
  exact ⟨c, e, tX_ret (v := .bl (!c)) h1 fun _ _ _ => .bl _⟩
def ifV {α : Type} (A : P Bool) (fa fb : P α) : P α := bnd A fun c => if c = true then fa else fb
theorem ev_if (hc : ET X g E c A) (ha : EV X g E a fa) (hb : EV X g E b fb) : EV X g E (.IfExp c a b pos) (ifV A fa fb) := by
  refine PE_imp (pe_ifExp hc ha hb) fun σ H Q hq => ?_
  obtain ⟨ok, ρ, w, h⟩ := hq
  refine ⟨ok, ρ, w, (Rs.bnd (RA := relB) h).mono fun v1 H1 hq => ?_⟩
  obtain ⟨ok1, ρ1, x, w1, f1, r1, h1⟩ := hq
  have r1 : v1 = x := r1
  subst r1
  cases v1 with
  | true => exact ⟨ok1, ρ1, w1, h1⟩
  | false => exact ⟨ok1, ρ1, w1, h1⟩
theorem er_if {ra rb : P R} (hc : ET X g E c A) (ha : ER X g E a ra) (hb : ER X g E b rb) : ER X g E (.IfExp c a b pos) (ifV A ra rb) := by
  refine PE_imp (pe_ifExp hc ha hb) fun σ H Q hq => ?_
  obtain ⟨ok, ρ, w, h⟩ := hq
  refine ⟨ok, ρ, w, (Rs.bnd (RA := relB) h).mono fun v1 H1 hq => ?_⟩
  obtain ⟨ok1, ρ1, x, w1, f1, r1, h1⟩ := hq
  have r1 : v1 = x := r1
  subst r1
  cases v1 with
  | true => exact ⟨ok1, ρ1, w1, h1⟩
  | false => exact ⟨ok1, ρ1, w1, h1⟩
/-! ### argument lists, displays -/
theorem ea_nil : EA X g E [] (prt []) := PA_imp pa_nil fun σ H Q hq => tX_ret (v := ([] : List V)) hq fun _ _ _ => .nil
def consA (fa : P D) (fr : P (List D)) : P (List D) := bnd fa fun x => bnd fr fun xs => prt (x :: xs)
theorem ea_cons {fr : P (List D)} (ha : EV X g E e fa) (hr : EA X g E es fr) (hs : starEach (e :: es) X.env = (false, eval e X.env) :: starEach es X.env := by rfl) : EA X g E (e :: es) (consA fa fr) := by
  refine PA_imp (pa_cons ha hr hs) fun σ H Q hq => ?_
  obtain ⟨ok, ρ, w, h⟩ := hq
  refine ⟨ok, ρ, w, (Rs.bnd (RA := relD X.K) h).mono fun v1 H1 hq => ?_⟩
  obtain ⟨ok1, ρ1, x, w1, f1, r1, h1⟩ := hq
  refine ⟨ok1, ρ1, w1, (Rs.bnd (RA := relA X.K) h1).mono fun v2 H2 hq => ?_⟩
  obtain ⟨ok2, ρ2, y, w2, f2, r2, h2⟩ := hq
  exact h2 _ H2 ok2 w2 Sx.refl (.cons (Rep.fr f2.fr r1) r2)
def fits (xs : List D) : Option (List D) := if xs.length ≤ sizeLine then some xs else none
theorem fits_eq {xs ys : List D} (h : fits xs = some ys) : ys = xs ∧ xs.length ≤ sizeLine := by
  unfold fits at h
  split at h
  · exact ⟨(Option.some.inj h).symm, by assumption⟩
  · cases h
theorem fits_of {xs : List D} (h : xs.length ≤ sizeLine) : fits xs = some xs := if_pos h
def mkT (f : P (List D)) : P D := bnd f fun xs => lft ((fits xs).map D.tup)
def mkL (f : P (List D)) : P R := bnd f fun xs => lft ((fits xs).map fun ys => .own (.lst ys))
theorem ev_tup {x1} {fr : P (List D)} (h : EA X g E es fr) : EV X g E (.Tuple es x1 pos) (mkT fr) := by
  refine PE_imp (pe_tup h) fun σ H Q hq => ?_
  obtain ⟨ok, ρ, w, h⟩ := hq
  refine ⟨ok, ρ, w, (Rs.bnd (RA := relA X.K) h).mono fun vs H1 hq => ?_⟩
  obtain ⟨ok1, ρ1, x, w1, f1, r1, h1⟩ := hq
  cases e : fits x with
  | none => rw [e] at h1; exact h1.elim
  | some y =>
    rw [e] at h1
    obtain ⟨rfl, hz⟩ := fits_eq e
    have r1 : Reps X.K ok1 H1 vs y := r1
    refine ⟨by rw [r1.length]; exact hz, fun p np => ?_⟩
    exact h1 _ _ ok1 (w1.new np) (Sx.new np) (.tup upd_same (r1.fr (fr_new np)))
theorem own_new {K : PySem.W.Frag} {ok : Addr → Prop} {H : Hp} {ρ : En} {σ : L2.St} {p : Addr} {o : HO} {d : D} (w : Wf K g ok ρ σ H) (n : H p = none) (h : OwnAt K (sub1 ok p) (upd H p o) p d) :
    relR K H (sub1 ok p) (upd H p o) ρ σ (.ref p) (.own d) := by
  refine ⟨p, rfl, h, fun z => z.2 rfl, n, fun j e hj z => ?_⟩
  obtain ⟨q, eq, r, _⟩ := w.own j e hj
  rw [z] at eq
  cases eq
  obtain ⟨u, hu, _⟩ := r.there
  rw [n] at hu
  cases hu
theorem er_lst {fr : P (List D)} (h : EA X g E es fr) : ER X g E (.List es pos) (mkL fr) := by
  refine PE_imp (pe_lst h) fun σ H Q hq => ?_
  obtain ⟨ok, ρ, w, h⟩ := hq
  refine ⟨ok, ρ, w, (Rs.bnd (RA := relA X.K) h).mono fun vs H1 hq => ?_⟩
  obtain ⟨ok1, ρ1, x, w1, f1, r1, h1⟩ := hq
  cases e : fits x with
  | none => rw [e] at h1; exact h1.elim
  | some y =>
    rw [e] at h1
    obtain ⟨rfl, hz⟩ := fits_eq e
    have r1 : Reps X.K ok1 H1 vs y := r1
    refine ⟨by rw [r1.length]; exact hz, fun p np => ?_⟩
    exact h1 _ _ (sub1 ok1 p) (w1.newO np) (Sx.newO np) (own_new w1 np ⟨vs, upd_same, r1.fr (fr_sub np)⟩)
end
end Pu
/-! Operations on trees. -/
namespace Pu
open PySem PySem.Spec PyProof.Rows L2 Kv
section
variable {K : PySem.W.Frag} {ok : Addr → Prop} {H : Hp}
def flV : D → Option V
  | .non => some .non
  | .bl b => some (.bl b)
  | .int i => some (.int i)
  | .str x => some (.str x)
  | _ => none
def flVs : List D → Option (List V)
  | [] => some []
  | d :: ds => match flV d, flVs ds with
    | some v, some vs => some (v :: vs)
    | _, _ => none
theorem Rep.flat {v u : V} {d : D} (r : Rep K ok H v d) (h : flV d = some u) : v = u := by
  cases r <;> first | (cases h; rfl) | (cases h)
theorem flV_flat {u : V} {d : D} (h : flV d = some u) : flatV u = true := by
  cases d <;> first | (cases h; rfl) | (cases h)
theorem Reps.flat : ∀ {vs us : List V} {ds : List D}, Reps K ok H vs ds → flVs ds = some us → vs = us ∧ us.all flatV = true
  | _, _, _, .nil, h => by cases h; exact ⟨rfl, rfl⟩
  | _, _, _, .cons (d := d) (ds := ds) r t, h => by
    unfold flVs at h
    cases e1 : flV d with
    | none => rw [e1] at h; cases h
    | some v =>
      cases e2 : flVs ds with
      | none => rw [e1, e2] at h; cases h
      | some vs =>
        rw [e1, e2] at h
        cases h
        obtain ⟨h1, h2⟩ := t.flat e2
        rw [r.flat e1, h1]
        exact ⟨rfl, by rw [List.all_cons, flV_flat e1, h2]; rfl⟩
theorem Pk.lst {v : V} {ds : List D} (h : Pk K ok H v (.lst ds)) : ∃ a vs, v = .ref a ∧ H a = some (.lst vs) ∧ Reps K ok H vs ds := by
  rcases h with h | ⟨q, e, vs, h, r⟩
  · cases h with
    | lst h k r => exact ⟨_, _, rfl, h, r⟩
  · exact ⟨q, vs, e, h, r⟩
theorem Pk.dic {v : V} {ks : List Key} {ds : List D} (h : Pk K ok H v (.dic ks ds)) : ∃ a kvs, v = .ref a ∧ Rd H a (.dK kvs) ∧ kvs.map (·.1) = ks ∧ Reps K ok H (kvs.map (·.2)) ds := by
  rcases h with h | ⟨q, e, vs, h, k, r⟩
  · cases h with
    | dic h r => exact ⟨_, _, rfl, h.rd, rfl, r⟩
  · exact ⟨q, vs, e, .inl h, k, r⟩
theorem Pk.dct {v : V} {ks : List (List Key)} {ds : List D} (h : Pk K ok H v (.dct ks ds)) : ∃ a kvs, v = .ref a ∧ Rd H a (.dT kvs) ∧ kvs.map (·.1) = ks ∧ Reps K ok H (kvs.map (·.2)) ds := by
  rcases h with h | ⟨q, e, vs, h, k, r⟩
  · cases h with
    | dct h r => exact ⟨_, _, rfl, h.rd, rfl, r⟩
  · exact ⟨q, vs, e, .inl h, k, r⟩
theorem Pk.rep {v : V} {d : D} (h : Pk K ok H v d) (n1 : ∀ ds, d ≠ .lst ds) (n2 : ∀ ks ds, d ≠ .dic ks ds) (n3 : ∀ ks ds, d ≠ .dct ks ds) (n4 : ∀ C ns ds, d ≠ .obj C ns ds := by intro _ _ _ z; cases z) (n5 : ∀ a ds, d ≠ .lsta a ds := by intro _ _ z; cases z) : Rep K ok H v d := by
  rcases h with h | ⟨q, e, o⟩
  · exact h
  · cases d with
    | lst ds => exact absurd rfl (n1 ds)
    | dic ks ds => exact absurd rfl (n2 ks ds)
    | dct ks ds => exact absurd rfl (n3 ks ds)
    | obj C ns ds => exact absurd rfl (n4 C ns ds)
    | lsta a ds => exact absurd rfl (n5 a ds)
    | _ => exact o.elim
theorem Pk.int {v : V} {i : Int} (h : Pk K ok H v (.int i)) : v = .int i := by
  cases h.rep (fun _ z => by cases z) (fun _ _ z => by cases z) (fun _ _ z => by cases z); rfl
theorem Pk.str {v : V} {i : Str} (h : Pk K ok H v (.str i)) : v = .str i := by
  cases h.rep (fun _ z => by cases z) (fun _ _ z => by cases z) (fun _ _ z => by cases z); rfl
theorem Pk.tup {v : V} {ds : List D} (h : Pk K ok H v (.tup ds)) : ∃ a vs, v = .ref a ∧ TpO K H a vs ∧ Reps K ok H vs ds := by
  cases h.rep (fun _ z => by cases z) (fun _ _ z => by cases z) (fun _ _ z => by cases z) with
  | tupO h1 r => exact ⟨_, _, rfl, h1, r⟩
def seqD : D → Option (List D)
  | .lst xs => some xs
  | .tup xs => some xs
  | .flst xs => some xs
  | .ftup xs => some xs
  | _ => none
theorem Pk.seq {v : V} {d : D} {xs : List D} (h : Pk K ok H v d) (e : seqD d = some xs) : ∃ a vs, v = .ref a ∧ (SqL K H a vs ∨ SqT K H a vs) ∧ Reps K ok H vs xs := by
  cases d with
  | lst ds => cases e; obtain ⟨a, vs, e1, e2, r⟩ := h.lst; exact ⟨a, vs, e1, .inl (.inl (.inl e2)), r⟩
  | tup ds => cases e; obtain ⟨a, vs, e1, e2, r⟩ := h.tup; exact ⟨a, vs, e1, .inr e2.sq, r⟩
  | flst ds =>
    cases e
    cases h.rep (fun _ z => by cases z) (fun _ _ z => by cases z) (fun _ _ z => by cases z) with
    | lstF h1 r => exact ⟨_, _, rfl, .inl h1.sq, r⟩
  | ftup ds =>
    cases e
    cases h.rep (fun _ z => by cases z) (fun _ _ z => by cases z) (fun _ _ z => by cases z) with
    | tupF h1 r => exact ⟨_, _, rfl, .inr h1.sq, r⟩
  | _ => cases e
/-! ### keys -/
def asKey : D → Option Key
  | .int i => some (Sum.inl i)
  | .str x => some (Sum.inr x)
  | _ => none
def asKeys : List D → Option (List Key)
  | [] => some []
  | d :: ds => match asKey d, asKeys ds with
    | some v, some vs => some (v :: vs)
    | _, _ => none
theorem Rep.key {v : V} {d : D} {k : Key} (r : Rep K ok H v d) (h : asKey d = some k) : v = kV k := by
  cases r <;> first | (cases h; rfl) | (cases h)
theorem Reps.keys : ∀ {vs : List V} {ds : List D} {ks : List Key}, Reps K ok H vs ds → asKeys ds = some ks → vs = ks.map kV
  | _, _, _, .nil, h => by cases h; rfl
  | _, _, _, .cons (d := d) (ds := ds) r t, h => by
    unfold asKeys at h
    cases e1 : asKey d with
    | none => rw [e1] at h; cases h
    | some v =>
      cases e2 : asKeys ds with
      | none => rw [e1, e2] at h; cases h
      | some vs =>
        rw [e1, e2] at h
        cases h
        rw [r.key e1, t.keys e2]
        rfl
def asKeysN (ds : List D) : Option (List Key) := if ds.isEmpty then none else asKeys ds
theorem asKeysN_of {ds : List D} {k : List Key} (h : asKeysN ds = some k) : asKeys ds = some k := by
  unfold asKeysN at h
  split at h
  · cases h
  · exact h
theorem Reps.keysN {vs : List V} {ds : List D} {ks : List Key} (r : Reps K ok H vs ds) (h : asKeysN ds = some ks) : vs = ks.map kV := r.keys (asKeysN_of h)
theorem Reps.ne {vs : List V} {ds : List D} {ks : List Key} (r : Reps K ok H vs ds) (h : asKeysN ds = some ks) : vs ≠ [] := by
  rintro rfl
  cases r
  cases h
def valD {κ : Type} [DecidableEq κ] : List κ → List D → κ → Option D
  | a :: ks, d :: vs, k => if a = k then some d else valD ks vs k
  | _, _, _ => none
theorem valD_rep {κ : Type} [DecidableEq κ] (k : κ) : ∀ {kvs : List (κ × V)} {ds : List D}, Reps K ok H (kvs.map (·.2)) ds →
    (∀ d, valD (kvs.map (·.1)) ds k = some d → ∃ v, valV kvs k = some v ∧ Rep K ok H v d) ∧ (valD (kvs.map (·.1)) ds k = none → valV kvs k = none)
  | [], _, .nil => ⟨fun d h => (nomatch h), fun _ => rfl⟩
  | p :: r, _, .cons (d := d) (ds := ds) h t => by
    obtain ⟨i1, i2⟩ := valD_rep k t
    by_cases e : p.1 = k
    · have e1 : valD ((p :: r).map (·.1)) (d :: ds) k = some d := if_pos e
      rw [valV_pos e, e1]
      exact ⟨fun d' z => by cases z; exact ⟨_, rfl, h⟩, fun z => by cases z⟩
    · have e1 : valD ((p :: r).map (·.1)) (d :: ds) k = valD (r.map (·.1)) ds k := if_neg e
      rw [valV_neg e, e1]
      exact ⟨i1, i2⟩
def getD : D → D → Option (Option D)
  | .dic ks vs, x => (asKey x).map fun k => valD ks vs k
  | .dct ks vs, .tup xs => (asKeysN xs).map fun k => valD ks vs k
  | _, _ => none
theorem getD_rep {u v : V} {d x : D} {o : Option D} (h : Pk K ok H u d) (hx : Rep K ok H v x) (e : getD d x = some o) :
    ∃ a ov, u = .ref a ∧ DGet H a v ov ∧ (∀ y, o = some y → ∃ w, ov = some w ∧ Rep K ok H w y) ∧ ov.isSome = o.isSome := by
  cases d with
  | dic ks vs =>
    obtain ⟨a, kvs, rfl, e1, rfl, r⟩ := h.dic
    have e : (asKey x).map (fun k => valD (kvs.map (·.1)) vs k) = some o := e
    cases ek : asKey x with
    | none => rw [ek] at e; cases e
    | some k =>
      rw [ek] at e
      cases e
      obtain ⟨i1, i2⟩ := valD_rep k r
      refine ⟨a, valV kvs k, rfl, .inl ⟨kvs, k, e1, hx.key ek, rfl⟩, fun y hy => i1 y hy, ?_⟩
      cases q : valD (kvs.map (·.1)) vs k with
      | none => rw [i2 q]; show _ = (valD (kvs.map (·.1)) vs k).isSome; rw [q]; rfl
      | some y => obtain ⟨w, ew, _⟩ := i1 y q; rw [ew]; show _ = (valD (kvs.map (·.1)) vs k).isSome; rw [q]; rfl
  | dct ks vs =>
    obtain ⟨a, kvs, rfl, e1, rfl, r⟩ := h.dct
    cases hx with
    | tupO ht rt =>
      rename_i b ws ds
      have e : (asKeysN ds).map (fun k => valD (kvs.map (·.1)) vs k) = some o := e
      cases ek : asKeysN ds with
      | none => rw [ek] at e; cases e
      | some k =>
        rw [ek] at e
        cases e
        obtain ⟨i1, i2⟩ := valD_rep k r
        refine ⟨a, valV kvs k, rfl, .inr ⟨kvs, k, b, e1, rfl, by rw [← rt.keysN ek]; exact ht.at (rt.ne ek), rfl⟩, fun y hy => i1 y hy, ?_⟩
        cases q : valD (kvs.map (·.1)) vs k with
        | none => rw [i2 q]; show _ = (valD (kvs.map (·.1)) vs k).isSome; rw [q]; rfl
        | some y => obtain ⟨w, ew, _⟩ := i1 y q; rw [ew]; show _ = (valD (kvs.map (·.1)) vs k).isSome; rw [q]; rfl
    | _ => cases e
  | _ => cases e
end
section
variable {X : Cx}
/-! ### arithmetic -/
def opAdd : D → D → Option D
  | .int i, .int j => some (.int (i + j))
  | .str a, .str b => if a.length + b.length ≤ sizeLine then some (.str (a ++ b)) else none
  | .lst xs, .lst ys => if xs.length + ys.length ≤ sizeLine then some (.lst (xs ++ ys)) else none
  | .tup xs, .tup ys => if xs.isEmpty = false ∧ xs.length + ys.length ≤ sizeLine then some (.tup (xs ++ ys)) else none
  | _, _ => none
def rAddA (K : PySem.W.Frag) : R2 := fun x y H Q => rI0 (fun i j => .int (i + j)) x y H Q ∨ (∃ i j, x = .str i ∧ y = .str j ∧ i.length + j.length ≤ sizeLine ∧ Q (.str (i ++ j)) H) ∨ rCat x y H Q ∨ rCatT K x y H Q
theorem op_addA : OpR X (binaryOp .Add) (rAddA X.K) := op_add.or (op_add_str.or (op_cat.or op_catT))
theorem o2_add : Op2 X.K (rAddA X.K) opAdd := by
  intro g ρ σ ok H u v x y z Q w r1 r2 e q
  cases r1 with
  | int i =>
    cases y with
    | int j => cases e; exact .inl ⟨i, j, rfl, r2.int, q.at w (.int _)⟩
    | _ => cases e
  | str s =>
    cases y with
    | str t =>
      have e : (if s.length + t.length ≤ sizeLine then some (D.str (s ++ t)) else none) = some z := e
      split at e
      · cases e; exact .inr (.inl ⟨s, t, rfl, r2.str, by assumption, q.at w (.str _)⟩)
      · cases e
    | _ => cases e
  | lst h1 k1 t1 =>
    rename_i xs
    cases y with
    | lst ys =>
      have e : (if xs.length + ys.length ≤ sizeLine then some (D.lst (xs ++ ys)) else none) = some z := e
      split at e
      · cases e
        obtain ⟨b, ws, rfl, h2, t2⟩ := r2.lst
        refine .inr (.inr (.inl ⟨_, b, _, ws, rfl, rfl, h1, h2, ?_, fun p np => q.new w np fun kp ep f => .lst ep kp ((t1.app t2).fr f)⟩))
        rw [t1.length, t2.length]; assumption
      · cases e
    | _ => cases e
  | tupO h1 t1 =>
    rename_i xs
    cases y with
    | tup ys =>
      have e : (if xs.isEmpty = false ∧ xs.length + ys.length ≤ sizeLine then some (D.tup (xs ++ ys)) else none) = some z := e
      split at e
      · rename_i hh
        cases e
        obtain ⟨b, ws, rfl, h2, t2⟩ := r2.tup
        refine .inr (.inr (.inr ⟨_, b, _, ws, rfl, rfl, h1.sq, h2.sq, (fun z => ?_), ?_, fun hz => ?_, fun _ p np => q.new w np fun kp ep f => .tup ep ((t1.app t2).fr f)⟩))
        · subst z
          cases t1
          exact absurd hh.1 (by decide)
        · rw [t1.length, t2.length]; exact hh.2
        · subst hz
          cases t2
          rw [List.append_nil] at q
          exact q.at w (.tupO h1 t1)
      · cases e
    | _ => cases e
  | _ => cases y <;> cases e
def oI (C : Int → Int → Bool) (f : Int → Int → D) : D → D → Option D
  | .int i, .int j => if C i j = true then some (f i j) else none
  | _, _ => none
theorem o2_int {C : Int → Int → Prop} {C' : Int → Int → Bool} {G : Int → Int → V} {f : Int → Int → D} (hC : ∀ i j, C' i j = true → C i j) (hf : ∀ i j ok H, Rep X.K ok H (G i j) (f i j)) : Op2 X.K (rI C G) (oI C' f) := by
  intro g ρ σ ok H u v x y z Q w r1 r2 e q
  cases r1 with
  | int i =>
    cases y with
    | int j =>
      have e : (if C' i j = true then some (f i j) else none) = some z := e
      split at e
      · cases e; exact ⟨i, j, rfl, r2.int, hC i j (by assumption), q.at w (hf i j _ _)⟩
      · cases e
    | _ => cases e
  | _ => cases y <;> cases e
def oI0 (f : Int → Int → D) : D → D → Option D
  | .int i, .int j => some (f i j)
  | _, _ => none
theorem o2_int0 {G : Int → Int → V} {f : Int → Int → D} (hf : ∀ i j ok H, Rep X.K ok H (G i j) (f i j)) : Op2 X.K (rI0 G) (oI0 f) := by
  intro g ρ σ ok H u v x y z Q w r1 r2 e q
  cases r1 with
  | int i =>
    cases y with
    | int j => cases e; exact ⟨i, j, rfl, r2.int, q.at w (hf i j _ _)⟩
    | _ => cases e
  | _ => cases y <;> cases e
theorem Op2.or {r r' : R2} {o o' : D → D → Option D} (h : Op2 X.K r o) (h' : Op2 X.K r' o') : Op2 X.K (fun x y H Q => r x y H Q ∨ r' x y H Q) (fun x y => (o x y).orElse fun _ => o' x y) := by
  intro g ρ σ ok H u v x y z Q w r1 r2 e q
  have e : (o x y).orElse (fun _ => o' x y) = some z := e
  cases e1 : o x y with
  | none => rw [e1] at e; exact .inr (h' g ρ σ ok H u v x y z Q w r1 r2 e q)
  | some z' => rw [e1] at e; cases e; exact .inl (h g ρ σ ok H u v x y _ Q w r1 r2 e1 q)
def cMul (i j : Int) : Bool := decide ((-(2 ^ 64) < i ∧ i < 2 ^ 64) ∨ (-(2 ^ 64) < j ∧ j < 2 ^ 64))
def opMulI : D → D → Option D := oI cMul fun i j => .int (i * j)
def opRep : D → D → Option D
  | .lst xs, .int k => if -(2 ^ 63) ≤ k ∧ k < 2 ^ 63 ∧ xs.length * k.toNat ≤ sizeLine then some (.lst (List.replicate k.toNat xs).flatten) else none
  | _, _ => none
theorem Reps.rep {K : PySem.W.Frag} {ok : Addr → Prop} {H : Hp} {vs : List V} {ds : List D} (h : Reps K ok H vs ds) : ∀ n, Reps K ok H (List.replicate n vs).flatten (List.replicate n ds).flatten
  | 0 => .nil
  | n + 1 => by
    rw [List.replicate_succ, List.replicate_succ, List.flatten_cons, List.flatten_cons]
    exact h.app (Reps.rep h n)
theorem o2_rep : Op2 X.K rRep opRep := by
  intro g ρ σ ok H u v x y z Q w r1 r2 e q
  cases r1 with
  | lst h1 k1 t1 =>
    rename_i xs
    cases y with
    | int k =>
      have e : (if -(2 ^ 63) ≤ k ∧ k < 2 ^ 63 ∧ xs.length * k.toNat ≤ sizeLine then some (D.lst (List.replicate k.toNat xs).flatten) else none) = some z := e
      split at e
      · cases e
        rename_i hh
        refine ⟨_, k, _, rfl, r2.int, h1, hh.1, hh.2.1, by rw [t1.length]; exact hh.2.2, fun p np => q.new w np fun kp ep f => .lst ep kp ((t1.rep _).fr f)⟩
      · cases e
    | _ => cases e
  | _ => cases y <;> cases e
def opMul (x y : D) : Option D := (opMulI x y).orElse fun _ => opRep x y
theorem op_mulA : OpR X (binaryOp .Mult) (fun x y H Q => rI CMul (fun i j => .int (i * j)) x y H Q ∨ rRep x y H Q) := op_mul.or op_rep
theorem o2_mul : Op2 X.K (fun x y H Q => rI CMul (fun i j => .int (i * j)) x y H Q ∨ rRep x y H Q) opMul :=
  (o2_int (C := CMul) (C' := cMul) (fun i j h => (of_decide_eq_true h : (-(2 ^ 64) < i ∧ i < 2 ^ 64) ∨ (-(2 ^ 64) < j ∧ j < 2 ^ 64))) fun _ _ _ _ => .int _).or o2_rep
def opSub : D → D → Option D := oI0 fun i j => .int (i - j)
theorem o2_sub : Op2 X.K (rI0 fun i j => .int (i - j)) opSub := o2_int0 fun _ _ _ _ => .int _
def opMod : D → D → Option D := oI (fun _ j => decide (0 < j)) fun i j => .int (i % j)
theorem o2_mod : Op2 X.K (rI (fun _ j => 0 < j) fun i j => .int (i % j)) opMod := o2_int (fun i j h => of_decide_eq_true h) fun _ _ _ _ => .int _
def opFdiv : D → D → Option D := oI (fun _ j => decide (0 < j ∧ j < 1073741824)) fun i j => .int (i / j)
theorem o2_fdiv : Op2 X.K (rI CDiv fun i j => .int (i / j)) opFdiv := o2_int (fun i j h => (of_decide_eq_true h : 0 < j ∧ j < 1073741824)) fun _ _ _ _ => .int _
def opPow : D → D → Option D := oI (fun i j => decide (0 ≤ j ∧ j ≤ 1000000 ∧ i.natAbs < 2 ^ 64)) fun i j => .int (i ^ j.toNat)
theorem o2_pow : Op2 X.K (rI CPow fun i j => .int (i ^ j.toNat)) opPow := o2_int (fun i j h => (of_decide_eq_true h : 0 ≤ j ∧ j ≤ 1000000 ∧ i.natAbs < 2 ^ 64)) fun _ _ _ _ => .int _
def opLt : D → D → Option D := oI0 fun i j => .bl (decide (i < j))
theorem o2_lt : Op2 X.K (rI0 fun i j => .bl (decide (i < j))) opLt := o2_int0 fun _ _ _ _ => .bl _
def opLe : D → D → Option D := oI0 fun i j => .bl (decide (i ≤ j))
theorem o2_le : Op2 X.K (rI0 fun i j => .bl (decide (i ≤ j))) opLe := o2_int0 fun _ _ _ _ => .bl _
def opGt : D → D → Option D := oI0 fun i j => .bl (decide (j < i))
theorem o2_gt : Op2 X.K (rI0 fun i j => .bl (decide (j < i))) opGt := o2_int0 fun _ _ _ _ => .bl _
def opGe : D → D → Option D := oI0 fun i j => .bl (decide (j ≤ i))
/-! ### is None -/
def isN : D → Bool
  | .non => true
  | _ => false
def opIs : D → D → Option D
  | x, .non => some (.bl (isN x))
  | _, _ => none
def opIsNot : D → D → Option D
  | x, .non => some (.bl (!isN x))
  | _, _ => none
theorem Pk.non {K : PySem.W.Frag} {ok : Addr → Prop} {H : Hp} {v : V} (h : Pk K ok H v .non) : v = .non := by
  cases h.rep (fun _ z => by cases z) (fun _ _ z => by cases z) (fun _ _ z => by cases z); rfl
/-! ### in -/
def inD (x : D) : D → Option Bool
  | .str t => match x with
    | .str s => some (!(Builtin.Str.occurrences t s 0 t.length 1).isEmpty)
    | _ => none
  | .dic ks vs => (getD (.dic ks vs) x).map (·.isSome)
  | .dct ks vs => (getD (.dct ks vs) x).map (·.isSome)
  | d => match seqD d, flV x with
    | some xs, some u => (flVs xs).map fun us => inV u us
    | _, _ => none
def rInA (K : PySem.W.Frag) (neg : Bool) : R2 := fun x y H Q => (∃ i j, x = .str i ∧ y = .str j ∧ Q (.bl (if neg then !(!(Builtin.Str.occurrences j i 0 j.length 1).isEmpty) else (!(Builtin.Str.occurrences j i 0 j.length 1).isEmpty))) H) ∨
  (∃ a o, y = .ref a ∧ DGet H a x o ∧ Q (.bl (if neg then !o.isSome else o.isSome)) H) ∨ rIn K neg x y H Q
theorem op_in_dict (hu : X.A.units + 1 < cLine) : OpR X (compareOp .In) (fun x y H Q => ∃ a o, y = .ref a ∧ DGet H a x o ∧ Q (.bl o.isSome) H) := by
  intro pins s σ H x y v u Q I rx ry h
  obtain ⟨a, o, rfl, g, q⟩ := h
  cases ry
  exact d_in hu I g rx fun s3 I3 => ⟨.bl o.isSome, H, I3, rfl, q⟩
theorem op_notIn_dict (hu : X.A.units + 1 < cLine) : OpR X (compareOp .NotIn) (fun x y H Q => ∃ a o, y = .ref a ∧ DGet H a x o ∧ Q (.bl (!o.isSome)) H) := by
  intro pins s σ H x y v u Q I rx ry h
  obtain ⟨a, o, rfl, g, q⟩ := h
  cases ry
  exact d_notIn hu I g rx fun s3 I3 => ⟨.bl (!o.isSome), H, I3, rfl, q⟩
theorem op_inA (hu : X.A.units + 1 < cLine) : OpR X (compareOp .In) (rInA X.K false) := op_in_str.or ((op_in_dict hu).or op_in_seq)
theorem op_notInA (hu : X.A.units + 1 < cLine) : OpR X (compareOp .NotIn) (rInA X.K true) := op_notin_str.or ((op_notIn_dict hu).or op_notIn_seq)
def opIn (x y : D) : Option D := (inD x y).map D.bl
def opNotIn (x y : D) : Option D := (inD x y).map fun b => D.bl (!b)
theorem o2_inN (neg : Bool) : Op2 X.K (rInA X.K neg) (fun x y => (inD x y).map fun b => D.bl (if neg then !b else b)) := by
  intro g ρ σ ok H u v x y z Q w r1 r2 e q
  have e : (inD x y).map (fun b => D.bl (if neg then !b else b)) = some z := e
  cases eb : inD x y with
  | none => rw [eb] at e; cases e
  | some b =>
    rw [eb] at e
    cases e
    have seq : ∀ xs, seqD y = some xs → (∃ u', flV x = some u' ∧ ∃ us, flVs xs = some us ∧ b = inV u' us) → rInA X.K neg u v H Q := fun xs es hh => by
      obtain ⟨u', e1, us, e2, rfl⟩ := hh
      obtain ⟨a, vs, rfl, sq, rp⟩ := r2.seq es
      obtain ⟨rfl, fl⟩ := rp.flat e2
      have e0 := r1.flat e1
      subst e0
      exact .inr (.inr ⟨a, vs, rfl, sq, flV_flat e1, fl, q.at w (.bl _)⟩)
    have dct : getD y x = getD y x → ∀ o, getD y x = some o → b = o.isSome → rInA X.K neg u v H Q := fun _ o eo hb => by
      obtain ⟨a, ov, rfl, dg, _, hs⟩ := getD_rep r2 r1 eo
      refine .inr (.inl ⟨a, ov, rfl, dg, ?_⟩)
      rw [hs, ← hb]
      exact q.at w (.bl _)
    have fl : ∀ xs, (match some xs, flV x with
      | some xs, some u => (flVs xs).map fun us => inV u us
      | _, _ => none) = some b → ∃ u', flV x = some u' ∧ ∃ us, flVs xs = some us ∧ b = inV u' us := fun xs hh => by
      cases e1 : flV x with
      | none => rw [e1] at hh; cases hh
      | some u' =>
        rw [e1] at hh
        cases e2 : flVs xs with
        | none => simp only [e2] at hh; cases hh
        | some us => simp only [e2] at hh; cases hh; exact ⟨u', rfl, us, rfl, rfl⟩
    cases y with
    | str t =>
      cases r1 with
      | str s => cases eb; exact .inl ⟨s, t, rfl, r2.str, q.at w (.bl _)⟩
      | _ => cases eb
    | dic ks vs =>
      have eb : (getD (.dic ks vs) x).map (·.isSome) = some b := eb
      cases eo : getD (.dic ks vs) x with
      | none => rw [eo] at eb; cases eb
      | some o => rw [eo] at eb; cases eb; exact dct rfl o eo rfl
    | dct ks vs =>
      have eb : (getD (.dct ks vs) x).map (·.isSome) = some b := eb
      cases eo : getD (.dct ks vs) x with
      | none => rw [eo] at eb; cases eb
      | some o => rw [eo] at eb; cases eb; exact dct rfl o eo rfl
    | lst xs => exact seq xs rfl (fl xs eb)
    | tup xs => exact seq xs rfl (fl xs eb)
    | flst xs => exact seq xs rfl (fl xs eb)
    | ftup xs => exact seq xs rfl (fl xs eb)
    | _ => cases eb
theorem o2_in : Op2 X.K (rInA X.K false) opIn := o2_inN false
theorem o2_notIn : Op2 X.K (rInA X.K true) opNotIn := o2_inN true
/-! ### a[i] -/
def ixD : D → D → Option D
  | .str z, .int i => if z.length ≤ sizeLine then (atI z.cps.toList i).map fun c => .str ⟨#[c]⟩ else none
  | .dic ks vs, x => (getD (.dic ks vs) x).bind id
  | .dct ks vs, x => (getD (.dct ks vs) x).bind id
  | d, .int i => (seqD d).bind fun xs => atI xs i
  | _, _ => none
def rIxA (K : PySem.W.Frag) : R2 := fun x y H Q => rIxL K x y H Q ∨ rIxT K x y H Q ∨ rIxS x y H Q ∨ ∃ a v, x = .ref a ∧ DGet H a y (some v) ∧ Q v H
theorem ix_dict (hu : X.A.units + 1 < cLine) : IxR X (fun x y H Q => ∃ a v, x = .ref a ∧ DGet H a y (some v) ∧ Q v H) := by
  intro value slice pins s σ H x y v u Q I rx ry h hs
  obtain ⟨a, w, rfl, g, q⟩ := h
  cases rx
  exact tail_any (dict_typeIs I g) PySem.F.slot_dict_getitem.lookup (d_getItem hu I g ry fun w' s3 I3 rw' => ⟨w, H, I3, rw', q⟩) hs
theorem ix_all (hu : X.A.units + 1 < cLine) : IxR X (rIxA X.K) := ix_list.or (ix_tup.or (ix_str.or (ix_dict hu)))
theorem Reps.atI {K : PySem.W.Frag} {ok : Addr → Prop} {H : Hp} {vs : List V} {ds : List D} {i : Int} {d : D} (r : Reps K ok H vs ds) (h : L2.atI ds i = some d) : ∃ v, L2.atI vs i = some v ∧ Rep K ok H v d := by
  unfold L2.atI at h ⊢
  rw [r.length]
  cases e : ixN ds.length i with
  | none => rw [e] at h; cases h
  | some j =>
    rw [e] at h
    obtain ⟨v, ev, rv⟩ := r.getD h
    exact ⟨v, ev, rv⟩
theorem ixD_ok {K : PySem.W.Frag} {g : Gx} {ρ : En} {σ : L2.St} {ok : Addr → Prop} {H : Hp} {u v : V} {x y z : D} {Q : VK} (w : Wf K g ok ρ σ H) (r1 : Pk K ok H u x) (r2 : Rep K ok H v y) (e : ixD x y = some z) (q : Can K g ρ σ ok H z Q) : rIxA K u v H Q := by
  have seq : ∀ xs i, seqD x = some xs → y = .int i → atI xs i = some z → rIxA K u v H Q := fun xs i es ey ea => by
    subst ey
    cases r2
    obtain ⟨a, vs, rfl, sq, rp⟩ := r1.seq es
    obtain ⟨z', ez, rz⟩ := rp.atI ea
    rcases sq with sq | sq
    · exact .inl ⟨a, vs, i, z', rfl, rfl, sq, ez, q.at w rz⟩
    · exact .inr (.inl ⟨a, vs, i, z', rfl, rfl, sq, ez, q.at w rz⟩)
  have dct : ∀ o, getD x y = some o → o = some z → rIxA K u v H Q := fun o eo hz => by
    obtain ⟨a, ov, rfl, dg, hh, _⟩ := getD_rep r1 r2 eo
    obtain ⟨w', rfl, rw'⟩ := hh z hz
    exact .inr (.inr (.inr ⟨a, w', rfl, dg, q.at w rw'⟩))
  cases x with
  | str s =>
    cases y with
    | int i =>
      cases r2
      have e : (if s.length ≤ sizeLine then (atI s.cps.toList i).map (fun c => D.str ⟨#[c]⟩) else none) = some z := e
      split at e
      · cases ea : atI s.cps.toList i with
        | none => rw [ea] at e; cases e
        | some c => rw [ea] at e; cases e; exact .inr (.inr (.inl ⟨s, i, c, r1.str, rfl, by assumption, ea, q.at w (.str _)⟩))
      · cases e
    | _ => cases e
  | dic ks vs =>
    have e : (getD (.dic ks vs) y).bind id = some z := e
    cases eo : getD (.dic ks vs) y with
    | none => rw [eo] at e; cases e
    | some o => rw [eo] at e; exact dct o eo e
  | dct ks vs =>
    have e : (getD (.dct ks vs) y).bind id = some z := e
    cases eo : getD (.dct ks vs) y with
    | none => rw [eo] at e; cases e
    | some o => rw [eo] at e; exact dct o eo e
  | lst xs =>
    cases y with
    | int i => exact seq xs i rfl rfl e
    | _ => cases e
  | tup xs =>
    cases y with
    | int i => exact seq xs i rfl rfl e
    | _ => cases e
  | flst xs =>
    cases y with
    | int i => exact seq xs i rfl rfl e
    | _ => cases e
  | ftup xs =>
    cases y with
    | int i => exact seq xs i rfl rfl e
    | _ => cases e
  | _ => cases y <;> cases e
variable {g : Gx} {E : Wx} {a b c e : Expr} {pos : Pos} {fa fb fc : P D}
theorem ev_ix (hu : X.A.units + 1 < cLine) (ha : EV X g E a fa) (hb : EV X g E b fb) (hs : PlainIx b) : EV X g E (.Subscript a b pos) (op2 ixD fa fb) := by
  refine PE_imp (pe_ix (ix_all hu) ha hb hs) fun σ H Q hq => ?_
  obtain ⟨ok, ρ, w, h⟩ := hq
  refine ⟨ok, ρ, w, (Rs.bnd (RA := relD X.K) h).mono fun v1 H1 hq => ?_⟩
  obtain ⟨ok1, ρ1, x, w1, f1, r1, h1⟩ := hq
  refine ⟨ok1, ρ1, w1, (Rs.bnd (RA := relD X.K) h1).mono fun v2 H2 hq => ?_⟩
  obtain ⟨ok2, ρ2, y, w2, f2, r2, h2⟩ := hq
  unfold lft at h2
  cases ez : ixD x y with
  | none => rw [ez] at h2; exact h2.elim
  | some z => rw [ez] at h2; exact ixD_ok w2 (.inl (Rep.fr f2.fr r1)) r2 ez h2
def ixN' (i : Nat) (fb : P D) : P D := bnd (pk i) fun _ => bnd fb fun y => bnd (pk i) fun x => lft (ixD x y)
theorem ev_ixN {i : Nat} {x : Str} {p : Pos} (hu : X.A.units + 1 < cLine) (hN : X.N[i]? = some x) (hv : Vis X.env.scope x) (hb : EV X g E b fb) (hs : PlainIx b) (hd : (x == ("__debug__" : Str)) = false := by decide) (hcd : (x == ("__classdict__" : Str)) = false := by decide) :
    EV X g E (.Subscript (.Name x p) b pos) (ixN' i fb) := by
  refine PE_imp (pe_ix (ix_all hu) (pe_var hN hv hd hcd) hb hs) fun σ H Q hq => ?_
  obtain ⟨ok, ρ, w, h⟩ := hq
  unfold ixN' at h
  cases e : pk i ρ with
  | none => unfold bnd at h; rw [e] at h; exact h.elim
  | some t =>
    obtain ⟨d, rfl, hi⟩ := pk_inv e
    rw [bnd_ok e] at h
    obtain ⟨v, ev, _⟩ := pk_wf w hi
    refine ⟨v, ev, ok, ρ, w, (Rs.bnd (RA := relD X.K) h).mono fun v2 H2 hq => ?_⟩
    obtain ⟨ok2, ρ2, y, w2, f2, r2, h2⟩ := hq
    cases e2 : pk i ρ2 with
    | none => unfold bnd at h2; rw [e2] at h2; exact h2.elim
    | some t2 =>
      obtain ⟨d2, rfl, hi2⟩ := pk_inv e2
      rw [bnd_ok e2] at h2
      obtain ⟨v2', ev2, r0⟩ := pk_wf w2 hi2
      rw [ev] at ev2
      cases ev2
      unfold lft at h2
      cases ez : ixD d2 y with
      | none => rw [ez] at h2; exact h2.elim
      | some z => rw [ez] at h2; exact ixD_ok w2 r0 r2 ez h2
/-! ### x.f -/
def fldD (C : Addr) (f : Str) : D → Option D
  | .obj C' ns vs => if C' = C then valD ns vs f else none
  | _ => none
theorem lookup_valV (f : Str) : ∀ fs : List (Str × V), fs.lookup f = valV fs f
  | [] => rfl
  | p :: r => by
    obtain ⟨k, v⟩ := p
    rw [List.lookup_cons]
    by_cases e : k = f
    · subst e
      rw [beq_self_eq_true, valV_pos rfl]
    · rw [beq_eq_false_iff_ne.mpr (fun z => e z.symm), valV_neg e]
      exact lookup_valV f r
theorem ev_fld {C : Addr} {f : Str} (c : Cls X.K C) (n : NoAttr X.K C f) (ha : EV X g E a fa) (hb : attributeBase a f X.env (eval a X.env) = eval a X.env := by rfl) : EV X g E (.Attribute a f pos) (bnd fa fun x => lft (fldD C f x)) := by
  refine PE_imp (pe_fld ha hb) fun σ H Q hq => ?_
  obtain ⟨ok, ρ, w, h⟩ := hq
  refine ⟨ok, ρ, w, (Rs.bnd (RA := relD X.K) h).mono fun v1 H1 hq => ?_⟩
  obtain ⟨ok1, ρ1, x, w1, f1, r1, h1⟩ := hq
  unfold lft at h1
  have r1 : Rep X.K ok1 H1 v1 x := r1
  cases r1 with
  | obj ho ko rs =>
    rename_i a' C' dx fs ds
    by_cases e : C' = C
    · subst e
      have ef : fldD C' f (.obj C' (fs.map (·.1)) ds) = valD (fs.map (·.1)) ds f := if_pos rfl
      rw [ef] at h1
      obtain ⟨i1, i2⟩ := valD_rep f rs
      cases ez : valD (fs.map (·.1)) ds f with
      | none => rw [ez] at h1; exact h1.elim
      | some z =>
        rw [ez] at h1
        obtain ⟨v, ev, rv⟩ := i1 z ez
        exact ⟨_, C', dx, fs, v, rfl, ho, c, n, by rw [lookup_valV]; exact ev, h1 v H1 ok1 w1 Sx.refl rv⟩
    · have ef : fldD C f (.obj C' (fs.map (·.1)) ds) = none := if_neg e
      rw [ef] at h1
      exact h1.elim
  | _ => exact h1.elim
end
end Pu
/-! Walks, targets, comprehensions. -/
namespace Pu
open PySem PySem.Spec PyProof.Rows L2 Kv
/-! ### targets -/
inductive Tg where
  | one (i : Nat)
  | many (is : List Nat)
def Tg.ix : Tg → List Nat
  | .one i => [i]
  | .many is => is
def sets : List Nat → List D → En → Option En
  | [], [], ρ => some ρ
  | i :: is, d :: ds, ρ => sets is ds (ρ.set i (.val d))
  | _, _, _ => none
def gset : Tg → D → En → Option En
  | .one i, d, ρ => some (ρ.set i (.val d))
  | .many is, .tup ds, ρ => sets is ds ρ
  | _, _, _ => none
def TgOk (K : PySem.W.Frag) (gt : TG) (T : Tg) : Prop := ∀ (g : Gx) (ok : Addr → Prop) (ρ : En) (σ : L2.St) (H : Hp) (v : V) (d : D) (ρ' : En) (Q : L2.St → Hp → Prop), Wf K g ok ρ σ H → Rep K ok H v d → gset T d ρ = some ρ' →
  (∀ σ', Wf K g ok ρ' σ' H → σ'.length = σ.length → (∀ k, k ∉ T.ix → σ'[k]? = σ[k]?) → Q σ' H) → gt v σ H Q
theorem tg_one {K : PySem.W.Frag} {i : Nat} : TgOk K (gName i) (.one i) := by
  intro g ok ρ σ H v d ρ' Q w r e q
  cases e
  refine q _ (w.set r) (List.length_set ..) fun k hk => ?_
  rw [List.getElem?_set_ne (fun z => hk (by rw [z]; exact List.mem_singleton.mpr rfl))]
def gNames : List Nat → TGs
  | [] => gNil
  | i :: is => gCons (gName i) (gNames is)
theorem gNames_ok {K : PySem.W.Frag} : ∀ (is : List Nat) (g : Gx) (ok : Addr → Prop) (ρ : En) (σ : L2.St) (H : Hp) (vs : List V) (ds : List D) (ρ' : En) (Q : L2.St → Hp → Prop), Wf K g ok ρ σ H → Reps K ok H vs ds → sets is ds ρ = some ρ' →
    (∀ σ', Wf K g ok ρ' σ' H → σ'.length = σ.length → (∀ k, k ∉ is → σ'[k]? = σ[k]?) → Q σ' H) → gNames is vs σ H Q
  | [], g, ok, ρ, σ, H, vs, ds, ρ', Q, w, r, e, q => by
    cases r with
    | nil => cases e; exact ⟨rfl, q σ w rfl fun _ _ => rfl⟩
    | cons _ _ => cases e
  | i :: is, g, ok, ρ, σ, H, vs, ds, ρ', Q, w, r, e, q => by
    cases r with
    | nil => cases e
    | cons r1 rr =>
      refine ⟨_, _, rfl, ?_⟩
      refine gNames_ok is g ok _ _ H _ _ ρ' Q (w.set r1) rr e fun σ' w' hl hk => q σ' w' (hl.trans (List.length_set ..)) fun k hk2 => ?_
      rw [hk k (fun z => hk2 (List.mem_cons_of_mem _ z)), List.getElem?_set_ne (fun z => hk2 (by rw [z]; exact List.mem_cons_self ..))]
theorem sets_len : ∀ {is : List Nat} {ds : List D} {ρ ρ' : En}, sets is ds ρ = some ρ' → is.length = ds.length
  | [], [], _, _, _ => rfl
  | i :: is, d :: ds, ρ, ρ', h => congrArg (· + 1) (sets_len (is := is) h)
  | [], _ :: _, _, _, h => by cases h
  | _ :: _, [], _, _, h => by cases h
theorem tg_many {K : PySem.W.Frag} {is : List Nat} : TgOk K (gTup K is.length (gNames is)) (.many is) := by
  intro g ok ρ σ H v d ρ' Q w r e q
  cases r with
  | tupO h rs => exact ⟨_, _, rfl, h.sq, by rw [rs.length]; exact (sets_len e).symm, gNames_ok is g ok ρ σ H _ _ ρ' Q w rs e q⟩
  | _ => cases e
/-! ### walks -/
def WkOk (K : PySem.W.Frag) (g : Gx) (L : List Nat) (σ : L2.St) (ρ : En) (J : It) (ds : List D) (ok : Addr → Prop) (H : Hp) : Prop :=
  ∀ (ok2 : Addr → Prop) (ρ2 : En) (σ2 : L2.St) (H2 : Hp), Wf K g ok2 ρ2 σ2 H2 → Fr ok H ok2 H2 → (∀ l ∈ L, ρ2[l]? = ρ[l]? ∧ σ2[l]? = σ[l]?) →
    (∀ i, i < ds.length → J.go i H2) ∧ J.stop ds.length H2 ∧ ∀ i d x H3, ds[i]? = some d → J.yld i H2 x H3 → (H3 = H2 ∨ ∃ p o, H2 p = none ∧ H3 = upd H2 p o) ∧ Rep K ok2 H3 x d
def tI (K : PySem.W.Frag) (g : Gx) (E : Wx) (L : List Nat) (f : P (List D)) : TI := fun σ H R => ∃ ok ρ, Wf K g ok ρ σ H ∧
  match f ρ with
  | none => False
  | some (.ok ds ρ') => ∀ J H' ok', Wf K g ok' ρ' σ H' → Sx σ ρ ok H ρ' ok' H' → WkOk K g L σ ρ' J ds ok' H' → R J H'
  | some (.er c ns ds ρ') => ∀ dx fs H' ok', Wf K g ok' ρ' σ H' → Sx σ ρ ok H ρ' ok' H' → H' dx = some (.xd fs) → fs.map (·.1) = ns → Reps K ok' H' (fs.map (·.2)) ds → E σ c (some dx) H'
abbrev EI (X : Cx) (g : Gx) (E : Wx) (L : List Nat) (tg e : Expr) (f : P (List D)) : Prop := PI X tg e (tI X.K g E L f)
section
variable {X : Cx} {g : Gx} {E : Wx} {tg a b c e : Expr} {pos : Pos} {fa fb fc : P D}
theorem PI_imp {t t' : TI} (h : PI X tg e t) (q : ∀ σ H R, t' σ H R → t σ H R) : PI X tg e t' := ⟨fun pins s σ H R I z => h.run pins s σ H R I (q σ H R z)⟩
theorem PI_or {w1 w2 : TI} (h1 : PI X tg e w1) (h2 : PI X tg e w2) : PI X tg e (fun σ H R => w1 σ H R ∨ w2 σ H R) := ⟨fun pins s σ H R I z => z.elim (fun z => h1.run pins s σ H R I z) fun z => h2.run pins s σ H R I z⟩
def isLst : D → Bool
  | .lst _ => true
  | .flst _ => true
  | _ => false
def seqP (f : P D) : P (List D) := bnd f fun d => lft (seqD d)
theorem wk_lst {K : PySem.W.Frag} {L : List Nat} {σ : L2.St} {ρ : En} {ok : Addr → Prop} {H : Hp} {p : Addr} {ds : List D} (h : ∀ ok2 ρ2 σ2 H2, Wf K g ok2 ρ2 σ2 H2 → Fr ok H ok2 H2 → (∀ l ∈ L, ρ2[l]? = ρ[l]? ∧ σ2[l]? = σ[l]?) → ∃ vs, SqL K H2 p vs ∧ Reps K ok2 H2 vs ds) :
    WkOk K g L σ ρ (Itl K p) ds ok H := by
  intro ok2 ρ2 σ2 H2 w2 f2 k2
  obtain ⟨vs, sq, r⟩ := h ok2 ρ2 σ2 H2 w2 f2 k2
  refine ⟨fun i hi => ?_, ⟨vs, sq, Nat.le_of_eq r.length⟩, fun i d x H3 hd y => ?_⟩
  · have hv : i < vs.length := by rw [r.length]; exact hi
    exact ⟨vs, vs[i], sq, List.getElem?_eq_getElem hv⟩
  · obtain ⟨rfl, y⟩ := y
    obtain ⟨d', e1, r1⟩ := r.get (y vs sq)
    rw [hd] at e1
    cases e1
    exact ⟨.inl rfl, r1⟩
theorem wk_tup {K : PySem.W.Frag} {L : List Nat} {σ : L2.St} {ρ : En} {ok : Addr → Prop} {H : Hp} {p : Addr} {ds : List D} (h : ∀ ok2 ρ2 σ2 H2, Wf K g ok2 ρ2 σ2 H2 → Fr ok H ok2 H2 → (∀ l ∈ L, ρ2[l]? = ρ[l]? ∧ σ2[l]? = σ[l]?) → ∃ vs, SqT K H2 p vs ∧ Reps K ok2 H2 vs ds) :
    WkOk K g L σ ρ (Itt K p) ds ok H := by
  intro ok2 ρ2 σ2 H2 w2 f2 k2
  obtain ⟨vs, sq, r⟩ := h ok2 ρ2 σ2 H2 w2 f2 k2
  refine ⟨fun i hi => ?_, ⟨vs, sq, Nat.le_of_eq r.length⟩, fun i d x H3 hd y => ?_⟩
  · have hv : i < vs.length := by rw [r.length]; exact hi
    exact ⟨vs, vs[i], sq, List.getElem?_eq_getElem hv⟩
  · obtain ⟨rfl, y⟩ := y
    obtain ⟨d', e1, r1⟩ := r.get (y vs sq)
    rw [hd] at e1
    cases e1
    exact ⟨.inl rfl, r1⟩
theorem rep_walk {K : PySem.W.Frag} {L : List Nat} {σ : L2.St} {ρ : En} {ok : Addr → Prop} {H : Hp} {v : V} {d : D} {ds : List D} (r : Rep K ok H v d) (e : seqD d = some ds) :
    (∃ p, v = .ref p ∧ (∃ xs, SqL K H p xs) ∧ WkOk K g L σ ρ (Itl K p) ds ok H) ∨ (∃ p, v = .ref p ∧ (∃ xs, SqT K H p xs) ∧ WkOk K g L σ ρ (Itt K p) ds ok H) := by
  cases r with
  | lst h k t =>
    cases e
    refine .inl ⟨_, rfl, ⟨_, .inl (.inl h)⟩, wk_lst fun ok2 ρ2 σ2 H2 w2 f2 _ => ⟨_, .inl (.inl ((f2.keep _ _ h fun _ => k).same rfl)), t.fr f2⟩⟩
  | lstF h t =>
    cases e
    exact .inl ⟨_, rfl, ⟨_, h.sq⟩, wk_lst fun ok2 ρ2 σ2 H2 w2 f2 _ => ⟨_, (f2.fzL h).sq, t.fr f2⟩⟩
  | tupO h t =>
    cases e
    exact .inr ⟨_, rfl, ⟨_, h.sq⟩, wk_tup fun ok2 ρ2 σ2 H2 w2 f2 _ => ⟨_, (f2.tpO h).sq, t.fr f2⟩⟩
  | tupF h t =>
    cases e
    exact .inr ⟨_, rfl, ⟨_, h.sq⟩, wk_tup fun ok2 ρ2 σ2 H2 w2 f2 _ => ⟨_, (f2.fzT h).sq, t.fr f2⟩⟩
  | _ => cases e
theorem Rs.toI {K : PySem.W.Frag} {σ : L2.St} {ρ : En} {ok : Addr → Prop} {H : Hp} {L : List Nat} {f : P D} {R : It → Hp → Prop} (w : Wf K g ok ρ σ H)
    (h : match seqP f ρ with
      | none => False
      | some (.ok ds ρ') => ∀ J H' ok', Wf K g ok' ρ' σ H' → Sx σ ρ ok H ρ' ok' H' → WkOk K g L σ ρ' J ds ok' H' → R J H'
      | some (.er c ns ds ρ') => ∀ dx fs H' ok', Wf K g ok' ρ' σ H' → Sx σ ρ ok H ρ' ok' H' → H' dx = some (.xd fs) → fs.map (·.1) = ns → Reps K ok' H' (fs.map (·.2)) ds → E σ c (some dx) H') :
    iList K (tX K g E (relD K) f) σ H R ∨ iTup K (tX K g E (relD K) f) σ H R := by
  unfold seqP at h
  cases e : f ρ with
  | none => rw [bnd_none e] at h; exact h.elim
  | some x =>
    cases x with
    | er c ns ds ρ' =>
      rw [bnd_er e] at h
      refine .inl ⟨ok, ρ, w, ?_⟩
      rw [e]
      exact h
    | ok d ρ' =>
      rw [bnd_ok e] at h
      cases ed : seqD d with
      | none => rw [ed] at h; exact h.elim
      | some ds =>
        rw [ed] at h
        have go : ∀ v H' ok', Wf K g ok' ρ' σ H' → Sx σ ρ ok H ρ' ok' H' → Rep K ok' H' v d → (∃ p, v = .ref p ∧ (∃ xs, SqL K H' p xs) ∧ R (Itl K p) H') ∨ (∃ p, v = .ref p ∧ (∃ xs, SqT K H' p xs) ∧ R (Itt K p) H') := fun v H' ok' w' s' r' => by
          rcases rep_walk (g := g) (L := L) (σ := σ) (ρ := ρ') r' ed with ⟨p, e1, e2, wk⟩ | ⟨p, e1, e2, wk⟩
          · exact .inl ⟨p, e1, e2, h _ H' ok' w' s' wk⟩
          · exact .inr ⟨p, e1, e2, h _ H' ok' w' s' wk⟩
        have left : isLst d = true → iList K (tX K g E (relD K) f) σ H R := fun hl => by
          refine ⟨ok, ρ, w, ?_⟩
          rw [e]
          intro v H' ok' w' s' r'
          cases d with
          | lst xs =>
            have r' : Rep K ok' H' v (.lst xs) := r'
            cases r' with
            | lst h1 k1 t1 =>
              cases ed
              exact ⟨_, rfl, ⟨_, .inl (.inl h1)⟩, h _ H' ok' w' s' (wk_lst fun ok2 ρ2 σ2 H2 w2 f2 _ => ⟨_, .inl (.inl ((f2.keep _ _ h1 fun _ => k1).same rfl)), t1.fr f2⟩)⟩
          | flst xs =>
            have r' : Rep K ok' H' v (.flst xs) := r'
            cases r' with
            | lstF h1 t1 =>
              cases ed
              exact ⟨_, rfl, ⟨_, h1.sq⟩, h _ H' ok' w' s' (wk_lst fun ok2 ρ2 σ2 H2 w2 f2 _ => ⟨_, (f2.fzL h1).sq, t1.fr f2⟩)⟩
          | _ => cases hl
        have right : isLst d = false → iTup K (tX K g E (relD K) f) σ H R := fun hl => by
          refine ⟨ok, ρ, w, ?_⟩
          rw [e]
          intro v H' ok' w' s' r'
          cases d with
          | tup xs =>
            have r' : Rep K ok' H' v (.tup xs) := r'
            cases r' with
            | tupO h1 t1 =>
              cases ed
              exact ⟨_, rfl, ⟨_, h1.sq⟩, h _ H' ok' w' s' (wk_tup fun ok2 ρ2 σ2 H2 w2 f2 _ => ⟨_, (f2.tpO h1).sq, t1.fr f2⟩)⟩
          | ftup xs =>
            have r' : Rep K ok' H' v (.ftup xs) := r'
            cases r' with
            | tupF h1 t1 =>
              cases ed
              exact ⟨_, rfl, ⟨_, h1.sq⟩, h _ H' ok' w' s' (wk_tup fun ok2 ρ2 σ2 H2 w2 f2 _ => ⟨_, (f2.fzT h1).sq, t1.fr f2⟩)⟩
          | lst xs => cases hl
          | flst xs => cases hl
          | _ => cases ed
        cases hl : isLst d with
        | true => exact .inl (left hl)
        | false => exact .inr (right hl)
theorem ei_seq (ha : EV X g E a fa) : EI X g E [] tg a (seqP fa) := by
  refine PI_imp (PI_or (pi_list ha) (pi_tup ha)) fun σ H R hq => ?_
  obtain ⟨ok, ρ, w, h⟩ := hq
  exact Rs.toI w h
theorem ei_name {i : Nat} {x : Str} (hN : X.N[i]? = some x) (hv : Vis X.env.scope x) (hd : (x == ("__debug__" : Str)) = false := by decide) (hcd : (x == ("__classdict__" : Str)) = false := by decide) : EI X g E [i] tg (.Name x pos) (seqP (pk i)) := by
  refine PI_imp (PI_or (pi_list (pe_var hN hv hd hcd)) (pi_tup (pe_var hN hv hd hcd))) fun σ H R hq => ?_
  obtain ⟨ok, ρ, w, h⟩ := hq
  unfold seqP at h
  cases e : pk i ρ with
  | none => rw [bnd_none e] at h; exact h.elim
  | some t =>
    obtain ⟨d, rfl, hi⟩ := pk_inv e
    rw [bnd_ok e] at h
    cases ed : seqD d with
    | none => rw [ed] at h; exact h.elim
    | some ds =>
      rw [ed] at h
      rcases hi with hi | hi
      · obtain ⟨v, ev, r⟩ := w.val i d hi
        rcases rep_walk (g := g) (L := [i]) (σ := σ) (ρ := ρ) r ed with ⟨p, e1, e2, wk⟩ | ⟨p, e1, e2, wk⟩
        · exact .inl ⟨v, ev, p, e1, e2, h _ H ok w Sx.refl wk⟩
        · exact .inr ⟨v, ev, p, e1, e2, h _ H ok w Sx.refl wk⟩
      · obtain ⟨q, eq, o, nk, _⟩ := w.own i d hi
        cases d with
        | lst xs =>
          cases ed
          obtain ⟨vs, hq, _⟩ := id o
          refine .inl ⟨_, eq, q, rfl, ⟨vs, .inl (.inl hq)⟩, h _ H ok w Sx.refl (wk_lst fun ok2 ρ2 σ2 H2 w2 f2 k2 => ?_)⟩
          obtain ⟨k3, k4⟩ := k2 i (List.mem_singleton.mpr rfl)
          obtain ⟨q2, eq2, o2, _⟩ := w2.own i _ (k3.trans hi)
          rw [k4, eq] at eq2
          cases eq2
          obtain ⟨vs2, h2, r2⟩ := o2
          exact ⟨vs2, .inl (.inl h2), r2⟩
        | _ => first | exact o.elim | cases ed
/-! ### what the block's own names are -/
theorem wipe_get {σ : L2.St} {k : Nat} : ∀ {vs : List Nat}, k ∉ vs → (wipe σ vs)[k]? = σ[k]?
  | [], _ => rfl
  | v :: vs, h => by
    unfold wipe
    rw [List.getElem?_set_ne (fun z => h (by rw [z]; exact List.mem_cons_self ..))]
    exact wipe_get fun z => h (List.mem_cons_of_mem _ z)
theorem wipe_in {σ : L2.St} {k : Nat} : ∀ {vs : List Nat}, k ∈ vs → k < σ.length → (wipe σ vs)[k]? = some none
  | [], h, _ => by cases h
  | v :: vs, h, hl => by
    unfold wipe
    by_cases e : v = k
    · subst e
      rw [List.getElem?_set_self (by rw [wipe_length]; exact hl)]
    · rw [List.getElem?_set_ne e]
      rcases List.mem_cons.mp h with z | z
      · exact absurd z.symm e
      · exact wipe_in z hl
theorem wipe_ext {σ τ : L2.St} {vs : List Nat} (hl : σ.length = τ.length) (h : ∀ k, k ∉ vs → σ[k]? = τ[k]?) : wipe σ vs = wipe τ vs := by
  refine List.ext_getElem? fun k => ?_
  by_cases hk : k ∈ vs
  · by_cases hz : k < σ.length
    · rw [wipe_in hk hz, wipe_in hk (by omega)]
    · rw [List.getElem?_eq_none (by rw [wipe_length]; omega), List.getElem?_eq_none (by rw [wipe_length]; omega)]
  · rw [wipe_get hk, wipe_get hk, h k hk]
def wipeE (ρ : En) : List Nat → En
  | [] => ρ
  | v :: vs => (wipeE ρ vs).set v .un
theorem wipeE_get {ρ : En} {k : Nat} : ∀ {vs : List Nat}, k ∉ vs → (wipeE ρ vs)[k]? = ρ[k]?
  | [], _ => rfl
  | v :: vs, h => by
    unfold wipeE
    rw [List.getElem?_set_ne (fun z => h (by rw [z]; exact List.mem_cons_self ..))]
    exact wipeE_get fun z => h (List.mem_cons_of_mem _ z)
theorem wipeE_in {ρ : En} {k : Nat} {s : Slot} : ∀ {vs : List Nat}, k ∈ vs → (wipeE ρ vs)[k]? = some s → s = .un
  | [], h, _ => by cases h
  | v :: vs, h, e => by
    unfold wipeE at e
    by_cases z : v = k
    · subst z
      exact get_set_self e
    · rw [List.getElem?_set_ne z] at e
      rcases List.mem_cons.mp h with y | y
      · exact absurd y.symm z
      · exact wipeE_in y e
theorem wipeE_some {ρ : En} {k : Nat} {s : Slot} {vs : List Nat} (h : (wipeE ρ vs)[k]? = some s) (ns : s ≠ .un) : ρ[k]? = some s ∧ k ∉ vs := by
  by_cases hk : k ∈ vs
  · exact absurd (wipeE_in hk h) ns
  · rw [wipeE_get hk] at h; exact ⟨h, hk⟩
theorem Wf.agree {K : PySem.W.Frag} {ok : Addr → Prop} {ρ : En} {σ τ : L2.St} {H : Hp} (w : Wf K g ok ρ σ H) (hl : τ.length = σ.length) (h : ∀ (k : Nat) (s : Slot), ρ[k]? = some s → s ≠ .un → τ[k]? = σ[k]?) : Wf K g ok ρ τ H :=
  ⟨hl.trans w.len, w.fc, w.h0, fun i d e => by rw [h i _ e (fun z => by cases z)]; exact w.val i d e, fun i d e => by rw [h i _ e (fun z => by cases z)]; exact w.own i d e,
    fun i j d e q h1 h2 e1 e2 => w.apart i j d e q h1 h2 (by rw [← h i _ h1 (fun z => by cases z)]; exact e1) (by rw [← h j _ h2 (fun z => by cases z)]; exact e2), w.tb⟩
theorem Wf.wipe {K : PySem.W.Frag} {ok : Addr → Prop} {ρ : En} {σ : L2.St} {H : Hp} : ∀ {vs : List Nat}, Wf K g ok ρ σ H → Wf K g ok (wipeE ρ vs) σ H
  | [], w => w
  | v :: vs, w => (Wf.wipe (vs := vs) w).drop
theorem wrs_wipe {ρ : En} {σ τ : L2.St} {vs : List Nat} {a : Addr} (ht : ∀ k, k ∉ vs → τ[k]? = σ[k]?) (h : wrs (wipeE ρ vs) τ a) : wrs ρ σ a := by
  obtain ⟨i, d, h1, h2⟩ := h
  obtain ⟨h3, h4⟩ := wipeE_some h1 (fun z => by cases z)
  exact ⟨i, d, h3, by rw [← ht i h4]; exact h2⟩
/-! ### [e for t in i if c] -/
def lcL (T : Tg) (ft : P Bool) (fe : P D) : List D → En → List D → Option (List D × En)
  | [], ρ, acc => some (acc, ρ)
  | d :: ds, ρ, acc => match gset T d ρ with
    | none => none
    | some ρ1 => match ft ρ1 with
      | some (.ok true ρ2) => match fe ρ2 with
        | some (.ok y ρ3) => if acc.length < sizeLine then lcL T ft fe ds (wipeE ρ3 T.ix) (acc ++ [y]) else none
        | _ => none
      | some (.ok false ρ2) => lcL T ft fe ds (wipeE ρ2 T.ix) acc
      | _ => none
def lc (fi : P (List D)) (T : Tg) (ft : P Bool) (fe : P D) : P R := fun ρ => match fi ρ with
  | none => none
  | some (.er c ns ds ρ') => some (.er c ns ds ρ')
  | some (.ok ds ρ') => match lcL T ft fe ds (wipeE ρ' T.ix) [] with
    | none => none
    | some (ys, ρ2) => some (.ok (.own (.lst ys)) ρ2)
def Kp {α : Type} (L : List Nat) (f : P α) : Prop := ∀ ρ a ρ', f ρ = some (.ok a ρ') → ∀ l ∈ L, ρ'[l]? = ρ[l]?
theorem gset_keep {T : Tg} {d : D} {ρ ρ' : En} {l : Nat} (h : gset T d ρ = some ρ') (hl : l ∉ T.ix) : ρ'[l]? = ρ[l]? := by
  cases T with
  | one i =>
    cases h
    rw [List.getElem?_set_ne (fun z => hl (by rw [z]; exact List.mem_singleton.mpr rfl))]
  | many is =>
    cases d with
    | tup ds =>
      have h : sets is ds ρ = some ρ' := h
      have go : ∀ (is : List Nat) (ds : List D) (ρ ρ' : En), sets is ds ρ = some ρ' → l ∉ is → ρ'[l]? = ρ[l]? := by
        intro is
        induction is with
        | nil => intro ds ρ ρ' h _; cases ds with
          | nil => cases h; rfl
          | cons _ _ => cases h
        | cons i is ih => intro ds ρ ρ' h hn; cases ds with
          | nil => cases h
          | cons d ds =>
            rw [ih ds _ ρ' h (fun z => hn (List.mem_cons_of_mem _ z)), List.getElem?_set_ne (fun z => hn (by rw [z]; exact List.mem_cons_self ..))]
      exact go is ds ρ ρ' h hl
    | _ => cases h
theorem gset_own {T : Tg} {d : D} {ρ ρ' : En} {σ : L2.St} {a : Addr} (h : gset T d ρ = some ρ') (σ' : L2.St) (hs : ∀ k, k ∉ T.ix → σ'[k]? = σ[k]?) (hw : wrs ρ' σ' a) : wrs ρ σ a := by
  obtain ⟨i, x, h1, h2⟩ := hw
  have hi : i ∉ T.ix := fun z => by
    have go : ∀ (is : List Nat) (ds : List D) (ρ ρ' : En), sets is ds ρ = some ρ' → i ∈ is → ∃ d, ρ'[i]? = some (.val d) ∨ ρ'[i]? = none := by
      intro is
      induction is with
      | nil => intro ds ρ ρ' h hn; cases hn
      | cons j is ih => intro ds ρ ρ' h hn; cases ds with
        | nil => cases h
        | cons d ds =>
          by_cases hm : i ∈ is
          · exact ih ds _ ρ' h hm
          · have e : i = j := by
              rcases List.mem_cons.mp hn with y | y
              · exact y
              · exact absurd y hm
            subst e
            have k := gset_keep (T := .many is) (d := .tup ds) (l := i) h hm
            rw [k]
            by_cases hz : i < ρ.length
            · exact ⟨d, .inl (List.getElem?_set_self hz)⟩
            · exact ⟨d, .inr (List.getElem?_eq_none (by rw [List.length_set]; omega))⟩
    cases T with
    | one j =>
      cases h
      cases List.mem_singleton.mp z
      cases get_set_self h1
    | many is =>
      cases d with
      | tup ds =>
        obtain ⟨d, e | e⟩ := go is ds ρ ρ' h z
        · rw [e] at h1; cases h1
        · rw [e] at h1; cases h1
      | _ => cases h
  rw [gset_keep h hi] at h1
  rw [hs i hi] at h2
  exact ⟨i, x, h1, h2⟩
end
end Pu
/-! Comprehensions with one for. -/
namespace Pu
open PySem PySem.Spec PyProof.Rows L2 Kv
section
variable {X : Cx} {g : Gx} {E : Wx}
theorem lcL_cons {T : Tg} {ft : P Bool} {fe : P D} {d : D} {ds acc : List D} {ρ : En} {z : List D × En} (h : lcL T ft fe (d :: ds) ρ acc = some z) :
    ∃ ρ1, gset T d ρ = some ρ1 ∧ ((∃ ρ2, ft ρ1 = some (.ok false ρ2) ∧ lcL T ft fe ds (wipeE ρ2 T.ix) acc = some z) ∨
      ∃ ρ2 y ρ3, ft ρ1 = some (.ok true ρ2) ∧ fe ρ2 = some (.ok y ρ3) ∧ acc.length < sizeLine ∧ lcL T ft fe ds (wipeE ρ3 T.ix) (acc ++ [y]) = some z) := by
  unfold lcL at h
  cases e1 : gset T d ρ with
  | none => simp only [e1] at h; cases h
  | some ρ1 =>
    simp only [e1] at h
    refine ⟨ρ1, rfl, ?_⟩
    cases e2 : ft ρ1 with
    | none => simp only [e2] at h; cases h
    | some x =>
      cases x with
      | er c ns ds' ρ' => simp only [e2] at h; cases h
      | ok b ρ2 =>
        cases b with
        | false => simp only [e2] at h; exact .inl ⟨ρ2, rfl, h⟩
        | true =>
          simp only [e2] at h
          cases e3 : fe ρ2 with
          | none => simp only [e3] at h; cases h
          | some x =>
            cases x with
            | er c ns ds' ρ' => simp only [e3] at h; cases h
            | ok y ρ3 =>
              simp only [e3] at h
              split at h
              · exact .inr ⟨ρ2, y, ρ3, rfl, e3, by assumption, h⟩
              · cases h
theorem lc_read {fi : P (List D)} {T : Tg} {ft : P Bool} {fe : P D} {gt : TG} {L : List Nat} {σ : L2.St} {H : Hp} {Q : VK}
    (hT : TgOk X.K gt T) (kL : ∀ l ∈ L, l ∉ T.ix) (kt : Kp L ft) (ke : Kp L fe) (hq : tX X.K g E (relR X.K) (lc fi T ft fe) σ H Q) :
    tLc (tI X.K g E L fi) gt (tX X.K g noE relB ft) (tX X.K g noE (relD X.K) fe) T.ix σ H Q := by
  obtain ⟨ok, ρ, w, h⟩ := hq
  refine ⟨ok, ρ, w, ?_⟩
  unfold lc at h
  cases e : fi ρ with
  | none => rw [e] at h; exact h
  | some x =>
    cases x with
    | er c ns ds ρ' => rw [e] at h; exact h
    | ok ds ρ1 =>
      rw [e] at h
      intro J H1 ok1 w1 s1 wk Dd nD
      cases el : lcL T ft fe ds (wipeE ρ1 T.ix) [] with
      | none => simp only [el] at h; exact h.elim
      | some z =>
        obtain ⟨ys, ρz⟩ := z
        simp only [el] at h
        have wgt : ∀ k, k ∉ T.ix → (wipe σ T.ix)[k]? = σ[k]? := fun k hk => wipe_get hk
        let Pv : Nat → Hp → Prop := fun i H2 => ∃ ok2 ρ0 acc vs, lcL T ft fe (ds.drop i) (wipeE ρ0 T.ix) acc = some (ys, ρz) ∧ Wf X.K g ok2 (wipeE ρ0 T.ix) (wipe σ T.ix) H2 ∧ Fr ok1 H1 ok2 H2 ∧
          (∀ a o, H1 a = some o → ¬ wrs ρ1 σ a → KeptO ok1 H2 a o) ∧ (∀ a, wrs (wipeE ρ0 T.ix) (wipe σ T.ix) a → wrs ρ1 σ a) ∧ (∀ a o, H1 a = some o → ok2 a → ok1 a ∨ wrs ρ1 σ a) ∧ (∀ l ∈ L, (wipeE ρ0 T.ix)[l]? = ρ1[l]?) ∧
          H2 Dd = some (.lst vs) ∧ Reps X.K ok2 H2 vs acc ∧ ¬ ok2 Dd
        have nwD : ¬ wrs ρ1 σ Dd := fun z => by
          obtain ⟨_, o, ho, _⟩ := w1.wr z
          rw [nD] at ho; cases ho
        have back : ∀ {ρ0 : En} {ok2 : Addr → Prop} {H2 : Hp}, Wf X.K g ok2 (wipeE ρ0 T.ix) (wipe σ T.ix) H2 → Wf X.K g ok2 (wipeE ρ0 T.ix) σ H2 := fun {ρ0 ok2 H2} w2 =>
          w2.agree (by rw [wipe_length]) fun k s hk ns => (wipe_get (wipeE_some hk ns).2).symm
        refine ⟨fun i m H2 => m = ds.length - i ∧ i ≤ ds.length ∧ Pv i H2, ⟨ds.length, by simp, Nat.zero_le _, ?_⟩, ?_⟩
        · refine ⟨sub1 ok1 Dd, ρ1, [], [], el, ((w1.newO nD).wipe).agree (by rw [wipe_length]) (fun k s hk ns => wipe_get (wipeE_some hk ns).2), fr_sub nD, fun a o ha _ => ?_, fun a ha => wrs_wipe wgt ha, fun _ _ _ k => .inl k.1, fun l hl => wipeE_get (kL l hl), upd_same, .nil, fun z => z.2 rfl⟩
          exact .inl (by rw [upd_ne (ne_of_none ha nD)]; exact ha)
        · rintro i m H2 ⟨rfl, hi2, ok2, ρ0, acc, vs, hl, w2, f2, k2, b2, gr2, l2, eD, rv, nk⟩
          have wk2 := wk ok2 _ _ H2 w2 f2 fun l hl => ⟨l2 l hl, wipe_get (kL l hl)⟩
          by_cases hlt : i < ds.length
          · refine .inr ⟨wk2.1 i hlt, Pv (i + 1), fun H' p' => ⟨ds.length - (i + 1), by omega, rfl, hlt, p'⟩, fun x H3 hy => ?_⟩
            have hd : ds[i]? = some ds[i] := List.getElem?_eq_getElem hlt
            obtain ⟨h3, rx⟩ := wk2.2.2 i _ x H3 hd hy
            rw [List.drop_eq_getElem_cons hlt] at hl
            obtain ⟨ρ3, eg, hl⟩ := lcL_cons hl
            -- the item is there
            have s23 : Wf X.K g ok2 (wipeE ρ0 T.ix) (wipe σ T.ix) H3 ∧ Sx (wipe σ T.ix) (wipeE ρ0 T.ix) ok2 H2 (wipeE ρ0 T.ix) ok2 H3 := by
              rcases h3 with rfl | ⟨p, o, np, rfl⟩
              · exact ⟨w2, Sx.refl⟩
              · exact ⟨w2.new np, Sx.new np⟩
            obtain ⟨w3, s3⟩ := s23
            have nwD2 : ¬ wrs (wipeE ρ0 T.ix) (wipe σ T.ix) Dd := fun z => nwD (b2 Dd z)
            have eD3 := (s3.keep _ _ eD nwD2).same nk
            refine hT g ok2 _ _ H3 x _ ρ3 _ w3 rx eg fun σ2 w4 ln2 ag2 => ?_
            have wr4 : ∀ a, wrs ρ3 σ2 a → wrs (wipeE ρ0 T.ix) (wipe σ T.ix) a := fun a ha => gset_own eg σ2 ag2 ha
            refine ⟨wipe_ext (by rw [ln2, wipe_length]) fun k hk => by rw [ag2 k hk, wipe_get hk], ok2, ρ3, w4, ?_⟩
            have l3 : ∀ l ∈ L, ρ3[l]? = ρ1[l]? := fun l hl => by rw [gset_keep eg (kL l hl)]; exact l2 l hl
            -- the end of a turn
            have fin : ∀ {ρ5 : En} {ok5 : Addr → Prop} {H5 : Hp} {vs5 : List V} {acc5 : List D}, Wf X.K g ok5 ρ5 σ2 H5 → Fr ok1 H1 ok5 H5 → (∀ a o, H1 a = some o → ¬ wrs ρ1 σ a → KeptO ok1 H5 a o) → (∀ a, wrs ρ5 σ2 a → wrs ρ1 σ a) →
                (∀ a o, H1 a = some o → ok5 a → ok1 a ∨ wrs ρ1 σ a) → (∀ l ∈ L, ρ5[l]? = ρ1[l]?) → H5 Dd = some (.lst vs5) → Reps X.K ok5 H5 vs5 acc5 → ¬ ok5 Dd → lcL T ft fe (ds.drop (i + 1)) (wipeE ρ5 T.ix) acc5 = some (ys, ρz) → Pv (i + 1) H5 :=
              fun {ρ5 ok5 H5 vs5 acc5} w5 f5 k5 b5 g5 l5 e5 r5 n5 hl5 => ⟨ok5, ρ5, acc5, vs5, hl5, (w5.wipe).agree (by rw [ln2]) (fun k s hk ns => by rw [wipe_get (wipeE_some hk ns).2, ← wgt k (wipeE_some hk ns).2, ag2 k (wipeE_some hk ns).2]), f5, k5,
                fun a ha => b5 a (wrs_wipe (fun k hk => by rw [wipe_get hk, ag2 k hk, wipe_get hk]) ha), g5, fun l hl => by rw [wipeE_get (kL l hl)]; exact l5 l hl, e5, r5, n5⟩
            have kk : ∀ {ρ5 : En} {ok5 : Addr → Prop} {H5 : Hp}, Sx σ2 ρ3 ok2 H3 ρ5 ok5 H5 → Fr ok1 H1 ok5 H5 ∧ (∀ a o, H1 a = some o → ¬ wrs ρ1 σ a → KeptO ok1 H5 a o) ∧ (∀ a, wrs ρ5 σ2 a → wrs ρ1 σ a) ∧ (∀ a o, H1 a = some o → ok5 a → ok1 a ∨ wrs ρ1 σ a) ∧ H5 Dd = some (.lst vs) ∧ ¬ ok5 Dd := fun {ρ5 ok5 H5} s5 => by
              refine ⟨f2.trans (s3.fr.trans s5.fr), fun a o ha na => ?_, fun a ha => b2 a (wr4 a (s5.sub a ha)), fun a o ha ka => ?_, (s5.keep _ _ eD3 (fun z => nwD2 (wr4 _ z))).same nk, fun z => ?_⟩
              · exact (k2 a o ha na).then (fun o2 h2 => (s3.keep a o2 h2 fun z => na (b2 a z)).then (fun o3 h3 => s5.keep a o3 h3 fun z => na (b2 a (wr4 a z))) id) (fun z => (gr2 a o ha z).elim id fun y => absurd y na)
              · obtain ⟨o2, h2⟩ := f2.there ha
                obtain ⟨o3, h3⟩ := s3.fr.there h2
                rcases s5.grow a o3 h3 ka with z | z
                · exact gr2 a o ha z
                · exact .inr (b2 a (wr4 a z))
              · rcases s5.grow Dd _ eD3 z with z | z
                · exact nk z
                · exact nwD2 (wr4 _ z)
            rcases hl with ⟨ρ4, et, hl⟩ | ⟨ρ4, y, ρ5, et, ee, hz, hl⟩
            · rw [et]
              intro b H5 ok5 w5 s5 eb
              have eb : b = false := eb
              subst eb
              obtain ⟨c1, c2, c3, c4, c5, c6⟩ := kk s5
              rw [if_neg Bool.false_ne_true]
              exact fin w5 c1 c2 c3 c4 (fun l hl => by rw [kt _ _ _ et l hl]; exact l3 l hl) c5 (rv.fr (s3.fr.trans s5.fr)) c6 hl
            · rw [et]
              intro b H5 ok5 w5 s5 eb
              have eb : b = true := eb
              subst eb
              rw [if_pos rfl]
              refine ⟨ok5, ρ4, w5, ?_⟩
              rw [ee]
              intro yv H6 ok6 w6 s6 ry
              obtain ⟨c1, c2, c3, c4, c5, c6⟩ := kk (s5.trans s6)
              have rv6 := rv.fr (s3.fr.trans (s5.fr.trans s6.fr))
              have nw6 : ¬ wrs ρ5 σ2 Dd := fun z => nwD (c3 _ z)
              refine ⟨vs, c5, by rw [rv.length]; exact hz, ?_⟩
              -- the new item is put down
              have fr7 : Fr ok6 H6 ok6 (upd H6 Dd (.lst (vs ++ [yv]))) := .of (fun a o ha ho => by
                  have : a ≠ Dd := fun z => by
                    subst z
                    rw [c5] at ha
                    cases ha
                    exact c6 (ho trivial)
                  rw [upd_ne this]; exact ha) (fun _ _ _ k => k) (fun a ha => by
                  by_cases z : a = Dd
                  · rw [z, upd_same] at ha; cases ha
                  · rw [upd_ne z] at ha; exact ha)
              have w7 : Wf X.K g ok6 ρ5 σ2 (upd H6 Dd (.lst (vs ++ [yv]))) := w6.step fr7 (fun a ha => w6.fc a (fr7.all a ha)) (w6.tb.fr fr7 (upd_tbl fun ps z => by rw [c5] at z; cases z) fun _ _ _ n => n) fun k d q hk hq => ⟨upd_ne fun z => nw6 ⟨k, d, hk, by rw [hq, z]⟩, by
                obtain ⟨q', e', _, n', _⟩ := w6.own k d hk
                rw [hq] at e'
                cases e'
                exact n'⟩
              refine fin w7 (c1.trans fr7) (fun a o ha na => ?_) c3 c4 (fun l hl => by rw [ke _ _ _ ee l hl, kt _ _ _ et l hl]; exact l3 l hl) upd_same ((rv6.app (.cons ry .nil)).fr fr7) c6 hl
              have c2' := c2 a o ha na
              unfold KeptO at c2' ⊢
              rw [upd_ne (ne_of_none ha nD)]
              exact c2'
          · have hi3 : i = ds.length := by omega
            subst hi3
            rw [List.drop_length] at hl
            cases hl
            refine .inl ⟨wk2.2.1, h (.ref Dd) H2 ok2 (back w2) ?_ ?_⟩
            · refine s1.trans ⟨f2, k2, fun a ha => b2 a ?_, gr2⟩
              obtain ⟨k, d, hk, hq⟩ := ha
              exact ⟨k, d, hk, by rw [wipe_get (wipeE_some hk (fun z => by cases z)).2]; exact hq⟩
            · refine ⟨Dd, rfl, ⟨vs, eD, rv⟩, nk, s1.fr.all Dd nD, fun j d hj z => nwD (b2 Dd ⟨j, d, hj, ?_⟩)⟩
              rw [wipe_get (wipeE_some hj (fun z => by cases z)).2]; exact z
theorem er_lc {elt tg iter : Expr} {ifs : List Expr} {scope : Scope} {own : List (Str × Nat)} {pos : Pos} {fi : P (List D)} {T : Tg} {ft : P Bool} {fe : P D} {gt : TG} {L : List Nat}
    (hc : X.calm = true) (hN : X.N.Nodup) (hi : EI X g E L tg iter fi) (ok : BlkOk X.N X.env.scope scope own) (hT : TgOk X.K gt T) (hown : own.map (·.2) = T.ix)
    (hg : ∀ (s : Shared) (H : Hp) (C : Addr) (cl : List (Str × Addr)) (fp : List Addr), PG (X.blk s H scope (compEnvC scope cl C X.env) fp) tg gt)
    (ht : ∀ (s : Shared) (H : Hp) (C : Addr) (cl : List (Str × Addr)) (fp : List Addr), PTs (X.blk s H scope (compEnvC scope cl C X.env) fp) ifs (tX X.K g noE relB ft))
    (he : ∀ (s : Shared) (H : Hp) (C : Addr) (cl : List (Str × Addr)) (fp : List Addr), EV (X.blk s H scope (compEnvC scope cl C X.env) fp) g noE elt fe)
    (kL : ∀ l ∈ L, l ∉ T.ix) (kt : Kp L ft) (ke : Kp L fe) (hs : ∀ x, foldedSetIterable iter X.env x = pure x := by intro _; rfl) :
    ER X g E (.ListComp elt [⟨tg, iter, ifs, 0⟩] scope pos) (lc fi T ft fe) := by
  refine PE_imp (pe_lc (te := tX X.K g noE (relD X.K) fe) hc hN hi ok hg ht he hs) fun σ H Q hq => ?_
  rw [hown]
  exact lc_read hT kL kt ke hq
end
end Pu
/-! Statements. -/
namespace Pu
open PySem PySem.Spec PyProof.Rows L2 Kv
inductive Fl where
  | nx (ρ : En)
  | rt (r : R) (ρ : En)
  | bk (ρ : En)
  | ct (ρ : En)
  | er (c : Value) (ns : List Str) (ds : List D) (ρ : En)
abbrev S := En → Option Fl
structure Sy (g : Gx) (σ : L2.St) (ρ : En) (ok : Addr → Prop) (H : Hp) (σ' : L2.St) (ρ' : En) (ok' : Addr → Prop) (H' : Hp) : Prop where
  fr : Fr ok H ok' H'
  keep : ∀ a o, H a = some o → ¬ wrs ρ σ a → KeptO ok H' a o
  sub : ∀ a, wrs ρ' σ' a → wrs ρ σ a ∨ H a = none
  grow : ∀ a o, H a = some o → ok' a → ok a ∨ wrs ρ σ a
  bor : ∀ i ∈ g.B, σ'[i]? = σ[i]?
  len : σ'.length = σ.length
section
variable {g : Gx} {σ : L2.St} {ρ : En} {ok : Addr → Prop} {H : Hp}
theorem Sx.y {ρ' : En} {ok' : Addr → Prop} {H' : Hp} (s : Sx σ ρ ok H ρ' ok' H') : Sy g σ ρ ok H σ ρ' ok' H' := ⟨s.fr, s.keep, fun a h => .inl (s.sub a h), s.grow, fun _ _ => rfl, rfl⟩
theorem Sy.refl : Sy g σ ρ ok H σ ρ ok H := Sx.refl.y
theorem Sy.trans {σ1 σ2 : L2.St} {ρ1 ρ2 : En} {ok1 ok2 : Addr → Prop} {H1 H2 : Hp} (a : Sy g σ ρ ok H σ1 ρ1 ok1 H1) (b : Sy g σ1 ρ1 ok1 H1 σ2 ρ2 ok2 H2) : Sy g σ ρ ok H σ2 ρ2 ok2 H2 := by
  refine ⟨a.fr.trans b.fr, fun c o h n => (a.keep c o h n).then (fun o' h' => b.keep c o' h' fun z => ?_) (fun z => (a.grow c o h z).elim id fun y => absurd y n), fun c h => ?_, fun c o h k => ?_, fun i hi => (b.bor i hi).trans (a.bor i hi), b.len.trans a.len⟩
  · rcases a.sub c z with z | z
    · exact n z
    · rw [z] at h; cases h
  · rcases b.sub c h with z | z
    · exact a.sub c z
    · exact .inr (a.fr.all c z)
  · obtain ⟨o', h'⟩ := a.fr.there h
    rcases b.grow c o' h' k with z | z
    · exact a.grow c o h z
    · rcases a.sub c z with z | z
      · exact .inr z
      · rw [z] at h; cases h
end
def Ss (K : PySem.W.Frag) (g : Gx) (E : Wx) (σ : L2.St) (ρ : En) (ok : Addr → Prop) (H : Hp) (o : Option Fl) (Dn : Ends) : Prop :=
  match o with
  | none => False
  | some (.nx ρ') => ∀ σ' H' ok', Wf K g ok' ρ' σ' H' → Sy g σ ρ ok H σ' ρ' ok' H' → Dn.nx σ' H'
  | some (.bk ρ') => ∀ σ' H' ok', Wf K g ok' ρ' σ' H' → Sy g σ ρ ok H σ' ρ' ok' H' → Dn.bk σ' H'
  | some (.ct ρ') => ∀ σ' H' ok', Wf K g ok' ρ' σ' H' → Sy g σ ρ ok H σ' ρ' ok' H' → Dn.ct σ' H'
  | some (.rt r ρ') => ∀ v σ' H' ok', Wf K g ok' ρ' σ' H' → Sy g σ ρ ok H σ' ρ' ok' H' → relR K g.H0 ok' H' ρ' σ' v r → Dn.rt v H'
  | some (.er c ns ds ρ') => ∀ dx fs σ' H' ok', Wf K g ok' ρ' σ' H' → Sy g σ ρ ok H σ' ρ' ok' H' → H' dx = some (.xd fs) → fs.map (·.1) = ns → Reps K ok' H' (fs.map (·.2)) ds → E σ' c (some dx) H'
def tS (K : PySem.W.Frag) (g : Gx) (E : Wx) (f : S) : TS := fun Dn σ H => ∃ ok ρ, Wf K g ok ρ σ H ∧ Ss K g E σ ρ ok H (f ρ) Dn
abbrev ES (X : Cx) (g : Gx) (E : Wx) (st : Stmt) (f : S) : Prop := PS X st (tS X.K g E f)
abbrev ESs (X : Cx) (g : Gx) (E : Wx) (st : List Stmt) (f : S) : Prop := PSs X st (tS X.K g E f)
section
variable {K : PySem.W.Frag} {g : Gx} {E : Wx} {σ σ1 : L2.St} {ρ ρ1 : En} {ok ok1 : Addr → Prop} {H H1 : Hp}
theorem Ss.shift {o : Option Fl} {Dn : Ends} (h : Ss K g E σ ρ ok H o Dn) (s : Sy g σ ρ ok H σ1 ρ1 ok1 H1) : Ss K g E σ1 ρ1 ok1 H1 o Dn := by
  match o, h with
  | some (.nx ρ'), h => exact fun σ' H' ok' w f => h σ' H' ok' w (s.trans f)
  | some (.bk ρ'), h => exact fun σ' H' ok' w f => h σ' H' ok' w (s.trans f)
  | some (.ct ρ'), h => exact fun σ' H' ok' w f => h σ' H' ok' w (s.trans f)
  | some (.rt r ρ'), h => exact fun v σ' H' ok' w f => h v σ' H' ok' w (s.trans f)
  | some (.er c ns ds ρ'), h => exact fun dx fs σ' H' ok' w f => h dx fs σ' H' ok' w (s.trans f)
end
/-! ### blocks -/
def sk : S := fun ρ => some (.nx ρ)
def sq (f k : S) : S := fun ρ => match f ρ with
  | some (.nx ρ') => k ρ'
  | o => o
def sb {α : Type} (f : P α) (k : α → S) : S := fun ρ => match f ρ with
  | none => none
  | some (.er c ns ds ρ') => some (.er c ns ds ρ')
  | some (.ok a ρ') => k a ρ'
theorem sb_ok {α : Type} {m : P α} {k : α → S} {ρ ρ' : En} {a : α} (h : m ρ = some (.ok a ρ')) : sb m k ρ = k a ρ' := by unfold sb; rw [h]
theorem sb_er {α : Type} {m : P α} {k : α → S} {ρ ρ' : En} {c : Value} {ns : List Str} {ds : List D} (h : m ρ = some (.er c ns ds ρ')) : sb m k ρ = some (.er c ns ds ρ') := by unfold sb; rw [h]
theorem sb_none {α : Type} {m : P α} {k : α → S} {ρ : En} (h : m ρ = none) : sb m k ρ = none := by unfold sb; rw [h]
section
variable {X : Cx} {g : Gx} {E : Wx} {st : Stmt} {rest : List Stmt} {f k : S} {e : Expr} {pos : Pos}
theorem PS_imp {t t' : TS} (h : PS X st t) (q : ∀ Dn σ H, t' Dn σ H → t Dn σ H) : PS X st t' := ⟨fun pins s σ H Dn I z => h.run pins s σ H Dn I (q Dn σ H z)⟩
theorem PSs_imp {t t' : TS} (h : PSs X rest t) (q : ∀ Dn σ H, t' Dn σ H → t Dn σ H) : PSs X rest t' := ⟨fun pins s σ H Dn I z => h.run pins s σ H Dn I (q Dn σ H z)⟩
theorem ess_nil : ESs X g E [] sk := PSs_imp pss_nil fun Dn σ H hq => by
  obtain ⟨ok, ρ, w, h⟩ := hq
  exact h σ H ok w Sy.refl
theorem ess_cons (h1 : ES X g E st f) (h2 : ESs X g E rest k) : ESs X g E (st :: rest) (sq f k) := by
  refine PSs_imp (pss_cons h1 h2) fun Dn σ H hq => ?_
  obtain ⟨ok, ρ, w, h⟩ := hq
  refine ⟨ok, ρ, w, ?_⟩
  unfold sq at h
  cases e : f ρ with
  | none => simp only [e] at h; exact h
  | some x =>
    cases x with
    | nx ρ' => simp only [e] at h; exact fun σ' H' ok' w' s' => ⟨ok', ρ', w', h.shift s'⟩
    | rt r ρ' => simp only [e] at h; exact h
    | bk ρ' => simp only [e] at h; exact h
    | ct ρ' => simp only [e] at h; exact h
    | er c ns ds ρ' => simp only [e] at h; exact h
theorem ess_one (h1 : ES X g E st f) : ESs X g E [st] f := pss_one h1
theorem Ss.sb {γ α : Type} {K : PySem.W.Frag} {σ : L2.St} {ρ : En} {ok : Addr → Prop} {H : Hp} {RA : Rl γ α} {m : P α} {k : α → S} {Dn : Ends} (h : Ss K g E σ ρ ok H (sb m k ρ) Dn) :
    Rs K g E RA σ ρ ok H (m ρ) (fun v1 H1 => ∃ ok1 ρ1 a, Wf K g ok1 ρ1 σ H1 ∧ Sx σ ρ ok H ρ1 ok1 H1 ∧ RA H ok1 H1 ρ1 σ v1 a ∧ Ss K g E σ ρ1 ok1 H1 (k a ρ1) Dn) := by
  cases e : m ρ with
  | none => rw [sb_none e] at h; exact h
  | some x =>
    cases x with
    | ok a ρ' =>
      rw [sb_ok e] at h
      exact fun v H' ok' w f r => ⟨ok', ρ', a, w, f, r, h.shift f.y⟩
    | er c ns ds ρ' => rw [sb_er e] at h; exact fun dx fs H' ok' w f => h dx fs σ H' ok' w f.y
theorem es_expr {fe : P D} (he : EV X g E e fe) (hs : swapsWith e none pos.line X.env = pure false := by rfl) : ES X g E (.Expr e pos) (sb fe fun _ => sk) := by
  refine PS_imp (ps_expr he hs) fun Dn σ H hq => ?_
  obtain ⟨ok, ρ, w, h⟩ := hq
  refine ⟨ok, ρ, w, (Ss.sb (RA := relD X.K) h).mono fun v H1 hq => ?_⟩
  obtain ⟨ok1, ρ1, a, w1, s1, r1, h1⟩ := hq
  exact h1 σ H1 ok1 w1 Sy.refl
theorem es_never : ES X g E st (fun _ => none) := PS_imp ps_never fun Dn σ H hq => by
  obtain ⟨ok, ρ, w, h⟩ := hq
  exact h
theorem es_if {c : Expr} {a b : List Stmt} {A : P Bool} {fa fb : S} (hc : ET X g E c A) (ha : ESs X g E a fa) (hb : ESs X g E b fb) : ES X g E (.If c a b pos) (sb A fun c => if c = true then fa else fb) := by
  refine PS_imp (ps_if hc ha hb) fun Dn σ H hq => ?_
  obtain ⟨ok, ρ, w, h⟩ := hq
  refine ⟨ok, ρ, w, (Ss.sb (RA := relB) h).mono fun v H1 hq => ?_⟩
  obtain ⟨ok1, ρ1, x, w1, s1, r1, h1⟩ := hq
  have r1 : v = x := r1
  subst r1
  cases v with
  | true => exact ⟨ok1, ρ1, w1, h1⟩
  | false => exact ⟨ok1, ρ1, w1, h1⟩
/-! ### return -/
theorem es_ret {fe : P R} (he : ER X g E e fe) : ES X g E (.Return (some e) pos) (sb fe fun r ρ => some (.rt r ρ)) := by
  refine PS_imp (ps_ret he) fun Dn σ H hq => ?_
  obtain ⟨ok, ρ, w, h⟩ := hq
  refine ⟨ok, ρ, w, ?_⟩
  cases e : fe ρ with
  | none => rw [sb_none e] at h; exact h
  | some x =>
    cases x with
    | ok r ρ' =>
      rw [sb_ok e] at h
      exact fun v H' ok' w' s' r' => h v σ H' ok' w' s'.y (monoR _ _ _ _ _ _ _ _ (fun a ha => w.h0 a ha) r')
    | er c ns ds ρ' => rw [sb_er e] at h; exact fun dx fs H' ok' w' s' => h dx fs σ H' ok' w' s'.y
def mv (i : Nat) : P R := fun ρ => match ρ[i]? with
  | some (.val d) => some (.ok (.val d) ρ)
  | some (.own d) => some (.ok (.own d) (ρ.set i .un))
  | _ => none
theorem es_retV {i : Nat} {x : Str} {p : Pos} (hN : X.N[i]? = some x) (hv : Vis X.env.scope x) (hB : i ∉ g.B) (hd : (x == ("__debug__" : Str)) = false := by decide) (hcd : (x == ("__classdict__" : Str)) = false := by decide) :
    ES X g E (.Return (some (.Name x p)) pos) (sb (mv i) fun r ρ => some (.rt r ρ)) := by
  refine PS_imp (ps_ret (pe_var hN hv hd hcd)) fun Dn σ H hq => ?_
  obtain ⟨ok, ρ, w, h⟩ := hq
  unfold sb mv at h
  cases e : ρ[i]? with
  | none => rw [e] at h; exact h.elim
  | some s =>
    rw [e] at h
    cases s with
    | un => exact h.elim
    | val d =>
      obtain ⟨v, ev, r⟩ := w.val i d e
      exact ⟨v, ev, h v σ H ok w Sy.refl r⟩
    | own d =>
      obtain ⟨q, eq, o, nk, hb⟩ := w.own i d e
      refine ⟨_, eq, h _ σ H ok w.drop Sx.drop.y ⟨q, rfl, o, nk, hb.elim (fun z => absurd z hB) id, fun j d' hj z => ?_⟩⟩
      have nj : j ≠ i := fun y => by subst y; cases get_set_self hj
      rw [List.getElem?_set_ne (Ne.symm nj)] at hj
      exact nj (w.apart j i d' d q hj e z eq)
/-! ### name = value -/
def put (i : Nat) (r : R) : S := fun ρ => some (.nx (ρ.set i (match r with | .val d => .val d | .own d => .own d)))
theorem put_ok {K : PySem.W.Frag} {i : Nat} {r : R} {ok : Addr → Prop} {H0 H : Hp} {ρ : En} {σ : L2.St} {v : V} {Dn : Ends} (w : Wf K g ok ρ σ H) (hr : relR K H0 ok H ρ σ v r) (h0 : ∀ a, H0 a = none → g.H0 a = none)
    (ha : ∀ a, H0 a = none → ∀ o, H a = some o → True) (hB : i ∉ g.B) (hn : ∀ q, v = .ref q → r = .own r.d → H0 q = none) {H1 : Hp} {ok1 : Addr → Prop} {ρ1 : En} (s : Sx σ ρ1 ok1 H1 ρ ok H) (e1 : H0 = H1) (h : Ss K g E σ ρ1 ok1 H1 (put i r ρ) Dn) :
    Dn.nx (σ.set i (some v)) H := by
  subst e1
  have bor : ∀ j ∈ g.B, (σ.set i (some v))[j]? = σ[j]? := fun j hj => by rw [List.getElem?_set_ne (fun z => hB (by rw [z]; exact hj))]
  cases r with
  | val d =>
    refine h _ H ok (w.set hr) ⟨s.fr, s.keep, fun a ha => ?_, s.grow, bor, List.length_set ..⟩
    obtain ⟨j, d', h1, h2⟩ := ha
    have nj : j ≠ i := fun y => by subst y; cases get_set_self h1
    rw [List.getElem?_set_ne (Ne.symm nj)] at h1 h2
    exact .inl (s.sub a ⟨j, d', h1, h2⟩)
  | own d =>
    obtain ⟨q, rfl, o, nk, n0, np⟩ := hr
    refine h _ H ok (w.setO o nk (h0 q n0) np) ⟨s.fr, s.keep, fun a ha => ?_, s.grow, bor, List.length_set ..⟩
    obtain ⟨j, d', h1, h2⟩ := ha
    by_cases nj : j = i
    · subst nj
      have := get_set_self h2
      cases this
      exact .inr n0
    · rw [List.getElem?_set_ne (Ne.symm nj)] at h1 h2
      exact .inl (s.sub a ⟨j, d', h1, h2⟩)
theorem tX_put {fe : P R} {i : Nat} {σ : L2.St} {H : Hp} {Dn : Ends} (hB : i ∉ g.B) (hq : tS X.K g E (sb fe fun r => put i r) Dn σ H) : tX X.K g E (relR X.K) fe σ H (fun x H1 => gName i x σ H1 Dn.nx) := by
  obtain ⟨ok, ρ, w, h⟩ := hq
  refine ⟨ok, ρ, w, ?_⟩
  cases e : fe ρ with
  | none => rw [sb_none e] at h; exact h
  | some x =>
    cases x with
    | ok r ρ' =>
      rw [sb_ok e] at h
      intro v H' ok' w' s' r'
      exact put_ok w' r' (fun a ha => w.h0 a ha) (fun _ _ _ _ => trivial) hB (fun q hv hr => by
        cases r with
        | val d => cases hr
        | own d => obtain ⟨q', e', _, _, n0, _⟩ := r'; rw [hv] at e'; cases e'; exact n0) s' rfl h
    | er c ns ds ρ' => rw [sb_er e] at h; exact fun dx fs H' ok' w' s' => h dx fs σ H' ok' w' s'.y
theorem es_set {i : Nat} {x : Str} {fe : P R} {pos' : Pos} (hN : X.N.Nodup) (hi : X.N[i]? = some x) (hx : Loc X.env.scope x) (hB : i ∉ g.B) (he : ER X g E e fe) (hs : swapsWith e (some (.Name x pos')) pos.line X.env = pure false := by rfl)
    (hf : X.fn x = true ∨ X.env.scope.names.lookup x = some .local := by first | exact .inl rfl | exact .inr rfl | assumption) : ES X g E (.Assign [.Name x pos'] e pos) (sb fe fun r => put i r) :=
  PS_imp (ps_set hN hi hx he hs hf) fun Dn σ H hq => tX_put hB hq
theorem es_setLc {i : Nat} {y : Str} {py : Pos} {elt tg iter : Expr} {ifs : List Expr} {scope : Scope} {own : List (Str × Nat)} {pos spos : Pos} {fi : P (List D)} {T : Tg} {ft : P Bool} {fe : P D} {gt : TG} {L : List Nat}
    (hc : X.calm = true) (hN : X.N.Nodup) (hy : X.N[i]? = some y) (hyl : X.env.scope.names.lookup y = some .local) (hB : i ∉ g.B)
    (hsw : swapsWith (.ListComp elt [⟨tg, iter, ifs, 0⟩] scope pos) (some (.Name y py)) spos.line X.env = pure true) (hi : EI X g E L tg iter fi) (ok : BlkOk X.N X.env.scope scope own) (hT : TgOk X.K gt T) (hown : own.map (·.2) = T.ix)
    (hg : ∀ (s : Shared) (H : Hp) (C : Addr) (cl : List (Str × Addr)) (fp : List Addr), PG (X.blk s H scope (compEnvC scope cl C X.env) fp) tg gt)
    (ht : ∀ (s : Shared) (H : Hp) (C : Addr) (cl : List (Str × Addr)) (fp : List Addr), PTs (X.blk s H scope (compEnvC scope cl C X.env) fp) ifs (tX X.K g noE relB ft))
    (he : ∀ (s : Shared) (H : Hp) (C : Addr) (cl : List (Str × Addr)) (fp : List Addr), EV (X.blk s H scope (compEnvC scope cl C X.env) fp) g noE elt fe)
    (kL : ∀ l ∈ L, l ∉ T.ix) (kt : Kp L ft) (ke : Kp L fe) (hs : ∀ x, foldedSetIterable iter X.env x = pure x := by intro _; rfl) :
    ES X g E (.Assign [.Name y py] (.ListComp elt [⟨tg, iter, ifs, 0⟩] scope pos) spos) (sb (lc fi T ft fe) fun r => put i r) := by
  refine PS_imp (ps_setLc (te := tX X.K g noE (relD X.K) fe) hc hN hy hyl hsw hi ok hg ht he hs) fun Dn σ H hq => ?_
  rw [hown]
  exact lc_read (X := X) (E := E) (Q := fun x H1 => gName i x σ H1 Dn.nx) hT kL kt ke (tX_put hB hq)
def unp (T : Tg) (d : D) : S := fun ρ => (gset T d ρ).map .nx
theorem es_tup {tg : Expr} {T : Tg} {gt : TG} {fe : P D} (he : EV X g E e fe) (hg : PG X tg gt) (hT : TgOk X.K gt T) (hB : ∀ i ∈ g.B, i ∉ T.ix) (hs : swapsWithSole [tg] e pos.line X.env = pure false := by rfl) (hw : swappedStores [tg] e X.env = pure none := by rfl)
    (h1 : (assignEach [tg] X.env).map (·.2) = [assign tg X.env] := by rfl) : ES X g E (.Assign [tg] e pos) (sb fe fun d => unp T d) := by
  refine PS_imp (ps_asg he hg hs hw h1) fun Dn σ H hq => ?_
  obtain ⟨ok, ρ, w, h⟩ := hq
  refine ⟨ok, ρ, w, (Ss.sb (RA := relD X.K) h).mono fun v H1 hq => ?_⟩
  obtain ⟨ok1, ρ1, d, w1, s1, r1, h1⟩ := hq
  unfold unp at h1
  cases eg : gset T d ρ1 with
  | none => rw [eg] at h1; exact h1.elim
  | some ρ2 =>
    rw [eg] at h1
    refine hT g ok1 ρ1 σ H1 v d ρ2 _ w1 r1 eg fun σ' w' hl hk => h1 σ' H1 ok1 w' ⟨Fr.refl, fun _ _ h _ => .inl h, fun a ha => .inl (gset_own eg σ' hk ha), fun _ _ _ k => .inl k, fun i hi => hk i (hB i hi), hl⟩
end
end Pu
/-! Loops; lists and dicts that are written. -/
namespace Pu
open PySem PySem.Spec PyProof.Rows L2 Kv
def frL (T : Tg) (body : S) : List D → En → Option Fl
  | [], ρ => some (.nx ρ)
  | d :: ds, ρ => match gset T d ρ with
    | none => none
    | some ρ1 => match body ρ1 with
      | none => none
      | some (.nx ρ2) => frL T body ds ρ2
      | some (.ct ρ2) => frL T body ds ρ2
      | some (.bk ρ2) => some (.nx ρ2)
      | some (.rt r ρ2) => some (.rt r ρ2)
      | some (.er c ns es ρ2) => some (.er c ns es ρ2)
def Kps (L : List Nat) (f : S) : Prop := ∀ ρ ρ', (f ρ = some (.nx ρ') ∨ f ρ = some (.ct ρ')) → ∀ l ∈ L, ρ'[l]? = ρ[l]?
def Fl.en : Fl → En
  | .nx ρ' => ρ'
  | .rt _ ρ' => ρ'
  | .bk ρ' => ρ'
  | .ct ρ' => ρ'
  | .er _ _ _ ρ' => ρ'
def Kow (L : List Nat) (f : S) : Prop := ∀ l ∈ L, ∀ (ρ : En) (o : Fl), f ρ = some o → ∀ (d : D), o.en[l]? = some (.own d) → ∃ d', ρ[l]? = some (.own d')
abbrev Gx.plus (g : Gx) (L : List Nat) : Gx := ⟨g.H0, L ++ g.B, g.T⟩
section
variable {X : Cx} {g : Gx} {E : Wx}
theorem Sy.plus {L : List Nat} {σ σ' : L2.St} {ρ ρ' : En} {ok ok' : Addr → Prop} {H H' : Hp} (s : Sy (g.plus L) σ ρ ok H σ' ρ' ok' H') : Sy g σ ρ ok H σ' ρ' ok' H' :=
  ⟨s.fr, s.keep, s.sub, s.grow, fun i hi => s.bor i (List.mem_append_right _ hi), s.len⟩
theorem Wf.plus {K : PySem.W.Frag} {L : List Nat} {σ : L2.St} {ρ : En} {ok : Addr → Prop} {H : Hp} (w : Wf K g ok ρ σ H) : Wf K (g.plus L) ok ρ σ H :=
  ⟨w.len, w.fc, w.h0, w.val, fun i d h => by
    obtain ⟨q, e, o, n, b⟩ := w.own i d h
    exact ⟨q, e, o, n, b.imp (fun z => List.mem_append_right _ z) id⟩, w.apart, w.tb⟩
theorem Wf.minus {K : PySem.W.Frag} {L : List Nat} {σ σ' : L2.St} {ρ ρ' : En} {ok ok' : Addr → Prop} {H H' : Hp} (w : Wf K g ok ρ σ H) (hs : ∀ l ∈ L, σ'[l]? = σ[l]?) (hr : ∀ l ∈ L, ∀ d, ρ'[l]? = some (.own d) → ∃ d', ρ[l]? = some (.own d')) (w' : Wf K (g.plus L) ok' ρ' σ' H') : Wf K g ok' ρ' σ' H' :=
  ⟨w'.len, w'.fc, w'.h0, w'.val, fun i d h => by
    obtain ⟨q, e, o, n, b⟩ := w'.own i d h
    refine ⟨q, e, o, n, ?_⟩
    rcases b with b | b
    · rcases List.mem_append.mp b with z | z
      · obtain ⟨d', h'⟩ := hr i z d h
        obtain ⟨q', e', _, _, b'⟩ := w.own i d' h'
        rw [hs i z, e'] at e
        cases e
        exact b'
      · exact .inl z
    · exact .inr b, w'.apart, w'.tb⟩
theorem frL_cons {T : Tg} {body : S} {d : D} {ds : List D} {ρ ρ1 : En} (h : gset T d ρ = some ρ1) : frL T body (d :: ds) ρ = match body ρ1 with
      | none => none
      | some (.nx ρ2) => frL T body ds ρ2
      | some (.ct ρ2) => frL T body ds ρ2
      | some (.bk ρ2) => some (.nx ρ2)
      | some (.rt r ρ2) => some (.rt r ρ2)
      | some (.er c ns es ρ2) => some (.er c ns es ρ2) := by
  show (match gset T d ρ with
    | none => none
    | some ρ1 => _) = _
  rw [h]
theorem es_for {iter tg : Expr} {body : List Stmt} {pos : Pos} {fi : P (List D)} {T : Tg} {gt : TG} {fb : S} {L : List Nat} (hp : PassesOwn (model X.prog X.w) X.A X.env X.xe) (hc : X.calm = true) (hi : EI X g E L tg iter fi) (hg : PG X tg gt) (hT : TgOk X.K gt T)
    (hb : ESs X (g.plus L) E body fb) (hB : ∀ i ∈ L ++ g.B, i ∉ T.ix) (kb : Kps L fb) (ko : Kow L fb)
    (hs : ∀ x, foldedSetIterable iter X.env x = pure x := by intro _; rfl) : ES X g E (.For tg iter body [] pos) (sb fi fun ds => frL T fb ds) := by
  refine PS_imp (ps_for hp hc hi hg hb hs) fun Dn σ H hq => ?_
  obtain ⟨ok, ρ, w, h⟩ := hq
  refine ⟨ok, ρ, w, ?_⟩
  cases e : fi ρ with
  | none => rw [sb_none e] at h; exact h
  | some x =>
    cases x with
    | er c ns ds ρ' => rw [sb_er e] at h; exact fun dx fs H' ok' w' s' => h dx fs σ H' ok' w' s'.y
    | ok ds ρ1 =>
      rw [sb_ok e] at h
      intro J H1 ok1 w1 s1 wk
      have h1 := h.shift s1.y
      generalize ho : frL T fb ds ρ1 = o at h1
      let Pv : Nat → L2.St → Hp → Prop := fun i σi Hi => ∃ oki ρi, frL T fb (ds.drop i) ρi = o ∧ Wf X.K (g.plus L) oki ρi σi Hi ∧ Sy (g.plus L) σ ρ1 ok1 H1 σi ρi oki Hi ∧ ∀ l ∈ L, ρi[l]? = ρ1[l]?
      refine ⟨fun i m σi Hi => m = ds.length - i ∧ i ≤ ds.length ∧ Pv i σi Hi, ⟨ds.length, by simp, Nat.zero_le _, ok1, ρ1, ho, w1.plus, Sy.refl, fun _ _ => rfl⟩, ?_⟩
      rintro i m σi Hi ⟨rfl, hi2, oki, ρi, hl, wi, si, li⟩
      have sL : ∀ l ∈ L, σi[l]? = σ[l]? := fun l hl => si.bor l (List.mem_append_left _ hl)
      have wk2 := wk oki ρi σi Hi (w1.minus sL (fun l hl d hd => ⟨d, by rw [← li l hl]; exact hd⟩) wi) si.fr fun l hl => ⟨li l hl, sL l hl⟩
      by_cases hlt : i < ds.length
      · refine .inr ⟨wk2.1 i hlt, Pv (i + 1), fun σ' H' p' => ⟨ds.length - (i + 1), by omega, rfl, hlt, p'⟩, fun x H3 hy => ?_⟩
        have hd : ds[i]? = some ds[i] := List.getElem?_eq_getElem hlt
        obtain ⟨h3, rx⟩ := wk2.2.2 i _ x H3 hd hy
        rw [List.drop_eq_getElem_cons hlt] at hl
        have s23 : Wf X.K (g.plus L) oki ρi σi H3 ∧ Sx σi ρi oki Hi ρi oki H3 := by
          rcases h3 with rfl | ⟨p, o', np, rfl⟩
          · exact ⟨wi, Sx.refl⟩
          · exact ⟨wi.new np, Sx.new np⟩
        obtain ⟨w3, s3⟩ := s23
        cases eg : gset T ds[i] ρi with
        | none =>
          have : frL T fb (ds[i] :: ds.drop (i + 1)) ρi = none := by
            show (match gset T ds[i] ρi with
              | none => none
              | some ρ1 => _) = none
            rw [eg]
          rw [this] at hl
          rw [← hl] at h1
          exact h1.elim
        | some ρ3 =>
          rw [frL_cons eg] at hl
          refine hT (g.plus L) oki _ _ H3 x _ ρ3 _ w3 rx eg fun σ2 w4 ln2 ag2 => ⟨oki, ρ3, w4, ?_⟩
          have l3 : ∀ l ∈ L, ρ3[l]? = ρ1[l]? := fun l hl => by rw [gset_keep eg (hB l (List.mem_append_left _ hl))]; exact li l hl
          have s4 : Sy (g.plus L) σ ρ1 ok1 H1 σ2 ρ3 oki H3 := si.trans (s3.y.trans ⟨Fr.refl, fun _ _ h _ => .inl h, fun a ha => .inl (gset_own eg σ2 ag2 ha), fun _ _ _ k => .inl k, fun j hj => ag2 j (hB j hj), ln2⟩)
          have dn : ∀ {ρ5 : En} {σ5 : L2.St} {ok5 : Addr → Prop} {H5 : Hp}, (∀ l ∈ L, ∀ d, ρ5[l]? = some (.own d) → ∃ d', ρ3[l]? = some (.own d')) → Wf X.K (g.plus L) ok5 ρ5 σ5 H5 → Sy (g.plus L) σ2 ρ3 oki H3 σ5 ρ5 ok5 H5 → Wf X.K g ok5 ρ5 σ5 H5 ∧ Sy g σ ρ1 ok1 H1 σ5 ρ5 ok5 H5 := fun {ρ5 σ5 ok5 H5} ho5 w5 s5 => by
            have s6 := s4.trans s5
            refine ⟨w1.minus (fun l hl => s6.bor l (List.mem_append_left _ hl)) (fun l hl d hd => ?_) w5, s6.plus⟩
            obtain ⟨d', hd'⟩ := ho5 l hl d hd
            exact ⟨d', by rw [← l3 l hl]; exact hd'⟩
          cases eb : fb ρ3 with
          | none => simp only [eb] at hl; rw [← hl] at h1; exact h1.elim
          | some fl =>
            have ko3 := fun l hl => ko l hl ρ3 fl eb
            cases fl with
            | nx ρ4 => simp only [eb] at hl; exact fun σ' H' ok' w' s' => ⟨ok', ρ4, hl, w', s4.trans s', fun l hl => by rw [kb ρ3 ρ4 (.inl eb) l hl]; exact l3 l hl⟩
            | ct ρ4 => simp only [eb] at hl; exact fun σ' H' ok' w' s' => ⟨ok', ρ4, hl, w', s4.trans s', fun l hl => by rw [kb ρ3 ρ4 (.inr eb) l hl]; exact l3 l hl⟩
            | bk ρ4 =>
              simp only [eb] at hl
              rw [← hl] at h1
              exact fun σ' H' ok' w' s' => h1 σ' H' ok' (dn ko3 w' s').1 (dn ko3 w' s').2
            | rt r ρ4 =>
              simp only [eb] at hl
              rw [← hl] at h1
              exact fun v σ' H' ok' w' s' r' => h1 v σ' H' ok' (dn ko3 w' s').1 (dn ko3 w' s').2 r'
            | er c ns es ρ4 =>
              simp only [eb] at hl
              rw [← hl] at h1
              exact fun dx fs σ' H' ok' w' s' => h1 dx fs σ' H' ok' (dn ko3 w' s').1 (dn ko3 w' s').2
      · have hi3 : i = ds.length := by omega
        subst hi3
        rw [List.drop_length] at hl
        have hl : some (Fl.nx ρi) = o := hl
        rw [← hl] at h1
        exact .inl ⟨wk2.2.1, h1 σi Hi oki (w1.minus sL (fun l hl d hd => ⟨d, by rw [← li l hl]; exact hd⟩) wi) si.plus⟩
theorem es_for0 {iter tg : Expr} {body : List Stmt} {pos : Pos} {fi : P (List D)} {T : Tg} {gt : TG} {fb : S} (hp : PassesOwn (model X.prog X.w) X.A X.env X.xe) (hc : X.calm = true) (hi : EI X g E [] tg iter fi) (hg : PG X tg gt) (hT : TgOk X.K gt T)
    (hb : ESs X g E body fb) (hB : ∀ i ∈ g.B, i ∉ T.ix) (hs : ∀ x, foldedSetIterable iter X.env x = pure x := by intro _; rfl) : ES X g E (.For tg iter body [] pos) (sb fi fun ds => frL T fb ds) :=
  es_for (L := []) hp hc hi hg hT hb hB (fun _ _ _ l hl => by cases hl) (fun l hl => by cases hl) hs
/-! ### a list of one's own, written -/
def OwM (K : PySem.W.Frag) (r : V → List V → Hp → VK → Prop) (step : List D → List D → Option (D × List D)) : Prop := ∀ (ok : Addr → Prop) (H : Hp) (q : Addr) (vs : List V) (xs : List D) (ws : List V) (ds : List D) (d : D) (xs' : List D) (Q : VK),
  H q = some (.lst vs) → Reps K ok H vs xs → Reps K ok H ws ds → step xs ds = some (d, xs') → (∀ v vs', Reps K ok H vs' xs' → Rep K ok H v d → Q v (upd H q (.lst vs'))) → r (.ref q) ws H Q
def ownL (i : Nat) : P Unit := fun ρ => match ρ[i]? with
  | some (.own (.lst _)) => some (.ok () ρ)
  | _ => none
def mutL (i : Nat) (step : List D → List D → Option (D × List D)) (ds : List D) : P D := fun ρ => match ρ[i]? with
  | some (.own (.lst xs)) => match step xs ds with
    | some (d, xs') => some (.ok d (ρ.set i (.own (.lst xs'))))
    | none => none
  | _ => none
def mtt (i : Nat) (fr : P (List D)) (step : List D → List D → Option (D × List D)) : P D := bnd (ownL i) fun _ => bnd fr fun ds => mutL i step ds
theorem ownL_inv {i : Nat} {ρ : En} {x : Ex Unit} (h : ownL i ρ = some x) : x = .ok () ρ ∧ ∃ xs, ρ[i]? = some (.own (.lst xs)) := by
  unfold ownL at h
  split at h
  · cases h; exact ⟨rfl, _, by assumption⟩
  · cases h
theorem mutL_inv {i : Nat} {step : List D → List D → Option (D × List D)} {ds : List D} {ρ : En} {x : Ex D} (h : mutL i step ds ρ = some x) : ∃ xs d xs', ρ[i]? = some (.own (.lst xs)) ∧ step xs ds = some (d, xs') ∧ x = .ok d (ρ.set i (.own (.lst xs'))) := by
  unfold mutL at h
  split at h
  · split at h
    · cases h; exact ⟨_, _, _, by assumption, by assumption, rfl⟩
    · cases h
  · cases h
theorem mut_end {K : PySem.W.Frag} {r : V → List V → Hp → VK → Prop} {step : List D → List D → Option (D × List D)} (hm : OwM K r step) {i : Nat} {ds : List D} {ok : Addr → Prop} {ρ : En} {σ : L2.St} {H : Hp} {q : Addr} {ws : List V} {Q : VK} (w : Wf K g ok ρ σ H) (hq : σ[i]? = some (some (.ref q)))
    (rw' : Reps K ok H ws ds) (h : Rs K g E (relD K) σ ρ ok H (mutL i step ds ρ) Q) : r (.ref q) ws H Q := by
  cases e : mutL i step ds ρ with
  | none => rw [e] at h; exact h.elim
  | some x =>
    rw [e] at h
    obtain ⟨xs, d, xs', hi, hs, rfl⟩ := mutL_inv e
    obtain ⟨q', e', o, nk, _⟩ := w.own i _ hi
    rw [hq] at e'
    cases e'
    obtain ⟨vs, hv, rv⟩ := id o
    refine hm ok H q vs xs ws ds d xs' Q hv rv rw' hs fun v vs' r1 r2 => ?_
    have f : Fr ok H ok (upd H q (.lst vs')) := .of (fun a x ha hk => by
        have : a ≠ q := fun z => by
          subst z
          rw [hv] at ha
          cases ha
          exact nk (hk trivial)
        rw [upd_ne this]; exact ha) (fun _ _ _ k => k) (fun a ha => by
      by_cases z : a = q
      · rw [z, upd_same] at ha; cases ha
      · rw [upd_ne z] at ha; exact ha)
    have ow : OwnAt K ok (upd H q (.lst vs')) q (.lst xs') := ⟨vs', upd_same, r1.fr f⟩
    exact h v _ ok (w.write hi hq ow).1 (Sx.write w hi hq ow) (r2.fr f)
theorem ev_mut {i : Nat} {x m : Str} {id : String} {p apos cpos : Pos} {e : Expr} {es : List Expr} {fr : P (List D)} {r : V → List V → Hp → VK → Prop} {step : List D → List D → Option (D × List D)} (hN : X.N[i]? = some x) (hv : Vis X.env.scope x)
    (slot : PySem.Slot "list" m id) (hty : typeOf (.builtin id) = pure (.type "method_descriptor")) (hr : MtR X id r) (hm : OwM X.K r step) (ha : EA X g E (e :: es) fr)
    (hd : (x == ("__debug__" : Str)) = false := by decide) (hcd : (x == ("__classdict__" : Str)) = false := by decide)
    (hbase : attributeBase (.Name x p) m X.env (eval (.Name x p) X.env) = eval (.Name x p) X.env := by rfl)
    (hfew : ((backTo cpos (starEach (e :: es) X.env)).all (fun x => !x.1) && (backToKw cpos (keywordEach [] X.env)).all (fun x => x.1.isSome)
      && decide ((e :: es).length + ([] : List Keyword).length + (if ([] : List Keyword).isEmpty then 0 else 1) < 30)) = true := by rfl)
    (hline : (apos.endLine == cpos.line) = true := by rfl) (hs : starEach (e :: es) X.env = (false, eval e X.env) :: starEach es X.env := by rfl) (hplain : (backTo cpos (starEach es X.env)).any (·.1) = false := by rfl) :
    EV X g E (.Call (.Attribute (.Name x p) m apos) (e :: es) [] cpos) (mtt i fr step) := by
  refine PE_imp (pe_bm PySem.F.plainAttrs_list slot hty hr (pe_var hN hv hd hcd) ha hbase hfew hline hs hplain) fun σ H Q hq => ?_
  obtain ⟨ok, ρ, w, h⟩ := hq
  unfold mtt at h
  cases e0 : ownL i ρ with
  | none => rw [bnd_none e0] at h; exact h.elim
  | some t =>
    obtain ⟨rfl, xs, hi⟩ := ownL_inv e0
    rw [bnd_ok e0] at h
    obtain ⟨q, eq, o, nk, _⟩ := w.own i _ hi
    obtain ⟨vs, hvs, _⟩ := o
    refine ⟨_, eq, .inl ⟨rfl, vs, .inl (.inl hvs)⟩, ok, ρ, w, (Rs.bnd (RA := relA X.K) h).mono fun ws H1 hq => ?_⟩
    obtain ⟨ok1, ρ1, ds, w1, s1, r1, h1⟩ := hq
    exact mut_end hm w1 eq r1 h1
def stApp : List D → List D → Option (D × List D)
  | xs, [y] => if xs.length < sizeLine then some (.non, xs ++ [y]) else none
  | _, _ => none
theorem om_append {K : PySem.W.Frag} : OwM K rAppend stApp := by
  intro ok H q vs xs ws ds d xs' Q hv rv rw' hs k
  cases rw' with
  | nil => cases hs
  | cons r1 rr =>
    cases rr with
    | nil =>
      rename_i y0 d0
      have hs : (if xs.length < sizeLine then some (D.non, xs ++ [d0]) else none) = some (d, xs') := hs
      split at hs
      · cases hs
        exact ⟨q, vs, _, rfl, rfl, hv, by rw [rv.length]; assumption, k _ _ (rv.app (.cons r1 .nil)) .non⟩
      · cases hs
    | cons _ _ => cases hs
def stExt (xs : List D) : List D → Option (D × List D)
  | [x] => match x with
    | .lst ys => if xs.length + ys.length ≤ sizeLine then some (.non, xs ++ ys) else none
    | _ => none
  | _ => none
theorem om_extend {K : PySem.W.Frag} : OwM K rExtend stExt := by
  intro ok H q vs xs ws ds d xs' Q hv rv rw' hs k
  cases rw' with
  | nil => cases hs
  | cons r1 rr =>
    cases rr with
    | nil =>
      cases r1 with
      | lst h1 k1 t1 =>
        rename_i a us ys
        have hs : (if xs.length + ys.length ≤ sizeLine then some (D.non, xs ++ ys) else none) = some (d, xs') := hs
        split at hs
        · cases hs
          exact ⟨q, a, vs, us, rfl, rfl, hv, h1, by rw [rv.length, t1.length]; assumption, k _ _ (rv.app t1) .non⟩
        · cases hs
      | _ => cases hs
    | cons _ _ => cases hs
def stRev : List D → List D → Option (D × List D)
  | xs, [] => some (.non, xs.reverse)
  | _, _ => none
theorem om_reverse {K : PySem.W.Frag} : OwM K rReverse stRev := by
  intro ok H q vs xs ws ds d xs' Q hv rv rw' hs k
  cases rw' with
  | nil => cases hs; exact ⟨q, vs, rfl, rfl, hv, k _ _ rv.rev .non⟩
  | cons r1 rr => cases hs
theorem Reps.erase {K : PySem.W.Frag} {ok : Addr → Prop} {H : Hp} : ∀ {vs : List V} {ds : List D} (n : Nat), Reps K ok H vs ds → Reps K ok H (vs.eraseIdx n) (ds.eraseIdx n)
  | _, _, _, .nil => .nil
  | _, _, 0, .cons _ t => t
  | _, _, n + 1, .cons a t => .cons a (Reps.erase n t)
def stPop (xs : List D) : List D → Option (D × List D)
  | [x] => match x with
    | .int i => if -(2 ^ 63) ≤ i ∧ i < 2 ^ 63 then (seqIndex? i xs.length).bind fun k => (xs[k]?).map fun y => (y, xs.eraseIdx k) else none
    | _ => none
  | _ => none
theorem om_pop {K : PySem.W.Frag} : OwM K rPopAt stPop := by
  intro ok H q vs xs ws ds d xs' Q hv rv rw' hs k
  cases rw' with
  | nil => cases hs
  | cons r1 rr =>
    cases rr with
    | nil =>
      cases r1 with
      | int i =>
        have hs : (if -(2 ^ 63) ≤ i ∧ i < 2 ^ 63 then (seqIndex? i xs.length).bind (fun k => (xs[k]?).map fun y => (y, xs.eraseIdx k)) else none) = some (d, xs') := hs
        split at hs
        · rename_i hz
          cases e1 : seqIndex? i xs.length with
          | none => rw [e1] at hs; cases hs
          | some j =>
            rw [e1] at hs
            have hs : (xs[j]?).map (fun y => (y, xs.eraseIdx j)) = some (d, xs') := hs
            cases e2 : xs[j]? with
            | none => rw [e2] at hs; cases hs
            | some y =>
              rw [e2] at hs
              cases hs
              obtain ⟨v, ev, rv2⟩ := rv.getD e2
              exact ⟨q, vs, i, j, v, rfl, rfl, hv, hz.1, hz.2, by rw [rv.length]; exact e1, ev, k _ _ (rv.erase j) rv2⟩
        · cases hs
      | _ => cases hs
    | cons _ _ => cases hs
end
end Pu
/-! Defs and their calls. -/
namespace Pu
open PySem PySem.Spec PyProof.Rows L2 Kv
def outs : En → En → En
  | .own _ :: as, s :: ρ => s :: outs as ρ
  | _ :: as, _ :: ρ => .un :: outs as ρ
  | _ :: as, [] => .un :: outs as []
  | [], _ => []
def lent (B : List Nat) : Nat → En → Bool
  | _, [] => true
  | i, .own _ :: as => decide (i ∈ B) && lent B (i + 1) as
  | i, _ :: as => lent B (i + 1) as
def fnP (n : Nat) (B : List Nat) (body : S) : P R := fun as =>
  if lent B 0 as = true then match body (as ++ List.replicate (n - as.length) .un) with
    | some (.nx ρ) => some (.ok (.val .non) (outs as ρ))
    | some (.rt r ρ) => some (.ok r (outs as ρ))
    | some (.er c ns ds ρ) => some (.er c ns ds (outs as ρ))
    | _ => none
  else none
def spP (K : PySem.W.Frag) (T : List (Addr × Str)) (n : Nat) (F : P R) : Sp := fun vs H Q E => ∃ ok as, vs.length = n ∧ Wf K ⟨H, List.range n, T⟩ ok as (vs.map some) H ∧ Rs K ⟨H, List.range n, T⟩ (fun _ => E) (relR K) (vs.map some) as ok H (F as) Q
theorem outs_length : ∀ (as ρ : En), (outs as ρ).length = as.length
  | [], _ => by unfold outs; rfl
  | .own _ :: as, s :: ρ => congrArg (· + 1) (outs_length as ρ)
  | .un :: as, s :: ρ => congrArg (· + 1) (outs_length as ρ)
  | .val _ :: as, s :: ρ => congrArg (· + 1) (outs_length as ρ)
  | .own _ :: as, [] => congrArg (· + 1) (outs_length as [])
  | .un :: as, [] => congrArg (· + 1) (outs_length as [])
  | .val _ :: as, [] => congrArg (· + 1) (outs_length as [])
theorem outs_get : ∀ {as ρ : En} {j : Nat} {s : Slot}, (outs as ρ)[j]? = some s → s ≠ .un → ρ[j]? = some s ∧ ∃ d, as[j]? = some (.own d)
  | [], _, j, s, h, _ => by unfold outs at h; simp at h
  | .own d :: as, t :: ρ, 0, s, h, _ => by
    have h : some t = some s := h
    cases h
    exact ⟨rfl, d, rfl⟩
  | .own d :: as, t :: ρ, j + 1, s, h, n => outs_get (as := as) (ρ := ρ) (j := j) h n
  | .un :: as, t :: ρ, 0, s, h, n => by cases h; exact absurd rfl n
  | .un :: as, t :: ρ, j + 1, s, h, n => outs_get (as := as) (ρ := ρ) (j := j) h n
  | .val _ :: as, t :: ρ, 0, s, h, n => by cases h; exact absurd rfl n
  | .val _ :: as, t :: ρ, j + 1, s, h, n => outs_get (as := as) (ρ := ρ) (j := j) h n
  | .own d :: as, [], 0, s, h, n => by cases h; exact absurd rfl n
  | .own d :: as, [], j + 1, s, h, n => by
    obtain ⟨z, _⟩ := outs_get (as := as) (ρ := []) (j := j) h n
    simp at z
  | .un :: as, [], 0, s, h, n => by cases h; exact absurd rfl n
  | .un :: as, [], j + 1, s, h, n => by
    obtain ⟨z, _⟩ := outs_get (as := as) (ρ := []) (j := j) h n
    simp at z
  | .val _ :: as, [], 0, s, h, n => by cases h; exact absurd rfl n
  | .val _ :: as, [], j + 1, s, h, n => by
    obtain ⟨z, _⟩ := outs_get (as := as) (ρ := []) (j := j) h n
    simp at z
theorem lent_at {B : List Nat} : ∀ {as : En} {i j : Nat} {d : D}, lent B i as = true → as[j]? = some (.own d) → i + j ∈ B
  | [], _, j, d, _, h => by simp at h
  | s :: as, i, 0, d, hl, h => by
    have h : some s = some (.own d) := h
    cases h
    have hl : (decide (i ∈ B) && lent B (i + 1) as) = true := hl
    rw [Bool.and_eq_true] at hl
    exact of_decide_eq_true hl.1
  | s :: as, i, j + 1, d, hl, h => by
    have h2 : lent B (i + 1) as = true := by
      cases s with
      | own _ =>
        have hl : (decide (i ∈ B) && lent B (i + 1) as) = true := hl
        rw [Bool.and_eq_true] at hl
        exact hl.2
      | un => exact hl
      | val _ => exact hl
    have := lent_at (as := as) (j := j) h2 h
    rw [show i + (j + 1) = i + 1 + j by omega]
    exact this
theorem pad_get {as : En} {m j : Nat} {s : Slot} (h : (as ++ List.replicate m Slot.un)[j]? = some s) (n : s ≠ .un) : as[j]? = some s := by
  by_cases hj : j < as.length
  · rw [List.getElem?_append_left hj] at h; exact h
  · rw [List.getElem?_append_right (by omega), List.getElem?_replicate] at h
    split at h
    · cases h; exact absurd rfl n
    · cases h
theorem start_get {N : List Str} {vs : List V} {j : Nat} (hj : j < vs.length) : (start N vs)[j]? = (vs.map some)[j]? := by
  unfold L2.start
  rw [List.getElem?_append_left (by rw [List.length_map]; exact hj)]
section
variable {P' : Program} {w : World} {K : PySem.W.Frag} {mg : Str → Option Value} {base : Heap} {CX : CXT} {T : List (Addr × Str)}
theorem okGX {x qual : Str} {st : Stmt} {f : Addr} {fd : FuncData} {N ps : List Str} {k : Nat} {sp : Sp}
    (F : Fun K x qual st f fd) (S : FnScope N ps (defScope st))
    (many : ∀ vs H Q E, sp vs H Q E → vs.length = ps.length)
    (hb : ∀ (cdv : Value) (A : Around) (fr : List Env) (s : Shared) (H : Hp) (vs : List V) (Q : VK) (E : XK),
      A.guards = some [] →
      Room k (A.deeper (envOfC qual (defScope st) s.heap.objs.size f cdv)) → sp vs H Q E →
      ∃ t, PSs (cxOf CX P' w K mg base N qual (defScope st) f cdv A fr s H E) (defBody st) t ∧
        t { nx := fun _ H' => Q .non H', rt := Q } (start N vs) H) :
    FnG P' w K mg base CX (k + 1) f fd ps sp := by
  obtain ⟨oc, od, kV, doc, pm, an, cdv, ct, osl, rfl, lk, hcd⟩ := F.ex
  refine ⟨many, ?_⟩
  intro A fr s H ar us vs Q E hg hr e0 hbd rv hsp
  have kin : K.In s.heap :=
    e0.mod.kin.keeps fun b o e => (e0.bs b o e).1
  have nol : s.heap.NoLimit :=
    e0.mod.nolimit.keeps fun b o e => (e0.bs b o e).1
  refine codeAny_call_function hr.depth (kin _ _ lk) rfl S.co S.gen rfl
    (PySem.W.codeRec_of kin hcd) (hbd _ _ _ _ ?_)
  refine wpAny_newFunctionEnv_cells S.kind (fun y hy => ?_) fun env he s1 ic => ?_
  · obtain ⟨n, v⟩ := y
    rcases S.par n (List.of_mem_zip hy).1 with q | q
    · exact Or.inl q
    · exact Or.inr ⟨q, PySem.W.cellsFrom_some _ _ _ (Or.inl q)⟩
  · subst he
    refine ⟨nol.keeps ic.toInCall.keep, codeAny_func ?_⟩
    obtain ⟨t, ht, hq⟩ := hb cdv A fr s H vs Q E hg (hr.deeper _) hsp
    have I : Inv (cxOf CX P' w K mg base N qual (defScope st) f cdv A fr s H E) [] (start N vs) H s1 :=
      inv_start S hr.hd e0 (many _ _ _ _ hsp) rv ic
    refine wpAny_mono (ht.run [] s1 (start N vs) H _ I hq) (fun fl s2 hs => ?_) (fun e s2 hs => hs)
    cases fl with
    | brk => exact hs.elim fun _ h => h.elim fun _ h => h.2.elim
    | cont => exact hs.elim fun _ h => h.elim fun _ h => h.2.elim
    | ret u =>
      obtain ⟨v, σ2, H2, J, r2, q2⟩ := hs
      exact ⟨v, H2, J.os, J.bare, J.base, J.hok, r2, q2⟩
    | next =>
      obtain ⟨σ2, H2, J, q2⟩ := hs
      exact ⟨V.non, H2, J.os, J.bare, J.base, J.hok, rfl, q2⟩
theorem fn_enter {N : List Str} {B : List Nat} {n : Nat} {ok : Addr → Prop} {as : En} {vs : List V} {H : Hp} (hn : vs.length = n) (hN : n ≤ N.length) (w : Wf K ⟨H, List.range n, T⟩ ok as (vs.map some) H) (hl : lent B 0 as = true) :
    Wf K ⟨H, B, T⟩ ok (as ++ List.replicate (N.length - as.length) .un) (start N vs) H ∧ ∀ a, wrs (as ++ List.replicate (N.length - as.length) .un) (start N vs) a ↔ wrs as (vs.map some) a := by
  have la : as.length = vs.length := by have := w.len; rw [List.length_map] at this; exact this.symm
  have lt : ∀ {j : Nat} {s : Slot}, as[j]? = some s → j < vs.length := fun h => by rw [← la]; exact (List.getElem?_eq_some_iff.mp h).1
  refine ⟨⟨?_, w.fc, w.h0, fun i d h => ?_, fun i d h => ?_, fun i j d e q h1 h2 e1 e2 => ?_, w.tb⟩, fun a => ⟨fun h => ?_, fun h => ?_⟩⟩
  · unfold L2.start
    rw [List.length_append, List.length_map, List.length_replicate, List.length_append, List.length_replicate, la]
  · have h := pad_get h (fun z => by cases z)
    rw [start_get (lt h)]
    exact w.val i d h
  · have h := pad_get h (fun z => by cases z)
    rw [start_get (lt h)]
    obtain ⟨q, e, o, nk, _⟩ := w.own i d h
    have := lent_at hl h
    rw [Nat.zero_add] at this
    exact ⟨q, e, o, nk, .inl this⟩
  · have h1 := pad_get h1 (fun z => by cases z)
    have h2 := pad_get h2 (fun z => by cases z)
    rw [start_get (lt h1)] at e1
    rw [start_get (lt h2)] at e2
    exact w.apart i j d e q h1 h2 e1 e2
  · obtain ⟨i, d, h1, h2⟩ := h
    have h1 := pad_get h1 (fun z => by cases z)
    rw [start_get (lt h1)] at h2
    exact ⟨i, d, h1, h2⟩
  · obtain ⟨i, d, h1, h2⟩ := h
    exact ⟨i, d, by rw [List.getElem?_append_left (by rw [la]; exact lt h1)]; exact h1, by rw [start_get (lt h1)]; exact h2⟩
theorem fn_leave {N : List Str} {B : List Nat} {n : Nat} {ok ok' : Addr → Prop} {as ρ' : En} {vs : List V} {H H' : Hp} {σ' : L2.St} (hn : vs.length = n) (w : Wf K ⟨H, List.range n, T⟩ ok as (vs.map some) H) (hl : lent B 0 as = true)
    (hw : ∀ a, wrs (as ++ List.replicate (N.length - as.length) .un) (start N vs) a ↔ wrs as (vs.map some) a)
    (w' : Wf K ⟨H, B, T⟩ ok' ρ' σ' H') (s : Sy ⟨H, B, T⟩ (start N vs) (as ++ List.replicate (N.length - as.length) .un) ok H σ' ρ' ok' H') :
    Wf K ⟨H, List.range n, T⟩ ok' (outs as ρ') (vs.map some) H' ∧ Sx (vs.map some) as ok H (outs as ρ') ok' H' ∧ (∀ (j : Nat) (d : D), (outs as ρ')[j]? = some (.own d) → ρ'[j]? = some (.own d) ∧ σ'[j]? = (vs.map some)[j]?) := by
  have la : as.length = vs.length := by have := w.len; rw [List.length_map] at this; exact this.symm
  have og : ∀ {j : Nat} {s : Slot}, (outs as ρ')[j]? = some s → s ≠ .un → ρ'[j]? = some s ∧ σ'[j]? = (vs.map some)[j]? ∧ j < n ∧ ∃ d, as[j]? = some (.own d) := fun {j s'} h ns => by
    obtain ⟨h1, d, h2⟩ := outs_get h ns
    have hj : j < vs.length := by rw [← la]; exact (List.getElem?_eq_some_iff.mp h2).1
    have hB := lent_at hl h2
    rw [Nat.zero_add] at hB
    exact ⟨h1, by rw [s.bor j hB, start_get hj], by omega, d, h2⟩
  refine ⟨⟨by rw [outs_length, la, List.length_map], w'.fc, w'.h0, fun i d h => ?_, fun i d h => ?_, fun i j d e q h1 h2 e1 e2 => ?_, w'.tb⟩, ⟨s.fr, fun a o ha na => s.keep a o ha fun z => na ((hw a).mp z), fun a ha => ?_, fun a o ha ka => (s.grow a o ha ka).imp id (hw a).mp⟩, fun j d h => ?_⟩
  · obtain ⟨h1, h2, _⟩ := og h (fun z => by cases z)
    rw [← h2]
    exact w'.val i d h1
  · obtain ⟨h1, h2, h3, _⟩ := og h (fun z => by cases z)
    obtain ⟨q, e, o, nk, _⟩ := w'.own i d h1
    exact ⟨q, by rw [← h2]; exact e, o, nk, .inl (List.mem_range.mpr h3)⟩
  · obtain ⟨h3, h4, _⟩ := og h1 (fun z => by cases z)
    obtain ⟨h5, h6, _⟩ := og h2 (fun z => by cases z)
    exact w'.apart i j d e q h3 h5 (by rw [h4]; exact e1) (by rw [h6]; exact e2)
  · obtain ⟨j, d, h1, h2⟩ := ha
    obtain ⟨_, _, _, d', h4⟩ := og h1 (fun z => by cases z)
    exact ⟨j, d', h4, h2⟩
  · obtain ⟨h1, h2, _⟩ := og h (fun z => by cases z)
    exact ⟨h1, h2⟩
theorem fn_pure {x qual : Str} {st : Stmt} {f : Addr} {fd : FuncData} {N ps : List Str} {k : Nat} {B : List Nat} {body : S} (F : Fun K x qual st f fd) (S : FnScope N ps (defScope st))
    (hb : ∀ (cdv : Value) (A : Around) (fr : List Env) (s : Shared) (H : Hp) (E : XK), A.guards = some [] → Room k (A.deeper (envOfC qual (defScope st) s.heap.objs.size f cdv)) →
      ESs (cxOf CX P' w K mg base N qual (defScope st) f cdv A fr s H E) ⟨H, B, T⟩ (fun _ => E) (defBody st) body) :
    FnG P' w K mg base CX (k + 1) f fd ps (spP K T ps.length (fnP N.length B body)) := by
  have hpl : ps.length ≤ N.length := by have := congrArg List.length S.pre; rw [List.length_take] at this; omega
  refine okGX F S (fun vs H Q E h => ?_) fun cdv A fr s H vs Q E hg hr hsp => ⟨_, hb cdv A fr s H E hg hr, ?_⟩
  · obtain ⟨ok, as, hl, _⟩ := h
    exact hl
  · obtain ⟨ok, as, hn, w0, h⟩ := hsp
    unfold fnP at h
    split at h
    · rename_i hl
      obtain ⟨w1, hw⟩ := fn_enter (N := N) hn hpl w0 hl
      refine ⟨ok, _, w1, ?_⟩
      have la : as.length = vs.length := by have := w0.len; rw [List.length_map] at this; exact this.symm
      cases eb : body (as ++ List.replicate (N.length - as.length) .un) with
      | none => rw [eb] at h; exact h
      | some fl =>
        rw [eb] at h
        cases fl with
        | nx ρ' =>
          intro σ' H' ok' w' s'
          obtain ⟨w2, s2, _⟩ := fn_leave hn w0 hl hw w' s'
          exact h .non H' ok' w2 s2 .non
        | rt r ρ' =>
          intro v σ' H' ok' w' s' r'
          obtain ⟨w2, s2, hs⟩ := fn_leave hn w0 hl hw w' s'
          refine h v H' ok' w2 s2 ?_
          cases r with
          | val d => exact r'
          | own d =>
            obtain ⟨q, e, o, nk, n0, np⟩ := r'
            refine ⟨q, e, o, nk, n0, fun j e' hj z => ?_⟩
            obtain ⟨h1, h2⟩ := hs j e' hj
            exact np j e' h1 (by rw [h2]; exact z)
        | bk ρ' => exact h.elim
        | ct ρ' => exact h.elim
        | er c ns ds ρ' =>
          intro dx fs σ' H' ok' w' s' e1 e2 e3
          obtain ⟨w2, s2, _⟩ := fn_leave hn w0 hl hw w' s'
          exact h dx fs H' ok' w2 s2 e1 e2 e3
    · exact h.elim
end
/-! ### calls -/
section
variable {X : Cx} {g : Gx} {E : Wx} {CX : CXT} {k : Nat} {f C : Addr} {fd : FuncData} {ps : List Str} {sp : Sp} {x m : Str} {p pos apos : Pos} {e o : Expr} {es : List Expr} {ta : TE} {t : TA}
theorem runGS {pins : List (Addr × Obj)} {σ : L2.St} {H : Hp} {s : Shared} {Q : VK} {us : List Value} {vs : List V} (F : FnG X.prog X.w X.K X.mg X.base CX k f fd ps sp) (hgd : X.A.guards = some []) (hr : Room k X.A) (hb : Binds X.K fd ps []) (hx : PassesAt CX X σ (E σ))
    (I : Inv X pins σ H s) (r : Vals vs us) (h : sp vs H Q (E σ)) : wpAny (model X.prog X.w) X.A (call (.ref f) us) (L2.EP X pins σ Q) X.xe s := by
  have hl : us.length = ps.length := by rw [← r.length]; exact F.many _ _ _ _ h
  have b := hb s us I.kIn (by rw [List.append_nil]; exact hl)
  rw [List.append_nil] at b
  refine wpAny_call (codeAny_mono (F.goes X.A X.stack s H ⟨us, []⟩ us vs Q (E σ) hgd hr I.env0 b r h) fun r s' hq => ?_)
  cases r with
  | error e => exact hx pins H s e s' I hq
  | ok fl =>
    cases fl with
    | ret u => exact I.after hq
    | next => exact False.elim hq
    | brk => exact False.elim hq
    | cont => exact False.elim hq
theorem pe_callGS (F : FnG X.prog X.w X.K X.mg X.base CX k f fd ps sp) (hgd : X.A.guards = some []) (hr : Room k X.A) (hg : Gl X x) (hm : X.mg x = some (.ref f)) (hk : PySem.W.keepIn X.K (.ref f) = true) (hb : Binds X.K fd ps []) (hx : ∀ σ, PassesAt CX X σ (E σ))
    (ha : PA X (e :: es) t) (hdb : (x == ("__debug__" : Str)) = false := by decide) (he : starEach (e :: es) X.env = (false, eval e X.env) :: starEach es X.env := by rfl) (hpl : (backTo pos (starEach es X.env)).any (·.1) = false := by rfl) :
    PE X (.Call (.Name x p) (e :: es) [] pos) (tCallS sp E t) := by
  refine ⟨fun pins s σ H Q I h => ?_⟩
  refine wpAny_Call_Name_kw (ld_glob I hg hm ?_ hdb)
  refine PySem.W.callWith_K (h₀ := X.base) I.ok.mod.kin hk (thn (ha.run pos pins s σ H _ I h) fun us s1 ⟨vs, H1, I1, r, q⟩ => ⟨I1.kIn, ?_⟩) he hpl
  exact runGS F hgd hr hb (hx σ) I1 r q
def tMethS (C : Addr) (m : Str) (sp : Sp) (E : Wx) (ta : TE) (t : TA) : TE := fun σ H Q => ta σ H fun x H1 => ∃ a dx fs, x = .ref a ∧ H1 a = some (.ins C dx fs) ∧ fs.lookup m = none ∧ t σ H1 fun vs H2 => sp (x :: vs) H2 Q (E σ)
theorem pe_methGS {pl : Sem Bool} (he : PE X o ta) (c : Cls X.K C) (hm : Meth X.K C m f) (F : FnG X.prog X.w X.K X.mg X.base CX k f fd ps sp) (hgd : X.A.guards = some []) (hr : Room k X.A) (hb : Binds X.K fd ps []) (hx : ∀ σ, PassesAt CX X σ (E σ)) (ha : PA X (e :: es) t)
    (hst : starEach (e :: es) X.env = (false, eval e X.env) :: starEach es X.env := by rfl) (hpl : (backTo pos (starEach es X.env)).any (·.1) = false := by rfl)
    (ht : eval (.Call (.Attribute o m apos) (e :: es) [] pos) X.env = (do
      let ov ← eval o X.env
      standAt apos.atName
      let (f, first) ← holding [ov] (getMethod ov m pl)
      callWith pos f first (backTo pos (starEach (e :: es) X.env)) (backToKw pos (keywordEach [] X.env))) := by rfl) :
    PE X (.Call (.Attribute o m apos) (e :: es) [] pos) (tMethS C m sp E ta t) := by
  refine ⟨fun pins s σ H Q I h => ?_⟩
  refine PySem.W.methodCall_KW (pl := pl) (thn (he.run pins s σ H _ I h) fun u s1 ⟨x, H1, I1, rx, a, dx, fs, ex, ea, l, q⟩ => ?_) ht
  subst ex
  obtain rfl : u = Value.ref a := rx
  refine getmeth_ok I1 ea c hm l ?_
  refine PySem.W.callWith_K (first := [.ref a]) (h₀ := X.base) I.ok.mod.kin hm.kp (thn (ha.run pos pins s1 σ H1 _ I1 q) fun us s2 ⟨vs, H2, I2, r, q2⟩ => ⟨I2.kIn, ?_⟩) hst hpl
  exact runGS (us := .ref a :: us) (vs := .ref a :: vs) F hgd hr hb (hx σ) I2 (.cons rfl r) q2
theorem pe_methGS0 {pl : Sem Bool} (he : PE X o ta) (c : Cls X.K C) (hm : Meth X.K C m f) (F : FnG X.prog X.w X.K X.mg X.base CX k f fd ps sp) (hgd : X.A.guards = some []) (hr : Room k X.A) (hb : Binds X.K fd ps []) (hx : ∀ σ, PassesAt CX X σ (E σ))
    (ht : eval (.Call (.Attribute o m apos) [] [] pos) X.env = (do
      let ov ← eval o X.env
      standAt apos.atName
      let (f, first) ← holding [ov] (getMethod ov m pl)
      callWith pos f first (backTo pos (starEach [] X.env)) (backToKw pos (keywordEach [] X.env))) := by rfl) :
    PE X (.Call (.Attribute o m apos) [] [] pos) (tMethS C m sp E ta tNil) := by
  refine ⟨fun pins s σ H Q I h => ?_⟩
  refine PySem.W.methodCall_KW (pl := pl) (thn (he.run pins s σ H _ I h) fun u s1 ⟨x, H1, I1, rx, a, dx, fs, ex, ea, l, q⟩ => ?_) ht
  subst ex
  obtain rfl : u = Value.ref a := rx
  refine getmeth_ok I1 ea c hm l ?_
  exact PySem.W.callWith_K0 (first := [.ref a]) I1.kIn hm.kp (runGS (us := [.ref a]) (vs := [.ref a]) F hgd hr hb (hx σ) I1 (.cons rfl .nil) q)
/-! ### all arguments values -/
@[reducible] def vals (ds : List D) : En := ds.map .val
def app (F : P R) (ds : List D) : P R := fun ρ => match F (vals ds) with
  | none => none
  | some (.ok r _) => some (.ok r ρ)
  | some (.er c ns es _) => some (.er c ns es ρ)
theorem vals_own {ds : List D} {j : Nat} {d : D} : (vals ds)[j]? ≠ some (.own d) := fun h => by
  unfold vals at h
  rw [List.getElem?_map] at h
  cases e : ds[j]? with
  | none => rw [e] at h; cases h
  | some x => rw [e] at h; cases h
theorem wf_vals {K : PySem.W.Frag} {ok : Addr → Prop} {H : Hp} {vs : List V} {ds : List D} {n : Nat} {T : List (Addr × Str)} (fc : ∀ a, H a = none → ok a) (tb : TbOk T ok H) (r : Reps K ok H vs ds) : Wf K ⟨H, List.range n, T⟩ ok (vals ds) (vs.map some) H :=
  ⟨by unfold vals; rw [List.length_map, List.length_map, r.length], fc, fun _ h => h, fun i d h => by
    unfold vals at h
    rw [List.getElem?_map] at h
    cases e : ds[i]? with
    | none => rw [e] at h; cases h
    | some x =>
      rw [e] at h
      cases h
      obtain ⟨v, ev, rv⟩ := r.getD e
      exact ⟨v, by rw [List.getElem?_map, ev]; rfl, rv⟩, fun i d h => absurd h vals_own, fun i j d e q h => absurd h vals_own, tb⟩
theorem app_ok {K : PySem.W.Frag} {n : Nat} {F : P R} {ok : Addr → Prop} {ρ : En} {σ : L2.St} {H : Hp} {vs : List V} {ds : List D} {Q : VK} (w : Wf K g ok ρ σ H) (r : Reps K ok H vs ds) (hn : vs.length = n) (h : Rs K g E (relR K) σ ρ ok H (app F ds ρ) Q) : spP K g.T n F vs H Q (E σ) := by
  refine ⟨ok, vals ds, hn, wf_vals w.fc w.tb r, ?_⟩
  have nw : ∀ a, ¬ wrs (vals ds) (vs.map some) a := fun a ⟨i, d, h1, _⟩ => vals_own h1
  have up : ∀ {as' : En} {ok' : Addr → Prop} {H' : Hp}, (∀ a, H' a = none → ok' a) → TbOk g.T ok' H' → Sx (vs.map some) (vals ds) ok H as' ok' H' → Wf K g ok' ρ σ H' ∧ Sx σ ρ ok H ρ ok' H' := fun {as' ok' H'} fc tb s => by
    refine ⟨w.step s.fr fc tb fun i d q h1 h2 => ?_, ⟨s.fr, fun a o ha _ => s.keep a o ha (nw a), fun _ h => h, fun a o ha ka => (s.grow a o ha ka).elim .inl fun z => absurd z (nw a)⟩⟩
    obtain ⟨q', e', o, nk, _⟩ := w.own i d h1
    rw [h2] at e'
    cases e'
    obtain ⟨u, hu, _⟩ := o.there
    refine ⟨by rw [hu]; exact (s.keep q u hu (nw q)).same nk (own_tbl o hu), fun z => ?_⟩
    rcases s.grow q u hu z with z | z
    · exact nk z
    · exact nw q z
  unfold app at h
  cases e : F (vals ds) with
  | none => rw [e] at h; exact h
  | some y =>
    rw [e] at h
    cases y with
    | ok r' as' =>
      intro v H' ok' w' s' r1
      obtain ⟨w2, s2⟩ := up w'.fc w'.tb s'
      refine h v H' ok' w2 s2 ?_
      cases r' with
      | val d => exact r1
      | own d =>
        obtain ⟨q, e1, o1, nk, n0, _⟩ := r1
        refine ⟨q, e1, o1, nk, n0, fun j d' hj z => ?_⟩
        obtain ⟨q', e2, o2, _⟩ := w.own j d' hj
        rw [z] at e2
        cases e2
        obtain ⟨u, hu, _⟩ := o2.there
        rw [n0] at hu
        cases hu
    | er c ns es as' =>
      intro dx fs H' ok' w' s' e1 e2 e3
      obtain ⟨w2, s2⟩ := up w'.fc w'.tb s'
      exact h dx fs H' ok' w2 s2 e1 e2 e3
theorem er_call {n : Nat} {F : P R} {fr : P (List D)} (G : FnG X.prog X.w X.K X.mg X.base CX k f fd ps (spP X.K g.T n F)) (hn : ps.length = n) (hgd : X.A.guards = some []) (hr : Room k X.A) (hg : Gl X x) (hm : X.mg x = some (.ref f)) (hk : PySem.W.keepIn X.K (.ref f) = true) (hb : Binds X.K fd ps []) (hx : ∀ σ, PassesAt CX X σ (E σ))
    (ha : EA X g E (e :: es) fr) (hdb : (x == ("__debug__" : Str)) = false := by decide) (he : starEach (e :: es) X.env = (false, eval e X.env) :: starEach es X.env := by rfl) (hpl : (backTo pos (starEach es X.env)).any (·.1) = false := by rfl) :
    ER X g E (.Call (.Name x p) (e :: es) [] pos) (bnd fr fun ds => if ds.length = n then app F ds else fun _ => none) := by
  refine PE_imp (pe_callGS G hgd hr hg hm hk hb hx ha hdb he hpl) fun σ H Q hq => ?_
  obtain ⟨ok, ρ, w, h⟩ := hq
  refine ⟨ok, ρ, w, (Rs.bnd (RA := relA X.K) h).mono fun vs H1 hq => ?_⟩
  obtain ⟨ok1, ρ1, ds, w1, s1, r1, h1⟩ := hq
  by_cases hd : ds.length = n
  · rw [if_pos hd] at h1
    exact app_ok w1 r1 (by rw [Reps.length r1]; exact hd) h1
  · rw [if_neg hd] at h1
    exact h1.elim
theorem lookup_none {K : PySem.W.Frag} {ok : Addr → Prop} {H : Hp} (m : Str) {fs : List (Str × V)} (h : m ∉ fs.map (·.1)) : fs.lookup m = none := by
  induction fs with
  | nil => rfl
  | cons p r ih =>
    obtain ⟨k, v⟩ := p
    rw [List.lookup_cons]
    have e : (m == k) = false := beq_eq_false_iff_ne.mpr fun z => h (by rw [z]; exact List.mem_cons_self ..)
    rw [e]
    exact ih fun z => h (List.mem_cons_of_mem _ z)
def isObj (C : Addr) (m : Str) : D → Bool
  | .obj C' ns _ => decide (C' = C) && decide (m ∉ ns)
  | _ => false
theorem isObj_rep {K : PySem.W.Frag} {ok : Addr → Prop} {H : Hp} {v : V} {d : D} (r : Rep K ok H v d) (h : isObj C m d = true) : ∃ a dx fs, v = .ref a ∧ H a = some (.ins C dx fs) ∧ fs.lookup m = none := by
  cases r with
  | obj ho ko rs =>
    have h : (decide (_ = C) && decide (m ∉ _)) = true := h
    rw [Bool.and_eq_true] at h
    have e := of_decide_eq_true h.1
    subst e
    exact ⟨_, _, _, rfl, ho, lookup_none (K := K) (ok := ok) (H := H) m (of_decide_eq_true h.2)⟩
  | _ => cases h
theorem er_meth {n : Nat} {F : P R} {fo : P D} {fr : P (List D)} {pl : Sem Bool} (ho : EV X g E o fo) (c : Cls X.K C) (hm : Meth X.K C m f) (G : FnG X.prog X.w X.K X.mg X.base CX k f fd ps (spP X.K g.T n F)) (hgd : X.A.guards = some []) (hr : Room k X.A) (hb : Binds X.K fd ps []) (hx : ∀ σ, PassesAt CX X σ (E σ)) (ha : EA X g E (e :: es) fr)
    (hst : starEach (e :: es) X.env = (false, eval e X.env) :: starEach es X.env := by rfl) (hpl : (backTo pos (starEach es X.env)).any (·.1) = false := by rfl)
    (ht : eval (.Call (.Attribute o m apos) (e :: es) [] pos) X.env = (do
      let ov ← eval o X.env
      standAt apos.atName
      let (f, first) ← holding [ov] (getMethod ov m pl)
      callWith pos f first (backTo pos (starEach (e :: es) X.env)) (backToKw pos (keywordEach [] X.env))) := by rfl) :
    ER X g E (.Call (.Attribute o m apos) (e :: es) [] pos) (bnd fo fun d => if isObj C m d = true then bnd fr fun ds => if ds.length + 1 = n then app F (d :: ds) else fun _ => none else fun _ => none) := by
  refine PE_imp (pe_methGS ho c hm G hgd hr hb hx ha hst hpl ht) fun σ H Q hq => ?_
  obtain ⟨ok, ρ, w, h⟩ := hq
  refine ⟨ok, ρ, w, (Rs.bnd (RA := relD X.K) h).mono fun v H1 hq => ?_⟩
  obtain ⟨ok1, ρ1, d, w1, s1, r1, h1⟩ := hq
  by_cases hi : isObj C m d = true
  · rw [if_pos hi] at h1
    obtain ⟨a, dx, fs, rfl, ea, el⟩ := isObj_rep r1 hi
    refine ⟨a, dx, fs, rfl, ea, el, ok1, ρ1, w1, (Rs.bnd (RA := relA X.K) h1).mono fun vs H2 hq => ?_⟩
    obtain ⟨ok2, ρ2, ds, w2, s2, r2, h2⟩ := hq
    by_cases hd : ds.length + 1 = n
    · rw [if_pos hd] at h2
      exact app_ok w2 (.cons (Rep.fr s2.fr r1) r2) (by rw [List.length_cons, Reps.length r2]; exact hd) h2
    · rw [if_neg hd] at h2
      exact h2.elim
  · rw [if_neg hi] at h1
    exact h1.elim
theorem er_meth0 {n : Nat} {F : P R} {fo : P D} {pl : Sem Bool} (ho : EV X g E o fo) (c : Cls X.K C) (hm : Meth X.K C m f) (G : FnG X.prog X.w X.K X.mg X.base CX k f fd ps (spP X.K g.T n F)) (hgd : X.A.guards = some []) (hr : Room k X.A) (hb : Binds X.K fd ps []) (hx : ∀ σ, PassesAt CX X σ (E σ))
    (ht : eval (.Call (.Attribute o m apos) [] [] pos) X.env = (do
      let ov ← eval o X.env
      standAt apos.atName
      let (f, first) ← holding [ov] (getMethod ov m pl)
      callWith pos f first (backTo pos (starEach [] X.env)) (backToKw pos (keywordEach [] X.env))) := by rfl) :
    ER X g E (.Call (.Attribute o m apos) [] [] pos) (bnd fo fun d => if isObj C m d = true ∧ 1 = n then app F [d] else fun _ => none) := by
  refine PE_imp (pe_methGS0 ho c hm G hgd hr hb hx ht) fun σ H Q hq => ?_
  obtain ⟨ok, ρ, w, h⟩ := hq
  refine ⟨ok, ρ, w, (Rs.bnd (RA := relD X.K) h).mono fun v H1 hq => ?_⟩
  obtain ⟨ok1, ρ1, d, w1, s1, r1, h1⟩ := hq
  by_cases hi : isObj C m d = true ∧ 1 = n
  · rw [if_pos hi] at h1
    obtain ⟨a, dx, fs, rfl, ea, el⟩ := isObj_rep r1 hi.1
    exact ⟨a, dx, fs, rfl, ea, el, app_ok w1 (.cons r1 .nil) (by rw [List.length_singleton]; exact hi.2) h1⟩
  · rw [if_neg hi] at h1
    exact h1.elim
end
end Pu
/-! C.m(e, ..), m a plain def of the class C: the def itself is called. -/
namespace Kv
open PySem PySem.Spec PyProof.Rows L2
section
variable {X : Cx} {CX : CXT} {k : Nat} {f C : Addr} {fd : FuncData} {ps : List Str} {sp : Sp} {dvs : List V} {ds : List Value} {E : XK} {m : Str} {apos pos : Pos} {o e : Expr} {es : List Expr} {ta : TE} {t : TA} {mc : Value}
end
end Kv
/-! A datum of any kind against a text; a tuple of such against a tuple of texts. -/
namespace Kv
open PySem PySem.Spec PyProof.Rows L2
section
open PySem.SeqAt PySem.MeetsSeq AutoSeq1
variable {A : Around} {s : Shared}
end
section
variable {X : Cx}
end
end Kv
/-! C(e, ..) that may raise, in a try; isinstance of a caught exception that has fields. -/
namespace Kv
open PySem PySem.Spec PyProof.Rows L2
section
variable {X : Cx} {CX : CXT} {k : Nat} {f C : Addr} {fd : FuncData} {ps : List Str} {sp : Sp} {dvs : List V} {ds : List Value} {E : L2.St → XK} {x : Str} {p pos : Pos} {e : Expr} {es : List Expr} {t : TA}
end
/-! isinstance of a caught exception with its dict -/
section
variable {X : Cx} {a D : Addr} {oe : Obj} {pn : List (Addr × Obj)} {cls : Value} {d : Option Addr}
end
end Kv
/-! What isinstance says of data; data that fit, part by part. -/
namespace Lw
open PySem PySem.Spec PyProof.Rows L2 Kv
/-! what isinstance says -/
def isStr : PyData → Bool
  | .str _ => true
  | _ => false
theorem ShO.mono {ok ok' : Addr → Prop} {H : Hp} (h : ∀ a, ok a → ok' a) : ∀ {v : V} {d : PyData}, ShO ok H v d → ShO ok' H v d := by
  intro v d s
  exact ShO.rec (motive_1 := fun v d _ => ShO ok' H v d) (motive_2 := fun vs ds _ => ShOs ok' H vs ds) .non .bl .int .str
    (fun h1 h2 _ ih => .lst h1 (h _ h2) ih) (fun h1 _ ih => .tup h1 ih) (fun h1 _ _ i1 i2 => .dict h1 i1 i2) .nil (fun _ _ i1 i2 => .cons i1 i2) s
end Lw
/-! Built-ins. -/
namespace Pu
open PySem PySem.Spec PyProof.Rows L2 Kv
section
variable {X : Cx} {g : Gx} {E : Wx} {a b c e : Expr} {x : Str} {p pos : Pos} {fa fb fc : P D}
def Op1 (K : PySem.W.Frag) (r : List V → Hp → VK → Prop) (op : D → Option D) : Prop := ∀ (g : Gx) (ρ : En) (σ : L2.St) (ok : Addr → Prop) (H : Hp) (v : V) (x z : D) (Q : VK), Wf K g ok ρ σ H → Pk K ok H v x → op x = some z → Can K g ρ σ ok H z Q → r [v] H Q
theorem tX_op1 {r : List V → Hp → VK → Prop} {op : D → Option D} (h1 : Op1 X.K r op) {σ : L2.St} {H : Hp} {Q : VK} (hq : tX X.K g E (relD X.K) (bnd fa fun x => lft (op x)) σ H Q) : tCB r (tCons (tX X.K g E (relP X.K) fa) tNil) σ H Q := by
  obtain ⟨ok, ρ, w, h⟩ := hq
  refine ⟨ok, ρ, w, (Rs.bnd (RA := relP X.K) h).mono fun v1 H1 hq => ?_⟩
  obtain ⟨ok1, ρ1, d, w1, f1, r1, h2⟩ := hq
  unfold lft at h2
  cases e : op d with
  | none => rw [e] at h2; exact h2.elim
  | some z => rw [e] at h2; exact h1 g ρ1 σ ok1 H1 v1 d z Q w1 r1 e h2
theorem ev_call1 {id : String} {r : List V → Hp → VK → Prop} {op : D → Option D} (hc : CallR X (.builtin id) r) (h1 : Op1 X.K r op) (hg : Gl X x) (hm : X.mg x = none) (hv : bootBuiltins x = some (.builtin id)) (ha : EP X g E a fa) (hn : x ≠ "__name__" := by decide) (hdb : (x == ("__debug__" : Str)) = false := by decide)
    (hs : starEach [a] X.env = [(false, eval a X.env)] := by rfl) : EV X g E (.Call (.Name x p) [a] [] pos) (bnd fa fun x => lft (op x)) :=
  PE_imp (pe_callB hc hg hm hv (pa_cons ha pa_nil hs) hn hdb hs rfl) fun σ H Q hq => tX_op1 h1 hq
theorem ev_callT1 {T : String} {r : List V → Hp → VK → Prop} {op : D → Option D} (hc : CallR X (.type T) r) (h1 : Op1 X.K r op) (hg : Gl X x) (hm : X.mg x = none) (hv : bootBuiltins x = some (.type T)) (ha : EP X g E a fa) (hn : x ≠ "__name__" := by decide) (hdb : (x == ("__debug__" : Str)) = false := by decide)
    (hs : starEach [a] X.env = [(false, eval a X.env)] := by rfl) : EV X g E (.Call (.Name x p) [a] [] pos) (bnd fa fun x => lft (op x)) :=
  PE_imp (pe_callTy hc hg hm hv (pa_cons ha pa_nil hs) hn hdb hs rfl) fun σ H Q hq => tX_op1 h1 hq
theorem CallR.or {f : Value} {r r' : List V → Hp → VK → Prop} (h : CallR X f r) (h' : CallR X f r') : CallR X f (fun xs H Q => r xs H Q ∨ r' xs H Q) := by
  intro pins s σ H xs us Q I rv q
  rcases q with q | q
  · exact h pins s σ H xs us Q I rv q
  · exact h' pins s σ H xs us Q I rv q
/-! ### len -/
def lenD : D → Option D
  | .str z => if z.length ≤ sizeLine then some (.int z.length) else none
  | .dic ks _ => some (.int ks.length)
  | .dct ks _ => some (.int ks.length)
  | d => (seqD d).map fun xs => .int xs.length
def rLen (K : PySem.W.Frag) : List V → Hp → VK → Prop := fun xs H Q => (∃ x n, xs = [x] ∧ LenV K x H n ∧ Q (.int n) H) ∨ (∃ a kvs, xs = [V.ref a] ∧ Rd H a (.dK kvs) ∧ Q (.int kvs.length) H) ∨ (∃ a kvs, xs = [V.ref a] ∧ Rd H a (.dT kvs) ∧ Q (.int kvs.length) H)
theorem len_dK : CallR X (.builtin "len") (fun xs H Q => ∃ a kvs, xs = [V.ref a] ∧ Rd H a (.dK kvs) ∧ Q (.int kvs.length) H) := by
  intro pins s σ H xs us Q I rv ⟨a, kvs, ex, hd, hq⟩
  subst ex
  obtain ⟨u, rfl, z⟩ := vals1 rv
  cases z
  exact d_len I hd fun t _ J => ⟨.int kvs.length, H, J, ⟨t, rfl⟩, hq⟩
theorem len_dT : CallR X (.builtin "len") (fun xs H Q => ∃ a kvs, xs = [V.ref a] ∧ Rd H a (.dT kvs) ∧ Q (.int kvs.length) H) := by
  intro pins s σ H xs us Q I rv ⟨a, kvs, ex, hd, hq⟩
  subst ex
  obtain ⟨u, rfl, z⟩ := vals1 rv
  cases z
  obtain ⟨hz, hs, ys, hk, hdd⟩ := dt_rd I.hok hd
  have el : ys.length = kvs.length := (Paired.length hk).symm
  rw [sizeLine_eq] at hz
  refine call_len_dictH hs hdd (by omega) ?_
  rw [el]
  exact ⟨.int kvs.length, H, I.tok _, ⟨_, rfl⟩, hq⟩
theorem call_lenA : CallR X (.builtin "len") (rLen X.K) := CallR.or call_len (CallR.or len_dK len_dT)
theorem o1_len : Op1 X.K (rLen X.K) lenD := by
  intro g ρ σ ok H v x z Q w r e q
  have seq : ∀ xs, seqD x = some xs → z = .int xs.length → rLen X.K [v] H Q := fun xs es ez => by
    obtain ⟨a, vs, rfl, sq, rp⟩ := r.seq es
    refine .inl ⟨.ref a, vs.length, rfl, sq.imp (fun h => ⟨vs, h, rfl⟩) (fun h => ⟨vs, h, rfl⟩), ?_⟩
    subst ez
    rw [rp.length]
    exact q.at w (.int _)
  cases x with
  | str s =>
    have e : (if s.length ≤ sizeLine then some (D.int s.length) else none) = some z := e
    split at e
    · cases e
      rw [r.str]
      exact .inl ⟨.str s, s.length, rfl, ⟨by assumption, rfl⟩, q.at w (.int _)⟩
    · cases e
  | dic ks vs =>
    cases e
    obtain ⟨a, kvs, rfl, h1, rfl, rp⟩ := r.dic
    refine .inr (.inl ⟨a, kvs, rfl, h1, ?_⟩)
    rw [List.length_map] at q
    exact q.at w (.int _)
  | dct ks vs =>
    cases e
    obtain ⟨a, kvs, rfl, h1, rfl, rp⟩ := r.dct
    refine .inr (.inr ⟨a, kvs, rfl, h1, ?_⟩)
    rw [List.length_map] at q
    exact q.at w (.int _)
  | lst xs => cases e; exact seq xs rfl rfl
  | tup xs => cases e; exact seq xs rfl rfl
  | flst xs => cases e; exact seq xs rfl rfl
  | ftup xs => cases e; exact seq xs rfl rfl
  | _ => cases e
/-! ### all, any -/
def blsD : List D → Option (List Bool)
  | [] => some []
  | d :: ds => match asB d, blsD ds with
    | some b, some bs => some (b :: bs)
    | _, _ => none
theorem Reps.bls {K : PySem.W.Frag} {ok : Addr → Prop} {H : Hp} : ∀ {vs : List V} {ds : List D} {bs : List Bool}, Reps K ok H vs ds → blsD ds = some bs → vs = bs.map V.bl
  | _, _, _, .nil, h => by cases h; rfl
  | _, _, _, .cons (d := d) (ds := ds) r t, h => by
    unfold blsD at h
    cases r with
    | bl b =>
      cases e2 : blsD ds with
      | none => rw [e2] at h; cases h
      | some bs => rw [e2] at h; cases h; rw [t.bls e2]; rfl
    | _ => cases h
def allD (k : List Bool → Bool) : D → Option D
  | .lst xs => (blsD xs).map fun bs => .bl (k bs)
  | _ => none
theorem o1_all : Op1 X.K (rAll X.K) (allD fun bs => bs.all id) := by
  intro g ρ σ ok H v x z Q w r e q
  cases x with
  | lst xs =>
    obtain ⟨a, vs, rfl, h1, rp⟩ := r.lst
    have e : (blsD xs).map (fun bs => D.bl (bs.all id)) = some z := e
    cases eb : blsD xs with
    | none => rw [eb] at e; cases e
    | some bs =>
      rw [eb] at e
      cases e
      have ev := rp.bls eb
      subst ev
      exact ⟨a, bs, rfl, .inl (.inl h1), q.at w (.bl _)⟩
  | _ => cases e
theorem o1_any : Op1 X.K (rAny X.K) (allD fun bs => bs.any id) := by
  intro g ρ σ ok H v x z Q w r e q
  cases x with
  | lst xs =>
    obtain ⟨a, vs, rfl, h1, rp⟩ := r.lst
    have e : (blsD xs).map (fun bs => D.bl (bs.any id)) = some z := e
    cases eb : blsD xs with
    | none => rw [eb] at e; cases e
    | some bs =>
      rw [eb] at e
      cases e
      have ev := rp.bls eb
      subst ev
      exact ⟨a, bs, rfl, .inl (.inl h1), q.at w (.bl _)⟩
  | _ => cases e
/-! ### isinstance -/
def tyS : D → Option String
  | .non => some "NoneType"
  | .bl _ => some "bool"
  | .int _ => some "int"
  | .str _ => some "str"
  | .lst _ => some "list"
  | .flst _ => some "list"
  | .tup _ => some "tuple"
  | .ftup _ => some "tuple"
  | .dic _ _ => some "dict"
  | .dct _ _ => some "dict"
  | .obj _ _ _ => none
  | .exn _ _ _ _ _ => none
  | .opq _ => none
  | .typ _ => none
  | .lsta _ _ => none
def TyZ (K : PySem.W.Frag) (H : Hp) (v : V) (t : Value) : Prop := TyX K H v t ∨ ∃ a o kvs, v = .ref a ∧ H a = some (.frz o (.dT kvs)) ∧ t = .type "dict"
theorem call_isz : CallR X (.builtin "isinstance") (fun xs H Q => ∃ (v c : V) (t u : Value) (bb : Bool), xs = [v, c] ∧ ClsV c u ∧ TyZ X.K H v t ∧ PySem.W.kitOne X.K t u = some bb ∧ Q (.bl bb) H) := by
  intro pins s σ H xs us Q I rv ⟨v, c, t, u, bb, ex, hc, ty, hk, hq⟩
  rcases ty with ty | ⟨a, o, kvs, ev, ha, et⟩
  · exact call_isi pins s σ H xs us Q I rv ⟨v, c, t, u, bb, ex, hc, ty, hk, hq⟩
  · subst ex ev et
    obtain ⟨w1, w2, rfl, z1, z2⟩ := vals2 rv
    cases z1
    have e2 := hc.eq z2
    subst e2
    have there : ∃ ob, s.heap.get? a = some ob ∧ ob.cls = .type "dict" := by
      obtain ⟨_, _, _, _, ob, _, _, g1, g2, _⟩ := (show ObjOk X.prog X.w H s.heap a (.dT kvs) from Rd.ok (.inr ⟨o, ha⟩) I.hok)
      exact ⟨ob, g1, g2.1⟩
    exact PySem.W.kia_one PySem.W.kitx_dict I.kIn there hk (fun z => nomatch z) fun tk => ⟨.bl bb, H, I.tok tk, rfl, hq⟩
theorem Pk.ty {K : PySem.W.Frag} {ok : Addr → Prop} {H : Hp} {v : V} {d : D} {t : String} (r : Pk K ok H v d) (h : tyS d = some t) : TyZ K H v (.type t) := by
  rcases r with r | ⟨q, rfl, o⟩
  · cases r with
    | non => cases h; exact .inl (.base .non)
    | bl b => cases h; exact .inl (.base (.bl b))
    | int i => cases h; exact .inl (.base (.int i))
    | str x => cases h; exact .inl (.base (.str x))
    | lst h1 _ _ => cases h; exact .inl (.base (.lst h1))
    | lstF h1 _ =>
      cases h
      rcases h1 with ⟨o, h1⟩ | ⟨o, its, n, hk, hc, _⟩
      · exact .inl (.base (.frz h1))
      · exact .inl (.kList hk hc)
    | tupO h1 _ =>
      cases h
      rcases h1 with h1 | ⟨_, o, its, n, hk, hc, _⟩
      · exact .inl (.base (.tup h1))
      · exact .inl (.kTuple hk hc)
    | tupF h1 _ =>
      cases h
      rcases h1 with ⟨o, h1, _⟩ | ⟨o, its, n, hk, hc, _⟩
      · exact .inl (.fTuple h1)
      · exact .inl (.kTuple hk hc)
    | dic h1 _ =>
      cases h
      rcases h1 with ⟨h1, _⟩ | ⟨o, h1⟩
      · exact .inl (.base (.dK h1))
      · exact .inl (.fDict h1)
    | dct h1 _ =>
      cases h
      rcases h1 with ⟨h1, _⟩ | ⟨o, h1⟩
      · exact .inl (.base (.dT h1))
      · exact .inr ⟨_, o, _, rfl, h1, rfl⟩
    | obj _ _ _ => cases h
    | exn _ _ => cases h
    | opq _ => cases h
    | typ _ => cases h
    | lsta _ _ _ => cases h
  · cases d with
    | lst ds => cases h; obtain ⟨vs, h1, _⟩ := o; exact .inl (.base (.lst h1))
    | dic ks ds => cases h; obtain ⟨vs, h1, _⟩ := o; exact .inl (.base (.dK h1))
    | dct ks ds => cases h; obtain ⟨vs, h1, _⟩ := o; exact .inl (.base (.dT h1))
    | obj _ _ _ => cases h
    | lsta _ _ => cases h
    | _ => exact o.elim
def isi (T : String) (d : D) : Option D := (tyS d).bind fun t => (kitB t T).map D.bl
theorem ev_isi {T : String} {y : Str} {p2 : Pos} (hg : Gl X "isinstance") (hm : X.mg "isinstance" = none) (hgT : Gl X y) (hmT : X.mg y = none) (hvT : bootBuiltins y = some (.type T)) (ha : EP X g E a fa) (hn : y ≠ "__name__" := by decide) (hdb : (y == ("__debug__" : Str)) = false := by decide)
    (hs : starEach [a, .Name y p2] X.env = [(false, eval a X.env), (false, eval (.Name y p2) X.env)] := by rfl) (hs2 : starEach [.Name y p2] X.env = [(false, eval (.Name y p2) X.env)] := by rfl) :
    EV X g E (.Call (.Name "isinstance" p) [a, .Name y p2] [] pos) (bnd fa fun x => lft (isi T x)) := by
  refine PE_imp (pe_callB (x := "isinstance") call_isz hg hm (by decide +kernel) (pa_cons ha (pa_cons (pe_bltn (v := .ty T) hgT hmT hvT rfl hn hdb) pa_nil hs2) (by rw [hs, hs2])) (by decide) (by decide) (by rw [hs, hs2]) (by rw [hs2]; rfl)) fun σ H Q hq => ?_
  obtain ⟨ok, ρ, w, h⟩ := hq
  refine ⟨ok, ρ, w, (Rs.bnd (RA := relP X.K) h).mono fun v1 H1 hq => ?_⟩
  obtain ⟨ok1, ρ1, d, w1, f1, r1, h1⟩ := hq
  unfold lft at h1
  have r1 : Pk X.K ok1 H1 v1 d := r1
  cases et : tyS d with
  | none =>
    have : isi T d = none := by unfold isi; rw [et]; rfl
    rw [this] at h1
    exact h1.elim
  | some t =>
    have e1 : isi T d = (kitB t T).map D.bl := by unfold isi; rw [et]; rfl
    rw [e1] at h1
    cases ek : kitB t T with
    | none => rw [ek] at h1; exact h1.elim
    | some bb =>
      rw [ek] at h1
      exact ⟨v1, .ty T, .type t, .type T, bb, rfl, .ty T, r1.ty et, kit_ty ek, h1 (.bl bb) H1 ok1 w1 Sx.refl (.bl bb)⟩
/-! ### a < b < c -/
def chn (o o' : D → D → Option D) (fa fb fc : P D) : P D := bnd fa fun x => bnd fb fun y => bnd (lft ((o x y).bind asB)) fun k => if k = true then bnd fc fun z => lft (o' y z) else prt (.bl false)
theorem ev_chain {op op' : CmpOp} {r r' : R2} {o o' : D → D → Option D} (ho : OpR X (compareOp op) r) (h2 : Op2 X.K r o) (ho' : OpR X (compareOp op') r') (h2' : Op2 X.K r' o') (ha : EV X g E a fa) (hb : EV X g E b fb) (hc : EP X g E c fc)
    (hm : lastMarks [op, op'] [b, c] = false := by with_unfolding_all rfl) : EV X g E (.Compare a [op, op'] [b, c] pos) (chn o o' fa fb fc) := by
  refine PE_imp (pe_chain ho ho' ha hb hc hm) fun σ H Q hq => ?_
  obtain ⟨ok, ρ, w, h⟩ := hq
  refine ⟨ok, ρ, w, (Rs.bnd (RA := relD X.K) h).mono fun v1 H1 hq => ?_⟩
  obtain ⟨ok1, ρ1, x, w1, f1, r1, h1⟩ := hq
  refine ⟨ok1, ρ1, w1, (Rs.bnd (RA := relD X.K) h1).mono fun v2 H2 hq => ?_⟩
  obtain ⟨ok2, ρ2, y, w2, f2, r2, h3⟩ := hq
  cases e : o x y with
  | none => rw [e] at h3; exact h3.elim
  | some z =>
    rw [e] at h3
    refine h2 g ρ2 σ ok2 H2 v1 v2 x y z _ w2 (Rep.fr f2.fr r1) (.inl r2) e fun v H' ok' w' s' rz => ?_
    cases rz with
    | bl k =>
      refine ⟨k, rfl, ?_⟩
      have h3 : Rs X.K g E (relD X.K) σ ρ2 ok2 H2 ((if k = true then bnd fc fun z => lft (o' y z) else prt (.bl false)) ρ2) Q := h3
      cases k with
      | true =>
        rw [if_pos rfl] at h3 ⊢
        refine ⟨ok', ρ2, w', (Rs.bnd (RA := relP X.K) (h3.shift s' monoD)).mono fun v3 H3 hq => ?_⟩
        obtain ⟨ok3, ρ3, z3, w3, s3, r3, h4⟩ := hq
        unfold lft at h4
        cases e4 : o' y z3 with
        | none => rw [e4] at h4; exact h4.elim
        | some z4 => rw [e4] at h4; exact h2' g ρ3 σ ok3 H3 v2 v3 y z3 z4 Q w3 (Rep.fr s3.fr (Rep.fr s'.fr r2)) r3 e4 h4
      | false =>
        rw [if_neg Bool.false_ne_true] at h3 ⊢
        exact h3 (.bl false) H' ok' w' s' (.bl false)
    | _ => exact h3.elim
/-! ### range -/
def rngD (lo : Int) (n : Nat) : List D := (List.range n).map fun i => .int (lo + (i : Nat))
def rng1 : D → Option (List D)
  | .int j => if -(2 ^ 62) ≤ j ∧ j < 2 ^ 62 then some (rngD 0 j.toNat) else none
  | _ => none
theorem wk_range {K : PySem.W.Frag} {L : List Nat} {σ : L2.St} {ρ : En} {ok : Addr → Prop} {H : Hp} {lo : Int} {n : Nat} : WkOk K g L σ ρ (Itr lo n) (rngD lo n) ok H := by
  intro ok2 ρ2 σ2 H2 w2 f2 k2
  have ln : (rngD lo n).length = n := by unfold rngD; rw [List.length_map, List.length_range]
  refine ⟨fun i hi => ?_, ?_, fun i d x H3 hd y => ?_⟩
  · rw [ln] at hi; exact hi
  · rw [ln]; exact Nat.le_refl n
  · obtain ⟨rfl, rfl⟩ := y
    refine ⟨.inl rfl, ?_⟩
    unfold rngD at hd
    rw [List.getElem?_map] at hd
    cases e : (List.range n)[i]? with
    | none => rw [e] at hd; cases hd
    | some j =>
      rw [e] at hd
      cases hd
      have : j = i := by
        obtain ⟨h1, h2⟩ := List.getElem?_eq_some_iff.mp e
        rw [List.getElem_range] at h2
        exact h2.symm
      subst this
      exact .int _
theorem ei_range1 {tg : Expr} (hg : Gl X "range") (hm : X.mg "range" = none) (ha : EV X g E a fa) (hs : starEach [a] X.env = [(false, eval a X.env)] := by rfl) : EI X g E [] tg (.Call (.Name "range" p) [a] [] pos) (bnd fa fun d => lft (rng1 d)) := by
  refine PI_imp (pi_range1 hg hm (pa_cons ha pa_nil hs) hs) fun σ H R hq => ?_
  obtain ⟨ok, ρ, w, h⟩ := hq
  refine ⟨ok, ρ, w, ?_⟩
  cases e : fa ρ with
  | none => rw [bnd_none e] at h; exact h
  | some y =>
    cases y with
    | er c ns ds ρ' => rw [bnd_er e] at h; exact h
    | ok d ρ' =>
      rw [bnd_ok e] at h
      intro v H' ok' w' s' r'
      have r' : Rep X.K ok' H' v d := r'
      cases r' with
      | int j =>
        by_cases hz : -(2 ^ 62) ≤ j ∧ j < 2 ^ 62
        · have ez : rng1 (.int j) = some (rngD 0 j.toNat) := if_pos hz
          rw [ez] at h
          exact ⟨j, rfl, hz.1, hz.2, h _ H' ok' w' s' wk_range⟩
        · have ez : rng1 (.int j) = none := if_neg hz
          rw [ez] at h
          exact h.elim
      | _ => exact h.elim
/-! ### list(x), tuple(x) -/
def tupD : D → Option D
  | .lst xs => some (.tup xs)
  | .tup xs => some (.tup xs)
  | _ => none
theorem o1_tuple : Op1 X.K (fun xs H Q => ∃ p ys, xs = [.ref p] ∧ ((SqL X.K H p ys ∧ ∀ l, H l = none → Q (.ref l) (upd H l (.tup ys))) ∨ (SqT X.K H p ys ∧ Q (.ref p) H))) tupD := by
  intro g ρ σ ok H v x z Q w r e q
  cases x with
  | lst xs =>
    cases e
    obtain ⟨a, vs, rfl, h1, rp⟩ := r.lst
    exact ⟨a, vs, rfl, .inl ⟨.inl (.inl h1), fun l nl => q.new w nl fun kp ep f => .tup ep (rp.fr f)⟩⟩
  | tup xs =>
    cases e
    obtain ⟨a, vs, rfl, h1, rp⟩ := r.tup
    exact ⟨a, vs, rfl, .inr ⟨h1.sq, q.at w (.tupO h1 rp)⟩⟩
  | _ => cases e
end
end Pu
/-! What the printed texts use. -/
namespace Pu
open PySem PySem.Spec PyProof.Rows L2 Kv
structure Cal (P' : Program) (w : World) (K : PySem.W.Frag) (mg : Str → Option Value) (base : Heap) (T : List (Addr × Str)) (k n : Nat) (x : Str) (F : P R) : Prop where
  ex : ∃ f fd ps, FnG P' w K mg base (L2.CX P' w) k f fd ps (spP K T n F) ∧ ps.length = n ∧ mg x = some (.ref f) ∧ PySem.W.keepIn K (.ref f) = true ∧ Binds K fd ps []
structure CalM (P' : Program) (w : World) (K : PySem.W.Frag) (mg : Str → Option Value) (base : Heap) (T : List (Addr × Str)) (C : Addr) (k n : Nat) (m : Str) (F : P R) : Prop where
  ex : ∃ f fd ps, FnG P' w K mg base (L2.CX P' w) k f fd ps (spP K T n F) ∧ Meth K C m f ∧ Cls K C ∧ Binds K fd ps []
structure Def (K : PySem.W.Frag) (mg : Str → Option Value) (x : Str) (st : Stmt) (ps : List Str) : Prop where
  ex : ∃ f fd, Fun K x x st f fd ∧ Binds K fd ps [] ∧ mg x = some (.ref f)
structure DefM (K : PySem.W.Frag) (C : Addr) (x qual : Str) (st : Stmt) (ps : List Str) : Prop where
  ex : ∃ f fd, Fun K x qual st f fd ∧ Binds K fd ps [] ∧ Meth K C x f ∧ Cls K C
section
variable {P' : Program} {w : World} {K : PySem.W.Frag} {mg : Str → Option Value} {base : Heap} {T : List (Addr × Str)}
theorem cal_mk {x : Str} {st : Stmt} {N ps : List Str} {k n : Nat} {B : List Nat} {body : S} (d : Def K mg x st ps) (S : FnScope N ps (defScope st)) (hn : ps.length = n)
    (hb : ∀ (f : Addr) (cdv : Value) (A : Around) (fr : List Env) (s : Shared) (H : Hp) (E : XK), A.guards = some [] → Room k (A.deeper (envOfC x (defScope st) s.heap.objs.size f cdv)) →
      ESs (cxOf (L2.CX P' w) P' w K mg base N x (defScope st) f cdv A fr s H E) ⟨H, B, T⟩ (fun _ => E) (defBody st) body) :
    Cal P' w K mg base T (k + 1) n x (fnP N.length B body) := by
  obtain ⟨f, fd, F, b, m⟩ := d.ex
  subst hn
  exact ⟨f, fd, ps, fn_pure F S (hb f), rfl, m, F.kp, b⟩
theorem calM_mk {C : Addr} {x qual : Str} {st : Stmt} {N ps : List Str} {k n : Nat} {B : List Nat} {body : S} (d : DefM K C x qual st ps) (S : FnScope N ps (defScope st)) (hn : ps.length = n)
    (hb : ∀ (f : Addr) (cdv : Value) (A : Around) (fr : List Env) (s : Shared) (H : Hp) (E : XK), A.guards = some [] → Room k (A.deeper (envOfC qual (defScope st) s.heap.objs.size f cdv)) →
      ESs (cxOf (L2.CX P' w) P' w K mg base N qual (defScope st) f cdv A fr s H E) ⟨H, B, T⟩ (fun _ => E) (defBody st) body) :
    CalM P' w K mg base T C (k + 1) n x (fnP N.length B body) := by
  obtain ⟨f, fd, F, b, m, c⟩ := d.ex
  subst hn
  exact ⟨f, fd, ps, fn_pure F S (hb f), m, c, b⟩
end
section
variable {X : Cx} {g : Gx} {E : Wx} {k n : Nat} {C : Addr} {x m : Str} {F : P R} {p pos apos : Pos} {e o : Expr} {es : List Expr}
theorem er_callC {fr : P (List D)} (c : Cal X.prog X.w X.K X.mg X.base g.T k n x F) (hgd : X.A.guards = some []) (hr : Room k X.A) (hg : Gl X x) (hx : ∀ σ, PassesAt (L2.CX X.prog X.w) X σ (E σ)) (ha : EA X g E (e :: es) fr)
    (hdb : (x == ("__debug__" : Str)) = false := by decide) (he : starEach (e :: es) X.env = (false, eval e X.env) :: starEach es X.env := by rfl) (hpl : (backTo pos (starEach es X.env)).any (·.1) = false := by rfl) :
    ER X g E (.Call (.Name x p) (e :: es) [] pos) (bnd fr fun ds => if ds.length = n then app F ds else fun _ => none) := by
  obtain ⟨f, fd, ps, G, hn, m, kp, b⟩ := c.ex
  exact er_call G hn hgd hr hg m kp b hx ha hdb he hpl
theorem er_methC {fo : P D} {fr : P (List D)} {pl : Sem Bool} (c : CalM X.prog X.w X.K X.mg X.base g.T C k n m F) (ho : EV X g E o fo) (hgd : X.A.guards = some []) (hr : Room k X.A) (hx : ∀ σ, PassesAt (L2.CX X.prog X.w) X σ (E σ)) (ha : EA X g E (e :: es) fr)
    (hst : starEach (e :: es) X.env = (false, eval e X.env) :: starEach es X.env := by rfl) (hpl : (backTo pos (starEach es X.env)).any (·.1) = false := by rfl)
    (ht : eval (.Call (.Attribute o m apos) (e :: es) [] pos) X.env = (do
      let ov ← eval o X.env
      standAt apos.atName
      let (f, first) ← holding [ov] (getMethod ov m pl)
      callWith pos f first (backTo pos (starEach (e :: es) X.env)) (backToKw pos (keywordEach [] X.env))) := by rfl) :
    ER X g E (.Call (.Attribute o m apos) (e :: es) [] pos) (bnd fo fun d => if isObj C m d = true then bnd fr fun ds => if ds.length + 1 = n then app F (d :: ds) else fun _ => none else fun _ => none) := by
  obtain ⟨f, fd, ps, G, hm, cl, b⟩ := c.ex
  exact er_meth ho cl hm G hgd hr b hx ha hst hpl ht
theorem er_methC0 {fo : P D} {pl : Sem Bool} (c : CalM X.prog X.w X.K X.mg X.base g.T C k n m F) (ho : EV X g E o fo) (hgd : X.A.guards = some []) (hr : Room k X.A) (hx : ∀ σ, PassesAt (L2.CX X.prog X.w) X σ (E σ))
    (ht : eval (.Call (.Attribute o m apos) [] [] pos) X.env = (do
      let ov ← eval o X.env
      standAt apos.atName
      let (f, first) ← holding [ov] (getMethod ov m pl)
      callWith pos f first (backTo pos (starEach [] X.env)) (backToKw pos (keywordEach [] X.env))) := by rfl) :
    ER X g E (.Call (.Attribute o m apos) [] [] pos) (bnd fo fun d => if isObj C m d = true ∧ 1 = n then app F [d] else fun _ => none) := by
  obtain ⟨f, fd, ps, G, hm, cl, b⟩ := c.ex
  exact er_meth0 ho cl hm G hgd hr b hx ht
theorem pass_no {σ : L2.St} : PassesAt (L2.CX X.prog X.w) X σ (noE σ) := fun _ _ _ _ _ _ c => by
  obtain ⟨_, _, _, _, _, _, _, _, _, _, _, _, z⟩ := c
  exact z.elim
/-! names -/
theorem evn (i : Nat) {x : Str} {pos : Pos} (hN : X.N[i]? = some x := by rfl) (hv : Vis X.env.scope x := by first | exact Or.inl rfl | exact Or.inr (Or.inl rfl) | exact Or.inr (Or.inr rfl)) (hd : (x == ("__debug__" : Str)) = false := by decide)
    (hcd : (x == ("__classdict__" : Str)) = false := by decide) : EV X g E (.Name x pos) (rd i) := ev_name hN hv hd hcd
theorem epn (i : Nat) {x : Str} {pos : Pos} (hN : X.N[i]? = some x := by rfl) (hv : Vis X.env.scope x := by first | exact Or.inl rfl | exact Or.inr (Or.inl rfl) | exact Or.inr (Or.inr rfl)) (hd : (x == ("__debug__" : Str)) = false := by decide)
    (hcd : (x == ("__classdict__" : Str)) = false := by decide) : EP X g E (.Name x pos) (pk i) := ep_name hN hv hd hcd
theorem ein (i : Nat) {tg : Expr} {x : Str} {pos : Pos} (hN : X.N[i]? = some x := by rfl) (hv : Vis X.env.scope x := by first | exact Or.inl rfl | exact Or.inr (Or.inl rfl) | exact Or.inr (Or.inr rfl)) (hd : (x == ("__debug__" : Str)) = false := by decide)
    (hcd : (x == ("__classdict__" : Str)) = false := by decide) : EI X g E [i] tg (.Name x pos) (seqP (pk i)) := ei_name hN hv hd hcd
theorem eixn (i : Nat) {x : Str} {b : Expr} {fb : P D} {pos p : Pos} (hu : X.A.units + 1 < cLine) (hb : EV X g E b fb) (hs : PlainIx b := by intro _ _; rfl) (hN : X.N[i]? = some x := by rfl) (hv : Vis X.env.scope x := by first | exact Or.inl rfl | exact Or.inr (Or.inl rfl) | exact Or.inr (Or.inr rfl)) (hd : (x == ("__debug__" : Str)) = false := by decide)
    (hcd : (x == ("__classdict__" : Str)) = false := by decide) : EV X g E (.Subscript (.Name x p) b pos) (ixN' i fb) := ev_ixN hu hN hv hb hs hd hcd
theorem eret (i : Nat) {x : Str} {pos p : Pos} (hB : i ∉ g.B := by decide) (hN : X.N[i]? = some x := by rfl) (hv : Vis X.env.scope x := by first | exact Or.inl rfl | exact Or.inr (Or.inl rfl) | exact Or.inr (Or.inr rfl)) (hd : (x == ("__debug__" : Str)) = false := by decide)
    (hcd : (x == ("__classdict__" : Str)) = false := by decide) : ES X g E (.Return (some (.Name x p)) pos) (sb (mv i) fun r ρ => some (.rt r ρ)) := es_retV hN hv hB hd hcd
theorem pts0 {K : PySem.W.Frag} {E : Wx} : PTs X [] (tX K g E relB (prt true)) := ⟨fun pins s σ H Q I h => by
  obtain ⟨ok, ρ, w, h⟩ := h
  exact (pts_nil (X := X)).run pins s σ H Q I (h true H ok w Sx.refl rfl)⟩
theorem pts1 {c : Expr} {E : Wx} {f : P Bool} (h : ET X g E c f) : PTs X [c] (tX X.K g E relB f) := pts_one h
/-! what stays -/
theorem kp_nil {α : Type} {f : P α} : Kp [] f := fun _ _ _ _ l hl => by cases hl
theorem kp_prt {α : Type} {L : List Nat} {a : α} : Kp L (prt a) := fun ρ b ρ' h l _ => by cases h; rfl
theorem kp_lft {α : Type} {L : List Nat} {o : Option α} : Kp L (lft o) := fun ρ b ρ' h l _ => by
  cases o with
  | none => cases h
  | some a => cases h; rfl
theorem kp_bnd {α β : Type} {L : List Nat} {m : P α} {k : α → P β} (h1 : Kp L m) (h2 : ∀ a, Kp L (k a)) : Kp L (bnd m k) := fun ρ b ρ' h l hl => by
  cases e : m ρ with
  | none => rw [bnd_none e] at h; cases h
  | some x =>
    cases x with
    | er c ns ds ρ1 => rw [bnd_er e] at h; cases h
    | ok a ρ1 => rw [bnd_ok e] at h; rw [h2 a ρ1 b ρ' h l hl, h1 ρ a ρ1 e l hl]
theorem kp_pk {L : List Nat} {i : Nat} : Kp L (pk i) := fun ρ b ρ' h l _ => by
  obtain ⟨d, e, _⟩ := pk_inv h
  cases e
  rfl
theorem kp_rd {L : List Nat} {i : Nat} (hi : i ∉ L) : Kp L (rd i) := fun ρ b ρ' h l hl => by
  unfold rd at h
  cases e : ρ[i]? with
  | none => rw [e] at h; cases h
  | some s =>
    rw [e] at h
    cases s with
    | un => cases h
    | val d => cases h; rfl
    | own d =>
      cases h
      rw [List.getElem?_set_ne (fun z => hi (by rw [z]; exact hl))]
theorem kp_none {α : Type} {L : List Nat} : Kp L (fun _ => none : P α) := fun ρ b ρ' h => by cases h
theorem kp_ite {α : Type} {L : List Nat} {c : Prop} [Decidable c] {f f' : P α} (h : Kp L f) (h' : Kp L f') : Kp L (if c then f else f') := by
  split
  · exact h
  · exact h'
theorem kp_app {L : List Nat} {F : P R} {ds : List D} : Kp L (app F ds) := fun ρ b ρ' h l _ => by
  unfold app at h
  cases e : F (vals ds) with
  | none => rw [e] at h; cases h
  | some x =>
    rw [e] at h
    cases x with
    | ok r _ => cases h; rfl
    | er c ns es _ => cases h
theorem kp_ix {L : List Nat} {i : Nat} {f : P D} (h : Kp L f) : Kp L (ixN' i f) := kp_bnd kp_pk fun _ => kp_bnd h fun _ => kp_bnd kp_pk fun _ => kp_lft
theorem kp_lcL {L : List Nat} {T : Tg} {ft : P Bool} {fe : P D} (hT : ∀ l ∈ L, l ∉ T.ix) (h1 : Kp L ft) (h2 : Kp L fe) : ∀ (ds : List D) (ρ : En) (acc : List D) (ys : List D) (ρ' : En), lcL T ft fe ds ρ acc = some (ys, ρ') → ∀ l ∈ L, ρ'[l]? = ρ[l]?
  | [], ρ, acc, ys, ρ', h, l, hl => by cases h; rfl
  | d :: ds, ρ, acc, ys, ρ', h, l, hl => by
    obtain ⟨ρ1, eg, h⟩ := lcL_cons h
    rcases h with ⟨ρ2, et, h⟩ | ⟨ρ2, y, ρ3, et, ee, _, h⟩
    · rw [kp_lcL hT h1 h2 ds _ _ _ _ h l hl, wipeE_get (hT l hl), h1 _ _ _ et l hl, gset_keep eg (hT l hl)]
    · rw [kp_lcL hT h1 h2 ds _ _ _ _ h l hl, wipeE_get (hT l hl), h2 _ _ _ ee l hl, h1 _ _ _ et l hl, gset_keep eg (hT l hl)]
theorem kp_lc {L : List Nat} {fi : P (List D)} {T : Tg} {ft : P Bool} {fe : P D} (hT : ∀ l ∈ L, l ∉ T.ix) (h0 : Kp L fi) (h1 : Kp L ft) (h2 : Kp L fe) : Kp L (lc fi T ft fe) := fun ρ b ρ' h l hl => by
  unfold lc at h
  cases e : fi ρ with
  | none => simp only [e] at h; cases h
  | some x =>
    cases x with
    | er c ns ds ρ1 => simp only [e] at h; cases h
    | ok ds ρ1 =>
      simp only [e] at h
      cases el : lcL T ft fe ds (wipeE ρ1 T.ix) [] with
      | none => simp only [el] at h; cases h
      | some z =>
        obtain ⟨ys, ρz⟩ := z
        simp only [el] at h
        cases h
        rw [kp_lcL hT h1 h2 ds _ _ _ _ el l hl, wipeE_get (hT l hl), h0 _ _ _ e l hl]
end
end Pu
/-! ==, slices, enumerate. -/
namespace Pu
open PySem PySem.Spec PyProof.Rows L2 Kv
mutual
def toPy : D → Option PyData
  | .non => some .none
  | .bl b => some (.bool b)
  | .int i => some (.int i)
  | .str x => some (.str x)
  | .lst xs => (toPys xs).map .list
  | .flst xs => (toPys xs).map .list
  | .tup xs => (toPys xs).map .tuple
  | .ftup xs => (toPys xs).map .tuple
  | .dic _ _ => none
  | .dct _ _ => none
  | .obj _ _ _ => none
  | .exn _ _ _ _ _ => none
  | .opq _ => none
  | .typ _ => none
  | .lsta _ xs => (toPys xs).map .list
def toPys : List D → Option (List PyData)
  | [] => some []
  | d :: ds => match toPy d, toPys ds with
    | some p, some ps => some (p :: ps)
    | _, _ => none
end
theorem map_some {α β : Type} {o : Option α} {f : α → β} {b : β} (h : o.map f = some b) : ∃ a, o = some a ∧ f a = b := by
  cases o with
  | none => cases h
  | some a => exact ⟨a, rfl, Option.some.inj h⟩
section
variable {K : PySem.W.Frag} {ok : Addr → Prop} {H : Hp}
mutual
theorem Rep.dp : ∀ {v : V} {d : D} {p : PyData}, Rep K ok H v d → toPy d = some p → Dp K H v p
  | _, _, _, .non, h => by cases h; exact .non
  | _, _, _, .bl b, h => by cases h; exact .bl b
  | _, _, _, .int i, h => by cases h; exact .int i
  | _, _, _, .str x, h => by cases h; exact .str x
  | _, _, _, .lst h1 _ r, h => by
    obtain ⟨ps, e, rfl⟩ := map_some (show (toPys _).map PyData.list = some _ from h)
    exact .lst (.inl (.inl h1)) (Reps.dp r e)
  | _, _, _, .lstF h1 r, h => by
    obtain ⟨ps, e, rfl⟩ := map_some (show (toPys _).map PyData.list = some _ from h)
    exact .lst h1.sq (Reps.dp r e)
  | _, _, _, .tupO h1 r, h => by
    obtain ⟨ps, e, rfl⟩ := map_some (show (toPys _).map PyData.tuple = some _ from h)
    exact .tup h1.sq (Reps.dp r e)
  | _, _, _, .tupF h1 r, h => by
    obtain ⟨ps, e, rfl⟩ := map_some (show (toPys _).map PyData.tuple = some _ from h)
    exact .tup h1.sq (Reps.dp r e)
  | _, _, _, .dic _ _, h => by cases h
  | _, _, _, .dct _ _, h => by cases h
  | _, _, _, .obj _ _ _, h => by cases h
  | _, _, _, .exn _ _, h => by cases h
  | _, _, _, .opq _, h => by cases h
  | _, _, _, .typ _, h => by cases h
  | _, _, _, .lsta h1 _ r, h => by
    obtain ⟨ps, e, rfl⟩ := map_some (show (toPys _).map PyData.list = some _ from h)
    exact .lst (.inl (.inl h1)) (Reps.dp r e)
theorem Reps.dp : ∀ {vs : List V} {ds : List D} {ps : List PyData}, Reps K ok H vs ds → toPys ds = some ps → DpAll K H vs ps
  | _, _, _, .nil, h => by cases h; exact .nil
  | _, _, _, .cons (d := d) (ds := ds) r t, h => by
    unfold toPys at h
    cases e1 : toPy d with
    | none => rw [e1] at h; cases h
    | some p =>
      cases e2 : toPys ds with
      | none => rw [e1, e2] at h; cases h
      | some ps => rw [e1, e2] at h; cases h; exact .cons (Rep.dp r e1) (Reps.dp t e2)
end
theorem Pk.dp {v : V} {d : D} {p : PyData} (r : Pk K ok H v d) (h : toPy d = some p) : Dp K H v p := by
  rcases r with r | ⟨q, rfl, o⟩
  · exact r.dp h
  · cases d with
    | lst ds =>
      obtain ⟨vs, h1, r⟩ := o
      obtain ⟨ps, e, rfl⟩ := map_some (show (toPys _).map PyData.list = some _ from h)
      exact .lst (.inl (.inl h1)) (Reps.dp r e)
    | dic ks ds => cases h
    | dct ks ds => cases h
    | obj _ _ _ => cases h
    | lsta a ds =>
      obtain ⟨_, vs, h1, r⟩ := o
      obtain ⟨ps, e, rfl⟩ := map_some (show (toPys _).map PyData.list = some _ from h)
      exact .lst (.inl (.inl h1)) (Reps.dp r e)
    | _ => exact o.elim
theorem Pk.flat {v u : V} {d : D} (r : Pk K ok H v d) (h : flV d = some u) : v = u := by
  rcases r with r | ⟨q, rfl, o⟩
  · exact r.flat h
  · cases d <;> first | exact o.elim | cases h
end
def eqS (x y : D) : Option Bool := match flV x, flV y with
  | some u, some v => if scal u v = true then some (decide (u = v)) else none
  | _, _ => none
def eqP (x y : D) : Option Bool := match toPy x, toPy y with
  | some p, some q => if (SeqAt.shaped p && SeqAt.shaped q) = true then some (PyData.eqv p q) else none
  | _, _ => none
def eqA (x y : D) : Option Bool := (eqS x y).orElse fun _ => eqP x y
def opEq (x y : D) : Option D := (eqA x y).map D.bl
def opNe (x y : D) : Option D := (eqA x y).map fun b => D.bl (!b)
def rEqA (K : PySem.W.Frag) : R2 := fun x y H Q => rEq x y H Q ∨ rEqD K x y H Q
def rNeA (K : PySem.W.Frag) : R2 := fun x y H Q => rNe x y H Q ∨ rNeD K x y H Q
section
variable {X : Cx} {g : Gx} {E : Wx} {a b c e : Expr} {x : Str} {p pos : Pos} {fa fb fc : P D}
theorem op_eqA (hu : X.A.units + 64 < cLine) : OpR X (compareOp .Eq) (rEqA X.K) := op_eq.or (op_eqD hu)
theorem op_neA (hu : X.A.units + 64 < cLine) : OpR X (compareOp .NotEq) (rNeA X.K) := op_ne.or (op_neD hu)
theorem eqA_cases {K : PySem.W.Frag} {ok : Addr → Prop} {H : Hp} {u v : V} {x y : D} {k : Bool} (r1 : Rep K ok H u x) (r2 : Pk K ok H v y) (h : eqA x y = some k) :
    (scal u v = true ∧ k = decide (u = v)) ∨ ∃ p q, Dp K H u p ∧ Dp K H v q ∧ SeqAt.shaped p = true ∧ SeqAt.shaped q = true ∧ k = PyData.eqv p q := by
  unfold eqA at h
  cases e : eqS x y with
  | some k' =>
    rw [e] at h
    cases h
    unfold eqS at e
    cases e1 : flV x with
    | none => rw [e1] at e; cases e
    | some u' =>
      cases e2 : flV y with
      | none => rw [e1, e2] at e; cases e
      | some v' =>
        rw [e1, e2] at e
        have e : (if scal u' v' = true then some (decide (u' = v')) else none) = some k := e
        split at e
        · cases e
          have h1 := r1.flat e1
          have h2 := r2.flat e2
          subst h1; subst h2
          exact .inl ⟨by assumption, rfl⟩
        · cases e
  | none =>
    rw [e] at h
    have h : eqP x y = some k := h
    unfold eqP at h
    cases e1 : toPy x with
    | none => rw [e1] at h; cases h
    | some p =>
      cases e2 : toPy y with
      | none => rw [e1, e2] at h; cases h
      | some q =>
        rw [e1, e2] at h
        have h : (if (SeqAt.shaped p && SeqAt.shaped q) = true then some (PyData.eqv p q) else none) = some k := h
        split at h
        · rename_i hs
          cases h
          rw [Bool.and_eq_true] at hs
          exact .inr ⟨p, q, r1.dp e1, r2.dp e2, hs.1, hs.2, rfl⟩
        · cases h
theorem o2_eq : Op2 X.K (rEqA X.K) opEq := by
  intro g ρ σ ok H u v x y z Q w r1 r2 e q
  obtain ⟨k, ek, rfl⟩ := map_some e
  rcases eqA_cases r1 r2 ek with ⟨h1, rfl⟩ | ⟨p', q', h1, h2, h3, h4, rfl⟩
  · exact .inl ⟨h1, q.at w (.bl _)⟩
  · exact .inr ⟨p', q', h1, h2, h3, h4, q.at w (.bl _)⟩
theorem o2_ne : Op2 X.K (rNeA X.K) opNe := by
  intro g ρ σ ok H u v x y z Q w r1 r2 e q
  obtain ⟨k, ek, rfl⟩ := map_some e
  rcases eqA_cases r1 r2 ek with ⟨h1, rfl⟩ | ⟨p', q', h1, h2, h3, h4, rfl⟩
  · exact .inl ⟨h1, q.at w (.bl _)⟩
  · exact .inr ⟨p', q', h1, h2, h3, h4, q.at w (.bl _)⟩
/-! ### chains as tests -/
end
end Pu
/-! A call to which a thing of one's own is lent. -/
namespace Pu
open PySem PySem.Spec PyProof.Rows L2 Kv
def appB (i : Nat) (F : P R) (n : Nat) (ds : List D) : P R := fun ρ => match ρ[i]? with
  | some (.own d) => if ds.length + 1 = n then match F (.own d :: vals ds) with
      | some (.ok r (.own d' :: _)) => some (.ok r (ρ.set i (.own d')))
      | some (.er c ns es (.own d' :: _)) => some (.er c ns es (ρ.set i (.own d')))
      | _ => none
    else none
  | _ => none
theorem lentS_get {ds : List D} {d : D} {j : Nat} {s : Slot} (h : (Slot.own d :: vals ds)[j]? = some s) : (j = 0 ∧ s = .own d) ∨ ∃ k x, j = k + 1 ∧ ds[k]? = some x ∧ s = .val x := by
  cases j with
  | zero => cases h; exact .inl ⟨rfl, rfl⟩
  | succ k =>
    have h : (vals ds)[k]? = some s := h
    unfold vals at h
    rw [List.getElem?_map] at h
    cases e : ds[k]? with
    | none => rw [e] at h; cases h
    | some x => rw [e] at h; cases h; exact .inr ⟨k, x, rfl, e, rfl⟩
section
variable {K : PySem.W.Frag} {g : Gx} {E : Wx} {ok : Addr → Prop} {ρ : En} {σ : L2.St} {H : Hp}
theorem lent_back {i : Nat} {q : Addr} {d d' : D} {ds : List D} {vs : List V} {tl : En} {ok' : Addr → Prop} {H' : Hp} {n : Nat} (w : Wf K g ok ρ σ H) (hi : ρ[i]? = some (.own d)) (hq : σ[i]? = some (some (.ref q)))
    (w' : Wf K ⟨H, List.range n, g.T⟩ ok' (.own d' :: tl) ((V.ref q :: vs).map some) H') (s : Sx ((V.ref q :: vs).map some) (.own d :: vals ds) ok H (.own d' :: tl) ok' H') :
    Wf K g ok' (ρ.set i (.own d')) σ H' ∧ Sx σ ρ ok H (ρ.set i (.own d')) ok' H' := by
  have wq : ∀ a, wrs (.own d :: vals ds) ((V.ref q :: vs).map some) a → a = q := fun a ⟨j, e, h1, h2⟩ => by
    rcases lentS_get h1 with ⟨rfl, _⟩ | ⟨k, x, rfl, _, z⟩
    · cases h2; rfl
    · cases z
  obtain ⟨q0, e0, o0, nk0, b0⟩ := w.own i d hi
  rw [hq] at e0
  cases e0
  obtain ⟨q1, e1, o1, nk1, _⟩ := w'.own 0 d' rfl
  cases e1
  have oth : ∀ {j : Nat} {e : D}, j ≠ i → ρ[j]? = some (.own e) → ∃ p, σ[j]? = some (some (.ref p)) ∧ OwnAt K ok' H' p e ∧ ¬ ok' p ∧ (j ∈ g.B ∨ g.H0 p = none) := fun {j e} nj hj => by
    obtain ⟨p, ep, op, nkp, bp⟩ := w.own j e hj
    have pq : p ≠ q := fun z => nj (w.apart j i e d p hj hi ep (by rw [hq, z]))
    obtain ⟨u, hu, _⟩ := op.there
    refine ⟨p, ep, op.fr s.fr ?_, fun z => ?_, bp⟩
    · rw [hu]; exact (s.keep p u hu fun z => pq (wq p z)).same nkp (own_tbl op hu)
    · rcases s.grow p u hu z with z | z
      · exact nkp z
      · exact pq (wq p z)
  have own1 : ∀ {j : Nat} {e : D}, (ρ.set i (.own d'))[j]? = some (.own e) → ∃ x, ρ[j]? = some (.own x) := fun {j e} h => by
    by_cases hj : j = i
    · exact ⟨d, by rw [hj]; exact hi⟩
    · rw [List.getElem?_set_ne (Ne.symm hj)] at h; exact ⟨_, h⟩
  refine ⟨⟨by rw [List.length_set]; exact w.len, w'.fc, fun a z => w.h0 a (s.fr.all a z), fun j e z => ?_, fun j e z => ?_, fun j k d1 d2 p h1 h2 e1 e2 => ?_, w'.tb⟩, ⟨s.fr, fun a o ha na => s.keep a o ha fun z => na ?_, fun a ha => ?_, fun a o ha ka => (s.grow a o ha ka).imp id fun z => ?_⟩⟩
  · have hj : j ≠ i := fun y => by subst y; cases get_set_self z
    rw [List.getElem?_set_ne (Ne.symm hj)] at z
    obtain ⟨v, e1, r1⟩ := w.val j e z
    exact ⟨v, e1, r1.fr s.fr⟩
  · by_cases hj : j = i
    · subst hj
      cases get_set_self z
      exact ⟨q, hq, o1, nk1, b0⟩
    · rw [List.getElem?_set_ne (Ne.symm hj)] at z
      exact oth hj z
  · obtain ⟨x1, h1⟩ := own1 h1
    obtain ⟨x2, h2⟩ := own1 h2
    exact w.apart j k x1 x2 p h1 h2 e1 e2
  · exact ⟨i, d, hi, by rw [wq a z]; exact hq⟩
  · obtain ⟨j, e, h1, h2⟩ := ha
    obtain ⟨x1, h1⟩ := own1 h1
    exact ⟨j, x1, h1, h2⟩
  · exact ⟨i, d, hi, by rw [wq a z]; exact hq⟩
theorem appB_ok {i n : Nat} {F : P R} {q : Addr} {vs : List V} {ds : List D} {Q : VK} (w : Wf K g ok ρ σ H) (hq : σ[i]? = some (some (.ref q))) (r : Reps K ok H vs ds) (h : Rs K g E (relR K) σ ρ ok H (appB i F n ds ρ) Q) : spP K g.T n F (.ref q :: vs) H Q (E σ) := by
  unfold appB at h
  cases hi : ρ[i]? with
  | none => rw [hi] at h; exact h.elim
  | some sl =>
    rw [hi] at h
    cases sl with
    | un => exact h.elim
    | val _ => exact h.elim
    | own d =>
      dsimp only at h
      split at h
      · rename_i hn
        obtain ⟨q0, e0, o0, nk0, b0⟩ := w.own i d hi
        rw [hq] at e0
        cases e0
        refine ⟨ok, .own d :: vals ds, by rw [List.length_cons, r.length]; exact hn, ⟨by unfold vals; simp [r.length], w.fc, fun _ h => h, fun j e z => ?_, fun j e z => ?_, fun j k d1 d2 p h1 h2 e1 e2 => ?_, w.tb⟩, ?_⟩
        · rcases lentS_get z with ⟨_, y⟩ | ⟨k, x, rfl, ex, y⟩
          · cases y
          · cases y
            obtain ⟨v, ev, rv⟩ := r.getD ex
            exact ⟨v, by rw [List.map_cons, List.getElem?_cons_succ, List.getElem?_map, ev]; rfl, rv⟩
        · rcases lentS_get z with ⟨rfl, y⟩ | ⟨k, x, rfl, ex, y⟩
          · cases y
            exact ⟨q, rfl, o0, nk0, .inl (List.mem_range.mpr (by omega))⟩
          · cases y
        · rcases lentS_get h1 with ⟨rfl, _⟩ | ⟨_, _, _, _, y⟩
          · rcases lentS_get h2 with ⟨rfl, _⟩ | ⟨_, _, _, _, y⟩
            · rfl
            · cases y
          · cases y
        · cases e : F (.own d :: vals ds) with
          | none => rw [e] at h; exact h
          | some y =>
            rw [e] at h
            cases y with
            | ok r' as' =>
              cases as' with
              | nil => exact h.elim
              | cons s0 tl =>
                cases s0 with
                | un => exact h.elim
                | val _ => exact h.elim
                | own d' =>
                  intro v H' ok' w' s' r1
                  obtain ⟨w2, s2⟩ := lent_back w hi hq w' s'
                  refine h v H' ok' w2 s2 ?_
                  cases r' with
                  | val d => exact r1
                  | own d2 =>
                    obtain ⟨q2, e2, o2, nk2, n2, _⟩ := r1
                    refine ⟨q2, e2, o2, nk2, n2, fun j x hj z => ?_⟩
                    have : ∃ y, ρ[j]? = some (.own y) := by
                      by_cases hj' : j = i
                      · exact ⟨d, by rw [hj']; exact hi⟩
                      · rw [List.getElem?_set_ne (Ne.symm hj')] at hj; exact ⟨_, hj⟩
                    obtain ⟨y, hy⟩ := this
                    obtain ⟨p, ep, op, _⟩ := w.own j y hy
                    rw [z] at ep
                    cases ep
                    obtain ⟨u, hu, _⟩ := op.there
                    rw [n2] at hu
                    cases hu
            | er c ns es as' =>
              cases as' with
              | nil => exact h.elim
              | cons s0 tl =>
                cases s0 with
                | un => exact h.elim
                | val _ => exact h.elim
                | own d' =>
                  intro dx fs H' ok' w' s' e1 e2 e3
                  obtain ⟨w2, s2⟩ := lent_back w hi hq w' s'
                  exact h dx fs H' ok' w2 s2 e1 e2 e3
      · exact h.elim
end
section
variable {X : Cx} {g : Gx} {E : Wx} {k n : Nat} {C : Addr} {x y m : Str} {F : P R} {p p' pos apos : Pos} {e o : Expr} {es : List Expr}
def lentP (i : Nat) (fr : P (List D)) : P (List D) := fun ρ => match ρ[i]? with
  | some (.own _) => fr ρ
  | _ => none
def relL (K : PySem.W.Frag) (i : Nat) : Rl (List V) (List D) := fun _ ok H _ σ vs ds => ∃ q vs', vs = .ref q :: vs' ∧ σ[i]? = some (some (.ref q)) ∧ Reps K ok H vs' ds
theorem pa_lent {i : Nat} {fr : P (List D)} (hN : X.N[i]? = some y) (hv : Vis X.env.scope y) (hr : EA X g E es fr) (hs : starEach (.Name y p' :: es) X.env = (false, eval (.Name y p') X.env) :: starEach es X.env := by rfl)
    (hd : (y == ("__debug__" : Str)) = false := by decide) (hcd : (y == ("__classdict__" : Str)) = false := by decide) : PA X (.Name y p' :: es) (tX X.K g E (relL X.K i) (lentP i fr)) := by
  refine PA_imp (pa_cons (pe_var hN hv hd hcd) hr hs) fun σ H Q hq => ?_
  obtain ⟨ok, ρ, w, h⟩ := hq
  unfold lentP at h
  cases hi : ρ[i]? with
  | none => rw [hi] at h; exact h.elim
  | some sl =>
    rw [hi] at h
    cases sl with
    | un => exact h.elim
    | val _ => exact h.elim
    | own d =>
      obtain ⟨q, eq, _⟩ := w.own i d hi
      refine ⟨_, eq, ok, ρ, w, ?_⟩
      have h : Rs X.K g E (relL X.K i) σ ρ ok H (fr ρ) Q := h
      cases e : fr ρ with
      | none => rw [e] at h; exact h
      | some z =>
        rw [e] at h
        cases z with
        | ok ds ρ' => exact fun vs H' ok' w' s' r' => h _ H' ok' w' s' ⟨q, vs, rfl, eq, r'⟩
        | er c ns ds ρ' => exact h
theorem er_callB {i : Nat} {fr : P (List D)} (c : Cal X.prog X.w X.K X.mg X.base g.T k n x F) (hgd : X.A.guards = some []) (hr : Room k X.A) (hg : Gl X x) (hx : ∀ σ, PassesAt (L2.CX X.prog X.w) X σ (E σ)) (hN : X.N[i]? = some y) (hv : Vis X.env.scope y) (ha : EA X g E es fr)
    (hdb : (x == ("__debug__" : Str)) = false := by decide) (hd : (y == ("__debug__" : Str)) = false := by decide) (hcd : (y == ("__classdict__" : Str)) = false := by decide) (he : starEach (.Name y p' :: es) X.env = (false, eval (.Name y p') X.env) :: starEach es X.env := by rfl) (hpl : (backTo pos (starEach es X.env)).any (·.1) = false := by rfl) :
    ER X g E (.Call (.Name x p) (.Name y p' :: es) [] pos) (bnd (lentP i fr) fun ds => appB i F n ds) := by
  obtain ⟨f, fd, ps, G, hn, m, kp, b⟩ := c.ex
  refine PE_imp (pe_callGS G hgd hr hg m kp b hx (pa_lent hN hv ha he hd hcd) hdb he hpl) fun σ H Q hq => ?_
  obtain ⟨ok, ρ, w, h⟩ := hq
  refine ⟨ok, ρ, w, (Rs.bnd (RA := relL X.K i) h).mono fun vs H1 hq => ?_⟩
  obtain ⟨ok1, ρ1, ds, w1, s1, ⟨q, vs', rfl, eq, r1⟩, h1⟩ := hq
  exact appB_ok w1 eq r1 h1
end
end Pu
/-! Errors of the program's own over any built-in error: made, filled, raised. -/
namespace Er
open PySem PySem.Spec PyProof.Rows L2 Kv Pu
section
variable {prog : Program} {w : World} {A : Around} {E : Value → Shared → Prop} {s : Shared} {K : PySem.W.Frag} {C : Addr} {B newId initId : String} {bmB : List Value}
end
end Er
/-! Errors of the program's own over any built-in error: the rules. -/
namespace Er
open PySem PySem.Spec PyProof.Rows L2 Kv Pu
section
variable {B newId initId : String} {bmB : List Value} {X : Cx} {pins : List (Addr × Obj)} {σ : L2.St} {H : Hp} {s : Shared} {a C : Addr} {f : Str} {A : Around} {E : Value → Shared → Prop}
end
section
variable {X : Cx} {o e : Expr} {es : List Expr} {to te : TE} {ta : TA} {f : Str} {p p' p1 p2 pos : Pos} {B newId initId : String} {bmB : List Value}
end
end Er
/-! raise, try and except, a caught error's fields. -/
namespace Pu
open PySem PySem.Spec PyProof.Rows L2 Kv
/-! ### raise C(e, ..) -/
section
variable {X : Cx} {g : Gx} {E : Wx} {k : Nat} {C : Addr} {x : Str} {ns : List Str} {cd : List D → Bool} {p pos pos' : Pos} {e : Expr} {es : List Expr}
def rs (C : Addr) (ns : List Str) (cd : List D → Bool) (ds : List D) : S := fun ρ => if ds.length = ns.length ∧ cd ds = true then some (.er (.ref C) ns.reverse ds.reverse ρ) else none
theorem zip_fst {α β : Type} : ∀ {xs : List α} {ys : List β}, ys.length = xs.length → (xs.zip ys).map (·.1) = xs
  | [], _, _ => by simp
  | x :: xs, [], h => by cases h
  | x :: xs, y :: ys, h => by simp [zip_fst (xs := xs) (ys := ys) (Nat.succ.inj h)]
theorem zip_snd {α β : Type} : ∀ {xs : List α} {ys : List β}, ys.length = xs.length → (xs.zip ys).map (·.2) = ys
  | [], [], _ => by simp
  | [], y :: ys, h => by cases h
  | x :: xs, [], h => by cases h
  | x :: xs, y :: ys, h => by simp [zip_snd (xs := xs) (ys := ys) (Nat.succ.inj h)]
end
/-! ### try .. except x as n -/
open Classical in
section
variable {K : PySem.W.Frag} {g : Gx} {E : Wx} {σ : L2.St} {ρ : En} {ok : Addr → Prop} {H : Hp}
theorem Sy.set {i : Nat} {s : Slot} {v : Option V} (hB : i ∉ g.B) (ns : ∀ d, s ≠ .own d) : Sy g σ ρ ok H (σ.set i v) (ρ.set i s) ok H := by
  refine ⟨Fr.refl, fun _ _ h _ => .inl h, fun a ha => .inl ?_, fun _ _ _ k => .inl k, fun j hj => by rw [List.getElem?_set_ne (fun z => hB (by rw [z]; exact hj))], List.length_set ..⟩
  obtain ⟨j, d', h1, h2⟩ := ha
  have nj : j ≠ i := fun y => by subst y; exact ns d' (get_set_self h1).symm
  rw [List.getElem?_set_ne (Ne.symm nj)] at h1 h2
  exact ⟨j, d', h1, h2⟩
end
section
variable {X : Cx} {g : Gx} {E : Wx} {x n : Str} {c : Value} {i : Nat} {body suite : List Stmt} {b₀ : Stmt} {np pos pos' : Pos} {fb : S} {fh : Addr → Addr → Value → S}
/-! ### the caught error's fields -/
end
end Pu
/-! Built-ins of several arguments, methods of texts, x[i] = v, walks over texts. -/
namespace Pu
open PySem PySem.Spec PyProof.Rows L2 Kv
section
variable {X : Cx} {g : Gx} {E : Wx} {a b c e o : Expr} {es : List Expr} {x : Str} {p pos apos cpos : Pos} {fa fb fo : P D} {fr : P (List D)}
/-! ### f(e, ..), f a built-in -/
def OpA (K : PySem.W.Frag) (r : List V → Hp → VK → Prop) (op : List D → Option D) : Prop := ∀ (g : Gx) (ρ : En) (σ : L2.St) (ok : Addr → Prop) (H : Hp) (vs : List V) (xs : List D) (z : D) (Q : VK), Wf K g ok ρ σ H → Reps K ok H vs xs → op xs = some z → Can K g ρ σ ok H z Q → r vs H Q
theorem ev_callA {id : String} {r : List V → Hp → VK → Prop} {op : List D → Option D} (hc : CallR X (.builtin id) r) (h1 : OpA X.K r op) (hg : Gl X x) (hm : X.mg x = none) (hv : bootBuiltins x = some (.builtin id)) (ha : EA X g E (e :: es) fr) (hn : x ≠ "__name__" := by decide) (hdb : (x == ("__debug__" : Str)) = false := by decide)
    (he : starEach (e :: es) X.env = (false, eval e X.env) :: starEach es X.env := by rfl) (hpl : (backTo pos (starEach es X.env)).any (·.1) = false := by rfl) :
    EV X g E (.Call (.Name x p) (e :: es) [] pos) (bnd fr fun ds => lft (op ds)) := by
  refine PE_imp (pe_callB hc hg hm hv ha hn hdb he hpl) fun σ H Q hq => ?_
  obtain ⟨ok, ρ, w, h⟩ := hq
  refine ⟨ok, ρ, w, (Rs.bnd (RA := relA X.K) h).mono fun vs H1 hq => ?_⟩
  obtain ⟨ok1, ρ1, ds, w1, s1, r1, h1'⟩ := hq
  unfold lft at h1'
  cases ez : op ds with
  | none => rw [ez] at h1'; exact h1'.elim
  | some z => rw [ez] at h1'; exact h1 g ρ1 σ ok1 H1 vs ds z Q w1 r1 ez h1'
def i2 (f : Int → Int → Option D) : List D → Option D
  | [.int i, .int j] => f i j
  | _ => none
theorem reps2 {K : PySem.W.Frag} {ok : Addr → Prop} {H : Hp} {vs : List V} {i j : Int} (r : Reps K ok H vs [.int i, .int j]) : vs = [.int i, .int j] := by
  cases r with
  | cons r1 rr =>
    cases rr with
    | cons r2 r3 =>
      cases r3
      cases r1
      cases r2
      rfl
theorem i2_inv {f : Int → Int → Option D} {ds : List D} {z : D} (h : i2 f ds = some z) : ∃ i j, ds = [.int i, .int j] ∧ f i j = some z := by
  unfold i2 at h
  split at h
  · exact ⟨_, _, rfl, h⟩
  · cases h
def maxI : List D → Option D := i2 fun i j => some (.int (if j > i then j else i))
def minI : List D → Option D := i2 fun i j => some (.int (if j < i then j else i))
def dvm : List D → Option D := i2 fun i j => if 0 < j ∧ j ≤ 1000000000000 then some (.tup [.int (i / j), .int (i % j)]) else none
def absI : List D → Option D
  | [.int i] => some (.int (if i < 0 then -i else i))
  | _ => none
theorem oa_max : OpA X.K (fun xs H Q => ∃ i j, xs = [.int i, .int j] ∧ Q (.int (if j > i then j else i)) H) maxI := by
  intro g ρ σ ok H vs ds z Q w r h q
  obtain ⟨i, j, rfl, h⟩ := i2_inv h
  cases h
  exact ⟨i, j, reps2 r, q.at w (.int _)⟩
theorem oa_min : OpA X.K (fun xs H Q => ∃ i j, xs = [.int i, .int j] ∧ Q (.int (if j < i then j else i)) H) minI := by
  intro g ρ σ ok H vs ds z Q w r h q
  obtain ⟨i, j, rfl, h⟩ := i2_inv h
  cases h
  exact ⟨i, j, reps2 r, q.at w (.int _)⟩
theorem oa_abs : OpA X.K (fun xs H Q => ∃ i, xs = [.int i] ∧ Q (.int (if i < 0 then -i else i)) H) absI := by
  intro g ρ σ ok H vs ds z Q w r h q
  unfold absI at h
  split at h
  · cases h
    cases r with
    | cons r1 rr => cases rr; cases r1; exact ⟨_, rfl, q.at w (.int _)⟩
  · cases h
theorem oa_divmod : OpA X.K (fun xs H Q => ∃ i j, xs = [.int i, .int j] ∧ CDivP i j ∧ ∀ p, H p = none → Q (.ref p) (upd H p (.tup [.int (i / j), .int (i % j)]))) dvm := by
  intro g ρ σ ok H vs ds z Q w r h q
  obtain ⟨i, j, rfl, h'⟩ := i2_inv (f := fun i j => if 0 < j ∧ j ≤ 1000000000000 then some (.tup [.int (i / j), .int (i % j)]) else none) h
  split at h'
  · rename_i hz
    cases h'
    exact ⟨i, j, reps2 r, divp_small hz.1 (Nat.lt_of_lt_of_le (show j.natAbs < 2 ^ 41 by omega) (Nat.pow_le_pow_right (by decide) (by decide))), fun p np => q.new w np fun _ e f => .tup e (.cons (.int _) (.cons (.int _) .nil))⟩
  · cases h'
/-! ### methods of texts -/
def OpM (K : PySem.W.Frag) (r : V → List V → Hp → VK → Prop) (op : Str → List D → Option D) : Prop := ∀ (g : Gx) (ρ : En) (σ : L2.St) (ok : Addr → Prop) (H : Hp) (t : Str) (vs : List V) (xs : List D) (z : D) (Q : VK), Wf K g ok ρ σ H → Reps K ok H vs xs → op t xs = some z → Can K g ρ σ ok H z Q → r (.str t) vs H Q
def mts (op : Str → List D → Option D) (fo : P D) (fr : P (List D)) : P D := bnd fo fun d => match d with
  | .str t => bnd fr fun ds => lft (op t ds)
  | _ => fun _ => none
theorem ev_bm {m : Str} {id : String} {r : V → List V → Hp → VK → Prop} {op : Str → List D → Option D} (slot : PySem.Slot "str" m id) (hty : typeOf (.builtin id) = pure (.type "method_descriptor")) (hr : MtR X id r) (hm : OpM X.K r op) (ho : EV X g E o fo) (ha : EA X g E (e :: es) fr)
    (hbase : attributeBase o m X.env (eval o X.env) = eval o X.env := by rfl)
    (hfew : ((backTo cpos (starEach (e :: es) X.env)).all (fun x => !x.1) && (backToKw cpos (keywordEach [] X.env)).all (fun x => x.1.isSome)
      && decide ((e :: es).length + ([] : List Keyword).length + (if ([] : List Keyword).isEmpty then 0 else 1) < 30)) = true := by rfl)
    (hline : (apos.endLine == cpos.line) = true := by rfl) (hs : starEach (e :: es) X.env = (false, eval e X.env) :: starEach es X.env := by rfl) (hplain : (backTo cpos (starEach es X.env)).any (·.1) = false := by rfl) :
    EV X g E (.Call (.Attribute o m apos) (e :: es) [] cpos) (mts op fo fr) := by
  refine PE_imp (pe_bm PySem.F.plainAttrs_str slot hty hr ho ha hbase hfew hline hs hplain) fun σ H Q hq => ?_
  obtain ⟨ok, ρ, w, h⟩ := hq
  refine ⟨ok, ρ, w, (Rs.bnd (RA := relD X.K) h).mono fun v H1 hq => ?_⟩
  obtain ⟨ok1, ρ1, d, w1, s1, r1, h1⟩ := hq
  have r1 : Rep X.K ok1 H1 v d := r1
  cases r1 with
  | str t =>
    refine ⟨?_, ok1, ρ1, w1, (Rs.bnd (RA := relA X.K) h1).mono fun vs H2 hq => ?_⟩
    · exact rfl
    · obtain ⟨ok2, ρ2, ds, w2, s2, r2, h2⟩ := hq
      unfold lft at h2
      cases ez : op t ds with
      | none => rw [ez] at h2; exact h2.elim
      | some z => rw [ez] at h2; exact hm g ρ2 σ ok2 H2 t vs ds z Q w2 r2 ez h2
  | _ => exact h1.elim
/-! ### targets that may be written things -/
def tG (K : PySem.W.Frag) (g : Gx) (E : Wx) (h : D → S) : TG := fun v σ H Q => ∃ ok ρ d, Wf K g ok ρ σ H ∧ Rep K ok H v d ∧ Ss K g E σ ρ ok H (h d ρ) { nx := Q, rt := fun _ _ => False, bk := fun _ _ => False, ct := fun _ _ => False }
abbrev EG (X : Cx) (g : Gx) (E : Wx) (tg : Expr) (h : D → S) : Prop := PG X tg (tG X.K g E h)
theorem PG_imp {tg : Expr} {t t' : TG} (h : PG X tg t) (q : ∀ v σ H Q, t' v σ H Q → t v σ H Q) : PG X tg t' := ⟨fun pins s σ H v u Q I r z => h.run pins s σ H v u Q I r (q v σ H Q z)⟩
theorem eg_name {i : Nat} {y : Str} (hN : X.N.Nodup) (hi : X.N[i]? = some y) (hx : Loc X.env.scope y) (hB : i ∉ g.B) (hf : X.fn y = true ∨ X.env.scope.names.lookup y = some .local := by first | exact .inl rfl | exact .inr rfl | assumption) : EG X g E (.Name y pos) (fun d => put i (.val d)) := by
  refine PG_imp (pg_name hN hi hx hf) fun v σ H Q hq => ?_
  obtain ⟨ok, ρ, d, w, r, h⟩ := hq
  exact put_ok (Dn := { nx := Q, rt := fun _ _ => False, bk := fun _ _ => False, ct := fun _ _ => False }) (H0 := H) (r := .val d) w r (fun a ha => w.h0 a ha) (fun _ _ _ _ => trivial) hB (fun q hv hr => by cases hr) Sx.refl rfl h
def gdO (i : Nat) (f : S) : S := fun ρ => match ρ[i]? with
  | some (.own _) => f ρ
  | _ => none
def stIx (i : Nat) (j d : D) : S := fun ρ => match ρ[i]?, j with
  | some (.own (.lst xs)), .int k => match L2.ixN xs.length k with
    | some n => some (.nx (ρ.set i (.own (.lst (xs.set n d)))))
    | none => none
  | _, _ => none
theorem Reps.set {K : PySem.W.Frag} {ok : Addr → Prop} {H : Hp} : ∀ {vs : List V} {ds : List D} {n : Nat} {v : V} {d : D}, Reps K ok H vs ds → Rep K ok H v d → Reps K ok H (vs.set n v) (ds.set n d)
  | _, _, _, _, _, .nil, _ => .nil
  | _, _, 0, _, _, .cons _ t, r => .cons r t
  | _, _, n + 1, _, _, .cons a t, r => .cons a (Reps.set (n := n) t r)
theorem eg_sub {i : Nat} {y : Str} {ie : Expr} {fi : P D} (hN : X.N[i]? = some y) (hv : Vis X.env.scope y) (hi : EV X g E ie fi) (hd : (y == ("__debug__" : Str)) = false := by decide) (hcd : (y == ("__classdict__" : Str)) = false := by decide)
    (ha : ∀ v, assign (.Subscript (.Name y p) ie pos) X.env v = (do
      let ov ← holding [v] (eval (.Name y p) X.env)
      let iv ← holding [v, ov] (eval ie X.env)
      standAt pos
      holding [v, ov, iv] (setItem ov iv v)
      release [v, ov, iv] []) := by intro _; rfl) : EG X g E (.Subscript (.Name y p) ie pos) (fun d => gdO i (sb fi fun j => stIx i j d)) := by
  refine PG_imp (pg_sub (pe_var hN hv hd hcd) hi set_list ha) fun v σ H Q hq => ?_
  obtain ⟨ok, ρ, d, w, r, h⟩ := hq
  unfold gdO at h
  cases e0 : ρ[i]? with
  | none => simp only [e0] at h; exact h.elim
  | some s0 =>
    cases s0 with
    | un => simp only [e0] at h; exact h.elim
    | val _ => simp only [e0] at h; exact h.elim
    | own d00 =>
      simp only [e0] at h
      obtain ⟨u, hu, _⟩ := w.own i d00 e0
      refine ⟨.ref u, hu, ok, ρ, w, (Ss.sb (RA := relD X.K) h).mono fun jv H2 hq => ?_⟩
      obtain ⟨ok1, ρ1, j, w1, s1, r1, h1⟩ := hq
      have r1 : Rep X.K ok1 H2 jv j := r1
      unfold stIx at h1
      cases e1 : ρ1[i]? with
      | none => rw [e1] at h1; exact h1.elim
      | some sl =>
        rw [e1] at h1
        cases sl with
        | un => exact h1.elim
        | val _ => exact h1.elim
        | own d0 =>
          cases d0 with
          | lst xs =>
            cases r1 with
            | int k =>
              dsimp only at h1
              cases e2 : L2.ixN xs.length k with
              | none => rw [e2] at h1; exact h1.elim
              | some n =>
                rw [e2] at h1
                obtain ⟨q, eq, o, nk, _⟩ := w1.own i _ e1
                rw [hu] at eq
                cases eq
                obtain ⟨vs, hvs, rv⟩ := id o
                refine ⟨u, vs, k, n, rfl, rfl, hvs, by rw [rv.length]; exact e2, ?_⟩
                have rd : Rep X.K ok1 H2 v d := r.fr s1.fr
                have f : Fr ok1 H2 ok1 (upd H2 u (.lst (vs.set n v))) := .of (fun a x ha hk => by
                    have : a ≠ u := fun z => by
                      subst z
                      rw [hvs] at ha
                      cases ha
                      exact nk (hk trivial)
                    rw [upd_ne this]; exact ha) (fun _ _ _ k => k) (fun a ha => by
                  by_cases z : a = u
                  · rw [z, upd_same] at ha; cases ha
                  · rw [upd_ne z] at ha; exact ha)
                have ow : OwnAt X.K ok1 (upd H2 u (.lst (vs.set n v))) u (.lst (xs.set n d)) := ⟨_, upd_same, (rv.set rd).fr f⟩
                exact h1 σ _ ok1 (w1.write e1 hu ow).1 (Sx.write w1 e1 hu ow).y
            | _ => exact h1.elim
          | _ => exact h1.elim
def asgs : List (D → S) → List D → S
  | [], [] => sk
  | h :: hs, d :: ds => sq (h d) (asgs hs ds)
  | _, _ => fun _ => none
def tGs (K : PySem.W.Frag) (g : Gx) (E : Wx) (hs : List (D → S)) : TGs := fun vs σ H Q => ∃ ok ρ ds, Wf K g ok ρ σ H ∧ Reps K ok H vs ds ∧ Ss K g E σ ρ ok H (asgs hs ds ρ) { nx := Q, rt := fun _ _ => False, bk := fun _ _ => False, ct := fun _ _ => False }
abbrev EGs (X : Cx) (g : Gx) (E : Wx) (tgs : List Expr) (hs : List (D → S)) : Prop := PGs X tgs (tGs X.K g E hs)
theorem PGs_imp {tgs : List Expr} {t t' : TGs} (h : PGs X tgs t) (q : ∀ v σ H Q, t' v σ H Q → t v σ H Q) : PGs X tgs t' := ⟨fun pins s σ H v u Q I r z => h.run pins s σ H v u Q I r (q v σ H Q z)⟩
theorem egs_nil : EGs X g E [] [] := by
  refine PGs_imp pgs_nil fun vs σ H Q hq => ?_
  obtain ⟨ok, ρ, ds, w, r, h⟩ := hq
  cases r with
  | nil => exact ⟨rfl, h σ H ok w Sy.refl⟩
  | cons _ _ => exact h.elim
theorem egs_cons {tg : Expr} {tgs : List Expr} {h1 : D → S} {hs : List (D → S)} (a1 : EG X g E tg h1) (a2 : EGs X g E tgs hs) (hx : (assignEach (tg :: tgs) X.env).map (·.2) = assign tg X.env :: (assignEach tgs X.env).map (·.2) := by rfl) : EGs X g E (tg :: tgs) (h1 :: hs) := by
  refine PGs_imp (pgs_cons a1 a2 hx) fun vs σ H Q hq => ?_
  obtain ⟨ok, ρ, ds, w, r, h⟩ := hq
  cases r with
  | nil => exact h.elim
  | cons r1 rr =>
    rename_i v vs d ds
    refine ⟨v, vs, rfl, ok, ρ, d, w, r1, ?_⟩
    have h : Ss X.K g E σ ρ ok H (sq (h1 d) (asgs hs ds) ρ) { nx := Q, rt := fun _ _ => False, bk := fun _ _ => False, ct := fun _ _ => False } := h
    unfold sq at h
    cases e : h1 d ρ with
    | none => simp only [e] at h; exact h
    | some fl =>
      cases fl with
      | nx ρ' => simp only [e] at h; exact fun σ' H' ok' w' s' => ⟨ok', ρ', ds, w', rr.fr s'.fr, h.shift s'⟩
      | rt r ρ' => simp only [e] at h; exact h
      | bk ρ' => simp only [e] at h; exact h
      | ct ρ' => simp only [e] at h; exact h
      | er c ns ds ρ' => simp only [e] at h; exact h
def tupOf : D → Option (List D)
  | .tup xs => some xs
  | .ftup xs => some xs
  | _ => none
theorem eg_tup {tgs : List Expr} {hs : List (D → S)} {k : Nat} (hc : X.calm = true) (h : EGs X g E tgs hs) (hn : (assignEach tgs X.env).length = hs.length := by rfl) (hst : (assignEach tgs X.env).findIdx? (·.1) = none := by rfl) :
    EG X g E (.Tuple tgs k pos) (fun d => sb (lft (tupOf d)) fun ds => if ds.length = hs.length then asgs hs ds else fun _ => none) := by
  refine PG_imp (pg_tup hc h hn hst) fun v σ H Q hq => ?_
  obtain ⟨ok, ρ, d, w, r, h⟩ := hq
  cases r with
  | tupO ht rs =>
    rename_i a vs ds
    have h : Ss X.K g E σ ρ ok H ((if ds.length = hs.length then asgs hs ds else fun _ => none) ρ) _ := h
    by_cases hl : ds.length = hs.length
    · rw [if_pos hl] at h
      exact ⟨a, vs, rfl, ht.sq, by rw [rs.length]; exact hl, ok, ρ, ds, w, rs, h⟩
    · rw [if_neg hl] at h
      exact h.elim
  | tupF ht rs =>
    rename_i a vs ds
    have h : Ss X.K g E σ ρ ok H ((if ds.length = hs.length then asgs hs ds else fun _ => none) ρ) _ := h
    by_cases hl : ds.length = hs.length
    · rw [if_pos hl] at h
      exact ⟨a, vs, rfl, ht.sq, by rw [rs.length]; exact hl, ok, ρ, ds, w, rs, h⟩
    · rw [if_neg hl] at h
      exact h.elim
  | _ => exact h.elim
theorem es_asg {tg : Expr} {h : D → S} {fe : P D} (he : EV X g E e fe) (hg : EG X g E tg h) (hs : swapsWithSole [tg] e pos.line X.env = pure false := by rfl) (hw : swappedStores [tg] e X.env = pure none := by rfl)
    (h1 : (assignEach [tg] X.env).map (·.2) = [assign tg X.env] := by rfl) : ES X g E (.Assign [tg] e pos) (fun ρ => match sb fe h ρ with | some (.nx ρ') => some (.nx ρ') | some (.er c ns ds ρ') => some (.er c ns ds ρ') | _ => none) := by
  refine PS_imp (ps_asg he hg hs hw h1) fun Dn σ H hq => ?_
  obtain ⟨ok, ρ, w, hq⟩ := hq
  have hq : Ss X.K g E σ ρ ok H (sb fe h ρ) { nx := Dn.nx, rt := fun _ _ => False, bk := fun _ _ => False, ct := fun _ _ => False } := by
    cases e0 : sb fe h ρ with
    | none => simp only [e0] at hq; exact hq
    | some fl =>
      cases fl with
      | nx ρ' => simp only [e0] at hq; exact hq
      | er c ns ds ρ' => simp only [e0] at hq; exact hq
      | rt r ρ' => simp only [e0] at hq; exact hq.elim
      | bk ρ' => simp only [e0] at hq; exact hq.elim
      | ct ρ' => simp only [e0] at hq; exact hq.elim
  refine ⟨ok, ρ, w, (Ss.sb (RA := relD X.K) hq).mono fun v H1 hq => ?_⟩
  obtain ⟨ok1, ρ1, d, w1, s1, r1, h1'⟩ := hq
  exact ⟨ok1, ρ1, d, w1, r1, h1'⟩
/-! ### a text's letters -/
def lettersD (x : Str) : List D := x.cps.toList.map fun c => .str ⟨#[c]⟩
def strP : D → Option (List D)
  | .str x => some (lettersD x)
  | _ => none
theorem wk_str {K : PySem.W.Frag} {L : List Nat} {σ : L2.St} {ρ : En} {ok : Addr → Prop} {H : Hp} {x : Str} : WkOk K g L σ ρ (Its x) (lettersD x) ok H := by
  intro ok2 ρ2 σ2 H2 w2 f2 k2
  have ln : (lettersD x).length = x.cps.size := by unfold lettersD; rw [List.length_map, Array.length_toList]
  refine ⟨fun i hi => ?_, ?_, fun i d y H3 hd yl => ?_⟩
  · rw [ln] at hi; exact hi
  · rw [ln]; exact Nat.le_refl _
  · obtain ⟨rfl, c, hc, rfl⟩ := yl
    refine ⟨.inl rfl, ?_⟩
    unfold lettersD at hd
    rw [List.getElem?_map, Array.getElem?_toList, hc] at hd
    cases hd
    exact .str _
theorem ei_str {tg : Expr} (ha : EV X g E a fa) : EI X g E [] tg a (bnd fa fun d => lft (strP d)) := by
  refine PI_imp (pi_str ha) fun σ H R hq => ?_
  obtain ⟨ok, ρ, w, h⟩ := hq
  refine ⟨ok, ρ, w, ?_⟩
  cases e : fa ρ with
  | none => rw [bnd_none e] at h; exact h
  | some y =>
    cases y with
    | er c ns ds ρ' => rw [bnd_er e] at h; exact h
    | ok d ρ' =>
      rw [bnd_ok e] at h
      intro v H' ok' w' s' r'
      have r' : Rep X.K ok' H' v d := r'
      cases r' with
      | str x => exact ⟨x, rfl, h _ H' ok' w' s' wk_str⟩
      | _ => exact h.elim
end
end Pu
/-! Slices, repr, join, upper, dict(pairs). -/
namespace Pu
open PySem PySem.Spec PyProof.Rows L2 Kv
section
variable {X : Cx} {g : Gx} {E : Wx} {a b c e o : Expr} {es : List Expr} {x : Str} {p p2 pos apos cpos : Pos} {fa fb fo fe : P D} {fr : P (List D)}
/-! ### slices -/
abbrev relO : Rl (Option Int) (Option Int) := fun _ _ _ _ _ v d => v = d
theorem monoO : Mono relO := fun _ _ _ _ _ _ _ _ _ r => r
abbrev EO (X : Cx) (g : Gx) (E : Wx) (e : Option Expr) (f : P (Option Int)) : Prop := PO X e (tX X.K g E relO f)
theorem PO_imp {e : Option Expr} {t t' : TO} (h : PO X e t) (q : ∀ σ H Q, t' σ H Q → t σ H Q) : PO X e t' := ⟨fun pins s σ H Q I z => h.run pins s σ H Q I (q σ H Q z)⟩
theorem eo_none : EO X g E none (prt none) := PO_imp po_none fun σ H Q hq => tX_ret (X := X) (v := (none : Option Int)) hq fun _ _ _ => rfl
def asI : D → Option (Option Int)
  | .int i => some (some i)
  | _ => none
theorem eo_some (h : EV X g E e fe) : EO X g E (some e) (bnd fe fun d => lft (asI d)) := by
  refine PO_imp (po_some h) fun σ H Q hq => ?_
  obtain ⟨ok, ρ, w, h⟩ := hq
  refine ⟨ok, ρ, w, (Rs.bnd (RA := relD X.K) h (mo := monoO)).mono fun v H1 hq => ?_⟩
  obtain ⟨ok1, ρ1, d, w1, s1, r1, h1⟩ := hq
  have r1 : Rep X.K ok1 H1 v d := r1
  cases r1 with
  | int i => exact ⟨i, rfl, h1 _ H1 ok1 w1 Sx.refl rfl⟩
  | _ => exact h1.elim
def cutD (xs : List D) (lo hi : Option Int) : List D := (xs.drop (HT.sIx xs.length 0 lo)).take (HT.sIx xs.length xs.length hi - HT.sIx xs.length 0 lo)
theorem Reps.cut {K : PySem.W.Frag} {ok : Addr → Prop} {H : Hp} {vs : List V} {ds : List D} {lo hi : Option Int} (r : Reps K ok H vs ds) : Reps K ok H (cutV vs lo hi) (cutD ds lo hi) := by
  unfold cutV cutD
  rw [r.length]
  exact (r.drop _).take _
def lstOf : D → Option (List D)
  | .lst xs => some xs
  | .flst xs => some xs
  | _ => none
theorem Rep.lstOf {K : PySem.W.Frag} {ok : Addr → Prop} {H : Hp} {v : V} {d : D} {xs : List D} (r : Rep K ok H v d) (h : Pu.lstOf d = some xs) : ∃ a vs, v = .ref a ∧ SqL K H a vs ∧ Reps K ok H vs xs := by
  cases r with
  | lst h1 k r => cases h; exact ⟨_, _, rfl, .inl (.inl h1), r⟩
  | lstF h1 r => cases h; exact ⟨_, _, rfl, h1.sq, r⟩
  | _ => cases h
theorem er_rev {k : Nat} {p1 p3 : Pos} (he : EV X g E e fe) : ER X g E (.Subscript e (.Slice none none (some (.UnaryOp .USub (.Constant (.int 1) k p1) p2)) p3) pos) (bnd fe fun d => lft ((lstOf d).map fun xs => .own (.lst xs.reverse))) := by
  refine PE_imp (pe_revL he) fun σ H Q hq => ?_
  obtain ⟨ok, ρ, w, h⟩ := hq
  refine ⟨ok, ρ, w, (Rs.bnd (RA := relD X.K) h).mono fun v H1 hq => ?_⟩
  obtain ⟨ok1, ρ1, d, w1, s1, r1, h1⟩ := hq
  unfold lft at h1
  cases el : lstOf d with
  | none => rw [el] at h1; exact h1.elim
  | some xs =>
    rw [el] at h1
    obtain ⟨q, vs, rfl, hq, rv⟩ := Rep.lstOf r1 el
    exact ⟨q, vs, rfl, hq, fun p np => h1 _ _ (sub1 ok1 p) (w1.newO np) (Sx.newO np) (own_new w1 np ⟨_, upd_same, rv.rev.fr (fr_sub np)⟩)⟩
/-! ### repr -/
mutual
theorem Rep.sh {K : PySem.W.Frag} {ok : Addr → Prop} {H : Hp} : ∀ {v : V} {d : D} {p : PyData}, Rep K ok H v d → toPy d = some p → Sh K true H v p
  | _, _, _, .non, h => by cases h; exact .non
  | _, _, _, .bl b, h => by cases h; exact .bl b
  | _, _, _, .int i, h => by cases h; exact .int i
  | _, _, _, .str x, h => by cases h; exact .str x
  | _, _, _, .lst h1 _ r, h => by
    obtain ⟨ps, e, rfl⟩ := map_some (show (toPys _).map PyData.list = some _ from h)
    exact .lst (.inl (.inl h1)) (fun z => by cases z) (Reps.sh r e)
  | _, _, _, .lstF h1 r, h => by
    obtain ⟨ps, e, rfl⟩ := map_some (show (toPys _).map PyData.list = some _ from h)
    exact .lst h1.sq (fun z => by cases z) (Reps.sh r e)
  | _, _, _, .tupO h1 r, h => by
    obtain ⟨ps, e, rfl⟩ := map_some (show (toPys _).map PyData.tuple = some _ from h)
    exact .tup h1.sq (Reps.sh r e)
  | _, _, _, .tupF h1 r, h => by
    obtain ⟨ps, e, rfl⟩ := map_some (show (toPys _).map PyData.tuple = some _ from h)
    exact .tup h1.sq (Reps.sh r e)
  | _, _, _, .dic _ _, h => by cases h
  | _, _, _, .dct _ _, h => by cases h
  | _, _, _, .obj _ _ _, h => by cases h
  | _, _, _, .exn _ _, h => by cases h
  | _, _, _, .opq _, h => by cases h
  | _, _, _, .typ _, h => by cases h
  | _, _, _, .lsta h1 _ r, h => by
    obtain ⟨ps, e, rfl⟩ := map_some (show (toPys _).map PyData.list = some _ from h)
    exact .lst (.inl (.inl h1)) (fun z => by cases z) (Reps.sh r e)
theorem Reps.sh {K : PySem.W.Frag} {ok : Addr → Prop} {H : Hp} : ∀ {vs : List V} {ds : List D} {ps : List PyData}, Reps K ok H vs ds → toPys ds = some ps → ShAll K true H vs ps
  | _, _, _, .nil, h => by cases h; exact .nil
  | _, _, _, .cons (d := d) (ds := ds) r t, h => by
    unfold toPys at h
    cases e1 : toPy d with
    | none => rw [e1] at h; cases h
    | some p =>
      cases e2 : toPys ds with
      | none => rw [e1, e2] at h; cases h
      | some ps => rw [e1, e2] at h; cases h; exact .cons (Rep.sh r e1) (Reps.sh t e2)
end
def showP (p : PyData) : Option D := if p.showable = true ∧ p.shown.length ≤ sizeLine ∧ p.depth ≤ 60 then some (.str p.shown) else none
def shD : D → Option D
  | .dic [] [] => showP (.dict [])
  | d => (toPy d).bind showP
theorem repr_dict0 (hg : X.A.guards = some []) (hu : X.A.units + 64 < cLine) : CallR X (.builtin "repr") (fun xs H Q => ∃ a, xs = [.ref a] ∧ Rd H a (.dK []) ∧ (PyData.dict []).showable = true ∧ (PyData.dict []).shown.length ≤ sizeLine ∧ Q (.str (PyData.dict []).shown) H) := by
  intro pins s σ H xs us Q I rv ⟨a, ex, hd, hs, hz, hq⟩
  subst ex
  obtain ⟨u, rfl, z⟩ := vals1 rv
  cases z
  obtain ⟨_, hne, vs, kv, o, es, ep, g1, g2, g3, _, g5, _⟩ := (show ObjOk X.prog X.w H s.heap a (.dK []) from Rd.ok hd I.hok)
  obtain ⟨v1, v2⟩ := pairs_vals kv g5
  have rd : Reads s.heap (.ref a) (.dict []) ((a :: []) ++ []) := Reads.dict (kvs := []) g1 g2.1 g3 (by cases h : es.toList.map (·.key) with
    | nil => exact .nil
    | cons x xs => rw [h] at v1; cases v1) (by cases h : es.toList.map (·.val) with
    | nil => exact .nil
    | cons x xs => rw [h] at v2; cases v2)
  refine repr_of_reads' rd hs (fun _ hm => ?_) hg (by show _ + _ < _; have : (PyData.dict []).depth ≤ 60 := by decide +kernel
                                                      omega) (fun _ _ e => e) (fun h2 u tk hk => ⟨.str _, H, I.kept hk, ⟨_, rfl⟩, hq⟩) hz
  rcases List.mem_cons.mp hm with y | y
  · rw [← y] at hne
    simp at hne
  · cases y
def rReprA (K : PySem.W.Frag) : List V → Hp → VK → Prop := fun xs H Q => rRepr K xs H Q ∨ ∃ a, xs = [.ref a] ∧ Rd H a (.dK []) ∧ (PyData.dict []).showable = true ∧ (PyData.dict []).shown.length ≤ sizeLine ∧ Q (.str (PyData.dict []).shown) H
theorem call_reprA (hg : X.A.guards = some []) (hu : X.A.units + 64 < cLine) : CallR X (.builtin "repr") (rReprA X.K) := CallR.or (call_reprD hg hu) (repr_dict0 hg hu)
theorem o1_repr : Op1 X.K (rReprA X.K) shD := by
  intro g ρ σ ok H v d z Q w r h q
  have key : ∀ p, toPy d = some p → showP p = some z → rRepr X.K [v] H Q := fun p e1 e2 => by
    unfold showP at e2
    split at e2
    · rename_i hz
      cases e2
      have sh : Sh X.K true H v p := by
        rcases r with r | ⟨q, rfl, o⟩
        · exact r.sh e1
        · cases d with
          | lst ds =>
            obtain ⟨vs, hv, rv⟩ := o
            obtain ⟨ps, e, rfl⟩ := map_some (show (toPys _).map PyData.list = some _ from e1)
            exact .lst (.inl (.inl hv)) (fun z => by cases z) (rv.sh e)
          | dic _ _ => cases e1
          | dct _ _ => cases e1
          | obj _ _ _ => cases e1
          | lsta a ds =>
            obtain ⟨_, vs, hv, rv⟩ := o
            obtain ⟨ps, e, rfl⟩ := map_some (show (toPys _).map PyData.list = some _ from e1)
            exact .lst (.inl (.inl hv)) (fun z => by cases z) (rv.sh e)
          | _ => exact o.elim
      exact ⟨true, v, p, rfl, sh, hz.1, hz.2.1, hz.2.2, q.at w (.str _)⟩
    · cases e2
  unfold shD at h
  split at h
  · unfold showP at h
    split at h
    · rename_i hz
      cases h
      obtain ⟨a, kvs, rfl, ha, hk, _⟩ := Pk.dic r
      cases kvs with
      | nil => exact .inr ⟨a, rfl, ha, hz.1, hz.2.1, q.at w (.str _)⟩
      | cons _ _ => cases hk
    · cases h
  · cases e : toPy d with
    | none => rw [e] at h; cases h
    | some p => rw [e] at h; exact .inl (key p e h)
/-! ### join, upper -/
def strsD : List D → Option (List Str)
  | [] => some []
  | .str x :: ds => (strsD ds).map (x :: ·)
  | _ :: _ => none
theorem Reps.strs {K : PySem.W.Frag} {ok : Addr → Prop} {H : Hp} : ∀ {vs : List V} {ds : List D} {ys : List Str}, Reps K ok H vs ds → strsD ds = some ys → vs = ys.map V.str
  | _, _, _, .nil, h => by cases h; rfl
  | _, _, _, .cons r t, h => by
    cases r with
    | str x =>
      obtain ⟨zs, e, rfl⟩ := map_some (show (strsD _).map (x :: ·) = some _ from h)
      rw [Reps.strs t e]; rfl
    | _ => cases h
def joinD (t : Str) : List D → Option D
  | [d] => match seqD d with
    | some xs => match strsD xs with
      | some ys => if (ys.map (·.length)).sum + ys.length * t.length ≤ 16777216 then some (.str (Txt.join t ys)) else none
      | none => none
    | none => none
  | _ => none
theorem om_join : OpM X.K (fun x xs H Q => ∃ a p, ∃ ys : List Str, x = .str a ∧ xs = [.ref p] ∧ (SqL X.K H p (ys.map V.str) ∨ SqT X.K H p (ys.map V.str)) ∧
    (ys.map (·.length)).sum + ys.length * a.length ≤ 16777216 ∧ Q (.str (Txt.join a ys)) H) joinD := by
  intro g ρ σ ok H t vs ds z Q w r h q
  unfold joinD at h
  split at h
  · rename_i d
    cases e1 : seqD d with
    | none => rw [e1] at h; cases h
    | some xs =>
      rw [e1] at h
      dsimp only at h
      cases e2 : strsD xs with
      | none => rw [e2] at h; cases h
      | some ys =>
        rw [e2] at h
        dsimp only at h
        split at h
        · rename_i hz
          cases h
          cases r with
          | cons r1 rr =>
            cases rr
            obtain ⟨a, vs, rfl, hs, rv⟩ := Pk.seq (.inl r1) e1
            have ev := rv.strs e2
            subst ev
            exact ⟨t, a, ys, rfl, rfl, hs, hz, q.at w (.str _)⟩
        · cases h
  · cases h
end
end Pu
/-! Dicts: walked, listed, made of pairs, written. -/
namespace Pu
open PySem PySem.Spec PyProof.Rows L2 Kv
section
variable {K : PySem.W.Frag} {g : Gx} {ok : Addr → Prop} {ρ : En} {σ : L2.St} {H : Hp} {d : Addr} {u : HO} {od : Obj}
end
section
variable {X : Cx} {g : Gx} {E : Wx} {a b c e o tg : Expr} {es : List Expr} {x : Str} {p p2 pos apos cpos : Pos} {fa fb fo fe : P D} {fr : P (List D)}
def keyD : Key → D
  | .inl i => .int i
  | .inr x => .str x
theorem rep_key {K : PySem.W.Frag} {ok : Addr → Prop} {H : Hp} (k : Key) : Rep K ok H (kV k) (keyD k) := by
  cases k with
  | inl i => exact .int i
  | inr x => exact .str x
theorem reps_keys {K : PySem.W.Frag} {ok : Addr → Prop} {H : Hp} : ∀ ks : List Key, Reps K ok H (ks.map kV) (ks.map keyD)
  | [] => .nil
  | k :: ks => .cons (rep_key k) (reps_keys ks)
def keysD : D → Option (List D)
  | .dic ks _ => some (ks.map keyD)
  | .dct ks _ => some (ks.map fun k => .tup (k.map keyD))
  | _ => none
/-! ### d.values(), d.items() -/
/-! ### dict(pairs) -/
def putD {κ : Type} [DecidableEq κ] (ks : List κ) (vs : List D) (k : κ) (v : D) : List κ × List D :=
  if (ks.any fun a => decide (a = k)) = true then (ks, (ks.zip vs).map fun p => if p.1 = k then v else p.2) else (ks ++ [k], vs ++ [v])
theorem putD_ok {κ : Type} [DecidableEq κ] {K : PySem.W.Frag} {ok : Addr → Prop} {H : Hp} {kvs : List (κ × V)} {ds : List D} {k : κ} {v : V} {d : D} (r : Reps K ok H (kvs.map (·.2)) ds) (rv : Rep K ok H v d) :
    (putK kvs k v).map (·.1) = (putD (kvs.map (·.1)) ds k d).1 ∧ Reps K ok H ((putK kvs k v).map (·.2)) (putD (kvs.map (·.1)) ds k d).2 := by
  have he : ((kvs.map (·.1)).any fun a => decide (a = k)) = (kvs.any fun kv => decide (kv.1 = k)) := by rw [List.any_map]; rfl
  by_cases hk : (kvs.any fun kv => decide (kv.1 = k)) = true
  · have e1 : putK kvs k v = kvs.map (fun kv => if kv.1 = k then (kv.1, v) else kv) := if_pos hk
    have e2 : putD (kvs.map (·.1)) ds k d = (kvs.map (·.1), ((kvs.map (·.1)).zip ds).map fun p => if p.1 = k then d else p.2) := if_pos (he.trans hk)
    rw [e1, e2]
    clear e1 e2 hk he
    constructor
    · rw [List.map_map]
      refine List.map_congr_left fun p _ => ?_
      show (if p.1 = k then (p.1, v) else p).1 = p.1
      split <;> rfl
    · induction kvs generalizing ds with
      | nil => cases r; exact .nil
      | cons p ps ih =>
        cases r with
        | cons r1 rr =>
          refine .cons ?_ (ih rr)
          show Rep K ok H (if p.1 = k then (p.1, v) else p).2 (if p.1 = k then d else _)
          split
          · exact rv
          · exact r1
  · have e1 : putK kvs k v = kvs ++ [(k, v)] := if_neg hk
    have e2 : putD (kvs.map (·.1)) ds k d = (kvs.map (·.1) ++ [k], ds ++ [d]) := if_neg fun z => hk (he.symm.trans z)
    rw [e1, e2, List.map_append, List.map_append]
    exact ⟨rfl, r.app (.cons rv .nil)⟩
def mergeD (ks : List Key) (vs : List D) : List (Key × D) → List Key × List D
  | [] => (ks, vs)
  | (k, v) :: ps => let q := putD ks vs k v; mergeD q.1 q.2 ps
theorem mergeD_ok {K : PySem.W.Frag} {ok : Addr → Prop} {H : Hp} : ∀ {more : List (Key × V)} {md : List (Key × D)} {kvs : List (Key × V)} {ds : List D}, Reps K ok H (kvs.map (·.2)) ds → more.map (·.1) = md.map (·.1) → Reps K ok H (more.map (·.2)) (md.map (·.2)) →
    (mergeK kvs more).map (·.1) = (mergeD (kvs.map (·.1)) ds md).1 ∧ Reps K ok H ((mergeK kvs more).map (·.2)) (mergeD (kvs.map (·.1)) ds md).2
  | [], [], kvs, ds, r, _, _ => ⟨rfl, r⟩
  | [], _ :: _, _, _, _, h, _ => by cases h
  | _ :: _, [], _, _, _, h, _ => by cases h
  | (k, v) :: more, (k', d) :: md, kvs, ds, r, hk, hm => by
    have hk1 : k = k' := (List.cons.inj hk).1
    have hk2 : more.map (·.1) = md.map (·.1) := (List.cons.inj hk).2
    subst hk1
    cases hm with
    | cons r1 rr =>
      obtain ⟨p1, p2⟩ := putD_ok (k := k) r r1
      have ih := mergeD_ok (more := more) (md := md) p2 hk2 rr
      rw [p1] at ih
      exact ih
def pairD : D → Option (Key × D)
  | .tup [k, v] => (asKey k).map fun k' => (k', v)
  | _ => none
def pairsOf : List D → Option (List (Key × D))
  | [] => some []
  | d :: ds => match pairD d, pairsOf ds with
    | some p, some ps => some (p :: ps)
    | _, _ => none
theorem pairs_rep {K : PySem.W.Frag} {ok : Addr → Prop} {H : Hp} : ∀ {vs : List V} {ds : List D} {ps : List (Key × D)}, Reps K ok H vs ds → pairsOf ds = some ps →
    ∃ (as : List Addr) (kvs : List (Key × V)), vs = as.map V.ref ∧ Paired (fun p kv => SqT K H p [kV kv.1, kv.2]) as kvs ∧ kvs.map (·.1) = ps.map (·.1) ∧ Reps K ok H (kvs.map (·.2)) (ps.map (·.2))
  | _, _, _, .nil, h => by cases h; exact ⟨[], [], rfl, .nil, rfl, .nil⟩
  | _, _, _, .cons (d := d) (ds := ds) r t, h => by
    unfold pairsOf at h
    cases e1 : pairD d with
    | none => rw [e1] at h; cases h
    | some p =>
      cases e2 : pairsOf ds with
      | none => rw [e1, e2] at h; cases h
      | some ps =>
        rw [e1, e2] at h
        cases h
        obtain ⟨as, kvs, rfl, pr, hk, hv⟩ := pairs_rep t e2
        unfold pairD at e1
        split at e1
        · rename_i kd vd
          obtain ⟨k', ek, rfl⟩ := map_some e1
          cases r with
          | tupO ht rs =>
            replace ht := ht.at (by rintro rfl; cases rs)
            cases rs with
            | cons r1 rr =>
              cases rr with
              | cons r2 r3 =>
                cases r3
                rename_i q v1 v2
                have ev := r1.key ek
                subst ev
                exact ⟨q :: as, (k', v2) :: kvs, rfl, .cons (.inl (.inl ht)) pr, by rw [List.map_cons, List.map_cons, hk], .cons r2 hv⟩
        · cases e1
def dictP (d : D) : Option R := (lstOf d).bind fun xs => (pairsOf xs).map fun ps => let q := mergeD [] [] ps; .own (.dic q.1 q.2)
theorem er_dict (hc : X.calm = true) (hg : Gl X "dict") (hm : X.mg "dict" = none) (ha : EV X g E a fa) (hs : starEach [a] X.env = [(false, eval a X.env)] := by rfl) : ER X g E (.Call (.Name "dict" p) [a] [] pos) (bnd fa fun x => lft (dictP x)) := by
  refine PE_imp (pe_callTy (x := "dict") (call_dictP hc) hg hm (by decide +kernel) (pa_cons ha pa_nil hs) (by decide) (by decide) hs rfl) fun σ H Q hq => ?_
  obtain ⟨ok, ρ, w, h⟩ := hq
  refine ⟨ok, ρ, w, (Rs.bnd (RA := relD X.K) h).mono fun v1 H1 hq => ?_⟩
  obtain ⟨ok1, ρ1, d, w1, f1, r1, h1⟩ := hq
  unfold lft dictP at h1
  cases es : lstOf d with
  | none => rw [es] at h1; exact h1.elim
  | some xs =>
    rw [es] at h1
    obtain ⟨q, vs, rfl, sq, rp⟩ := Rep.lstOf r1 es
    cases ep : pairsOf xs with
    | none => simp only [Option.bind_some, ep, Option.map_none] at h1; exact h1.elim
    | some ps =>
      simp only [Option.bind_some, ep, Option.map_some] at h1
      obtain ⟨as, kvs, rfl, pr, hk, hv⟩ := pairs_rep rp ep
      refine ⟨q, as, kvs, rfl, sq, pr, fun l nl => ?_⟩
      obtain ⟨m1, m2⟩ := mergeD_ok (K := X.K) (ok := ok1) (H := H1) (kvs := []) (ds := []) .nil hk hv
      exact h1 _ _ (sub1 ok1 l) (w1.newO nl) (Sx.newO nl) (own_new w1 nl ⟨_, upd_same, m1, m2.fr (fr_sub nl)⟩)
/-! ### list(d) -/
theorem list_dK (hc : X.calm = true) : CallR X (.type "list") (fun xs H Q => ∃ d kvs, xs = [V.ref d] ∧ Rd H d (.dK kvs) ∧ ∀ q, H q = none → Q (.ref q) (upd H q (.lst ((kvs.map (·.1)).map kV)))) := by
  intro pins s σ H xs us Q I rv ⟨d, kvs, ex, hd, hq⟩
  subst ex
  obtain ⟨w1, rfl, z⟩ := vals1 rv
  cases z
  obtain ⟨hz, hne, ws, hkv, hD⟩ := dk_rd I.hok hd
  obtain ⟨ep, hA⟩ := hD.dictAt
  have hlen : ws.length = kvs.length := (Paired.length hkv).symm
  refine PySem.W.kdl_call (PySem.W.kdl_dict (knd := mixKind X.prog X.w) (kvs := ws) (ep := ep) hne) (I.ok.hd hc) hA (hlen ▸ hz) fun h' tk its c hkp hnew hits => ?_
  have hv : Vals ((kvs.map (·.1)).map kV) its.toList := by
    refine vals_of_at (by simp only [List.length_map, Array.length_toList]; have := hits.1; omega) fun j y u h1 h2 => ?_
    rw [Array.getElem?_toList] at h2
    obtain ⟨k, y', e1, e2⟩ := hits.2 j u h2
    rw [KV.keys hkv, List.getElem?_map, List.getElem?_map, e1] at h1
    cases h1
    exact keyIs_rel e2
  have hok : ObjOk X.prog X.w (upd H s.heap.objs.size (.lst ((kvs.map (·.1)).map kV))) h' s.heap.objs.size (.lst ((kvs.map (·.1)).map kV)) := ⟨by rw [List.length_map, List.length_map]; exact hz, its.toList, c, hv, by rw [Array.toArray_toList]; exact hnew⟩
  exact ⟨.ref s.heap.objs.size, _, I.laid hkp (Nat.le_refl _) hok, rfl, hq _ (I.hok.fresh (Nat.le_refl _))⟩
def listP (d : D) : Option R := match d with
  | .dic ks _ => some (.own (.lst (ks.map keyD)))
  | .dct ks _ => some (.own (.lst (ks.map fun k => .tup (k.map keyD))))
  | d => (seqD d).map fun xs => .own (.lst xs)
theorem keysT_reps {K : PySem.W.Frag} {ok : Addr → Prop} {H : Hp} : ∀ {kvs : List (List Key × V)} {bs : List Addr}, IsKeys H kvs bs → Reps K ok H (bs.map V.ref) ((kvs.map (·.1)).map fun k => .tup (k.map keyD))
  | [], _, h => by cases h; exact .nil
  | p :: ps, _, h => by
    cases h with
    | cons h1 t => exact .cons (.tup h1 (reps_keys p.1)) (keysT_reps t)
def rListA (K : PySem.W.Frag) : List V → Hp → VK → Prop := fun xs H Q => (∃ p ys, xs = [V.ref p] ∧ (SqL K H p ys ∨ SqT K H p ys) ∧ ∀ l, H l = none → Q (.ref l) (upd H l (.lst ys))) ∨
  (∃ d kvs, xs = [V.ref d] ∧ Rd H d (.dK kvs) ∧ ∀ q, H q = none → Q (.ref q) (upd H q (.lst ((kvs.map (·.1)).map kV)))) ∨ (∃ d kvs, xs = [V.ref d] ∧ Rd H d (.dT kvs) ∧ ∀ p bs, H p = none → IsKeys H kvs bs → Q (.ref p) (upd H p (.lst (bs.map V.ref))))
theorem call_listA (hc : X.calm = true) : CallR X (.type "list") (rListA X.K) := CallR.or call_list_of (CallR.or (list_dK hc) (call_list_dT hc))
theorem er_listA (hc : X.calm = true) (hg : Gl X "list") (hm : X.mg "list" = none) (ha : EP X g E a fa) (hs : starEach [a] X.env = [(false, eval a X.env)] := by rfl) : ER X g E (.Call (.Name "list" p) [a] [] pos) (bnd fa fun x => lft (listP x)) := by
  refine PE_imp (pe_callTy (x := "list") (call_listA hc) hg hm (by decide +kernel) (pa_cons ha pa_nil hs) (by decide) (by decide) hs rfl) fun σ H Q hq => ?_
  obtain ⟨ok, ρ, w, h⟩ := hq
  refine ⟨ok, ρ, w, (Rs.bnd (RA := relP X.K) h).mono fun v1 H1 hq => ?_⟩
  obtain ⟨ok1, ρ1, d, w1, f1, r1, h1⟩ := hq
  unfold lft at h1
  have r1 : Pk X.K ok1 H1 v1 d := r1
  show rListA X.K [v1] H1 Q
  have seq : ∀ xs, seqD d = some xs → listP d = some (.own (.lst xs)) → rListA X.K [v1] H1 Q := fun xs es el => by
    rw [el] at h1
    obtain ⟨q, vs, rfl, sq, rp⟩ := r1.seq es
    refine .inl ⟨q, vs, rfl, sq, fun l nl => ?_⟩
    exact h1 _ _ (sub1 ok1 l) (w1.newO nl) (Sx.newO nl) (own_new w1 nl ⟨vs, upd_same, rp.fr (fr_sub nl)⟩)
  cases d with
  | lst xs => exact seq xs rfl rfl
  | tup xs => exact seq xs rfl rfl
  | flst xs => exact seq xs rfl rfl
  | ftup xs => exact seq xs rfl rfl
  | dic ks vs =>
    obtain ⟨q, kvs, rfl, hd, rfl, rp⟩ := r1.dic
    exact .inr (.inl ⟨q, kvs, rfl, hd, fun l nl => h1 _ _ (sub1 ok1 l) (w1.newO nl) (Sx.newO nl) (own_new w1 nl ⟨_, upd_same, reps_keys _⟩)⟩)
  | dct ks vs =>
    obtain ⟨q, kvs, rfl, hd, rfl, rp⟩ := r1.dct
    exact .inr (.inr ⟨q, kvs, rfl, hd, fun l bs nl hb => h1 _ _ (sub1 ok1 l) (w1.newO nl) (Sx.newO nl) (own_new w1 nl ⟨_, upd_same, (keysT_reps hb).fr (fr_sub nl)⟩)⟩)
  | _ => exact h1.elim
end
end Pu
/-! Defs with a star parameter; stars in displays and calls; dicts that are written. -/
namespace Pu
open PySem PySem.Spec PyProof.Rows L2 Kv
def FnV (P' : Program) (w : World) (K : PySem.W.Frag) (mg : Str → Option Value) (base : Heap) (k : Nat) (f : Addr) (sp : Sp) : Prop :=
  ∀ (A : Around) (outer : List Env) (s : Shared) (H : Hp) (us : List Value) (vs : List V) (Q : VK) (E : XK), A.guards = some [] → Room k A → Env0 P' w K mg base A outer s H → Vals vs us → sp vs H Q E →
    codeAny (model P' w) A (.call (.ref f) ⟨us, []⟩) (CR (L2.CX P' w) outer P' w H s Q E) s
section
variable {P' : Program} {w : World} {K : PySem.W.Frag} {mg : Str → Option Value} {base : Heap} {k : Nat} {f : Addr} {name qual : Str} {params : Arguments} {body : List Stmt} {scope : Scope} {dV kV doc pm cdv ct oc : Value} {an od : Option Addr}
  {osl : Array (Option Value)} {N ps : List Str} {sp : Sp}
def spStar (n : Nat) (sp : Sp) : Sp := fun vs H Q E => n ≤ vs.length ∧ vs.length ≤ sizeLine ∧ ∀ t, H t = none → sp (vs.take n ++ [V.ref t]) (upd H t (.tup (vs.drop n))) Q E
theorem fn_starV {pv : Str} (lk : K.lookup f = some ⟨oc, od, .func (PySem.W.fnOf name qual params body scope dV kV doc pm an cdv ct), osl⟩) (hcd : PySem.W.codeIn K cdv qual = true) (S : FnScope N (ps ++ [pv]) scope)
    (hbind : ∀ us rest : List Value, us.length = ps.length → bindArgs (PySem.W.fnOf name qual params body scope dV kV doc pm an cdv ct) ⟨us ++ rest, []⟩ = (newTuple rest >>= fun t => pure (ps.zip us ++ [(pv, t)])))
    (hbody : ∀ (A : Around) (outer : List Env) (s : Shared) (H : Hp) (vs : List V) (Q : VK) (E : XK), A.guards = some [] → Room k (A.deeper (envOfC qual scope s.heap.objs.size f cdv)) → sp vs H Q E →
      ∃ t, PSs (cxOf (L2.CX P' w) P' w K mg base N qual scope f cdv A outer s H E) body t ∧ t { nx := fun _ H' => Q .non H', rt := Q } (start N vs) H) :
    FnV P' w K mg base (k + 1) f (spStar ps.length sp) := by
  intro A outer s H us vs Q E hg hr e0 rv ⟨hn, hz, hsp⟩
  have rv' : Vals (vs.take ps.length ++ vs.drop ps.length) us := by rw [List.take_append_drop]; exact rv
  obtain ⟨ua, ub, rfl, ra, rb⟩ := StX.vals_split rv'
  have la : ua.length = ps.length := by rw [← ra.length, List.length_take]; omega
  have lv : (vs.take ps.length).length = ps.length := by rw [List.length_take]; omega
  have lb : (vs.drop ps.length).length ≤ sizeLine := by rw [List.length_drop]; omega
  have hp : H s.heap.objs.size = none := e0.hok.fresh (Nat.le_refl _)
  let T : Obj := { cls := .type "tuple", data := .seq ub.toArray }
  refine StX.run_bnd lk hcd S hr e0 (G := fun xs H2 => ∃ t, H t = none ∧ xs = vs.take ps.length ++ [V.ref t] ∧ H2 = upd H t (.tup (vs.drop ps.length))) (fun A' Ex Q' h => ?_) fun s2 H2 xs g2 hr2 => ?_
  · rw [hbind ua ub la]
    refine wpAny_bind (wpAny_newTuple (wpAny_pure ?_) (by rw [← rb.length]; exact lb))
    have okT : ObjOk P' w (upd H s.heap.objs.size (.tup (vs.drop ps.length))) (s.heap.push T) s.heap.objs.size (.tup (vs.drop ps.length)) := ⟨lb, ub, rb, ⟨T, Heap.get?_push_size _ rfl, rfl, _, rfl⟩⟩
    have hun := StX.un_laid (fs := frs outer) (s := s) (o := T) (u := .tup (vs.drop ps.length)) hp
    have := h _ _ (vs.take ps.length ++ [V.ref s.heap.objs.size]) (ua ++ [Value.ref s.heap.objs.size]) (StX.env0_laid e0 okT) hun rfl (fun er s' => StX.cxUp outer s H _ _ E er s' hun (fun _ _ q => Heap.get?_push_of_some _ q) rfl) (ra.append (.cons rfl .nil)) (by rw [List.length_append, List.length_append, lv]; rfl) ⟨_, hp, rfl, rfl⟩
    rw [List.zip_append la.symm] at this
    exact this
  · obtain ⟨t, ht, rfl, rfl⟩ := g2
    exact hbody A outer s2 _ _ Q E hg hr2 (hsp t ht)
end
def starF (n : Nat) (F : P R) : List D → P R := fun ds => if n ≤ ds.length ∧ ds.length ≤ sizeLine then app F (ds.take n ++ [.tup (ds.drop n)]) else fun _ => none
structure CalMS (P' : Program) (w : World) (K : PySem.W.Frag) (mg : Str → Option Value) (base : Heap) (T : List (Addr × Str)) (C : Addr) (k n : Nat) (m : Str) (F : P R) : Prop where
  ex : ∃ f, FnV P' w K mg base k f (spStar n (spP K T (n + 1) F)) ∧ Meth K C m f ∧ Cls K C
structure DefS (K : PySem.W.Frag) (C : Addr) (x qual : Str) (st : Stmt) (ps : List Str) (pv : Str) : Prop where
  ex : ∃ f fd, Fun K x qual st f fd ∧ Meth K C x f ∧ Cls K C ∧ ∀ us rest : List Value, us.length = ps.length → bindArgs fd ⟨us ++ rest, []⟩ = (newTuple rest >>= fun t => pure (ps.zip us ++ [(pv, t)]))
section
variable {P' : Program} {w : World} {K : PySem.W.Frag} {mg : Str → Option Value} {base : Heap} {T : List (Addr × Str)}
theorem body_ok {qual : Str} {sc : Scope} {f : Addr} {cdv : Value} {N : List Str} {n : Nat} {B : List Nat} {body : S} {bs : List Stmt} {A : Around} {fr : List Env} {s : Shared} {H : Hp} {vs : List V} {Q : VK} {E : XK} (hpl : n ≤ N.length)
    (hb : ESs (cxOf (L2.CX P' w) P' w K mg base N qual sc f cdv A fr s H E) ⟨H, B, T⟩ (fun _ => E) bs body) (hsp : spP K T n (fnP N.length B body) vs H Q E) :
    ∃ t, PSs (cxOf (L2.CX P' w) P' w K mg base N qual sc f cdv A fr s H E) bs t ∧ t { nx := fun _ H' => Q .non H', rt := Q } (start N vs) H := by
  refine ⟨_, hb, ?_⟩
  obtain ⟨ok, as, hn, w0, h⟩ := hsp
  unfold fnP at h
  split at h
  · rename_i hl
    obtain ⟨w1, hw⟩ := fn_enter (N := N) hn hpl w0 hl
    refine ⟨ok, _, w1, ?_⟩
    cases eb : body (as ++ List.replicate (N.length - as.length) .un) with
    | none => rw [eb] at h; exact h
    | some fl =>
      rw [eb] at h
      cases fl with
      | nx ρ' =>
        intro σ' H' ok' w' s'
        obtain ⟨w2, s2, _⟩ := fn_leave hn w0 hl hw w' s'
        exact h .non H' ok' w2 s2 .non
      | rt r ρ' =>
        intro v σ' H' ok' w' s' r'
        obtain ⟨w2, s2, hs⟩ := fn_leave hn w0 hl hw w' s'
        refine h v H' ok' w2 s2 ?_
        cases r with
        | val d => exact r'
        | own d =>
          obtain ⟨q, e, o, nk, n0, np⟩ := r'
          refine ⟨q, e, o, nk, n0, fun j e' hj z => ?_⟩
          obtain ⟨h1, h2⟩ := hs j e' hj
          exact np j e' h1 (by rw [h2]; exact z)
      | bk ρ' => exact h.elim
      | ct ρ' => exact h.elim
      | er c ns ds ρ' =>
        intro dx fs σ' H' ok' w' s' e1 e2 e3
        obtain ⟨w2, s2, _⟩ := fn_leave hn w0 hl hw w' s'
        exact h dx fs H' ok' w2 s2 e1 e2 e3
  · exact h.elim
theorem calMS_mk {C : Addr} {x qual pv : Str} {st : Stmt} {N ps : List Str} {k n : Nat} {B : List Nat} {body : S} (d : DefS K C x qual st ps pv) (S : FnScope N (ps ++ [pv]) (defScope st)) (hn : ps.length = n)
    (hb : ∀ (f : Addr) (cdv : Value) (A : Around) (fr : List Env) (s : Shared) (H : Hp) (E : XK), A.guards = some [] → Room k (A.deeper (envOfC qual (defScope st) s.heap.objs.size f cdv)) →
      ESs (cxOf (L2.CX P' w) P' w K mg base N qual (defScope st) f cdv A fr s H E) ⟨H, B, T⟩ (fun _ => E) (defBody st) body) :
    CalMS P' w K mg base T C (k + 1) n x (fnP N.length B body) := by
  obtain ⟨f, fd, F, m, c, hbind⟩ := d.ex
  obtain ⟨oc, od, kV, doc, pm, an, cdv, ct, osl, rfl, lk, hcd⟩ := F.ex
  subst hn
  have hpl : ps.length + 1 ≤ N.length := by have := congrArg List.length S.pre; rw [List.length_take, List.length_append, List.length_singleton] at this; omega
  exact ⟨f, fn_starV lk hcd S hbind fun A fr s H vs Q E hg hr hsp => body_ok hpl (hb f cdv A fr s H E hg hr) hsp, m, c⟩
end
section
variable {X : Cx} {g : Gx} {E : Wx} {k n : Nat} {C : Addr} {x m : Str} {F : P R} {p pos apos : Pos} {e o : Expr} {es : List Expr} {fe : P D} {fr : P (List D)}
theorem star_ok {ok : Addr → Prop} {ρ : En} {σ : L2.St} {H : Hp} {vs : List V} {ds : List D} {Q : VK} (w : Wf X.K g ok ρ σ H) (r : Reps X.K ok H vs ds) (h : Rs X.K g E (relR X.K) σ ρ ok H (starF n F ds ρ) Q) : spStar n (spP X.K g.T (n + 1) F) vs H Q (E σ) := by
  unfold starF at h
  split at h
  · rename_i hn
    refine ⟨by rw [r.length]; exact hn.1, by rw [r.length]; exact hn.2, fun t nt => ?_⟩
    have rr : Reps X.K ok (upd H t (.tup (vs.drop n))) (vs.take n ++ [V.ref t]) (ds.take n ++ [.tup (ds.drop n)]) := ((r.fr (fr_new nt)).take n).app (.cons (.tup upd_same ((r.fr (fr_new nt)).drop n)) .nil)
    refine app_ok (w.new nt) rr ?_ (h.shift (Sx.new nt) monoR)
    rw [List.length_append, List.length_take, r.length]
    show min n ds.length + 1 = n + 1
    omega
  · exact h.elim
/-! ### *e in a display -/
def starA (fe : P D) (fr : P (List D)) : P (List D) := bnd fe fun d => match seqD d with
  | some xs => bnd fr fun ys => prt (xs ++ ys)
  | none => fun _ => none
theorem ea_star (he : EV X g E e fe) (hr : EA X g E es fr) (hs : starEach (.Starred e p :: es) X.env = (true, eval e X.env) :: starEach es X.env := by rfl) : EA X g E (.Starred e p :: es) (starA fe fr) := by
  refine PA_imp (StX.pa_star he hr hs) fun σ H Q hq => ?_
  obtain ⟨ok, ρ, w, h⟩ := hq
  refine ⟨ok, ρ, w, (Rs.bnd (RA := relD X.K) h).mono fun v H1 hq => ?_⟩
  obtain ⟨ok1, ρ1, d, w1, f1, r1, h1⟩ := hq
  have r1 : Rep X.K ok1 H1 v d := r1
  cases es : seqD d with
  | none => simp only [es] at h1; exact h1.elim
  | some xs =>
    simp only [es] at h1
    obtain ⟨a, vs, rfl, hv, rv⟩ := Pk.seq (.inl r1) es
    refine ⟨a, vs, rfl, hv.symm, ok1, ρ1, w1, (Rs.bnd (RA := relA X.K) h1).mono fun ws H2 hq => ?_⟩
    obtain ⟨ok2, ρ2, ys, w2, f2, r2, h2⟩ := hq
    exact h2 _ H2 ok2 w2 Sx.refl ((rv.fr f2.fr).app r2)
/-! ### dicts that are written -/
def stPut (i : Nat) (k d : D) : S := fun ρ => match ρ[i]? with
  | some (.own (.dic ks vs)) => match asKey k with
    | some k' => if ks.length < sizeLine then (let q := putD ks vs k' d; some (.nx (ρ.set i (.own (.dic q.1 q.2))))) else none
    | none => none
  | some (.own (.dct ks vs)) => match k with
    | .tup xs => match asKeysN xs with
      | some k' => if ks.length < sizeLine then (let q := putD ks vs k' d; some (.nx (ρ.set i (.own (.dct q.1 q.2))))) else none
      | none => none
    | _ => none
  | _ => none
theorem fr_own {K : PySem.W.Frag} {ok : Addr → Prop} {H : Hp} {q : Addr} {o o' : HO} (h : H q = some o) (v : Vol o) (nk : ¬ ok q) : Fr ok H ok (upd H q o') :=
  .of (fun a x ha hk => by
    have : a ≠ q := fun z => by
      subst z
      rw [h] at ha
      cases ha
      exact nk (hk v)
    rw [upd_ne this]; exact ha) (fun _ _ _ k => k) (fun a ha => by
    by_cases z : a = q
    · rw [z, upd_same] at ha; cases ha
    · rw [upd_ne z] at ha; exact ha)
end
end Pu
/-! More walks: enumerate, reversed, zip of two; -i; insert; a written tuple. -/
namespace Pu
open PySem PySem.Spec PyProof.Rows L2 Kv
section
variable {X : Cx} {g : Gx} {E : Wx} {tg a b c e : Expr} {x : Str} {p pos : Pos} {fa fb fc : P D}
/-! ### -i -/
/-! ### xs.insert(i, y) -/
/-! ### walks over what one value tells -/
/-! ### enumerate -/
/-! ### reversed -/
/-! ### a written tuple of texts -/
end
end Pu
/-! zip of a tuple and a list; zip of two of a kind. -/
namespace Pu
open PySem PySem.Spec PyProof.Rows L2 Kv
def ItzM (K : PySem.W.Frag) (a b : Addr) : It where
  go := fun i H => ∃ (xs ys : List V) (x y : V), SqT K H a xs ∧ SqL K H b ys ∧ xs[i]? = some x ∧ ys[i]? = some y
  yld := fun i H v H' => ∃ T x y, v = .ref T ∧ H T = none ∧ H' = upd H T (.tup [x, y]) ∧ (∀ xs, SqT K H a xs → xs[i]? = some x) ∧ ∀ ys, SqL K H b ys → ys[i]? = some y
  stop := fun i H => ∃ xs ys : List V, SqT K H a xs ∧ SqL K H b ys ∧ i = min xs.length ys.length
def cells5 (n : Nat) : List Addr := [n + 4, n + 2, n + 3, n, n + 1]
theorem cells5_of {n c : Nat} (h : c ∈ cells5 n) : n ≤ c ∧ c ≤ n + 4 := by
  simp only [cells5, List.mem_cons, List.not_mem_nil, or_false] at h
  omega
theorem ne_lt {x y : Nat} (h : x < y ∨ y < x) : (x : Addr) ≠ y := fun e => by
  have e : (x : Nat) = y := e
  omega
theorem nin2 {x y z : Nat} (h1 : x < y ∨ y < x) (h2 : x < z ∨ z < x) : (x : Addr) ∉ ([y, z] : List Addr) := fun m => by
  rcases List.mem_cons.mp m with e | e
  · exact ne_lt h1 e
  · exact ne_lt h2 (List.mem_singleton.mp e)
theorem sep5 {n a b : Nat} (ha : a < n) (hb : b < n) : ZipSep2 (n + 4) (n + 2) (n + 3) n (n + 1) [n, a] [n + 1, b] where
  TIz := ne_lt (by omega)
  TOz := ne_lt (by omega)
  TITO := ne_lt (by omega)
  TIi1 := ne_lt (by omega)
  mem1 := List.mem_cons_self ..
  zf1 := nin2 (by omega) (by omega)
  Tf1 := nin2 (by omega) (by omega)
  TIi2 := ne_lt (by omega)
  mem2 := List.mem_cons_self ..
  zf2 := nin2 (by omega) (by omega)
  Tf2 := nin2 (by omega) (by omega)
  sep1_2 := nin2 (by omega) (by omega)
  sep2_1 := nin2 (by omega) (by omega)
def zipSt (n a b i : Nat) (h : Heap) : Prop := IsZip h (n + 4) (n + 2) (n + 3) .none ∧ IsTupOf2 h (n + 2) (.ref n) (.ref (n + 1)) ∧ (∃ x y, IsTupOf2 h (n + 3) x y) ∧ h.IsTupleIter n a i ∧ h.IsListIter (n + 1) b i
theorem not5 {n c : Nat} (h : c ∉ cells5 n) : c ≠ n + 4 ∧ c ≠ n + 3 ∧ c ≠ n ∧ c ≠ n + 1 ∧ c ≠ n + 2 := by
  simp only [cells5, List.mem_cons, List.not_mem_nil, or_false, not_or] at h
  exact ⟨h.1, h.2.2.1, h.2.2.2.1, h.2.2.2.2, h.2.1⟩
theorem turn_zipM {P' : Program} {w : World} {K : PySem.W.Frag} {elts : List Expr} {kk : Nat} {tpos : Pos} {n a b : Nat} (ha : a < n) (hb : b < n) : Turn P' w K (.Tuple elts kk tpos) (ItzM K a b) (cells5 n) (n + 4) (zipSt n a b) where
  mem := by simp [cells5]
  obj := fun i h ⟨hz, hI, ⟨x, y, hO⟩, ⟨o1, e1, _, d1⟩, ⟨o2, e2, _, d2⟩⟩ c hc => by
    simp only [cells5, List.mem_cons, List.not_mem_nil, or_false] at hc
    rcases hc with rfl | rfl | rfl | rfl | rfl
    · exact ⟨_, hz, fun v q => by cases q⟩
    · exact ⟨_, hI, fun v q => by cases q⟩
    · exact ⟨_, hO, fun v q => by cases q⟩
    · exact ⟨o1, e1, fun v q => by rw [d1] at q; cases q⟩
    · exact ⟨o2, e2, fun v q => by rw [d2] at q; cases q⟩
  keep := fun i h h' ⟨hz, hI, ⟨x, y, hO⟩, t1, t2⟩ k => ⟨k _ (by simp [cells5]) _ hz, k _ (by simp [cells5]) _ hI, ⟨x, y, k _ (by simp [cells5]) _ hO⟩, t1.at fun o q => k _ (by simp [cells5]) o q, t2.at fun o q => k _ (by simp [cells5]) o q⟩
  item := fun X hP hw hK hc i pins s σ H E I free st ⟨xs, ys, x, y, qx, qy, gx, gy⟩ => by
    subst hP hw hK
    obtain ⟨hz, hI, ⟨x0, y0, hO⟩, t1, t2⟩ := st
    obtain ⟨us, ru, lu, _⟩ := I.tuple qx
    obtain ⟨vs, rv, lv, _⟩ := I.list qy
    have lx : us.length = xs.length := ru.length.symm
    have ly : vs.length = ys.length := rv.length.symm
    have ix := (List.getElem?_eq_some_iff.mp gx).1
    have iy := (List.getElem?_eq_some_iff.mp gy).1
    have S := sep5 ha hb
    have quiet : X.A.in1.handled = none := I.ok.hd hc
    refine wpAny_pyNext_zipD2_item S (Draws.tuple quiet n a (Nat.ne_of_lt ha) us.toArray) (Draws.list quiet (n + 1) b (ne_lt (by omega)) vs.toArray) hz hI hO ⟨t1, lu⟩ ⟨t2, lv.isList⟩ (by simp; omega) (by simp; omega) fun u v h' tk hu hv z1 o1 st1 st2 new size stay => ⟨_, rfl, ?_⟩
    refine wpAny_letOwnedTupleGo_zip (s := { s with heap := h', toks := tk }) z1 fun h2 z2 same => ?_
    have zl : n + 4 < s.heap.objs.size := Heap.lt_size hz
    have new2 : h2.get? s.heap.objs.size = some { cls := .type "tuple", data := .seq #[u, v] } := (same.2 _ (ne_lt (by omega))).trans new
    obtain ⟨u', eu, rel1⟩ := ru.get gx
    obtain ⟨v', ev, rel2⟩ := rv.get gy
    have eu : u = u' := Option.some.inj (hu.symm.trans (by simpa using eu))
    have ev : v = v' := Option.some.inj (hv.symm.trans (by simpa using ev))
    subst eu ev
    have laid : ObjOk X.prog X.w (upd H s.heap.objs.size (.tup [x, y])) h2 s.heap.objs.size (.tup [x, y]) := ⟨by show 2 ≤ sizeLine; decide, [u, v], .cons rel1 (.cons rel2 .nil), ⟨_, new2, rfl, _, rfl⟩⟩
    have J := I.turnedNew (t' := tk) (ch := cells5 n) (h' := h2) (fun c o out q => by
      obtain ⟨c1, c2, c3, c4, _⟩ := not5 out
      exact (same.2 c c1).trans (stay c o c1 c2 c3 c4 q)) free (Nat.le_refl _) laid
    refine ⟨.ref s.heap.objs.size, _, J, rfl, ⟨_, x, y, rfl, I.hok.fresh (Nat.le_refl _), rfl, fun l hl => by rw [I.tuple_inj hl qx]; exact gx, fun l hl => by rw [I.list_inj hl qy]; exact gy⟩, ⟨z2, ?_, ⟨u, v, ?_⟩, ?_, ?_⟩, fun c hm => ?_⟩
    · exact (same.2 _ (ne_lt (by omega))).trans (stay _ _ (ne_lt (by omega)) (ne_lt (by omega)) (ne_lt (by omega)) (ne_lt (by omega)) hI)
    · exact (same.2 _ (ne_lt (by omega))).trans o1
    · exact st1.1.at fun o q => (same.2 _ (ne_lt (by omega))).trans q
    · exact st2.1.at fun o q => (same.2 _ (ne_lt (by omega))).trans q
    · have := cells5_of hm
      rw [upd_ne (ne_lt (by omega))]
      exact (free c hm).1
  done := fun X hP hw hK hc i pins s σ H E I free st ⟨xs, ys, qx, qy, hi⟩ => by
    subst hP hw hK
    obtain ⟨hz, hI, ⟨x0, y0, hO⟩, t1, t2⟩ := st
    obtain ⟨us, ru, lu, _⟩ := I.tuple qx
    obtain ⟨vs, rv, lv, _⟩ := I.list qy
    have lx : us.length = xs.length := ru.length.symm
    have ly : vs.length = ys.length := rv.length.symm
    have quiet : X.A.in1.handled = none := I.ok.hd hc
    refine wpAny_pyNext_zipD2_end (sep5 ha hb) (Draws.tuple quiet n a (Nat.ne_of_lt ha) us.toArray) (Draws.list quiet (n + 1) b (ne_lt (by omega)) vs.toArray) hz hI hO ⟨t1, lu⟩ ⟨t2, lv.isList⟩ (by simp; omega) (by simp; omega) (by simp; omega) fun h' tk stay => ⟨rfl, ?_⟩
    exact I.turnedL (t' := tk) (ch := cells5 n) (fun c o out q => by
      obtain ⟨c1, c2, c3, c4, _⟩ := not5 out
      exact stay c o c1 c2 c3 c4 q) free
  self := fun A i s Q E st h => wpAny_pyIter_zip st.1 h
/-! the zip is made -/
def bornZ (h : Heap) (a b : Addr) : Heap :=
  ((((h.push { cls := .type "tuple_iterator", data := .fields #[.ref a, .int 0 0] }).push { cls := .type "list_iterator", data := .fields #[.ref b, .int 0 0] }).push { cls := .type "tuple", data := .seq #[.ref h.objs.size, .ref (h.objs.size + 1)] }).push
    { cls := .type "tuple", data := .seq #[.none, .none] }).push { cls := .type "zip", data := .fields #[.none, .bool false, .bool false, .ref (h.objs.size + 2), .ref (h.objs.size + 3)] }
theorem meets_zipM (a b : Addr) (xs ys : Array Value) : Meets (Builtin.«zip.__new__» ⟨[.type "zip", .ref a, .ref b], []⟩) (fun _ R s => s.heap.IsTuple a xs ∧ s.heap.IsList b ys ∧ R (.ok (.ret (.ref (s.heap.objs.size + 4)))) { s with heap := bornZ s.heap a b }) :=
  .of_wp fun prog w A R s h => by
    obtain ⟨hp, g, d, tk, os⟩ := s
    obtain ⟨h1, h2, h⟩ := h
    have hsub := sub_zip
    have L1 : Heap.IsTuple (Shared.heap ⟨hp, g, d, tk, os⟩) a xs := h1
    have L2 : Heap.IsList (Shared.heap ⟨hp.push { cls := .type "tuple_iterator", data := .fields #[.ref a, .int 0 0] }, g, d, tk, os⟩) b ys := Heap.IsList.push h2 _
    wp_walk using wpAny_pyIter_tuple L1, wpAny_pyIter_list L2
    refine ⟨_, rfl, ?_⟩
    simp only [Heap.size_push]
    exact h
section
variable {X : Cx} {g : Gx} {E : Wx} {a b : Expr} {p pos tpos : Pos} {elts : List Expr} {kk : Nat} {fa fb : P D}
def iZipM (K : PySem.W.Frag) (ta : TA) : TI := fun σ H R => ta σ H fun vs H1 => ∃ a b xs ys, vs = [.ref a, .ref b] ∧ SqT K H1 a xs ∧ SqL K H1 b ys ∧ R (ItzM K a b) H1
theorem pi_zipM {ta : TA} (hg : Gl X "zip") (hm : X.mg "zip" = none) (ha : PA X [a, b] ta) (one : starEach [a, b] X.env = (false, eval a X.env) :: starEach [b] X.env := by rfl) (plain : (backTo pos (starEach [b] X.env)).any (·.1) = false := by rfl) :
    PI X (.Tuple elts kk tpos) (.Call (.Name "zip" p) [a, b] [] pos) (iZipM X.K ta) := ⟨fun pins s σ H R I asked => by
  refine Call_ (ld_blt I hg hm PyProof.Rows.boot_zip (PyProof.Rows.callWith_type1 (thn (ha.run pos pins s σ H _ I asked) fun us s1 got => ?_) one plain))
  obtain ⟨_, H1, I1, r1, c, d, xs, ys, rfl, qx, qy, k⟩ := got
  match us, r1 with
  | [_, _], .cons rc (.cons rd .nil) =>
    cases rc
    cases rd
    obtain ⟨its, rv, p1, _⟩ := I1.tuple qx
    obtain ⟨its2, rv2, p2, _⟩ := I1.list qy
    obtain ⟨o1, ho1, _⟩ := id p1
    refine callType_new F.called_zip (by decide) (F.typeCall_zip_2 _ _) (F.newCall_zip_2 _ _) (fun obj => F.args_object_init_3 obj _ _) F.entry_zip_new (meets_zipM c d its.toArray its2.toArray) ⟨p1, p2.isList, ?_⟩
    have old : ∀ b o, s1.heap.get? b = some o → (bornZ s1.heap c d).get? b = some o := fun b o q => Heap.get?_push_of_some _ (Heap.get?_push_of_some _ (Heap.get?_push_of_some _ (Heap.get?_push_of_some _ (Heap.get?_push_of_some _ q))))
    have hz : IsZip (bornZ s1.heap c d) (s1.heap.objs.size + 4) (s1.heap.objs.size + 2) (s1.heap.objs.size + 3) .none := by unfold bornZ; heap_get
    have hI : IsTupOf2 (bornZ s1.heap c d) (s1.heap.objs.size + 2) (.ref s1.heap.objs.size) (.ref (s1.heap.objs.size + 1)) := by unfold bornZ; heap_get
    have hO : IsTupOf2 (bornZ s1.heap c d) (s1.heap.objs.size + 3) .none .none := by unfold bornZ; heap_get
    have t1 : (bornZ s1.heap c d).IsTupleIter s1.heap.objs.size c 0 := ⟨_, by unfold bornZ; heap_get, rfl, rfl⟩
    have t2 : (bornZ s1.heap c d).IsListIter (s1.heap.objs.size + 1) d 0 := ⟨_, by unfold bornZ; heap_get, rfl, rfl⟩
    refine ⟨⟨_, hz, rfl⟩, wpAny_pyIter_zip hz ?_⟩
    have I2 : Inv X pins σ H1 { s1 with heap := bornZ s1.heap c d } := I1.kept (t' := s1.toks) old
    exact ⟨s1.heap.objs.size + 4, cells5 s1.heap.objs.size, _, _, H1, rfl, I2, turn_zipM (Heap.lt_size ho1) p2.lt, ⟨hz, hI, ⟨_, _, hO⟩, t1, t2⟩, fun c hm => I1.fpOk (cells5_of hm).1 (I1.hok.fresh (cells5_of hm).1), k⟩⟩
/-! ### zip in the tree world -/
def tupl : D → Bool
  | .tup _ => true
  | .ftup _ => true
  | _ => false
def pairs (xs ys : List D) : List D := (xs.zip ys).map fun q => .tup [q.1, q.2]
def zipD (x y : D) : Option (List D) := match seqD x, seqD y with
  | some xs, some ys => if tupl x = true ∨ tupl y = false then some (pairs xs ys) else none
  | _, _ => none
theorem pairs_at {xs ys : List D} {i : Nat} {d : D} (h : (pairs xs ys)[i]? = some d) : ∃ x y, xs[i]? = some x ∧ ys[i]? = some y ∧ d = .tup [x, y] := by
  unfold pairs at h
  rw [List.getElem?_map] at h
  cases e : (xs.zip ys)[i]? with
  | none => rw [e] at h; cases h
  | some q =>
    rw [e] at h
    obtain ⟨e1, e2⟩ := List.getElem?_zip_eq_some.mp e
    exact ⟨q.1, q.2, e1, e2, (Option.some.inj h).symm⟩
theorem pairs_len (xs ys : List D) : (pairs xs ys).length = min xs.length ys.length := by unfold pairs; rw [List.length_map, List.length_zip]
theorem tA_two {K : PySem.W.Frag} {σ : L2.St} {H : Hp} {ok : Addr → Prop} {ρ ρ1 ρ2 : En} {d e : D} {G : List V → Hp → Prop} (w : Wf K g ok ρ σ H) (e1 : fa ρ = some (.ok d ρ1)) (e2 : fb ρ1 = some (.ok e ρ2))
    (k : ∀ u v H' ok', Wf K g ok' ρ2 σ H' → Sx σ ρ ok H ρ2 ok' H' → Rep K ok' H' u d → Rep K ok' H' v e → G [u, v] H') : tX K g E (relA K) (consA fa (consA fb (prt []))) σ H G := by
  have both : consA fa (consA fb (prt [])) ρ = some (.ok [d, e] ρ2) := by
    unfold consA
    rw [bnd_ok e1]
    show bnd (bnd fb _) _ ρ1 = _
    rw [bnd_ok (a := [e]) (ρ' := ρ2) (by rw [bnd_ok e2]; rfl)]
    rfl
  refine ⟨ok, ρ, w, ?_⟩
  rw [both]
  intro vs H' ok' w' s' r'
  match vs, r' with
  | [u, v], .cons r1 (.cons r2 .nil) => exact k u v H' ok' w' s' r1 r2
theorem ei_zip (hg : Gl X "zip") (hm : X.mg "zip" = none) (ha : EV X g E a fa) (hb : EV X g E b fb) (one : starEach [a, b] X.env = (false, eval a X.env) :: starEach [b] X.env := by rfl) (two : starEach [b] X.env = (false, eval b X.env) :: starEach [] X.env := by rfl)
    (plain : (backTo pos (starEach [b] X.env)).any (·.1) = false := by rfl) :
    EI X g E [] (.Tuple elts kk tpos) (.Call (.Name "zip" p) [a, b] [] pos) (bnd fa fun x => bnd fb fun y => lft (zipD x y)) := by
  have args : EA X g E [a, b] (consA fa (consA fb (prt []))) := ea_cons ha (ea_cons hb ea_nil two) one
  refine PI_imp (PI_or (RZ.pi_zipA hg hm args one plain) (pi_zipM hg hm args one plain)) fun σ H R hq => ?_
  obtain ⟨ok, ρ, w, h⟩ := hq
  cases e1 : fa ρ with
  | none => rw [bnd_none e1] at h; exact h.elim
  | some z1 =>
    cases z1 with
    | er c ns ds ρ' =>
      rw [bnd_er e1] at h
      refine .inl ⟨ok, ρ, w, ?_⟩
      have : consA fa (consA fb (prt [])) ρ = some (.er c ns ds ρ') := by unfold consA; rw [bnd_er e1]
      rw [this]
      exact h
    | ok d ρ1 =>
      rw [bnd_ok e1] at h
      cases e2 : fb ρ1 with
      | none => rw [bnd_none e2] at h; exact h.elim
      | some z2 =>
        cases z2 with
        | er c ns ds ρ' =>
          rw [bnd_er e2] at h
          refine .inl ⟨ok, ρ, w, ?_⟩
          have : consA fa (consA fb (prt [])) ρ = some (.er c ns ds ρ') := by
            unfold consA
            rw [bnd_ok e1]
            show bnd (bnd fb _) _ ρ1 = _
            rw [bnd_er (ρ' := ρ') (c := c) (ns := ns) (ds := ds) (by rw [bnd_er e2])]
          rw [this]
          exact h
        | ok e ρ2 =>
          rw [bnd_ok e2] at h
          unfold lft zipD at h
          cases ex : seqD d with
          | none => simp only [ex] at h
          | some xs =>
            cases ey : seqD e with
            | none => simp only [ex, ey] at h
            | some ys =>
              simp only [ex, ey] at h
              by_cases kind : tupl d = true ∨ tupl e = false
              · rw [if_pos kind] at h
                dsimp only at h
                -- both of a kind, or a tuple and a list
                have road : ∀ (J : Addr → Addr → It) (SA SB : Hp → Addr → List V → Prop),
                    (∀ a b i H, (J a b).go i H ↔ ∃ (xs ys : List V) (x y : V), SA H a xs ∧ SB H b ys ∧ xs[i]? = some x ∧ ys[i]? = some y) →
                    (∀ a b i H v H', (J a b).yld i H v H' → ∃ T x y, v = .ref T ∧ H T = none ∧ H' = upd H T (.tup [x, y]) ∧ (∀ xs, SA H a xs → xs[i]? = some x) ∧ ∀ ys, SB H b ys → ys[i]? = some y) →
                    (∀ a b H xs ys, SA H a xs → SB H b ys → (J a b).stop (min xs.length ys.length) H) →
                    ∀ qa qb ok' H', Wf X.K g ok' ρ2 σ H' → Sx σ ρ ok H ρ2 ok' H' → (∀ ok2 H2, Fr ok' H' ok2 H2 → ∃ vs, SA H2 qa vs ∧ Reps X.K ok2 H2 vs xs) → (∀ ok2 H2, Fr ok' H' ok2 H2 → ∃ vs, SB H2 qb vs ∧ Reps X.K ok2 H2 vs ys) → R (J qa qb) H' := by
                  intro J SA SB go yld stop qa qb ok' H' w' s' sa sb
                  refine h (J qa qb) H' ok' w' s' fun ok2 ρ3 σ2 H2 w2 f2 _ => ?_
                  obtain ⟨us, s1, r1⟩ := sa ok2 H2 f2
                  obtain ⟨vs, s2, r2⟩ := sb ok2 H2 f2
                  have l1 := r1.length
                  have l2 := r2.length
                  refine ⟨fun i hi => ?_, ?_, fun i dd x H3 hd y => ?_⟩
                  · rw [pairs_len] at hi
                    exact (go qa qb i H2).mpr ⟨us, vs, us[i], vs[i], s1, s2, List.getElem?_eq_getElem (by omega), List.getElem?_eq_getElem (by omega)⟩
                  · rw [pairs_len, ← l1, ← l2]
                    exact stop qa qb H2 us vs s1 s2
                  · obtain ⟨T, u, v, rfl, nT, rfl, au, av⟩ := yld qa qb i H2 x H3 y
                    obtain ⟨dx, dy, g1, g2, rfl⟩ := pairs_at hd
                    obtain ⟨d1, k1, ru⟩ := r1.get (au us s1)
                    obtain ⟨d2, k2, rv⟩ := r2.get (av vs s2)
                    rw [g1] at k1
                    rw [g2] at k2
                    cases k1
                    cases k2
                    exact ⟨.inr ⟨T, _, nT, rfl⟩, .tup upd_same (.cons (ru.fr (fr_new nT)) (.cons (rv.fr (fr_new nT)) .nil))⟩
                have isT : ∀ {ok' : Addr → Prop} {H' : Hp} {v : V} {dd : D} {zs : List D}, Rep X.K ok' H' v dd → seqD dd = some zs → tupl dd = true → ∃ q, v = .ref q ∧ (∃ us, SqT X.K H' q us ∧ us.length = zs.length) ∧ ∀ ok2 H2, Fr ok' H' ok2 H2 → ∃ vs, SqT X.K H2 q vs ∧ Reps X.K ok2 H2 vs zs := fun {ok' H' v dd zs} r es tt => by
                  cases r with
                  | lst hh k t => cases tt
                  | lstF hh t => cases tt
                  | tupO hh t => cases es; exact ⟨_, rfl, ⟨_, hh.sq, t.length⟩, fun ok2 H2 f2 => ⟨_, (f2.tpO hh).sq, t.fr f2⟩⟩
                  | tupF hh t => cases es; exact ⟨_, rfl, ⟨_, hh.sq, t.length⟩, fun ok2 H2 f2 => ⟨_, (f2.fzT hh).sq, t.fr f2⟩⟩
                  | _ => cases es
                have isL : ∀ {ok' : Addr → Prop} {H' : Hp} {v : V} {dd : D} {zs : List D}, Rep X.K ok' H' v dd → seqD dd = some zs → tupl dd = false → ∃ q, v = .ref q ∧ (∃ us, SqL X.K H' q us ∧ us.length = zs.length) ∧ ∀ ok2 H2, Fr ok' H' ok2 H2 → ∃ vs, SqL X.K H2 q vs ∧ Reps X.K ok2 H2 vs zs := fun {ok' H' v dd zs} r es tt => by
                  cases r with
                  | lst hh k t => cases es; exact ⟨_, rfl, ⟨_, .inl (.inl hh), t.length⟩, fun ok2 H2 f2 => ⟨_, .inl (.inl ((f2.keep _ _ hh fun _ => k).same rfl)), t.fr f2⟩⟩
                  | lstF hh t => cases es; exact ⟨_, rfl, ⟨_, hh.sq, t.length⟩, fun ok2 H2 f2 => ⟨_, (f2.fzL hh).sq, t.fr f2⟩⟩
                  | tupO hh t => cases tt
                  | tupF hh t => cases tt
                  | _ => cases es
                cases td : tupl d with
                | true =>
                  cases te : tupl e with
                  | true =>
                    refine .inl (tA_two w e1 e2 fun u v H' ok' w' s' ru rv => ?_)
                    obtain ⟨qa, rfl, ⟨us, sa, _⟩, ka⟩ := isT ru ex td
                    obtain ⟨qb, rfl, ⟨vs, sb, _⟩, kb⟩ := isT rv ey te
                    exact ⟨qa, qb, us, vs, rfl, .inr ⟨sa, sb, road (RZ.ItzT X.K) (fun H a xs => SqT X.K H a xs) (fun H a xs => SqT X.K H a xs) (fun _ _ _ _ => Iff.rfl) (fun _ _ _ _ _ _ y => y) (fun _ _ _ xs ys h1 h2 => ⟨xs, ys, h1, h2, by omega⟩) qa qb ok' H' w' s' ka kb⟩⟩
                  | false =>
                    refine .inr (tA_two w e1 e2 fun u v H' ok' w' s' ru rv => ?_)
                    obtain ⟨qa, rfl, ⟨us, sa, _⟩, ka⟩ := isT ru ex td
                    obtain ⟨qb, rfl, ⟨vs, sb, _⟩, kb⟩ := isL rv ey te
                    exact ⟨qa, qb, us, vs, rfl, sa, sb, road (ItzM X.K) (fun H a xs => SqT X.K H a xs) (fun H a xs => SqL X.K H a xs) (fun _ _ _ _ => Iff.rfl) (fun _ _ _ _ _ _ y => y) (fun _ _ _ xs ys h1 h2 => ⟨xs, ys, h1, h2, rfl⟩) qa qb ok' H' w' s' ka kb⟩
                | false =>
                  have te : tupl e = false := kind.resolve_left (by rw [td]; decide)
                  refine .inl (tA_two w e1 e2 fun u v H' ok' w' s' ru rv => ?_)
                  obtain ⟨qa, rfl, ⟨us, sa, _⟩, ka⟩ := isL ru ex td
                  obtain ⟨qb, rfl, ⟨vs, sb, _⟩, kb⟩ := isL rv ey te
                  exact ⟨qa, qb, us, vs, rfl, .inl ⟨sa, sb, road (Itz X.K) (fun H a xs => SqL X.K H a xs) (fun H a xs => SqL X.K H a xs) (fun _ _ _ _ => Iff.rfl) (fun _ _ _ _ _ _ y => y) (fun _ _ _ xs ys h1 h2 => ⟨xs, ys, h1, h2, by omega⟩) qa qb ok' H' w' s' ka kb⟩⟩
              · rw [if_neg kind] at h
                exact h.elim
end
end Pu
/-! A call to which things of one's own are lent, at any place; what is never reached. -/
namespace Pu
open PySem PySem.Spec PyProof.Rows L2 Kv
inductive Ar where
  | v (d : D)
  | l (i : Nat)
def ixs : List Ar → List Nat
  | [] => []
  | .v _ :: r => ixs r
  | .l i :: r => i :: ixs r
def ownS : Option Slot → Slot
  | some (.own d) => .own d
  | _ => .un
def slotA (ρ : En) : Ar → Slot
  | .v d => .val d
  | .l i => ownS ρ[i]?
def back : List Ar → En → En → Option En
  | [], _, ρ => some ρ
  | .v _ :: r, _ :: as, ρ => back r as ρ
  | .l i :: r, .own d :: as, ρ => back r as (ρ.set i (.own d))
  | _, _, _ => none
def ownA (ρ : En) : List Ar → Bool
  | [] => true
  | .v _ :: r => ownA ρ r
  | .l i :: r => (match ρ[i]? with | some (.own _) => true | _ => false) && ownA ρ r
def appL (F : P R) (n : Nat) (ars : List Ar) : P R := fun ρ => if ars.length = n ∧ (ixs ars).Nodup ∧ ownA ρ ars = true then match F (ars.map (slotA ρ)) with
    | some (.ok r as') => (back ars as' ρ).map (.ok r)
    | some (.er c ns es as') => (back ars as' ρ).map (.er c ns es)
    | none => none
  else none
inductive ARs (K : PySem.W.Frag) (ok : Addr → Prop) (H : Hp) (σ : L2.St) : List V → List Ar → Prop
  | nil : ARs K ok H σ [] []
  | vl {v : V} {d : D} {vs : List V} {as : List Ar} : Rep K ok H v d → ARs K ok H σ vs as → ARs K ok H σ (v :: vs) (.v d :: as)
  | ln {q : Addr} {i : Nat} {vs : List V} {as : List Ar} : σ[i]? = some (some (.ref q)) → ARs K ok H σ vs as → ARs K ok H σ (.ref q :: vs) (.l i :: as)
section
variable {K : PySem.W.Frag} {g : Gx} {E : Wx} {ok : Addr → Prop} {ρ : En} {σ : L2.St} {H : Hp}
theorem ARs.fr {ok' : Addr → Prop} {H' : Hp} (f : Fr ok H ok' H') : ∀ {vs : List V} {as : List Ar}, ARs K ok H σ vs as → ARs K ok' H' σ vs as
  | _, _, .nil => .nil
  | _, _, .vl r t => .vl (r.fr f) (ARs.fr f t)
  | _, _, .ln e t => .ln e (ARs.fr f t)
theorem ARs.len : ∀ {vs : List V} {as : List Ar}, ARs K ok H σ vs as → vs.length = as.length
  | _, _, .nil => rfl
  | _, _, .vl r t => congrArg (· + 1) (ARs.len t)
  | _, _, .ln e t => congrArg (· + 1) (ARs.len t)
end
section
variable {X : Cx} {g : Gx} {E : Wx} {k n : Nat} {C : Addr} {x y m : Str} {F : P R} {p p' pos apos : Pos} {e o : Expr} {es : List Expr} {fr : P (List Ar)} {fa : P D}
def valA (fa : P D) (fr : P (List Ar)) : P (List Ar) := bnd fa fun x => bnd fr fun xs => prt (.v x :: xs)
def lntA (i : Nat) (fr : P (List Ar)) : P (List Ar) := fun ρ => match ρ[i]? with
  | some (.own _) => bnd fr (fun xs => prt (.l i :: xs)) ρ
  | _ => none
def calL (F : P R) (n : Nat) (fr : P (List Ar)) : P R := bnd fr fun ars => appL F n ars
/-! ### what is never reached -/
def never {α : Type} : P α := fun _ => none
def neverS : S := fun _ => none
end
end Pu
/-! Objects of one's own: C(..), self.f = e, self.f. -/
namespace Pu
open PySem PySem.Spec PyProof.Rows L2 Kv
section
variable {X : Cx} {CX : CXT} {k : Nat} {f C : Addr} {fd : FuncData} {ps : List Str} {sp : Sp} {dvs : List V} {ds : List Value} {E : L2.St → XK} {x : Str} {p pos : Pos} {e : Expr} {es : List Expr} {t : TA}
end
def newO (C : Addr) (F : P R) (n : Nat) (ds : List D) : P R := fun ρ => if ds.length + 1 = n then match F (.own (.obj C [] []) :: vals ds) with
    | some (.ok (.val .non) (.own d :: _)) => some (.ok (.own d) ρ)
    | some (.er c ns es _) => some (.er c ns es ρ)
    | _ => none
  else none
section
variable {K : PySem.W.Frag} {g : Gx} {E : Wx} {ok : Addr → Prop} {ρ : En} {σ : L2.St} {H : Hp}
end
section
variable {X : Cx} {g : Gx} {E : Wx} {k n : Nat} {C : Addr} {x y f : Str} {F : P R} {dds : List D} {p p' pos apos : Pos} {a e o : Expr} {es : List Expr} {fr : P (List D)} {fa fe : P D}
/-! ### a field -/
end
end Pu
/-! C.f of a class, C.m(..) of a static method. -/
namespace Pu
open PySem PySem.Spec PyProof.Rows L2 Kv
section
variable {X : Cx} {g : Gx} {E : Wx} {k n : Nat} {C : Addr} {x m f : Str} {F : P R} {p p' pos apos : Pos} {e o : Expr} {es : List Expr} {fr : P (List D)}
end
section
variable {P' : Program} {w : World} {K : PySem.W.Frag} {mg : Str → Option Value} {base : Heap} {T : List (Addr × Str)}
end
end Pu
/-! Slices of lists, tuples and texts; split; len(set(texts)). -/
namespace Pu
open PySem PySem.Spec PyProof.Rows L2 Kv
def slD (l h : Option Int) : D → Option R
  | .lst xs => some (.own (.lst (cutD xs l h)))
  | .flst xs => some (.own (.lst (cutD xs l h)))
  | .tup xs => some (.val (.tup (cutD xs l h)))
  | .ftup xs => if HT.sIx xs.length 0 l = 0 ∧ HT.sIx xs.length xs.length h = xs.length then some (.val (.ftup xs)) else some (.val (.tup (cutD xs l h)))
  | .str z => if z.length ≤ sizeLine then some (.val (.str (Txt.slice z l h))) else none
  | _ => none
theorem cutD_all {xs : List D} {l h : Option Int} (e : HT.sIx xs.length 0 l = 0 ∧ HT.sIx xs.length xs.length h = xs.length) : cutD xs l h = xs := by
  unfold cutD
  rw [e.1, e.2, List.drop_zero, Nat.sub_zero, List.take_length]
section
variable {X : Cx} {g : Gx} {E : Wx} {e o : Expr} {fe fo : P D} {p p2 q pos apos : Pos}
theorem er_slA {lo hi : Option Expr} {fl fh : P (Option Int)} (he : EV X g E e fe) (hl : EO X g E lo fl) (hu : EO X g E hi fh) :
    ER X g E (.Subscript e (.Slice lo hi none p2) pos) (bnd fe fun d => bnd fl fun l => bnd fh fun h => lft (slD l h d)) := by
  refine PE_imp (pe_slice (SlR.or sl_list (SlR.or sl_tupA C8.sl_txt)) he hl hu) fun σ H Q hq => ?_
  obtain ⟨ok, ρ, w, h⟩ := hq
  refine ⟨ok, ρ, w, (Rs.bnd (RA := relD X.K) h).mono fun v H1 hq => ?_⟩
  obtain ⟨ok1, ρ1, d, w1, s1, r1, h1⟩ := hq
  refine ⟨ok1, ρ1, w1, (Rs.bnd (RA := relO) h1).mono fun l H2 hq => ?_⟩
  obtain ⟨ok2, ρ2, l', w2, s2, rfl, h2⟩ := hq
  refine ⟨ok2, ρ2, w2, (Rs.bnd (RA := relO) h2).mono fun u H3 hq => ?_⟩
  obtain ⟨ok3, ρ3, u', w3, s3, rfl, h3⟩ := hq
  have r3 : Rep X.K ok3 H3 v d := (Rep.fr s2.fr r1).fr s3.fr
  unfold lft at h3
  cases r3 with
  | lst ha ka rs => exact .inl ⟨_, _, rfl, .inl (.inl ha), fun p np => h3 _ _ (sub1 ok3 p) (w3.newO np) (Sx.newO np) (own_new w3 np ⟨_, upd_same, rs.cut.fr (fr_sub np)⟩)⟩
  | lstF ha rs => exact .inl ⟨_, _, rfl, ha.sq, fun p np => h3 _ _ (sub1 ok3 p) (w3.newO np) (Sx.newO np) (own_new w3 np ⟨_, upd_same, rs.cut.fr (fr_sub np)⟩)⟩
  | tupO ha rs =>
    rename_i vs ds
    refine .inr (.inl ⟨_, _, rfl, ha.sq, fun ew => ?_, fun _ p np => h3 _ _ ok3 (w3.new np) (Sx.new np) (.tup upd_same (rs.cut.fr (fr_new np)))⟩)
    rw [rs.length] at ew
    have h3 : Rs X.K g E (relR X.K) σ ρ3 ok3 H3 (some (.ok (.val (.tup (cutD ds l u))) ρ3)) Q := h3
    rw [cutD_all ew] at h3
    exact h3 _ H3 ok3 w3 Sx.refl (.tupO ha rs)
  | tupF ha rs =>
    rename_i vs ds
    refine .inr (.inl ⟨_, _, rfl, ha.sq, fun ew => ?_, fun ew p np => ?_⟩)
    · rw [rs.length] at ew
      have e2 : slD l u (.ftup ds) = some (.val (.ftup ds)) := if_pos ew
      rw [e2] at h3
      exact h3 _ H3 ok3 w3 Sx.refl (.tupF ha rs)
    · rw [rs.length] at ew
      have e2 : slD l u (.ftup ds) = some (.val (.tup (cutD ds l u))) := if_neg ew
      rw [e2] at h3
      exact h3 _ _ ok3 (w3.new np) (Sx.new np) (.tup upd_same (rs.cut.fr (fr_new np)))
  | str z =>
    by_cases hz : z.length ≤ sizeLine
    · have e2 : slD l u (.str z) = some (.val (.str (Txt.slice z l u))) := if_pos hz
      rw [e2] at h3
      exact .inr (.inr ⟨z, rfl, hz, h3 _ H3 ok3 w3 Sx.refl (.str _)⟩)
    · have e2 : slD l u (.str z) = none := if_neg hz
      rw [e2] at h3
      exact h3.elim
  | _ => exact h3.elim
def isStr : D → Bool
  | .str _ => true
  | _ => false
def splitD : D → D → Option R
  | .str a, .str b => if (b.length == 0) = false ∧ a.length + 2 ≤ sizeLine then some (.own (.lst ((Txt.split a b).map D.str))) else none
  | _, _ => none
end
end Pu
/-! A lambda with parameters and captured names; sorted by what it gives. -/
namespace Pu
open PySem PySem.Spec PyProof.Rows L2 Kv NdefX
section
variable {P' : Program} {w : World} {K : PySem.W.Frag} {mg : Str → Option Value} {base : Heap} {T : List (Addr × Str)}
end
end Pu
/-! sorted(list, key = lambda ..): the keys are lists of ints. -/
namespace Pu
open PySem PySem.Spec PyProof.Rows L2 Kv NdefX
end Pu
/-! A lambda is made. -/
namespace Pu
open PySem PySem.Spec PyProof.Rows L2 Kv NdefX
section
variable {X : Cx} {pins : List (Addr × Obj)} {σ : L2.St} {H : Hp} {s : Shared}
end
section
variable {K : PySem.W.Frag} {g : Gx} {ok : Addr → Prop} {ρ : En} {σ : L2.St} {H H1 : Hp} {P c' : Addr} {q : Str}
end
end Pu
/-! sorted by a lambda. -/
namespace Pu
open PySem PySem.Spec PyProof.Rows L2 Kv NdefX
section
variable {X : Cx}
end
end Pu
/-! sorted by a lambda: the keys are made, the list is sorted. -/
namespace Pu
open PySem PySem.Spec PyProof.Rows L2 Kv NdefX
section
variable {X : Cx} {g : Gx} {pins : List (Addr × Obj)} {σ : L2.St} {ρ : En} {ok : Addr → Prop} {H : Hp} {s : Shared}
end
end Pu
/-! sorted by a lambda, in the tree world; a def that makes a lambda. -/
namespace Pu
open PySem PySem.Spec PyProof.Rows L2 Kv NdefX
section
variable {X : Cx} {g : Gx} {E : Wx}
end
end Pu
/-! Class methods: C.m(..), cls.F, within them. -/
namespace Pu
open PySem PySem.Spec PyProof.Rows L2 Kv
section
variable {X : Cx} {g : Gx} {E : Wx} {k n : Nat} {C gf q : Addr} {x m f : Str} {F : P R} {p p' pos apos : Pos} {e o a : Expr} {es : List Expr} {fr : P (List D)} {fa : P D}
def isCl (C : Addr) : D → Bool
  | .opq a => decide (a = C)
  | _ => false
def clsC (C : Addr) (v : D) (d : D) : Option D := if isCl C d = true then some v else none
end
section
variable {P' : Program} {w : World} {K : PySem.W.Frag} {mg : Str → Option Value} {base : Heap} {T : List (Addr × Str)}
end
/-! ### a call of a local name that holds a class -/
section
variable {X : Cx} {g : Gx} {CX : CXT} {k i : Nat} {f C : Addr} {fd : FuncData} {ps : List Str} {sp : Sp} {dvs : List V} {ds : List Value} {E : XK} {x : Str} {p pos : Pos} {e : Expr} {es : List Expr} {t : TA}
end
end Pu
/-! The classes above a class by a walk backwards; all points. -/
namespace Kv
open PySem PySem.Spec PyProof.Rows L2
theorem look_left {t1 t2 : Tab} {x : Str} (h : x ∈ tabKeys t1) : look (t1 ++ t2) x = look t1 x := by
  induction t1 with
  | nil => cases h
  | cons p r ih =>
    obtain ⟨y, as⟩ := p
    unfold look at ih ⊢
    rw [List.cons_append, List.lookup_cons, List.lookup_cons]
    by_cases e : x = y
    · subst e
      rw [beq_self_eq_true]
    · rw [beq_eq_false_iff_ne.mpr e]
      refine ih ?_
      rcases List.mem_cons.mp h with z | z
      · exact absurd z e
      · exact z
theorem look_right {t1 t2 : Tab} {x : Str} (h : x ∉ tabKeys t1) : look (t1 ++ t2) x = look t2 x := by
  induction t1 with
  | nil => rfl
  | cons p r ih =>
    obtain ⟨y, as⟩ := p
    unfold look at ih ⊢
    have e : x ≠ y := fun z => h (z ▸ List.mem_cons_self ..)
    rw [List.cons_append, List.lookup_cons, beq_eq_false_iff_ne.mpr e]
    exact ih fun z => h (List.mem_cons_of_mem _ z)
def Anc (rows : List Row2) (x : Str) : List Str := look (ancTab rows) x
theorem anc_more {rows : List Row2} {i : Nat} {x : Str} (h : x ∈ fsts (rows.take i)) : ∀ j, i ≤ j → Anc (rows.take j) x = Anc (rows.take i) x := by
  intro j hj
  induction j with
  | zero =>
    have : i = 0 := by omega
    rw [this]
  | succ j ih =>
    by_cases e : i = j + 1
    · rw [e]
    · have ih2 := ih (by omega)
      cases hr : rows[j]? with
      | none =>
        have : rows.take (j + 1) = rows.take j := by
          rw [List.take_add_one, hr]
          exact List.append_nil _
        rw [this]
        exact ih2
      | some r =>
        unfold Anc at ih2 ⊢
        rw [ancTab_take hr, look_left]
        · exact ih2
        · rw [ancTab_keys]
          have hs : rows.take i <+: rows.take j := by
            have : rows.take i = (rows.take j).take i := by
              rw [List.take_take, Nat.min_eq_left (by omega)]
            rw [this]
            exact List.take_prefix _ _
          unfold fsts at h ⊢
          exact (hs.map _).subset h
theorem anc_row {rows : List Row2} (v : Valid rows) {i : Nat} {n : Str} {ss : List Str} (h : rows[i]? = some (n, ss)) (x : Str) :
    x ∈ Anc rows n ↔ x = n ∨ ∃ s ∈ ss, x ∈ Anc rows s := by
  have il : i < rows.length := (List.getElem?_eq_some_iff.mp h).1
  obtain ⟨v1, v2, v3, v4⟩ := v i n ss h
  have hn : n ∈ fsts (rows.take (i + 1)) := by
    rw [List.take_add_one, h]
    unfold fsts
    rw [List.map_append]
    exact List.mem_append_right _ (List.mem_singleton.mpr rfl)
  have e1 : Anc rows n = ancOf (ancTab (rows.take i)) n ss := by
    have := anc_more hn rows.length (by omega)
    rw [List.take_length] at this
    rw [this]
    unfold Anc
    rw [ancTab_take h, look_right (by rw [ancTab_keys]; exact v2)]
    unfold look
    rw [List.lookup_cons, beq_self_eq_true]
    rfl
  rw [e1, mem_ancOf]
  constructor
  · rintro (z | ⟨s, hs, z⟩)
    · exact Or.inl z
    · refine Or.inr ⟨s, hs, ?_⟩
      have := anc_more (v4 s hs) rows.length (by omega)
      rw [List.take_length] at this
      rw [this]
      exact z
  · rintro (z | ⟨s, hs, z⟩)
    · exact Or.inl z
    · refine Or.inr ⟨s, hs, ?_⟩
      have := anc_more (v4 s hs) rows.length (by omega)
      rw [List.take_length] at this
      rw [this] at z
      exact z
theorem mem_row {rows : List Row2} {x : Str} (h : x ∈ fsts rows) : ∃ (i : Nat) (ss : List Str), rows[i]? = some (x, ss) := by
  obtain ⟨r, hr, rfl⟩ := List.mem_map.mp h
  obtain ⟨i, hi, e⟩ := List.getElem_of_mem hr
  exact ⟨i, r.2, by rw [List.getElem?_eq_getElem hi, e]⟩
theorem row_at {rows : List Row2} {j : Nat} {s : Str} (h : s ∈ fsts (rows.take j)) : ∃ (i : Nat) (ss : List Str), i < j ∧ rows[i]? = some (s, ss) := by
  obtain ⟨i, ss, e⟩ := mem_row h
  have hi := (List.getElem?_eq_some_iff.mp e).1
  rw [List.length_take] at hi
  rw [List.getElem?_take_of_lt (by omega)] at e
  exact ⟨i, ss, by omega, e⟩
theorem anc_trans {rows : List Row2} (v : Valid rows) {x y : Str} : ∀ (i : Nat) {n : Str} {ss : List Str}, rows[i]? = some (n, ss) → x ∈ Anc rows n → y ∈ Anc rows x → y ∈ Anc rows n := by
  intro i
  induction i using Nat.strongRecOn with
  | ind i ih =>
    intro n ss h hx hy
    rcases (anc_row v h x).mp hx with rfl | ⟨s, hs, hxs⟩
    · exact hy
    · obtain ⟨_, _, _, v4⟩ := v i n ss h
      obtain ⟨j, ts, hj, e⟩ := row_at (v4 s hs)
      exact (anc_row v h y).mpr (Or.inr ⟨s, hs, ih j hj e hxs hy⟩)
def stepUp (found : List Str) (r : Row2) : List Str := if r.1 ∈ found then found ++ r.2.filter (fun e => decide (e ∉ found)) else found
def aboveAt (rows : List Row2) (label : Str) (j : Nat) : List Str := (rows.reverse.take j).foldl stepUp [label]
def aboveL (rows : List Row2) (label : Str) : List Str := aboveAt rows label rows.length
theorem above_next {rows : List Row2} {label : Str} {j : Nat} {r : Row2} (h : rows.reverse[j]? = some r) : aboveAt rows label (j + 1) = stepUp (aboveAt rows label j) r := by
  unfold aboveAt
  rw [List.take_add_one, h, List.foldl_append]
  rfl
theorem above_inv {rows : List Row2} (v : Valid rows) {label : Str} (hl : label ∈ fsts rows) : ∀ j, j ≤ rows.length →
    (∀ y ∈ aboveAt rows label j, y ∈ Anc rows label) ∧
    (∀ y ∈ Anc rows label, y ∈ aboveAt rows label j ∨ ∃ i z ss, i < rows.length - j ∧ rows[i]? = some (z, ss) ∧ z ∈ aboveAt rows label j ∧ y ∈ Anc rows z)
  | 0, _ => by
    obtain ⟨i, ss, e⟩ := mem_row hl
    have hi := (List.getElem?_eq_some_iff.mp e).1
    refine ⟨fun y hy => ?_, fun y hy => Or.inr ⟨i, label, ss, by omega, e, List.mem_singleton.mpr rfl, hy⟩⟩
    have : y = label := List.mem_singleton.mp hy
    rw [this]
    exact (anc_row v e label).mpr (Or.inl rfl)
  | j + 1, hj => by
    obtain ⟨S, C⟩ := above_inv v hl j (by omega)
    have hi : rows.length - 1 - j < rows.length := by omega
    have er : rows.reverse[j]? = some rows[rows.length - 1 - j] := by
      rw [List.getElem?_reverse (by omega), List.getElem?_eq_getElem hi]
    have eri : rows[rows.length - 1 - j]? = some rows[rows.length - 1 - j] := List.getElem?_eq_getElem hi
    generalize rows[rows.length - 1 - j] = r at er eri
    obtain ⟨n, ss⟩ := r
    obtain ⟨i0, s0, e0⟩ := mem_row hl
    rw [above_next er]
    have sub : ∀ y ∈ aboveAt rows label j, y ∈ stepUp (aboveAt rows label j) (n, ss) := by
      intro y hy
      unfold stepUp
      split
      · exact List.mem_append_left _ hy
      · exact hy
    refine ⟨fun y hy => ?_, fun y hy => ?_⟩
    · unfold stepUp at hy
      split at hy
      · rename_i hn
        rcases List.mem_append.mp hy with z | z
        · exact S y z
        · have hs : y ∈ ss := (List.mem_filter.mp z).1
          have hyn : y ∈ Anc rows n := by
            obtain ⟨_, _, _, v4⟩ := v _ n ss eri
            obtain ⟨k, ts, _, ek⟩ := row_at (v4 y hs)
            exact (anc_row v eri y).mpr (Or.inr ⟨y, hs, (anc_row v ek y).mpr (Or.inl rfl)⟩)
          exact anc_trans v i0 e0 (S n hn) hyn
      · exact S y hy
    · rcases C y hy with z | ⟨i, z, ts, h1, h2, h3, h4⟩
      · exact Or.inl (sub y z)
      · by_cases hlt : i < rows.length - (j + 1)
        · exact Or.inr ⟨i, z, ts, hlt, h2, sub z h3, h4⟩
        · have ei : i = rows.length - 1 - j := by omega
          subst ei
          rw [eri] at h2
          cases h2
          rcases (anc_row v eri y).mp h4 with rfl | ⟨s, hs, hys⟩
          · exact Or.inl (sub _ h3)
          · obtain ⟨_, _, _, v4⟩ := v _ n ss eri
            obtain ⟨k, us, hk, ek⟩ := row_at (v4 s hs)
            refine Or.inr ⟨k, s, us, by omega, ek, ?_, hys⟩
            unfold stepUp
            rw [if_pos h3]
            by_cases hin : s ∈ aboveAt rows label j
            · exact List.mem_append_left _ hin
            · exact List.mem_append_right _ (List.mem_filter.mpr ⟨hs, decide_eq_true hin⟩)
theorem mem_above {rows : List Row2} (v : Valid rows) {label : Str} (hl : label ∈ fsts rows) (y : Str) : y ∈ aboveL rows label ↔ y ∈ Anc rows label := by
  obtain ⟨S, C⟩ := above_inv v hl rows.length (Nat.le_refl _)
  constructor
  · exact S y
  · intro hy
    rcases C y hy with z | ⟨i, z, ss, h1, _⟩
    · exact z
    · omega
/-! ### all points -/
def stepC (rows : List (List Str)) (names : List Str) : List (List Str) := rows.flatMap fun r => names.map fun n => r ++ [n]
def combos (choices : List (List Str)) : List (List Str) := choices.foldl stepC [[]]
theorem combos_snoc (cs : List (List Str)) (c : List Str) : combos (cs ++ [c]) = stepC (combos cs) c := by
  unfold combos
  rw [List.foldl_append]
  rfl
theorem foldC_len (k : Nat) : ∀ (cs : List (List Str)) (acc : List (List Str)), (∀ p ∈ acc, p.length = k) → ∀ p ∈ cs.foldl stepC acc, p.length = k + cs.length
  | [], _, h, p, hp => h p hp
  | c :: cs, acc, h, p, hp => by
    have := foldC_len (k + 1) cs (stepC acc c) (fun q hq => by
      obtain ⟨r, hr, hq2⟩ := List.mem_flatMap.mp hq
      obtain ⟨n, hn, rfl⟩ := List.mem_map.mp hq2
      rw [List.length_append, h r hr]
      rfl) p hp
    rw [this, List.length_cons]
    omega
theorem combos_len (cs : List (List Str)) : ∀ p ∈ combos cs, p.length = cs.length := fun p hp => by
  have := foldC_len 0 cs [[]] (fun p hp => by rw [List.mem_singleton.mp hp]; rfl) p hp
  omega
theorem stepC_mem {rows : List (List Str)} {c : List Str} {p : List Str} : p ∈ stepC rows c ↔ ∃ r ∈ rows, ∃ n ∈ c, p = r ++ [n] := by
  unfold stepC
  rw [List.mem_flatMap]
  constructor
  · rintro ⟨r, hr, hp⟩
    obtain ⟨n, hn, rfl⟩ := List.mem_map.mp hp
    exact ⟨r, hr, n, hn, rfl⟩
  · rintro ⟨r, hr, n, hn, rfl⟩
    exact ⟨r, hr, List.mem_map.mpr ⟨n, hn, rfl⟩⟩
theorem foldC_all (q : Str → Prop) : ∀ (cs : List (List Str)) (acc : List (List Str)), (∀ p ∈ acc, ∀ x ∈ p, q x) → (∀ c ∈ cs, ∀ x ∈ c, q x) → ∀ p ∈ cs.foldl stepC acc, ∀ x ∈ p, q x
  | [], _, h, _, p, hp => h p hp
  | c :: cs, acc, h, hc, p, hp => by
    refine foldC_all q cs (stepC acc c) (fun r hr x hx => ?_) (fun d hd => hc d (List.mem_cons_of_mem _ hd)) p hp
    obtain ⟨r2, hr2, n, hn, rfl⟩ := stepC_mem.mp hr
    rcases List.mem_append.mp hx with z | z
    · exact h r2 hr2 x z
    · rw [List.mem_singleton.mp z]
      exact hc c (List.mem_cons_self ..) n hn
theorem combos_all (q : Str → Prop) {cs : List (List Str)} (hc : ∀ c ∈ cs, ∀ x ∈ c, q x) : ∀ p ∈ combos cs, ∀ x ∈ p, q x :=
  foldC_all q cs [[]] (fun p hp x hx => by rw [List.mem_singleton.mp hp] at hx; cases hx) hc
theorem stepC_length (rows : List (List Str)) (c : List Str) : (stepC rows c).length = rows.length * c.length := by
  unfold stepC
  induction rows with
  | nil => rw [List.flatMap_nil, List.length_nil, Nat.zero_mul]
  | cons r rs ih => rw [List.flatMap_cons, List.length_append, ih, List.length_map, List.length_cons, Nat.add_mul]; omega
def okZip (f : Str → Str → Bool) : List Str → List Str → Bool
  | [], _ => true
  | _, [] => true
  | a :: as, b :: bs => f a b && okZip f as bs
theorem okZip_snoc (f : Str → Str → Bool) (a b : Str) : ∀ (as bs : List Str), as.length = bs.length → okZip f (as ++ [a]) (bs ++ [b]) = (okZip f as bs && f a b)
  | [], [], _ => by simp [okZip]
  | x :: as, y :: bs, h => by
    have := okZip_snoc f a b as bs (by simpa using h)
    simp [okZip, this, Bool.and_assoc]
  | [], _ :: _, h => by simp at h
  | _ :: _, [], h => by simp at h
end Kv
/-! Points in the heap; comprehensions with two loops. -/
namespace Kv
open PySem PySem.Spec PyProof.Rows L2
def PtAt (H : Hp) (v : V) (p : List Str) : Prop := ∃ t, v = .ref t ∧ H t = some (.tup (p.map V.str))
def Pts (H : Hp) : List V → List (List Str) → Prop := Paired (PtAt H)
theorem PtAt.same {H H' : Hp} {v : V} {p : List Str} (s : Same H H') (h : PtAt H v p) : PtAt H' v p := by
  obtain ⟨t, e, h⟩ := h
  exact ⟨t, e, s _ _ h⟩
theorem PtAt.wr {H : Hp} {q : Addr} {zs : List V} {o : HO} {v : V} {p : List Str} (hq : H q = some (.lst zs)) (h : PtAt H v p) : PtAt (upd H q o) v p := by
  obtain ⟨t, e, h⟩ := h
  exact ⟨t, e, by rw [upd_ne (ne_of h hq (by intro z; cases z))]; exact h⟩
theorem Pts.same {H H' : Hp} {vs : List V} {ps : List (List Str)} (s : Same H H') (h : Pts H vs ps) : Pts H' vs ps := Paired.mapP h fun _ _ z => z.same s
theorem Pts.wr {H : Hp} {q : Addr} {zs : List V} {o : HO} {vs : List V} {ps : List (List Str)} (hq : H q = some (.lst zs)) (h : Pts H vs ps) : Pts (upd H q o) vs ps := Paired.mapP h fun _ _ z => z.wr hq
theorem Pts.length {H : Hp} {vs : List V} {ps : List (List Str)} (h : Pts H vs ps) : vs.length = ps.length := Paired.length h
def ptD (p : List Str) : PyData := .tuple (p.map PyData.str)
theorem sh_strs {K : PySem.W.Frag} {nd : Bool} {H : Hp} : ∀ p : List Str, ShAll K nd H (p.map V.str) (p.map PyData.str)
  | [] => .nil
  | x :: r => .cons (.str x) (sh_strs r)
theorem PtAt.sh {K : PySem.W.Frag} {nd : Bool} {H : Hp} {v : V} {p : List Str} (h : PtAt H v p) : Sh K nd H v (ptD p) := by
  obtain ⟨t, rfl, h⟩ := h
  exact .tup (.inl (.inl h)) (sh_strs p)
theorem Pts.sh {K : PySem.W.Frag} {nd : Bool} {H : Hp} : ∀ {vs : List V} {ps : List (List Str)}, Pts H vs ps → ShAll K nd H vs (ps.map ptD)
  | _, _, .nil => .nil
  | _, _, .cons h t => .cons h.sh (Pts.sh t)
theorem fit_strs : ∀ p : List Str, (∀ x ∈ p, Sm 8 x) → FitAll (9 * p.length) 0 (p.map PyData.str)
  | [], _ => fitAll_nil
  | x :: r, h => by
    have := FitAll.cons (h x (List.mem_cons_self ..)).fit (fit_strs r fun y hy => h y (List.mem_cons_of_mem _ hy))
    refine this.mono ?_ (Nat.le_refl _)
    rw [List.length_cons]
    omega
theorem fit_pts (k : Nat) : ∀ ps : List (List Str), (∀ p ∈ ps, p.length ≤ k ∧ ∀ x ∈ p, Sm 8 x) → FitAll ((9 * k + 1) * ps.length) 1 (ps.map ptD)
  | [], _ => fitAll_nil
  | p :: r, h => by
    obtain ⟨h1, h2⟩ := h p (List.mem_cons_self ..)
    have hp : Fit (9 * k) 1 (ptD p) := (Fit.tup (fit_strs p h2)).mono (Nat.mul_le_mul_left 9 h1) (Nat.le_refl _)
    have := FitAll.cons hp (fit_pts k r fun y hy => h y (List.mem_cons_of_mem _ hy))
    refine this.mono ?_ (Nat.le_refl _)
    rw [List.length_cons, Nat.mul_add]
    omega
def LsAt (H : Hp) (v : V) (l : List Str) : Prop := ∃ a, v = .ref a ∧ H a = some (.lst (l.map V.str))
theorem LsAt.same {H H' : Hp} {v : V} {p : List Str} (s : Same H H') (h : LsAt H v p) : LsAt H' v p := by
  obtain ⟨t, e, h⟩ := h
  exact ⟨t, e, s _ _ h⟩
section
variable {J : It} {n : Nat} {G : Hp → Prop} {Y : Nat → Hp → V → Hp → Prop}
end
end Kv
/-! The order of the points. -/
namespace Kv
open PySem PySem.Spec PyProof.Rows L2
theorem stepC_get {c : List Str} (hc : 0 < c.length) : ∀ {rows : List (List Str)} {i : Nat} {p : List Str}, (stepC rows c)[i]? = some p →
    ∃ r x, p = r ++ [x] ∧ rows[i / c.length]? = some r ∧ c[i % c.length]? = some x
  | [], i, p, h => by
    have : (stepC [] c) = [] := rfl
    rw [this] at h
    simp at h
  | r :: rs, i, p, h => by
    have e : stepC (r :: rs) c = c.map (fun n => r ++ [n]) ++ stepC rs c := List.flatMap_cons
    rw [e] at h
    by_cases hi : i < c.length
    · rw [List.getElem?_append_left (by rw [List.length_map]; exact hi), List.getElem?_map, List.getElem?_eq_getElem hi] at h
      refine ⟨r, c[i], (Option.some.inj h).symm, ?_, ?_⟩
      · rw [Nat.div_eq_of_lt hi]
        rfl
      · rw [Nat.mod_eq_of_lt hi, List.getElem?_eq_getElem hi]
    · rw [List.getElem?_append_right (by rw [List.length_map]; omega), List.length_map] at h
      obtain ⟨r2, x, h1, h2, h3⟩ := stepC_get hc h
      have e2 : i = (i - c.length) + c.length := by omega
      refine ⟨r2, x, h1, ?_, ?_⟩
      · rw [e2, Nat.add_div_right _ hc]
        exact h2
      · rw [e2, Nat.add_mod_right]
        exact h3
theorem anc_ahead {rows : List Row2} (v : Valid rows) : ∀ (i : Nat) {n : Str} {ss : List Str} {x : Str}, rows[i]? = some (n, ss) → x ∈ Anc rows n → x ∈ fsts (rows.take (i + 1)) := by
  intro i
  induction i using Nat.strongRecOn with
  | ind i ih =>
    intro n ss x h hx
    rcases (anc_row v h x).mp hx with rfl | ⟨s, hs, hxs⟩
    · rw [List.take_add_one, h]
      unfold fsts
      rw [List.map_append]
      exact List.mem_append_right _ (List.mem_singleton.mpr rfl)
    · obtain ⟨_, _, _, v4⟩ := v i n ss h
      obtain ⟨j, ts, hj, e⟩ := row_at (v4 s hs)
      have := ih j hj e hxs
      have hs2 : rows.take (j + 1) <+: rows.take (i + 1) := by
        have : rows.take (j + 1) = (rows.take (i + 1)).take (j + 1) := by rw [List.take_take, Nat.min_eq_left (by omega)]
        rw [this]
        exact List.take_prefix _ _
      unfold fsts at this ⊢
      exact (hs2.map _).subset this
theorem names_ord {rows : List Row2} (v : Valid rows) {i j : Nat} {x y : Str} (hi : (fsts rows)[i]? = some x) (hj : (fsts rows)[j]? = some y) (h : y ∈ Anc rows x) : j ≤ i := by
  unfold fsts at hi hj
  rw [List.getElem?_map] at hi hj
  obtain ⟨ri, e1, e2⟩ := Option.map_eq_some_iff.mp hi
  obtain ⟨rj, f1, f2⟩ := Option.map_eq_some_iff.mp hj
  obtain ⟨n, ss⟩ := ri
  obtain ⟨m, ts⟩ := rj
  have e2' : n = x := e2
  have f2' : m = y := f2
  subst e2' f2'
  have h1 := anc_ahead v i e1 h
  by_cases hlt : i + 1 ≤ j
  · obtain ⟨_, v2, _, _⟩ := v j m ts f1
    refine absurd ?_ v2
    have hs2 : rows.take (i + 1) <+: rows.take j := by
      have : rows.take (i + 1) = (rows.take j).take (i + 1) := by rw [List.take_take, Nat.min_eq_left hlt]
      rw [this]
      exact List.take_prefix _ _
    unfold fsts at h1 ⊢
    exact (hs2.map _).subset h1
  · omega
theorem pts_ord {rows : List Row2} (v : Valid rows) (hr : 0 < rows.length) (f : Str → Str → Bool) (hf : ∀ x y, f x y = true → x ∈ fsts rows → y ∈ Anc rows x) :
    ∀ (n : Nat) {i j : Nat} {p q : List Str}, (combos (List.replicate n (fsts rows)))[i]? = some p → (combos (List.replicate n (fsts rows)))[j]? = some q → okZip f p q = true → j ≤ i
  | 0, i, j, p, q, hi, hj, _ => by
    have : j < 1 := (List.getElem?_eq_some_iff.mp hj).1
    omega
  | n + 1, i, j, p, q, hi, hj, h => by
    rw [List.replicate_succ', combos_snoc] at hi hj
    have hL : 0 < (fsts rows).length := by
      unfold fsts
      rw [List.length_map]
      exact hr
    obtain ⟨a, x, rfl, a1, a2⟩ := stepC_get hL hi
    obtain ⟨b, y, rfl, b1, b2⟩ := stepC_get hL hj
    have la := combos_len _ a (List.mem_of_getElem? a1)
    have lb := combos_len _ b (List.mem_of_getElem? b1)
    rw [okZip_snoc f x y a b (la.trans lb.symm)] at h
    obtain ⟨h1, h2⟩ := Bool.and_eq_true_iff.mp h
    have o1 := pts_ord v hr f hf n a1 b1 h1
    have o2 := names_ord v a2 b2 (hf x y h2 (List.mem_of_getElem? a2))
    have e1 := Nat.div_add_mod i (fsts rows).length
    have e2 := Nat.div_add_mod j (fsts rows).length
    have := Nat.mul_le_mul_left (fsts rows).length o1
    omega
theorem eqvAll_strs : ∀ p q : List Str, PyData.eqvAll (p.map PyData.str) (q.map PyData.str) = decide (p = q)
  | [], [] => by simp [PyData.eqvAll]
  | x :: p, [] => by simp [PyData.eqvAll]
  | [], y :: q => by simp [PyData.eqvAll]
  | x :: p, y :: q => by
    have ih := eqvAll_strs p q
    show (PyData.eqv (.str x) (.str y) && PyData.eqvAll (p.map PyData.str) (q.map PyData.str)) = _
    rw [ih]
    have e : PyData.eqv (.str x) (.str y) = (x == y) := by simp [PyData.eqv]
    rw [e]
    by_cases h : x = y
    · subst h
      rw [beq_self_eq_true]
      by_cases h2 : p = q
      · subst h2
        simp
      · simp [h2]
    · rw [beq_eq_false_iff_ne.mpr h]
      simp [h]
end Kv
/-! The highest of those that are common: one pass over the classes, and the same for points, column by column. -/
namespace Kv
open PySem PySem.Spec PyProof.Rows L2
theorem snocInd {α : Type} {m : List α → Prop} (h0 : m []) (h1 : ∀ l a, m l → m (l ++ [a])) : ∀ l, m l := fun l => by
  have k : ∀ r : List α, m r.reverse := by
    intro r
    induction r with
    | nil => exact h0
    | cons a r ih => rw [List.reverse_cons]; exact h1 _ _ ih
  have := k l.reverse
  rwa [List.reverse_reverse] at this
def topIn (c : Str → Bool) (up : Str → List Str) (l : List Str) (n : Str) : Bool := c n && !(l.any fun m => decide (m ≠ n) && c m && decide (m ∈ up n))
def hiStep (c : Str → Bool) (up : Str → List Str) (acc : List Str) (n : Str) : List Str := if (c n && !(acc.any fun m => decide (m ∈ up n))) = true then acc ++ [n] else acc
def hiL (c : Str → Bool) (up : Str → List Str) (l : List Str) : List Str := l.foldl (hiStep c up) []
section
variable {c : Str → Bool} {up : Str → List Str}
theorem topIn_iff {l : List Str} {n : Str} : topIn c up l n = true ↔ c n = true ∧ ∀ m ∈ l, m ≠ n → c m = true → m ∉ up n := by
  unfold topIn
  rw [Bool.and_eq_true, Bool.not_eq_true', List.any_eq_false]
  constructor
  · rintro ⟨h, k⟩
    refine ⟨h, fun m hm ne hc hu => k m hm ?_⟩
    simp [ne, hc, hu]
  · rintro ⟨h, k⟩
    refine ⟨h, fun m hm z => ?_⟩
    simp only [Bool.and_eq_true, decide_eq_true_eq] at z
    exact k m hm z.1.1 z.1.2 z.2
theorem topIn_more {l : List Str} {a n : Str} (h : a ∉ up n) : topIn c up (l ++ [a]) n = topIn c up l n := by
  apply Bool.eq_iff_iff.mpr
  rw [topIn_iff, topIn_iff]
  constructor
  · rintro ⟨h1, h2⟩
    exact ⟨h1, fun m hm => h2 m (List.mem_append_left _ hm)⟩
  · rintro ⟨h1, h2⟩
    refine ⟨h1, fun m hm ne hc => ?_⟩
    rcases List.mem_append.mp hm with q | q
    · exact h2 m q ne hc
    · rw [List.mem_singleton.mp q]
      exact h
theorem top_over (tr : ∀ x y z, y ∈ up x → z ∈ up y → z ∈ up x) : ∀ l : List Str, (l.Pairwise fun x y => y ∉ up x) → ∀ m ∈ l, c m = true → ∃ t ∈ l, topIn c up l t = true ∧ (t = m ∨ t ∈ up m) := by
  refine snocInd (fun _ m hm => by cases hm) fun l a ih hp m hm hc => ?_
  obtain ⟨p1, _, p3⟩ := List.pairwise_append.mp hp
  have old : ∀ m ∈ l, c m = true → ∃ t ∈ l ++ [a], topIn c up (l ++ [a]) t = true ∧ (t = m ∨ t ∈ up m) := fun m hm hc => by
    obtain ⟨t, ht, k, q⟩ := ih p1 m hm hc
    exact ⟨t, List.mem_append_left _ ht, (topIn_more (p3 t ht a (List.mem_singleton.mpr rfl))).trans k, q⟩
  rcases List.mem_append.mp hm with h | h
  · exact old m h hc
  · have e := List.mem_singleton.mp h
    subst e
    by_cases z : topIn c up (l ++ [m]) m = true
    · exact ⟨m, hm, z, .inl rfl⟩
    · have : ∃ x ∈ l ++ [m], x ≠ m ∧ c x = true ∧ x ∈ up m := by
        apply Classical.byContradiction
        intro w
        refine z (topIn_iff.mpr ⟨hc, fun x hx ne hcx hu => w ⟨x, hx, ne, hcx, hu⟩⟩)
      obtain ⟨x, hx, ne, hcx, hu⟩ := this
      rcases List.mem_append.mp hx with hx | hx
      · obtain ⟨t, ht, k, q⟩ := old x hx hcx
        refine ⟨t, ht, k, .inr ?_⟩
        rcases q with q | q
        · rw [q]; exact hu
        · exact tr m x t hu q
      · exact absurd (List.mem_singleton.mp hx) ne
theorem hi_eq (tr : ∀ x y z, y ∈ up x → z ∈ up y → z ∈ up x) : ∀ l : List Str, l.Nodup → (l.Pairwise fun x y => y ∉ up x) → hiL c up l = l.filter (topIn c up l) := by
  refine snocInd (fun _ _ => rfl) fun l a ih nd hp => ?_
  obtain ⟨p1, _, p3⟩ := List.pairwise_append.mp hp
  obtain ⟨n1, _, n3⟩ := List.pairwise_append.mp nd
  have hi := ih n1 p1
  have e0 : l.filter (topIn c up (l ++ [a])) = l.filter (topIn c up l) := List.filter_congr fun x hx => topIn_more (p3 x hx a (List.mem_singleton.mpr rfl))
  have e1 : (c a && !((l.filter (topIn c up l)).any fun m => decide (m ∈ up a))) = topIn c up (l ++ [a]) a := by
    apply Bool.eq_iff_iff.mpr
    rw [topIn_iff, Bool.and_eq_true, Bool.not_eq_true', List.any_eq_false]
    constructor
    · rintro ⟨h1, h2⟩
      refine ⟨h1, fun m hm ne hc hu => ?_⟩
      rcases List.mem_append.mp hm with q | q
      · obtain ⟨t, ht, k, w⟩ := top_over (c := c) tr l p1 m q hc
        have : t ∈ up a := by
          rcases w with w | w
          · rw [w]; exact hu
          · exact tr a m t hu w
        exact h2 t (List.mem_filter.mpr ⟨ht, k⟩) (by simpa using this)
      · exact ne (List.mem_singleton.mp q)
    · rintro ⟨h1, h2⟩
      refine ⟨h1, fun m hm hu => ?_⟩
      obtain ⟨hm, k⟩ := List.mem_filter.mp hm
      exact h2 m (List.mem_append_left _ hm) (n3 m hm a (List.mem_singleton.mpr rfl)) (topIn_iff.mp k).1 (by simpa using hu)
  unfold hiL at hi ⊢
  rw [List.foldl_append, hi, List.filter_append, e0]
  show hiStep c up _ a = _
  unfold hiStep
  rw [e1]
  cases h : topIn c up (l ++ [a]) a with
  | true => simp [h]
  | false => simp [h]
end
/-! points: a choice of its own for every column -/
def okCol : List (Str → Bool) → List Str → Bool
  | g :: gs, x :: xs => g x && okCol gs xs
  | _, _ => true
theorem okCol_snoc (g : Str → Bool) (x : Str) : ∀ (gs : List (Str → Bool)) (xs : List Str), gs.length = xs.length → okCol (gs ++ [g]) (xs ++ [x]) = (okCol gs xs && g x)
  | [], [], _ => by simp [okCol]
  | h :: gs, y :: xs, e => by
    have := okCol_snoc g x gs xs (by simpa using e)
    simp [okCol, this, Bool.and_assoc]
  | [], _ :: _, e => by simp at e
  | _ :: _, [], e => by simp at e
theorem step_col (g : Str → Bool) (gs : List (Str → Bool)) (names : List Str) (rows : List (List Str)) (h : ∀ r ∈ rows, gs.length = r.length) :
    (stepC rows names).filter (okCol (gs ++ [g])) = stepC (rows.filter (okCol gs)) (names.filter g) := by
  induction rows with
  | nil => rfl
  | cons r rs ih =>
    have e : ∀ ns : List Str, (ns.map fun n => r ++ [n]).filter (okCol (gs ++ [g])) = if okCol gs r = true then (ns.filter g).map fun n => r ++ [n] else [] := by
      intro ns
      induction ns with
      | nil => simp
      | cons n ns ihn =>
        rw [List.map_cons, List.filter_cons, okCol_snoc g n gs r (h r (List.mem_cons_self ..)), ihn, List.filter_cons]
        cases okCol gs r <;> cases g n <;> simp
    have i2 := ih fun q hq => h q (List.mem_cons_of_mem _ hq)
    unfold stepC at i2 ⊢
    rw [List.flatMap_cons, List.filter_append, i2, e, List.filter_cons]
    cases okCol gs r <;> simp
theorem combos_col (names : List Str) : ∀ gs : List (Str → Bool), combos (gs.map fun g => names.filter g) = (combos (List.replicate gs.length names)).filter (okCol gs) := by
  refine snocInd rfl fun gs g ih => ?_
  rw [List.map_append, List.map_cons, List.map_nil, combos_snoc, ih, List.length_append, List.length_singleton, List.replicate_succ', combos_snoc, step_col]
  intro r hr
  rw [combos_len _ r hr, List.length_replicate]
theorem mem_combos (names : List Str) : ∀ q : List Str, (∀ x ∈ q, x ∈ names) → q ∈ combos (List.replicate q.length names) := by
  refine snocInd (fun _ => List.mem_singleton.mpr rfl) fun q a ih h => ?_
  rw [List.length_append, List.length_singleton, List.replicate_succ', combos_snoc, stepC_mem]
  exact ⟨q, ih fun x hx => h x (List.mem_append_left _ hx), a, h a (List.mem_append_right _ (List.mem_singleton.mpr rfl)), rfl⟩
section
variable {up : Str → List Str} {names : List Str}
def under (up : Str → List Str) (p q : List Str) : Bool := okZip (fun x y => decide (y ∈ up x)) p q
theorem under_refl (rf : ∀ x ∈ names, x ∈ up x) : ∀ p : List Str, (∀ x ∈ p, x ∈ names) → under up p p = true
  | [], _ => rfl
  | x :: p, h => by
    have i := under_refl rf p fun y hy => h y (List.mem_cons_of_mem _ hy)
    unfold under at i ⊢
    simp [okZip, i, rf x (h x (List.mem_cons_self ..))]
theorem col_top : ∀ (cs : List (Str → Bool)) (p q : List Str), cs.length = p.length → q.length = p.length → (∀ x ∈ q, x ∈ names) →
    okCol (cs.map fun c => topIn c up names) p = true → okCol cs q = true → under up p q = true → q = p
  | [], [], [], _, _, _, _, _, _ => rfl
  | c :: cs, x :: p, y :: q, h1, h2, hn, t, k, u => by
    have t' : (topIn c up names x && okCol (cs.map fun c => topIn c up names) p) = true := t
    have k' : (c y && okCol cs q) = true := k
    have u' : (decide (y ∈ up x) && under up p q) = true := u
    rw [Bool.and_eq_true] at t' k' u'
    have e := col_top cs p q (by simpa using h1) (by simpa using h2) (fun z hz => hn z (List.mem_cons_of_mem _ hz)) t'.2 k'.2 u'.2
    have e2 : y = x := by
      apply Classical.byContradiction
      intro ne
      exact (topIn_iff.mp t'.1).2 y (hn y (List.mem_cons_self ..)) ne k'.1 (of_decide_eq_true u'.1)
    rw [e, e2]
  | [], _ :: _, _, h, _, _, _, _, _ => by simp at h
  | _ :: _, [], _, h, _, _, _, _, _ => by simp at h
  | [], [], _ :: _, _, h, _, _, _, _ => by simp at h
  | _ :: _, _ :: _, [], _, h, _, _, _, _ => by simp at h
theorem col_not (rf : ∀ x ∈ names, x ∈ up x) : ∀ (cs : List (Str → Bool)) (p : List Str), cs.length = p.length → (∀ x ∈ p, x ∈ names) → okCol cs p = true →
    okCol (cs.map fun c => topIn c up names) p = false → ∃ q : List Str, q.length = p.length ∧ (∀ x ∈ q, x ∈ names) ∧ q ≠ p ∧ okCol cs q = true ∧ under up p q = true
  | [], [], _, _, _, t => by cases t
  | c :: cs, x :: p, h1, hn, k, t => by
    have k' : (c x && okCol cs p) = true := k
    have t' : (topIn c up names x && okCol (cs.map fun c => topIn c up names) p) = false := t
    rw [Bool.and_eq_true] at k'
    have hp : ∀ z ∈ p, z ∈ names := fun z hz => hn z (List.mem_cons_of_mem _ hz)
    cases z : topIn c up names x with
    | true =>
      rw [z, Bool.true_and] at t'
      obtain ⟨q, a1, a2, a3, a4, a5⟩ := col_not rf cs p (by simpa using h1) hp k'.2 t'
      refine ⟨x :: q, by simp [a1], fun y hy => ?_, fun w => a3 (List.cons.inj w).2, ?_, ?_⟩
      · rcases List.mem_cons.mp hy with w | w
        · rw [w]; exact hn x (List.mem_cons_self ..)
        · exact a2 y w
      · show (c x && okCol cs q) = true
        rw [k'.1, a4] <;> rfl
      · show (decide (x ∈ up x) && under up p q) = true
        rw [a5, decide_eq_true (rf x (hn x (List.mem_cons_self ..)))] <;> rfl
    | false =>
      have : ∃ m ∈ names, m ≠ x ∧ c m = true ∧ m ∈ up x := by
        apply Classical.byContradiction
        intro w
        have := topIn_iff (c := c) (up := up) (l := names) (n := x) |>.mpr ⟨k'.1, fun m hm ne hc hu => w ⟨m, hm, ne, hc, hu⟩⟩
        rw [z] at this
        cases this
      obtain ⟨m, hm, ne, hc, hu⟩ := this
      refine ⟨m :: p, rfl, fun y hy => ?_, fun w => ne (List.cons.inj w).1, ?_, ?_⟩
      · rcases List.mem_cons.mp hy with w | w
        · rw [w]; exact hm
        · exact hp y w
      · show (c m && okCol cs p) = true
        rw [hc, k'.2] <;> rfl
      · show (decide (m ∈ up x) && under up p p) = true
        rw [under_refl rf p hp, decide_eq_true hu] <;> rfl
  | [], _ :: _, h, _, _, _ => by simp at h
  | _ :: _, [], h, _, _, _ => by simp at h
theorem hi_points (rf : ∀ x ∈ names, x ∈ up x) (cs : List (Str → Bool)) :
    combos (cs.map fun c => names.filter (topIn c up names)) =
      (combos (List.replicate cs.length names)).filter fun p => okCol cs p && !((combos (List.replicate cs.length names)).any fun q => decide (q ≠ p) && okCol cs q && under up p q) := by
  have e := combos_col names (cs.map fun c => topIn c up names)
  rw [List.map_map, List.length_map] at e
  refine Eq.trans e (List.filter_congr fun p hp => ?_)
  have hl : p.length = cs.length := (combos_len _ p hp).trans List.length_replicate
  have hn : ∀ x ∈ p, x ∈ names := combos_all (· ∈ names) (fun c hc x hx => by rw [List.eq_of_mem_replicate hc] at hx; exact hx) p hp
  cases t : okCol (cs.map fun c => topIn c up names) p with
  | true =>
    symm
    rw [Bool.and_eq_true, Bool.not_eq_true', List.any_eq_false]
    have ok : ∀ (cs : List (Str → Bool)) (p : List Str), okCol (cs.map fun c => topIn c up names) p = true → okCol cs p = true := by
      intro cs
      induction cs with
      | nil => intro p _; cases p <;> rfl
      | cons c cs ih =>
        intro p h
        cases p with
        | nil => rfl
        | cons x p =>
          have h' : (topIn c up names x && okCol (cs.map fun c => topIn c up names) p) = true := h
          rw [Bool.and_eq_true] at h'
          show (c x && okCol cs p) = true
          rw [(topIn_iff.mp h'.1).1, ih p h'.2] <;> rfl
    refine ⟨ok cs p t, fun q hq z => ?_⟩
    simp only [Bool.and_eq_true, decide_eq_true_eq] at z
    have ql : q.length = cs.length := (combos_len _ q hq).trans List.length_replicate
    have qn : ∀ x ∈ q, x ∈ names := combos_all (· ∈ names) (fun c hc x hx => by rw [List.eq_of_mem_replicate hc] at hx; exact hx) q hq
    exact z.1.1 (col_top cs p q hl.symm (ql.trans hl.symm) qn t z.1.2 z.2)
  | false =>
    symm
    cases k : okCol cs p with
    | false => rfl
    | true =>
      obtain ⟨q, a1, a2, a3, a4, a5⟩ := col_not rf cs p hl.symm hn k t
      have hq : q ∈ combos (List.replicate cs.length names) := by
        have := mem_combos names q a2
        rwa [a1, hl] at this
      have : ((combos (List.replicate cs.length names)).any fun q => decide (q ≠ p) && okCol cs q && under up p q) = true := List.any_eq_true.mpr ⟨q, hq, by simp [a3, a4, a5]⟩
      rw [this] <;> rfl
end
end Kv
/-! A hierarchy as a tree. -/
namespace Pu
open PySem PySem.Spec PyProof.Rows L2 Kv
def par2 (i j : Nat) : List D → S
  | [d, e] => fun ρ => some (.nx ((ρ.set i (.val d)).set j (.val e)))
  | _ => fun _ => none
def rowD (r : Row2) : D := .tup [.str r.1, .tup (r.2.map D.str)]
def flagD (as : List Str) : D := .dic (as.map Sum.inr) (as.map fun _ => D.bl true)
def idxD (n : Nat) : List D := (List.range n).map fun i => D.int (i : Nat)
def hierD (C : Addr) (rows : List Row2) : D := .obj C [("rows" : Str), "places", "above"] [.lst (rows.map rowD), .dic ((fsts rows).map Sum.inr) (idxD rows.length), .dic ((ancTab rows).map fun p => Sum.inr p.1) ((ancTab rows).map fun p => flagD p.2)]
def rowOf : D → Option Row2
  | .tup [.str n, .tup ss] => (strsD ss).map fun xs => (n, xs)
  | _ => none
def rowsOf' : List D → Option (List Row2)
  | [] => some []
  | d :: ds => match Pu.rowOf d, rowsOf' ds with
    | some r, some rs => some (r :: rs)
    | _, _ => none
def rowsOf : D → Option (List Row2)
  | .lst ds => rowsOf' ds
  | _ => none
open Classical in
noncomputable def mkH (C : Addr) (d : D) : Option R := match rowsOf d with
  | some rows => if Valid rows ∧ rows.length ≤ 20 then some (.val (hierD C rows)) else none
  | none => none
theorem mkH_ok {C : Addr} {d : D} {rows : List Row2} (h : rowsOf d = some rows) (v : Valid rows) (l : rows.length ≤ 20) : mkH C d = some (.val (hierD C rows)) := by
  unfold mkH
  rw [h]
  exact if_pos ⟨v, l⟩
noncomputable def mkHL (i : Nat) (C : Addr) (fe : P D) : P R := bnd (rd i) fun c => if isCl C c = true then bnd fe fun d => lft (mkH C d) else fun _ => none
end Pu
/-! Named steps, and what must hold ahead of a step so that something holds behind it. -/
namespace Pu
open PySem PySem.Spec PyProof.Rows L2 Kv
/-! ### names for the steps that rules give -/
def op1 (o : D → Option D) (fa : P D) : P D := bnd fa fun x => lft (o x)
def opR (o : D → Option R) (fa : P D) : P R := bnd fa fun x => lft (o x)
def opL (o : D → Option (List D)) (fa : P D) : P (List D) := bnd fa fun x => lft (o x)
def opV (o : List D → Option D) (fr : P (List D)) : P D := bnd fr fun ds => lft (o ds)
def cal (F : P R) (n : Nat) (fr : P (List D)) : P R := bnd fr fun ds => if ds.length = n then app F ds else fun _ => none
def calB (i : Nat) (F : P R) (n : Nat) (fr : P (List D)) : P R := bnd (lentP i fr) fun ds => appB i F n ds
def met (C : Addr) (m : Str) (F : P R) (n : Nat) (fo : P D) (fr : P (List D)) : P R := bnd fo fun d => if isObj C m d = true then bnd fr fun ds => if ds.length + 1 = n then app F (d :: ds) else fun _ => none else fun _ => none
def met0 (C : Addr) (m : Str) (F : P R) (n : Nat) (fo : P D) : P R := bnd fo fun d => if isObj C m d = true ∧ 1 = n then app F [d] else fun _ => none
def metS (C : Addr) (m : Str) (F : P R) (n : Nat) (fo : P D) (fr : P (List D)) : P R := bnd fo fun d => if isObj C m d = true then bnd fr fun ds => starF n F (d :: ds) else fun _ => none
def slc (fe : P D) (fl fh : P (Option Int)) : P R := bnd fe fun d => bnd fl fun l => bnd fh fun h => lft ((lstOf d).map fun xs => .own (.lst (cutD xs l h)))
def sOpt (fe : P D) : P (Option Int) := bnd fe fun d => lft (asI d)
def slA (fe : P D) (fl fh : P (Option Int)) : P R := bnd fe fun d => bnd fl fun l => bnd fh fun h => lft (slD l h d)
def spl (fo fe : P D) : P R := bnd fo fun a => if isStr a = true then bnd fe fun b => lft (splitD a b) else fun _ => none
def revO (d : D) : Option R := (lstOf d).map fun xs => .own (.lst xs.reverse)
def iff (A : P Bool) (fa fb : S) : S := sb A fun c => if c = true then fa else fb
def ret (fe : P R) : S := sb fe fun r ρ => some (.rt r ρ)
def retN : S := fun ρ => some (.rt (.val .non) ρ)
def expr (fe : P D) : S := sb fe fun _ => sk
def set' (i : Nat) (fe : P R) : S := sb fe fun r => put i r
def for' (fi : P (List D)) (T : Tg) (fb : S) : S := sb fi fun ds => frL T fb ds
def unp' (T : Tg) (fe : P D) : S := sb fe fun d => unp T d
def par' (i j : Nat) (fr : P (List D)) : S := sb fr fun ds => par2 i j ds
def asg' (fe : P D) (h : D → S) : S := fun ρ => match sb fe h ρ with | some (.nx ρ') => some (.nx ρ') | some (.er c ns ds ρ') => some (.er c ns ds ρ') | _ => none
def gTup' (hs : List (D → S)) : D → S := fun d => sb (lft (tupOf d)) fun ds => if ds.length = hs.length then asgs hs ds else fun _ => none
def gName' (i : Nat) : D → S := fun d => put i (.val d)
def raise' (C : Addr) (ns : List Str) (cd : List D → Bool) (fr : P (List D)) : S := sb fr fun ds => rs C ns cd ds
def opL2 (o : D → D → Option (List D)) (fa fb : P D) : P (List D) := bnd fa fun x => bnd fb fun y => lft (o x y)
def brk : S := fun ρ => some (.bk ρ)
def cnt : S := fun ρ => some (.ct ρ)
/-! ### ahead of a step -/
abbrev QE := Value → List Str → List D → En → Prop
@[irreducible] def W {α : Type} (m : P α) (ρ : En) (Q : α → En → Prop) (E : QE) : Prop := match m ρ with
  | none => False
  | some (.ok a ρ') => Q a ρ'
  | some (.er c ns ds ρ') => E c ns ds ρ'
@[irreducible] def WS (f : S) (ρ : En) (N : En → Prop) (T : R → En → Prop) (B C : En → Prop) (E : QE) : Prop := match f ρ with
  | none => False
  | some (.nx ρ') => N ρ'
  | some (.rt r ρ') => T r ρ'
  | some (.bk ρ') => B ρ'
  | some (.ct ρ') => C ρ'
  | some (.er c ns ds ρ') => E c ns ds ρ'
section
variable {α β : Type} {ρ ρ' : En} {E E' : QE} {i n : Nat}
theorem W.mono {m : P α} {Q Q' : α → En → Prop} (h : W m ρ Q E) (q : ∀ a ρ', Q a ρ' → Q' a ρ') (e : ∀ c ns ds ρ', E c ns ds ρ' → E' c ns ds ρ') : W m ρ Q' E' := by
  unfold W at h ⊢
  split
  · rename_i z; rw [z] at h; exact h
  · rename_i z; rw [z] at h; exact q _ _ h
  · rename_i z; rw [z] at h; exact e _ _ _ _ h
theorem W.of {m : P α} {a : α} {Q : α → En → Prop} (h : m ρ = some (.ok a ρ')) (q : Q a ρ') : W m ρ Q E := by unfold W; rw [h]; exact q
theorem w_prt {a : α} {Q : α → En → Prop} (h : Q a ρ) : W (prt a) ρ Q E := by unfold W; exact h
theorem w_bnd {m : P α} {k : α → P β} {Q : β → En → Prop} (h : W m ρ (fun a ρ' => W (k a) ρ' Q E) E) : W (bnd m k) ρ Q E := by
  unfold W at h ⊢
  unfold bnd
  split at h
  · rename_i z; exact h.elim
  · rename_i z; rw [z]; exact h
  · rename_i z; rw [z]; exact h
theorem w_lft {o : Option α} {a : α} {Q : α → En → Prop} (e : o = some a) (h : Q a ρ) : W (lft o) ρ Q E := by subst e; unfold W; exact h
theorem w_rdV {d : D} {Q : D → En → Prop} (e : ρ[i]? = some (.val d)) (h : Q d ρ) : W (rd i) ρ Q E := by unfold W rd; rw [e]; exact h
theorem w_rdO {d : D} {Q : D → En → Prop} (e : ρ[i]? = some (.own d)) (h : Q d (ρ.set i (.val d))) : W (rd i) ρ Q E := by unfold W rd; rw [e]; exact h
theorem w_pkV {d : D} {Q : D → En → Prop} (e : ρ[i]? = some (.val d)) (h : Q d ρ) : W (pk i) ρ Q E := by unfold W pk; rw [e]; exact h
theorem w_pkO {d : D} {Q : D → En → Prop} (e : ρ[i]? = some (.own d)) (h : Q d ρ) : W (pk i) ρ Q E := by unfold W pk; rw [e]; exact h
theorem w_mvV {d : D} {Q : R → En → Prop} (e : ρ[i]? = some (.val d)) (h : Q (.val d) ρ) : W (mv i) ρ Q E := by unfold W mv; rw [e]; exact h
theorem w_mvO {d : D} {Q : R → En → Prop} (e : ρ[i]? = some (.own d)) (h : Q (.own d) (ρ.set i .un)) : W (mv i) ρ Q E := by unfold W mv; rw [e]; exact h
theorem w_ownL {xs : List D} {Q : Unit → En → Prop} (e : ρ[i]? = some (.own (.lst xs))) (h : Q () ρ) : W (ownL i) ρ Q E := by unfold W ownL; rw [e]; exact h
theorem w_mutL {step : List D → List D → Option (D × List D)} {ds xs ys : List D} {d : D} {Q : D → En → Prop} (e : ρ[i]? = some (.own (.lst xs))) (s : step xs ds = some (d, ys)) (h : Q d (ρ.set i (.own (.lst ys)))) : W (mutL i step ds) ρ Q E := by
  unfold W mutL; simp only [e, s]; exact h
theorem w_fz {f : P R} {Q : D → En → Prop} (h : W f ρ (fun r ρ' => Q r.d ρ') E) : W (fz f) ρ Q E := w_bnd (h.mono (fun _ _ h => w_prt h) fun _ _ _ _ h => h)
theorem w_vl {f : P D} {Q : R → En → Prop} (h : W f ρ (fun d ρ' => Q (.val d) ρ') E) : W (vl f) ρ Q E := w_bnd (h.mono (fun _ _ h => w_prt h) fun _ _ _ _ h => h)
theorem w_op1 {o : D → Option D} {fa : P D} {Q : D → En → Prop} (h : W fa ρ (fun x ρ' => W (lft (o x)) ρ' Q E) E) : W (op1 o fa) ρ Q E := w_bnd h
theorem w_opR {o : D → Option R} {fa : P D} {Q : R → En → Prop} (h : W fa ρ (fun x ρ' => W (lft (o x)) ρ' Q E) E) : W (opR o fa) ρ Q E := w_bnd h
theorem w_opL {o : D → Option (List D)} {fa : P D} {Q : List D → En → Prop} (h : W fa ρ (fun x ρ' => W (lft (o x)) ρ' Q E) E) : W (opL o fa) ρ Q E := w_bnd h
theorem w_opV {o : List D → Option D} {fr : P (List D)} {Q : D → En → Prop} (h : W fr ρ (fun x ρ' => W (lft (o x)) ρ' Q E) E) : W (opV o fr) ρ Q E := w_bnd h
theorem w_op2 {o : D → D → Option D} {fa fb : P D} {Q : D → En → Prop} (h : W fa ρ (fun x ρ1 => W fb ρ1 (fun y ρ2 => W (lft (o x y)) ρ2 Q E) E) E) : W (op2 o fa fb) ρ Q E :=
  w_bnd (h.mono (fun _ _ h => w_bnd h) fun _ _ _ _ h => h)
theorem w_tst {f : P D} {Q : Bool → En → Prop} (h : W f ρ (fun d ρ' => W (lft (asB d)) ρ' Q E) E) : W (tst f) ρ Q E := w_bnd h
theorem w_ifB {c : Bool} {f g : P α} {Q : α → En → Prop} (h1 : c = true → W f ρ Q E) (h2 : c = false → W g ρ Q E) : W (if c = true then f else g) ρ Q E := by
  cases c
  · exact h2 rfl
  · exact h1 rfl
theorem w_ifT {c : Prop} [Decidable c] {f g : P α} {Q : α → En → Prop} (hc : c) (h1 : W f ρ Q E) : W (if c then f else g) ρ Q E := by rw [if_pos hc]; exact h1
theorem w_andV {fa fb : P D} {Q : D → En → Prop} (h : W (tst fa) ρ (fun c ρ' => W (if c = true then fb else prt (.bl false)) ρ' Q E) E) : W (andV fa fb) ρ Q E := w_bnd h
theorem w_orV {fa fb : P D} {Q : D → En → Prop} (h : W (tst fa) ρ (fun c ρ' => W (if c = true then prt (.bl true) else fb) ρ' Q E) E) : W (orV fa fb) ρ Q E := w_bnd h
theorem w_notV {fa : P D} {Q : D → En → Prop} (h : W (tst fa) ρ (fun c ρ' => Q (.bl (!c)) ρ') E) : W (notV fa) ρ Q E := w_bnd (h.mono (fun _ _ h => w_prt h) fun _ _ _ _ h => h)
theorem w_andB {A B : P Bool} {Q : Bool → En → Prop} (h : W A ρ (fun c ρ' => W (if c = true then B else prt false) ρ' Q E) E) : W (andB A B) ρ Q E := w_bnd h
theorem w_orB {A B : P Bool} {Q : Bool → En → Prop} (h : W A ρ (fun c ρ' => W (if c = true then prt true else B) ρ' Q E) E) : W (orB A B) ρ Q E := w_bnd h
theorem w_notB {A : P Bool} {Q : Bool → En → Prop} (h : W A ρ (fun c ρ' => Q (!c) ρ') E) : W (notB A) ρ Q E := w_bnd (h.mono (fun _ _ h => w_prt h) fun _ _ _ _ h => h)
theorem w_ifV {A : P Bool} {fa fb : P α} {Q : α → En → Prop} (h : W A ρ (fun c ρ' => W (if c = true then fa else fb) ρ' Q E) E) : W (ifV A fa fb) ρ Q E := w_bnd h
theorem w_consA {fa : P D} {fr : P (List D)} {Q : List D → En → Prop} (h : W fa ρ (fun x ρ1 => W fr ρ1 (fun xs ρ2 => Q (x :: xs) ρ2) E) E) : W (consA fa fr) ρ Q E := w_bnd (h.mono (fun _ _ h => w_bnd (h.mono (fun _ _ h => w_prt h) fun _ _ _ _ h => h)) fun _ _ _ _ h => h)
theorem w_starA {fa : P D} {fr : P (List D)} {Q : List D → En → Prop} (h : W fa ρ (fun x ρ1 => ∃ xs, seqD x = some xs ∧ W fr ρ1 (fun ys ρ2 => Q (xs ++ ys) ρ2) E) E) : W (starA fa fr) ρ Q E :=
  w_bnd (h.mono (fun _ _ h => by obtain ⟨xs, e, h⟩ := h; simp only [e]; exact w_bnd (h.mono (fun _ _ h => w_prt h) fun _ _ _ _ h => h)) fun _ _ _ _ h => h)
theorem w_mkT {fr : P (List D)} {Q : D → En → Prop} (h : W fr ρ (fun xs ρ' => xs.length ≤ sizeLine ∧ Q (.tup xs) ρ') E) : W (mkT fr) ρ Q E :=
  w_bnd (h.mono (fun xs _ h => w_lft (by rw [fits_of h.1]; rfl) h.2) fun _ _ _ _ h => h)
theorem w_mkL {fr : P (List D)} {Q : R → En → Prop} (h : W fr ρ (fun xs ρ' => xs.length ≤ sizeLine ∧ Q (.own (.lst xs)) ρ') E) : W (mkL fr) ρ Q E :=
  w_bnd (h.mono (fun xs _ h => w_lft (by rw [fits_of h.1]; rfl) h.2) fun _ _ _ _ h => h)
theorem w_ix {fb : P D} {Q : D → En → Prop} (h : W (pk i) ρ (fun _ ρ1 => W fb ρ1 (fun y ρ2 => W (pk i) ρ2 (fun x ρ3 => W (lft (ixD x y)) ρ3 Q E) E) E) E) : W (ixN' i fb) ρ Q E :=
  w_bnd (h.mono (fun _ _ h => w_bnd (h.mono (fun _ _ h => w_bnd h) fun _ _ _ _ h => h)) fun _ _ _ _ h => h)
theorem w_chn {o o' : D → D → Option D} {fa fb fc : P D} {Q : D → En → Prop} (h : W fa ρ (fun x ρ1 => W fb ρ1 (fun y ρ2 => W (lft ((o x y).bind asB)) ρ2 (fun k ρ3 => W (if k = true then bnd fc fun z => lft (o' y z) else prt (.bl false)) ρ3 Q E) E) E) E) : W (chn o o' fa fb fc) ρ Q E :=
  w_bnd (h.mono (fun _ _ h => w_bnd (h.mono (fun _ _ h => w_bnd h) fun _ _ _ _ h => h)) fun _ _ _ _ h => h)
theorem w_seqP {f : P D} {Q : List D → En → Prop} (h : W f ρ (fun d ρ' => W (lft (seqD d)) ρ' Q E) E) : W (seqP f) ρ Q E := w_bnd h
theorem w_sOpt {f : P D} {Q : Option Int → En → Prop} (h : W f ρ (fun d ρ' => W (lft (asI d)) ρ' Q E) E) : W (sOpt f) ρ Q E := w_bnd h
theorem w_slc {fe : P D} {fl fh : P (Option Int)} {Q : R → En → Prop} (h : W fe ρ (fun d ρ1 => W fl ρ1 (fun l ρ2 => W fh ρ2 (fun u ρ3 => W (lft ((lstOf d).map fun xs => R.own (.lst (cutD xs l u)))) ρ3 Q E) E) E) E) : W (slc fe fl fh) ρ Q E :=
  w_bnd (h.mono (fun _ _ h => w_bnd (h.mono (fun _ _ h => w_bnd h) fun _ _ _ _ h => h)) fun _ _ _ _ h => h)
theorem w_slA {fe : P D} {fl fh : P (Option Int)} {Q : R → En → Prop} (h : W fe ρ (fun d ρ1 => W fl ρ1 (fun l ρ2 => W fh ρ2 (fun u ρ3 => W (lft (slD l u d)) ρ3 Q E) E) E) E) : W (slA fe fl fh) ρ Q E :=
  w_bnd (h.mono (fun _ _ h => w_bnd (h.mono (fun _ _ h => w_bnd h) fun _ _ _ _ h => h)) fun _ _ _ _ h => h)
theorem w_spl {fo fe : P D} {Q : R → En → Prop} (h : W fo ρ (fun a ρ1 => isStr a = true ∧ W fe ρ1 (fun b ρ2 => W (lft (splitD a b)) ρ2 Q E) E) E) : W (spl fo fe) ρ Q E :=
  w_bnd (h.mono (fun _ _ h => w_ifT h.1 (w_bnd h.2)) fun _ _ _ _ h => h)
theorem w_mts {op : Str → List D → Option D} {fo : P D} {fr : P (List D)} {Q : D → En → Prop} (h : W fo ρ (fun d ρ1 => ∃ t, d = .str t ∧ W fr ρ1 (fun ds ρ2 => W (lft (op t ds)) ρ2 Q E) E) E) : W (mts op fo fr) ρ Q E :=
  w_bnd (h.mono (fun _ _ h => by obtain ⟨t, rfl, h⟩ := h; exact w_bnd h) fun _ _ _ _ h => h)
theorem w_mtt {fr : P (List D)} {step : List D → List D → Option (D × List D)} {Q : D → En → Prop} (h : W (ownL i) ρ (fun _ ρ1 => W fr ρ1 (fun ds ρ2 => W (mutL i step ds) ρ2 Q E) E) E) : W (mtt i fr step) ρ Q E :=
  w_bnd (h.mono (fun _ _ h => w_bnd h) fun _ _ _ _ h => h)
theorem w_opL2 {o : D → D → Option (List D)} {fa fb : P D} {Q : List D → En → Prop} (h : W fa ρ (fun x ρ1 => W fb ρ1 (fun y ρ2 => W (lft (o x y)) ρ2 Q E) E) E) : W (opL2 o fa fb) ρ Q E :=
  w_bnd (h.mono (fun _ _ h => w_bnd h) fun _ _ _ _ h => h)
theorem w_valA {fa : P D} {fr : P (List Ar)} {Q : List Ar → En → Prop} (h : W fa ρ (fun x ρ1 => W fr ρ1 (fun xs ρ2 => Q (.v x :: xs) ρ2) E) E) : W (valA fa fr) ρ Q E := w_bnd (h.mono (fun _ _ h => w_bnd (h.mono (fun _ _ h => w_prt h) fun _ _ _ _ h => h)) fun _ _ _ _ h => h)
theorem w_lntA {fr : P (List Ar)} {d : D} {Q : List Ar → En → Prop} (e : ρ[i]? = some (.own d)) (h : W fr ρ (fun xs ρ2 => Q (.l i :: xs) ρ2) E) : W (lntA i fr) ρ Q E := by
  have h : W (bnd fr fun xs => prt (.l i :: xs)) ρ Q E := w_bnd (h.mono (fun _ _ h => w_prt h) fun _ _ _ _ h => h)
  unfold W at h ⊢
  unfold lntA
  simp only [e]
  exact h
/-! ### calls -/
theorem w_app {F : P R} {ds : List D} {Q : R → En → Prop} (h : W F (vals ds) (fun r _ => Q r ρ) (fun c ns es _ => E c ns es ρ)) : W (app F ds) ρ Q E := by
  unfold W app
  unfold W at h
  split at h
  · exact h.elim
  · rename_i z; rw [z]; exact h
  · rename_i z; rw [z]; exact h
theorem w_cal {F : P R} {fr : P (List D)} {Q : R → En → Prop} (h : W fr ρ (fun ds ρ1 => ds.length = n ∧ W F (vals ds) (fun r _ => Q r ρ1) (fun c ns es _ => E c ns es ρ1)) E) : W (cal F n fr) ρ Q E :=
  w_bnd (h.mono (fun _ _ h => w_ifT h.1 (w_app h.2)) fun _ _ _ _ h => h)
theorem w_calL {F : P R} {fr : P (List Ar)} {Q : R → En → Prop} (h : W fr ρ (fun ars ρ1 => W (appL F n ars) ρ1 Q E) E) : W (calL F n fr) ρ Q E := w_bnd h
theorem w_appB {F : P R} {ds : List D} {d : D} {Q : R → En → Prop} (e : ρ[i]? = some (.own d)) (hn : ds.length + 1 = n) (h : W F (.own d :: vals ds) (fun r ρ2 => ∃ d' t, ρ2 = .own d' :: t ∧ Q r (ρ.set i (.own d'))) (fun c ns es ρ2 => ∃ d' t, ρ2 = .own d' :: t ∧ E c ns es (ρ.set i (.own d')))) : W (appB i F n ds) ρ Q E := by
  unfold W appB
  unfold W at h
  simp only [e, if_pos hn]
  split at h
  · exact h.elim
  · rename_i z; obtain ⟨d', t, rfl, h⟩ := h; rw [z]; exact h
  · rename_i z; obtain ⟨d', t, rfl, h⟩ := h; rw [z]; exact h
theorem w_calB {F : P R} {fr : P (List D)} {d : D} {Q : R → En → Prop} (e : ρ[i]? = some (.own d)) (h : W fr ρ (fun ds ρ1 => W (appB i F n ds) ρ1 Q E) E) : W (calB i F n fr) ρ Q E := by
  refine w_bnd ?_
  unfold W lentP
  unfold W at h
  simp only [e]
  exact h
theorem w_met {C : Addr} {m : Str} {F : P R} {fo : P D} {fr : P (List D)} {Q : R → En → Prop} (h : W fo ρ (fun d ρ0 => isObj C m d = true ∧ W fr ρ0 (fun ds ρ1 => ds.length + 1 = n ∧ W F (vals (d :: ds)) (fun r _ => Q r ρ1) (fun c ns es _ => E c ns es ρ1)) E) E) : W (met C m F n fo fr) ρ Q E :=
  w_bnd (h.mono (fun _ _ h => w_ifT h.1 (w_bnd (h.2.mono (fun _ _ h => w_ifT h.1 (w_app h.2)) fun _ _ _ _ h => h))) fun _ _ _ _ h => h)
theorem w_met0 {C : Addr} {m : Str} {F : P R} {fo : P D} {Q : R → En → Prop} (h : W fo ρ (fun d ρ1 => isObj C m d = true ∧ 1 = n ∧ W F (vals [d]) (fun r _ => Q r ρ1) (fun c ns es _ => E c ns es ρ1)) E) : W (met0 C m F n fo) ρ Q E :=
  w_bnd (h.mono (fun _ _ h => w_ifT ⟨h.1, h.2.1⟩ (w_app h.2.2)) fun _ _ _ _ h => h)
theorem w_metS {C : Addr} {m : Str} {F : P R} {fo : P D} {fr : P (List D)} {Q : R → En → Prop} (h : W fo ρ (fun d ρ0 => isObj C m d = true ∧ W fr ρ0 (fun ds ρ1 => n ≤ (d :: ds).length ∧ (d :: ds).length ≤ sizeLine ∧ W F (vals ((d :: ds).take n ++ [.tup ((d :: ds).drop n)])) (fun r _ => Q r ρ1) (fun c ns es _ => E c ns es ρ1)) E) E) : W (metS C m F n fo fr) ρ Q E :=
  w_bnd (h.mono (fun _ _ h => w_ifT h.1 (w_bnd (h.2.mono (fun _ _ h => by
    unfold starF
    rw [if_pos ⟨h.1, h.2.1⟩]
    exact w_app h.2.2) fun _ _ _ _ h => h))) fun _ _ _ _ h => h)
end
/-! ### statements -/
section
variable {α : Type} {ρ : En} {N B C : En → Prop} {T : R → En → Prop} {E : QE} {i j : Nat}
theorem WS.mono {f : S} {N' B' C' : En → Prop} {T' : R → En → Prop} {E' : QE} (h : WS f ρ N T B C E) (n : ∀ ρ, N ρ → N' ρ) (t : ∀ r ρ, T r ρ → T' r ρ) (b : ∀ ρ, B ρ → B' ρ) (c : ∀ ρ, C ρ → C' ρ) (e : ∀ c ns ds ρ, E c ns ds ρ → E' c ns ds ρ) : WS f ρ N' T' B' C' E' := by
  unfold WS at h ⊢
  split
  · rename_i z; rw [z] at h; exact h
  · rename_i z; rw [z] at h; exact n _ h
  · rename_i z; rw [z] at h; exact t _ _ h
  · rename_i z; rw [z] at h; exact b _ h
  · rename_i z; rw [z] at h; exact c _ h
  · rename_i z; rw [z] at h; exact e _ _ _ _ h
theorem s_sk (h : N ρ) : WS sk ρ N T B C E := by unfold WS; exact h
theorem s_sq {f k : S} (h : WS f ρ (fun ρ' => WS k ρ' N T B C E) T B C E) : WS (sq f k) ρ N T B C E := by
  unfold WS at h ⊢
  unfold sq
  split at h
  · rename_i z; exact h.elim
  · rename_i z; rw [z]; exact h
  · rename_i z; rw [z]; exact h
  · rename_i z; rw [z]; exact h
  · rename_i z; rw [z]; exact h
  · rename_i z; rw [z]; exact h
theorem s_sb {f : P α} {k : α → S} (h : W f ρ (fun a ρ' => WS (k a) ρ' N T B C E) E) : WS (sb f k) ρ N T B C E := by
  unfold WS
  unfold sb
  unfold W at h
  split at h
  · rename_i z; exact h.elim
  · rename_i z; rw [z]; unfold WS at h; exact h
  · rename_i z; rw [z]; exact h
theorem s_ifB {c : Bool} {f g : S} (h1 : c = true → WS f ρ N T B C E) (h2 : c = false → WS g ρ N T B C E) : WS (if c = true then f else g) ρ N T B C E := by
  cases c
  · exact h2 rfl
  · exact h1 rfl
theorem s_iff {A : P Bool} {fa fb : S} (h : W A ρ (fun c ρ' => WS (if c = true then fa else fb) ρ' N T B C E) E) : WS (iff A fa fb) ρ N T B C E := s_sb h
theorem s_ret {fe : P R} (h : W fe ρ (fun r ρ' => T r ρ') E) : WS (ret fe) ρ N T B C E := s_sb (h.mono (fun _ _ h => by unfold WS; exact h) fun _ _ _ _ h => h)
theorem s_retN (h : T (.val .non) ρ) : WS retN ρ N T B C E := by unfold WS; exact h
theorem s_brk (h : B ρ) : WS brk ρ N T B C E := by unfold WS; exact h
theorem s_cnt (h : C ρ) : WS cnt ρ N T B C E := by unfold WS; exact h
theorem s_expr {fe : P D} (h : W fe ρ (fun _ ρ' => N ρ') E) : WS (expr fe) ρ N T B C E := s_sb (h.mono (fun _ _ h => s_sk h) fun _ _ _ _ h => h)
@[reducible] def sl : R → Slot
  | .val d => .val d
  | .own d => .own d
theorem s_put {r : R} (h : N (ρ.set i (sl r))) : WS (put i r) ρ N T B C E := by unfold WS; cases r <;> exact h
theorem s_set {fe : P R} (h : W fe ρ (fun r ρ' => N (ρ'.set i (sl r))) E) : WS (set' i fe) ρ N T B C E := s_sb (h.mono (fun _ _ h => s_put h) fun _ _ _ _ h => h)
theorem s_unp {T' : Tg} {fe : P D} (h : W fe ρ (fun d ρ' => ∃ ρ2, gset T' d ρ' = some ρ2 ∧ N ρ2) E) : WS (unp' T' fe) ρ N T B C E := s_sb (h.mono (fun d ρ' h => by
  obtain ⟨ρ2, e, h⟩ := h
  unfold WS unp
  rw [e]
  exact h) fun _ _ _ _ h => h)
theorem s_par {fr : P (List D)} (h : W fr ρ (fun ds ρ' => ∃ d e, ds = [d, e] ∧ N ((ρ'.set i (.val d)).set j (.val e))) E) : WS (par' i j fr) ρ N T B C E := s_sb (h.mono (fun d ρ' h => by
  obtain ⟨d, e, rfl, h⟩ := h
  unfold WS
  exact h) fun _ _ _ _ h => h)
theorem s_asg {fe : P D} {g : D → S} (h : W fe ρ (fun d ρ' => WS (g d) ρ' N (fun _ _ => False) (fun _ => False) (fun _ => False) E) E) : WS (asg' fe g) ρ N T B C E := by
  have h := s_sb h
  unfold WS at h ⊢
  unfold asg'
  split at h
  · exact h.elim
  · rename_i z; rw [z]; exact h
  · exact h.elim
  · exact h.elim
  · exact h.elim
  · rename_i z; rw [z]; exact h
theorem s_gName {d : D} (h : N (ρ.set i (.val d))) : WS (gName' i d) ρ N T B C E := by unfold WS; exact h
theorem s_gTup {hs : List (D → S)} {ds : List D} {d : D} (e : tupOf d = some ds) (l : ds.length = hs.length) (h : WS (asgs hs ds) ρ N T B C E) : WS (gTup' hs d) ρ N T B C E := s_sb (w_lft e (by rw [if_pos l]; exact h))
theorem s_asgs0 (h : N ρ) : WS (asgs [] []) ρ N T B C E := by unfold WS; exact h
theorem s_asgs1 {g : D → S} {hs : List (D → S)} {d : D} {ds : List D} (h : WS (g d) ρ (fun ρ' => WS (asgs hs ds) ρ' N T B C E) T B C E) : WS (asgs (g :: hs) (d :: ds)) ρ N T B C E := s_sq h
theorem s_raise {A : Addr} {ns : List Str} {cd : List D → Bool} {fr : P (List D)} (h : W fr ρ (fun ds ρ' => ds.length = ns.length ∧ cd ds = true ∧ E (.ref A) ns.reverse ds.reverse ρ') E) : WS (raise' A ns cd fr) ρ N T B C E := s_sb (h.mono (fun ds ρ' h => by
  unfold WS rs
  rw [if_pos ⟨h.1, h.2.1⟩]
  exact h.2.2) fun _ _ _ _ h => h)
/-! ### loops -/
def FR (T' : Tg) (fb : S) (ds : List D) (ρ : En) (N : En → Prop) (T : R → En → Prop) (E : QE) : Prop := WS (frL T' fb ds) ρ N T (fun _ => False) (fun _ => False) E
theorem s_for {fi : P (List D)} {T' : Tg} {fb : S} (h : W fi ρ (fun ds ρ' => FR T' fb ds ρ' N T E) E) : WS (for' fi T' fb) ρ N T B C E := s_sb (h.mono (fun ds ρ' h => WS.mono h (fun _ h => h) (fun _ _ h => h) (fun _ h => h.elim) (fun _ h => h.elim) fun _ _ _ _ h => h) fun _ _ _ _ h => h)
theorem fr_nil {T' : Tg} {fb : S} (h : N ρ) : FR T' fb [] ρ N T E := by unfold FR WS; exact h
theorem fr_cons {T' : Tg} {fb : S} {d : D} {ds : List D} {ρ1 : En} (e : gset T' d ρ = some ρ1) (h : WS fb ρ1 (fun ρ2 => FR T' fb ds ρ2 N T E) T N (fun ρ2 => FR T' fb ds ρ2 N T E) E) : FR T' fb (d :: ds) ρ N T E := by
  unfold FR WS frL
  unfold WS at h
  rw [e]
  dsimp only
  split at h
  · exact h.elim
  · rename_i z; rw [z]; unfold FR WS at h; exact h
  · rename_i z; rw [z]; exact h
  · rename_i z; rw [z]; exact h
  · rename_i z; rw [z]; unfold FR WS at h; exact h
  · rename_i z; rw [z]; exact h
theorem fr_list' {β : Type} {T' : Tg} {fb : S} (f : β → D) (all : List β) (I : List β → En → Prop) (hs : ∀ dn x td ρ, all = dn ++ x :: td → I dn ρ → ∃ ρ1, gset T' (f x) ρ = some ρ1 ∧ WS fb ρ1 (I (dn ++ [x])) T N (I (dn ++ [x])) E) (hN : ∀ ρ, I all ρ → N ρ) :
    ∀ (xs dn : List β) {ρ : En}, all = dn ++ xs → I dn ρ → FR T' fb (xs.map f) ρ N T E
  | [], dn, _, e, h0 => fr_nil (hN _ (by rw [e, List.append_nil]; exact h0))
  | x :: xs, dn, ρ, e, h0 => by
    obtain ⟨ρ1, eg, h⟩ := hs dn x xs ρ e h0
    have go : ∀ ρ2, I (dn ++ [x]) ρ2 → FR T' fb (xs.map f) ρ2 N T E := fun ρ2 h2 => fr_list' f all I hs hN xs (dn ++ [x]) (by rw [e, List.append_assoc]; rfl) h2
    exact fr_cons eg (h.mono go (fun _ _ h => h) (fun _ h => h) go fun _ _ _ _ h => h)
theorem fr_list {β : Type} {T' : Tg} {fb : S} (f : β → D) (all : List β) (I : List β → En → Prop) (h0 : I [] ρ) (hs : ∀ dn x td ρ, all = dn ++ x :: td → I dn ρ → ∃ ρ1, gset T' (f x) ρ = some ρ1 ∧ WS fb ρ1 (I (dn ++ [x])) T N (I (dn ++ [x])) E) (hN : ∀ ρ, I all ρ → N ρ) : FR T' fb (all.map f) ρ N T E :=
  fr_list' f all I hs hN all [] rfl h0
end
end Pu
/-! str(o), repr(o) of an own object with its own __str__, __repr__. -/
namespace Pu
open PySem PySem.Spec PyProof.Rows L2 Kv
def quiet {α : Type} (f : P α) : P α := fun ρ => match f ρ with
  | some (.ok a ρ') => some (.ok a ρ')
  | _ => none
section
variable {prog : Program} {w : World} {A : Around} {E : Value → Shared → Prop} {s : Shared} {K : PySem.W.Frag} {x C f : Addr} {ox : Obj} {od : Option Obj}
end
section
variable {X : Cx} {g : Gx} {k : Nat} {C : Addr} {m : Str} {F : P R}
end
end Pu
/-! str(o); a, b = x, y with things of one's own; a, b, c = x, y, z; *xs, y = a list. -/
namespace Pu
open PySem PySem.Spec PyProof.Rows L2 Kv
section
variable {X : Cx} {g : Gx} {k : Nat} {C : Addr} {m : Str} {F : P R}
end
/-! ### a, b = x, y -/
def slR : R → Slot
  | .val d => .val d
  | .own d => .own d
section
variable {K : PySem.W.Frag} {g : Gx} {E : Wx} {ρ ρ0 ρ1 ρ2 : En} {σ σ0 : L2.St} {ok ok0 ok1 ok2 : Addr → Prop} {H H0 H1 H2 : Hp} {i : Nat}
theorem put_sy {v : V} {r : R} (w : Wf K g ok ρ σ H) (hr : relR K H0 ok H ρ σ v r) (g0 : ∀ a, H0 a = none → g.H0 a = none) (hB : i ∉ g.B) (s : Sy g σ0 ρ0 ok0 H0 σ ρ ok H) :
    Wf K g ok (ρ.set i (slR r)) (σ.set i (some v)) H ∧ Sy g σ0 ρ0 ok0 H0 (σ.set i (some v)) (ρ.set i (slR r)) ok H := by
  have bor : ∀ j ∈ g.B, (σ.set i (some v))[j]? = σ0[j]? := fun j hj => by rw [List.getElem?_set_ne (fun z => hB (by rw [z]; exact hj))]; exact s.bor j hj
  have len : (σ.set i (some v)).length = σ0.length := (List.length_set ..).trans s.len
  cases r with
  | val d =>
    refine ⟨w.set hr, s.fr, s.keep, fun a ha => ?_, s.grow, bor, len⟩
    obtain ⟨j, d', h1, h2⟩ := ha
    have nj : j ≠ i := fun y => by subst y; cases get_set_self h1
    rw [List.getElem?_set_ne (Ne.symm nj)] at h1 h2
    exact s.sub a ⟨j, d', h1, h2⟩
  | own d =>
    obtain ⟨q, rfl, o, nk, n0, np⟩ := hr
    refine ⟨w.setO o nk (g0 q n0) np, s.fr, s.keep, fun a ha => ?_, s.grow, bor, len⟩
    obtain ⟨j, d', h1, h2⟩ := ha
    by_cases nj : j = i
    · subst nj
      have := get_set_self h2
      cases this
      exact .inr n0
    · rw [List.getElem?_set_ne (Ne.symm nj)] at h1 h2
      exact s.sub a ⟨j, d', h1, h2⟩
theorem relR_later {v : V} {r : R} (hr : relR K H0 ok1 H1 ρ1 σ v r) (s : Sx σ ρ1 ok1 H1 ρ2 ok2 H2) : relR K H0 ok2 H2 ρ2 σ v r := by
  cases r with
  | val d => exact Rep.fr s.fr hr
  | own d =>
    obtain ⟨q, rfl, o, nk, n0, np⟩ := hr
    obtain ⟨u, hu, _⟩ := o.there
    have nw : ¬ wrs ρ1 σ q := fun ⟨j, e, h1, h2⟩ => np j e h1 h2
    have e := (s.keep q u hu nw).same nk (own_tbl o hu)
    refine ⟨q, rfl, o.fr s.fr (e.trans hu.symm), fun z => ?_, n0, fun j e h1 h2 => nw (s.sub q ⟨j, e, h1, h2⟩)⟩
    rcases s.grow q u hu z with z | z
    · exact nk z
    · exact nw z
def parR (i j : Nat) (fa fb : P R) : S := sb fa fun r1 => sb fb fun r2 => fun ρ => some (.nx ((ρ.set i (slR r1)).set j (slR r2)))
end
section
variable {X : Cx} {g : Gx} {E : Wx} {x y z : Str} {a b c : Expr} {i j l : Nat} {fa fb : P R} {fr : P (List D)} {px py pz pt pos : Pos}
def par3 (i j l : Nat) : List D → S
  | [d, e, f] => fun ρ => some (.nx (((ρ.set i (.val d)).set j (.val e)).set l (.val f)))
  | _ => fun _ => none
end
/-! ### *xs, y = a list -/
section
variable {prog : Program} {w : World} {A : Around} {E : Value → Shared → Prop} {s : Shared}
end
section
variable {X : Cx} {g : Gx} {E : Wx} {i j : Nat} {x y : Str} {px py sp pt pos : Pos} {tx ty e : Expr}
end
end Pu
/-! isinstance of a caught error; a class as a value. -/
namespace Pu
open PySem PySem.Spec PyProof.Rows L2 Kv
section
variable {X : Cx} {g : Gx} {E : Wx} {a dx C : Addr} {oe : Obj} {cls : Value} {pn : List (Addr × Obj)} {e c : Expr} {fr : P (List D)} {p pos : Pos}
end
end Pu
namespace Pu
open PySem PySem.Spec PyProof.Rows L2 Kv
end Pu
/-! Named steps of class methods, str(o), starred targets, parallel assignment. -/
namespace Pu
open PySem PySem.Spec PyProof.Rows L2 Kv
def calC (C : Addr) (F : P R) (n : Nat) (fr : P (List D)) : P R := bnd fr fun ds => if ds.length + 1 = n then app F (.opq C :: ds) else fun _ => none
def par3' (i j l : Nat) (fr : P (List D)) : S := sb fr fun ds => par3 i j l ds
section
variable {ρ : En} {E : QE} {N B C : En → Prop} {T : R → En → Prop} {i j l n : Nat}
theorem w_calC {A : Addr} {F : P R} {fr : P (List D)} {Q : R → En → Prop} (h : W fr ρ (fun ds ρ1 => ds.length + 1 = n ∧ W F (vals (.opq A :: ds)) (fun r _ => Q r ρ1) (fun c ns es _ => E c ns es ρ1)) E) : W (calC A F n fr) ρ Q E :=
  w_bnd (h.mono (fun _ _ h => w_ifT h.1 (w_app h.2)) fun _ _ _ _ h => h)
theorem w_clsC {A : Addr} {v : D} {Q : D → En → Prop} (h : Q v ρ) : W (lft (clsC A v (.opq A))) ρ Q E := w_lft (by unfold clsC isCl; simp) h
theorem w_mkHL {A : Addr} {fe : P D} {Q : R → En → Prop} (e : ρ[i]? = some (.val (.opq A))) (h : W fe ρ (fun d ρ' => W (lft (mkH A d)) ρ' Q E) E) : W (mkHL i A fe) ρ Q E := by
  have z : isCl A (.opq A) = true := decide_eq_true rfl
  have h2 : W (if isCl A (.opq A) = true then bnd fe fun d => lft (mkH A d) else fun _ => none) ρ Q E := w_ifT z (w_bnd h)
  unfold mkHL
  refine w_bnd ?_
  unfold W at h2 ⊢
  unfold rd
  simp only [e]
  exact h2
theorem w_quiet {α : Type} {f : P α} {Q : α → En → Prop} (h : W f ρ Q (fun _ _ _ _ => False)) : W (quiet f) ρ Q E := by
  unfold W at h ⊢
  unfold quiet
  split at h
  · exact h.elim
  · rename_i z; rw [z]; exact h
  · exact h.elim
theorem s_parR {fa fb : P R} (h : W fa ρ (fun r1 ρ1 => W fb ρ1 (fun r2 ρ2 => N ((ρ2.set i (sl r1)).set j (sl r2))) E) E) : WS (parR i j fa fb) ρ N T B C E :=
  s_sb (h.mono (fun r1 ρ1 h => s_sb (h.mono (fun r2 ρ2 h => by
    unfold WS
    cases r1 <;> cases r2 <;> exact h) fun _ _ _ _ h => h)) fun _ _ _ _ h => h)
theorem s_par3 {fr : P (List D)} (h : W fr ρ (fun ds ρ' => ∃ d e f, ds = [d, e, f] ∧ N (((ρ'.set i (.val d)).set j (.val e)).set l (.val f))) E) : WS (par3' i j l fr) ρ N T B C E := s_sb (h.mono (fun d ρ' h => by
  obtain ⟨d, e, f, rfl, h⟩ := h
  unfold WS
  exact h) fun _ _ _ _ h => h)
end
end Pu
namespace Pu
open PySem PySem.Spec PyProof.Rows L2 Kv
end Pu
namespace Pu
open PySem PySem.Spec PyProof.Rows L2 Kv
section
variable {ρ : En} {E : QE} {N B C : En → Prop} {T : R → En → Prop} {i j l n : Nat}
theorem w_slL {xs : List D} {lo hi : Option Int} {Q : R → En → Prop} (h : Q (.own (.lst (cutD xs lo hi))) ρ) : W (lft (slD lo hi (.lst xs))) ρ Q E := w_lft rfl h
theorem w_slT {xs : List D} {lo hi : Option Int} {Q : R → En → Prop} (h : Q (.val (.tup (cutD xs lo hi))) ρ) : W (lft (slD lo hi (.tup xs))) ρ Q E := w_lft rfl h
theorem s_parV {fa fb : P D} (h : W fa ρ (fun d ρ1 => W fb ρ1 (fun e ρ2 => N ((ρ2.set i (.val d)).set j (.val e))) E) E) : WS (par' i j (consA fa (consA fb (prt [])))) ρ N T B C E :=
  s_par (w_consA (h.mono (fun d ρ1 h => w_consA (h.mono (fun e ρ2 h => w_prt ⟨_, _, rfl, h⟩) fun _ _ _ _ h => h)) fun _ _ _ _ h => h))
theorem s_par3V {fa fb fc : P D} (h : W fa ρ (fun d ρ1 => W fb ρ1 (fun e ρ2 => W fc ρ2 (fun f ρ3 => N (((ρ3.set i (.val d)).set j (.val e)).set l (.val f))) E) E) E) : WS (par3' i j l (consA fa (consA fb (consA fc (prt []))))) ρ N T B C E :=
  s_par3 (w_consA (h.mono (fun d ρ1 h => w_consA (h.mono (fun e ρ2 h => w_consA (h.mono (fun f ρ3 h => w_prt ⟨_, _, _, rfl, h⟩) fun _ _ _ _ h => h)) fun _ _ _ _ h => h)) fun _ _ _ _ h => h))
end
end Pu
namespace Pu
open PySem PySem.Spec PyProof.Rows L2 Kv
structure Zf where
  K : PySem.W.Frag
  c_Hierarchy : Addr := 0
  c_NotFound : Addr := 0
  c_InvalidHierarchy : Addr := 0
  c_InvalidName : Addr := 0
  c_NameTaken : Addr := 0
  c_InvalidSuperclasses : Addr := 0
  c_TooMany : Addr := 0
  c_InUse : Addr := 0
  c_InvalidText : Addr := 0
  c_InvalidPoint : Addr := 0
  c_InvalidPoints : Addr := 0
  c_InvalidCount : Addr := 0
  c_MethodsError : Addr := 0
  c_Ambiguous : Addr := 0
  c_InvalidBody : Addr := 0
  c_InvalidMethods : Addr := 0
  c_NoMethod : Addr := 0
  c_NoNext : Addr := 0
  c_NotAConflict : Addr := 0
  c_NotAThreat : Addr := 0
  c_Unlike : Addr := 0
  c_Unsettled : Addr := 0
  c_InvalidReceipt : Addr := 0
  c_TooManySteps : Addr := 0
  c_InvalidOperation : Addr := 0
  c_MethodTable : Addr := 0
  t_NEXT_STEP : Addr := 0
def gSub (i : Nat) (fi : P D) : D → S := fun d => gdO i (sb fi fun j => stIx i j d)
def gPut (i : Nat) (fi : P D) : D → S := fun d => gdO i (sb fi fun j => stPut i j d)
end Pu
/-! == and != by an own __eq__; repr by an own __repr__; isinstance of an own thing; f-strings. -/
namespace Pu
open PySem PySem.Spec PyProof.Rows L2 Kv
section
variable {prog : Program} {w : World} {A : Around} {E : Value → Shared → Prop} {s : Shared} {K : PySem.W.Frag} {x C f : Addr} {ox : Obj} {od : Option Obj} {b : Value}
open Builtin in
end
section
variable {X : Cx} {g : Gx} {k : Nat} {C : Addr} {m : Str} {F : P R} {T : List (Addr × Str)}
end
section
variable {X : Cx} {g : Gx} {k : Nat} {C : Addr} {m : Str} {F : P R} {E : Wx} {a b e : Expr} {fa fb fe : P D} {p pos : Pos}
/-! ### f-strings -/
end
end Pu
/-! C.m(key = v): a class method that is called with one keyword. -/
namespace Pu
open PySem PySem.Spec PyProof.Rows L2 Kv
section
variable {X : Cx} {g : Gx} {E : Wx} {k n : Nat} {C gf q : Addr} {x m f key : Str} {F : P R} {p p' pos apos : Pos} {e o a : Expr} {fe : P D} {kw : Keyword}
end
section
variable {P' : Program} {w : World} {K : PySem.W.Frag} {mg : Str → Option Value} {base : Heap} {T : List (Addr × Str)}
end
end Pu
/-! Methods with default values, all of whose values are written at the call. -/
namespace Pu
open PySem PySem.Spec PyProof.Rows L2 Kv
section
variable {P' : Program} {w : World} {K : PySem.W.Frag} {mg : Str → Option Value} {base : Heap} {CX : CXT} {T : List (Addr × Str)}
end
section
variable {P' : Program} {w : World} {K : PySem.W.Frag} {mg : Str → Option Value} {base : Heap} {T : List (Addr × Str)}
end
end Pu
/-! A new thing of one's own that is lent to a def at the call and then dropped: f(new, ..). -/
namespace Pu
open PySem PySem.Spec PyProof.Rows L2 Kv
section
variable {K : PySem.W.Frag} {g : Gx} {E : Wx} {ok ok0 ok' : Addr → Prop} {ρ ρ0 : En} {σ : L2.St} {H H0 H' : Hp} {q : Addr} {d d' : D}
end
section
variable {γ δ α β : Type} {K : PySem.W.Frag} {g : Gx} {E : Wx} {ok ok0 : Addr → Prop} {ρ ρ0 : En} {σ : L2.St} {H H0 : Hp}
end
section
variable {X : Cx} {g : Gx} {E : Wx} {k n : Nat} {x : Str} {F : P R} {p pos : Pos} {e : Expr} {es : List Expr} {fe : P R} {fr : P (List D)}
end
end Pu
/-! {k: v for x in xs if ..}: keys that are ints, texts or tuples of them. -/
namespace Pu
open PySem PySem.Spec PyProof.Rows L2 Kv
section
variable {X : Cx}
end
end Pu
/-! Dict comprehensions as steps on trees. -/
namespace Pu
open PySem PySem.Spec PyProof.Rows L2 Kv
section
variable {K : PySem.W.Frag} {g : Gx} {ok ok' : Addr → Prop} {ρ ρ' : En} {σ : L2.St} {H H' : Hp} {q : Addr} {acc acc' k v : D} {yk yv : V}
theorem own_keep (s : Sx σ ρ ok H ρ' ok' H') (o : OwnAt K ok H q acc) (nk : ¬ ok q) (nw : ¬ wrs ρ σ q) : OwnAt K ok' H' q acc ∧ ¬ ok' q := by
  obtain ⟨u, hu, _⟩ := o.there
  have e := (s.keep q u hu nw).same nk (own_tbl o hu)
  exact ⟨o.fr s.fr (e.trans hu.symm), fun z => (s.grow q u hu z).elim nk nw⟩
end
section
variable {X : Cx} {g : Gx} {E : Wx}
end
end Pu
/-! x in xs, xs.index(x) where the items are any data without dicts. -/
namespace Pu
open PySem PySem.Spec PyProof.Rows L2 Kv
theorem Pk.sh {K : PySem.W.Frag} {ok : Addr → Prop} {H : Hp} {v : V} {d : D} {p : PyData} (r : Pk K ok H v d) (h : toPy d = some p) : Sh K true H v p := by
  rcases r with r | ⟨q, rfl, o⟩
  · exact Rep.sh r h
  · cases d with
    | lst ds =>
      obtain ⟨vs, e, rs⟩ := o
      obtain ⟨ps, e2, rfl⟩ := map_some (show (toPys _).map PyData.list = some _ from h)
      exact .lst (.inl (.inl e)) (fun z => by cases z) (Reps.sh rs e2)
    | dic ks ds => cases h
    | dct ks ds => cases h
    | obj C ns ds => cases h
    | lsta a ds =>
      obtain ⟨_, vs, e, rs⟩ := o
      obtain ⟨ps, e2, rfl⟩ := map_some (show (toPys _).map PyData.list = some _ from h)
      exact .lst (.inl (.inl e)) (fun z => by cases z) (Reps.sh rs e2)
    | _ => exact o.elim
section
variable {X : Cx}
end
end Pu
/-! t.index(x) of a tuple of data. -/
namespace Pu
open PySem PySem.Spec PyProof.Rows L2 Kv
section
variable {X : Cx}
end
end Pu
/-! Tuples of which it is known that they are plain: tuple(list) makes one; t.index(x) asks one. -/
namespace Pu
open PySem PySem.Spec PyProof.Rows L2 Kv
section
variable {X : Cx} {g : Gx} {E : Wx} {a o e : Expr} {fa fo fe : P D} {apos cpos p pos : Pos}
/-! ### t.index(x) -/
end
end Pu
/-! t + u of tuples of any sort, the empty one too. -/
namespace Pu
open PySem PySem.Spec PyProof.Rows L2 Kv
def catT (x y : D) : Option D := match tupOf x, tupOf y with
  | some xs, some ys => if xs.length + ys.length ≤ sizeLine then some (if xs.isEmpty = true then y else if ys.isEmpty = true then x else .tup (xs ++ ys)) else none
  | _, _ => none
def opAddX (x y : D) : Option D := (opAdd x y).orElse fun _ => catT x y
theorem opAddX_of {x y z : D} (h : opAdd x y = some z) : opAddX x y = some z := by unfold opAddX; rw [h]; rfl
def rAddX (K : PySem.W.Frag) : R2 := fun x y H Q => rAddA K x y H Q ∨ rCatA K x y H Q
section
variable {X : Cx} {K : PySem.W.Frag} {ok : Addr → Prop} {H : Hp}
theorem op_addX : OpR X (binaryOp .Add) (rAddX X.K) := op_addA.or op_catA
theorem Rep.tupq {v : V} {x : D} {xs : List D} (r : Rep K ok H v x) (h : tupOf x = some xs) : ∃ a vs, v = .ref a ∧ SqT K H a vs ∧ Reps K ok H vs xs := by
  cases r with
  | tupO h1 rs => cases h; exact ⟨_, _, rfl, h1.sq, rs⟩
  | tupF h1 rs => cases h; exact ⟨_, _, rfl, h1.sq, rs⟩
  | _ => cases h
theorem Pk.tupr {v : V} {x : D} {xs : List D} (r : Pk K ok H v x) (h : tupOf x = some xs) : Rep K ok H v x := by
  rcases r with r | ⟨q, rfl, o⟩
  · exact r
  · cases x <;> first | exact o.elim | cases h
theorem Reps.nil_iff {vs : List V} {xs : List D} (r : Reps K ok H vs xs) : vs = [] ↔ xs = [] := by
  cases r <;> simp
theorem o2_addX : Op2 X.K (rAddX X.K) opAddX := by
  intro g ρ σ ok H u v x y z Q w r1 r2 e q
  cases e1 : opAdd x y with
  | some b =>
    unfold opAddX at e
    rw [e1] at e
    exact .inl (o2_add g ρ σ ok H u v x y z Q w r1 r2 (e1.trans e) q)
  | none =>
    unfold opAddX at e
    rw [e1] at e
    have e : catT x y = some z := e
    unfold catT at e
    split at e
    · rename_i xs ys ex ey
      split at e
      · rename_i hz
        cases e
        obtain ⟨a, vs, rfl, h1, rx⟩ := r1.tupq ex
        have r2' := r2.tupr ey
        obtain ⟨b, ws, rfl, h2, ry⟩ := r2'.tupq ey
        refine .inr ⟨a, b, vs, ws, rfl, rfl, h1, h2, by rw [rx.length, ry.length]; exact hz, fun h => ?_, fun h h' => ?_, fun h h' p np => ?_⟩
        · have hx : xs = [] := rx.nil_iff.mp h
          subst hx
          exact q.at w r2'
        · have hx : xs.isEmpty = false := by
            cases xs with
            | nil => exact absurd (rx.nil_iff.mpr rfl) h
            | cons _ _ => rfl
          have hy : ys = [] := ry.nil_iff.mp h'
          subst hy
          simp only [hx] at q
          exact q.at w r1
        · have hx : xs.isEmpty = false := by
            cases xs with
            | nil => exact absurd (rx.nil_iff.mpr rfl) h
            | cons _ _ => rfl
          have hy : ys.isEmpty = false := by
            cases ys with
            | nil => exact absurd (ry.nil_iff.mpr rfl) h'
            | cons _ _ => rfl
          simp only [hx, hy] at q
          exact q.new w np fun kp ep f => .tup ep ((rx.fr f).app (ry.fr f))
      · cases e
    · cases e
end
end Pu
/-! f(k = e, ..): a def that is called with keywords only, in any order. -/
namespace Pu
open PySem PySem.Spec PyProof.Rows L2 Kv
section
variable {K : PySem.W.Frag} {ok : Addr → Prop} {H : Hp}
theorem Reps.at {vs : List V} {ds : List D} (r : Reps K ok H vs ds) : ∀ i : Nat, (vs[i]? = none ∧ ds[i]? = none) ∨ ∃ v d, vs[i]? = some v ∧ ds[i]? = some d ∧ Rep K ok H v d := by
  induction ds generalizing vs with
  | nil => cases r; exact fun i => .inl ⟨by simp, by simp⟩
  | cons d ds ih =>
    cases r with
    | cons a t =>
      intro i
      cases i with
      | zero => exact .inr ⟨_, _, rfl, rfl, a⟩
      | succ i => simpa using ih t i
end
section
variable {X : Cx} {g : Gx} {E : Wx} {k n : Nat} {x : Str} {F : P R} {p pos kp : Pos} {e : Expr} {kws : List Keyword} {fa : P D} {fr : P (List D)} {keys : List Str} {ix : List Nat} {nm : Option Str}
end
section
variable {P' : Program} {w : World} {K : PySem.W.Frag} {mg : Str → Option Value} {base : Heap} {T : List (Addr × Str)}
end
end Pu
/-! One loop of a comprehension over any body: what lies at Dd grows, the rest is as a step leaves it. -/
namespace Pu
open PySem PySem.Spec PyProof.Rows L2 Kv
structure Sd (Dd : Addr) (σ : L2.St) (ρ : En) (ok : Addr → Prop) (H : Hp) (σ' : L2.St) (ρ' : En) (ok' : Addr → Prop) (H' : Hp) : Prop where
  fr : Fr ok H ok' H'
  keep : ∀ a o, H a = some o → a ≠ Dd → ¬ wrs ρ σ a → KeptO ok H' a o
  sub : ∀ a, wrs ρ' σ' a → wrs ρ σ a
  grow : ∀ a o, H a = some o → a ≠ Dd → ok' a → ok a ∨ wrs ρ σ a
section
variable {Dd : Addr} {σ σ1 σ2 : L2.St} {ρ ρ1 ρ2 : En} {ok ok1 ok2 : Addr → Prop} {H H1 H2 : Hp}
theorem Sd.refl : Sd Dd σ ρ ok H σ ρ ok H := ⟨Fr.refl, fun _ _ h _ _ => .inl h, fun _ h => h, fun _ _ _ _ h => .inl h⟩
theorem Sx.d (s : Sx σ ρ ok H ρ1 ok1 H1) : Sd Dd σ ρ ok H σ ρ1 ok1 H1 := ⟨s.fr, fun a o h _ n => s.keep a o h n, s.sub, fun a o h _ k => s.grow a o h k⟩
theorem Sd.trans (a : Sd Dd σ ρ ok H σ1 ρ1 ok1 H1) (b : Sd Dd σ1 ρ1 ok1 H1 σ2 ρ2 ok2 H2) : Sd Dd σ ρ ok H σ2 ρ2 ok2 H2 :=
  ⟨a.fr.trans b.fr, fun c o h ne n => (a.keep c o h ne n).then (fun o' h' => b.keep c o' h' ne fun z => n (a.sub c z)) (fun z => (a.grow c o h ne z).elim id fun y => absurd y n), fun c h => a.sub c (b.sub c h), fun c o h ne k => by
    obtain ⟨o', h'⟩ := a.fr.there h
    rcases b.grow c o' h' ne k with z | z
    · exact a.grow c o h ne z
    · exact .inr (a.sub c z)⟩
theorem Sd.x (s : Sd Dd σ ρ ok H σ ρ1 ok1 H1) (n : H Dd = none) : Sx σ ρ ok H ρ1 ok1 H1 :=
  ⟨s.fr, fun a o h na => s.keep a o h (ne_of_none h n) na, s.sub, fun a o h k => s.grow a o h (ne_of_none h n) k⟩
end
theorem WkOk.later {K : PySem.W.Frag} {g : Gx} {L : List Nat} {σ : L2.St} {ρ : En} {J : It} {ds : List D} {ok ok' : Addr → Prop} {H H' : Hp} (w : WkOk K g L σ ρ J ds ok H) (f : Fr ok H ok' H') : WkOk K g L σ ρ J ds ok' H' :=
  fun ok2 ρ2 σ2 H2 w2 f2 l => w ok2 ρ2 σ2 H2 w2 (f.trans f2) l
def loopF (T : Tg) (vs : List Nat) (bF : En → D → Option (En × D)) : List D → En → D → Option (En × D)
  | [], ρ, acc => some (ρ, acc)
  | d :: ds, ρ, acc => match gset T d ρ with
    | none => none
    | some ρ1 => match bF ρ1 acc with
      | none => none
      | some (ρ2, acc') => loopF T vs bF ds (wipeE ρ2 vs) acc'
theorem loopF_cons {T : Tg} {vs : List Nat} {bF : En → D → Option (En × D)} {d acc : D} {ds : List D} {ρ : En} {z : En × D} (h : loopF T vs bF (d :: ds) ρ acc = some z) :
    ∃ ρ1 ρ2 acc', gset T d ρ = some ρ1 ∧ bF ρ1 acc = some (ρ2, acc') ∧ loopF T vs bF ds (wipeE ρ2 vs) acc' = some z := by
  unfold loopF at h
  split at h
  · cases h
  · rename_i ρ1 e1
    split at h
    · cases h
    · rename_i ρ2 acc' e2
      exact ⟨ρ1, ρ2, acc', e1, e2, h⟩
section
variable {K : PySem.W.Frag} {g : Gx} {Dd : Addr} {T : Tg} {vs L : List Nat} {gt : TG} {bF : En → D → Option (En × D)} {bT : L2.St → Hp → (Hp → Prop) → Prop} {J : It} {ds : List D} {acc0 accz : D} {σ : L2.St} {ρ1 ρz : En} {ok1 : Addr → Prop} {H1 : Hp} {Fin : Hp → Prop}
theorem loop_ok (w1 : Wf K g ok1 (wipeE ρ1 vs) (wipe σ vs) H1) (wk : WkOk K g L σ ρ1 J ds ok1 H1) (oD : OwnAt K ok1 H1 Dd acc0) (nk : ¬ ok1 Dd) (nw : ¬ wrs (wipeE ρ1 vs) (wipe σ vs) Dd)
    (hT : TgOk K gt T) (hvs : ∀ k ∈ T.ix, k ∈ vs) (kL : ∀ l ∈ L, l ∉ vs) (kb : ∀ ρ acc ρ' acc', bF ρ acc = some (ρ', acc') → ∀ l ∈ L, ρ'[l]? = ρ[l]?)
    (hl : loopF T vs bF ds (wipeE ρ1 vs) acc0 = some (ρz, accz))
    (hb : ∀ (σ2 : L2.St) (ρ3 : En) (ok3 : Addr → Prop) (H3 : Hp) (acc acc' : D) (ρ' : En) (Nx : Hp → Prop), Wf K g ok3 ρ3 σ2 H3 → OwnAt K ok3 H3 Dd acc → ¬ ok3 Dd → ¬ wrs ρ3 σ2 Dd → bF ρ3 acc = some (ρ', acc') → σ2.length = σ.length → (∀ k, k ∉ vs → σ2[k]? = σ[k]?) →
      (∀ (σ4 : L2.St) (ok4 : Addr → Prop) (H4 : Hp), Wf K g ok4 ρ' σ4 H4 → σ4.length = σ2.length → (∀ k, k ∉ vs → σ4[k]? = σ2[k]?) → Sd Dd σ2 ρ3 ok3 H3 σ4 ρ' ok4 H4 → OwnAt K ok4 H4 Dd acc' → ¬ ok4 Dd → Nx H4) → bT σ2 H3 Nx)
    (fin : ∀ (ok2 : Addr → Prop) (H2 : Hp), Wf K g ok2 ρz (wipe σ vs) H2 → Sd Dd (wipe σ vs) (wipeE ρ1 vs) ok1 H1 (wipe σ vs) ρz ok2 H2 → (∀ l ∈ L, ρz[l]? = ρ1[l]?) → OwnAt K ok2 H2 Dd accz → ¬ ok2 Dd → Fin H2) :
    ∃ W : Nat → Nat → Hp → Prop, (∃ m, W 0 m H1) ∧ ∀ n m H, W n m H →
      (J.stop n H ∧ Fin H) ∨ (J.go n H ∧ ∃ Nx : Hp → Prop, (∀ H', Nx H' → ∃ m', m' < m ∧ W (n + 1) m' H') ∧ ∀ x H', J.yld n H x H' → gt x (wipe σ vs) H' fun σ2 H2 => wipe σ2 vs = wipe σ vs ∧ bT σ2 H2 Nx) := by
  let Pv : Nat → Hp → Prop := fun i H2 => ∃ ok2 ρ2 acc, loopF T vs bF (ds.drop i) ρ2 acc = some (ρz, accz) ∧ Wf K g ok2 ρ2 (wipe σ vs) H2 ∧ Sd Dd (wipe σ vs) (wipeE ρ1 vs) ok1 H1 (wipe σ vs) ρ2 ok2 H2 ∧ (∀ l ∈ L, ρ2[l]? = ρ1[l]?) ∧ OwnAt K ok2 H2 Dd acc ∧ ¬ ok2 Dd
  refine ⟨fun i m H2 => m = ds.length - i ∧ i ≤ ds.length ∧ Pv i H2, ⟨ds.length, by simp, Nat.zero_le _, ok1, _, acc0, hl, w1, Sd.refl, fun l hl => wipeE_get (kL l hl), oD, nk⟩, ?_⟩
  rintro i m H2 ⟨rfl, hi, ok2, ρ2, acc, el, w2, s2, l2, o2, nk2⟩
  have wk2 := wk ok2 _ _ H2 w2 s2.fr fun l hl => ⟨l2 l hl, wipe_get (kL l hl)⟩
  have nw2 : ¬ wrs ρ2 (wipe σ vs) Dd := fun z => nw (s2.sub _ z)
  by_cases lt : i < ds.length
  · refine .inr ⟨wk2.1 i lt, Pv (i + 1), fun H' p' => ⟨ds.length - (i + 1), by omega, rfl, lt, p'⟩, fun x H3 hy => ?_⟩
    have hd : ds[i]? = some ds[i] := List.getElem?_eq_getElem lt
    obtain ⟨h3, rx⟩ := wk2.2.2 i _ x H3 hd hy
    rw [List.drop_eq_getElem_cons lt] at el
    obtain ⟨ρ3, ρ4, acc', eg, eb, el⟩ := loopF_cons el
    have s23 : Wf K g ok2 ρ2 (wipe σ vs) H3 ∧ Sx (wipe σ vs) ρ2 ok2 H2 ρ2 ok2 H3 := by
      rcases h3 with rfl | ⟨p, o, np, rfl⟩
      · exact ⟨w2, Sx.refl⟩
      · exact ⟨w2.new np, Sx.new np⟩
    obtain ⟨w3, s3⟩ := s23
    obtain ⟨o3, nk3⟩ := own_keep s3 o2 nk2 nw2
    refine hT g ok2 _ _ H3 x _ ρ3 _ w3 rx eg fun σ2 w4 ln ag => ?_
    have agv : ∀ k, k ∉ vs → σ2[k]? = σ[k]? := fun k hk => by rw [ag k (fun z => hk (hvs k z)), wipe_get hk]
    have lnv : σ2.length = σ.length := by rw [ln, wipe_length]
    have sub3 : ∀ a, wrs ρ3 σ2 a → wrs ρ2 (wipe σ vs) a := fun a ha => gset_own eg σ2 ag ha
    refine ⟨wipe_ext lnv agv, hb σ2 ρ3 ok2 H3 acc acc' ρ4 _ w4 o3 nk3 (fun z => nw2 (sub3 _ z)) eb lnv agv fun σ4 ok4 H4 w5 ln5 ag5 s5 o5 nk5 => ?_⟩
    have ag4 : ∀ k, k ∉ vs → σ4[k]? = σ[k]? := fun k hk => by rw [ag5 k hk, agv k hk]
    have t23 : Sd Dd (wipe σ vs) ρ2 ok2 H2 σ2 ρ3 ok2 H3 := ⟨s3.fr, fun a o h _ n => s3.keep a o h n, fun a ha => sub3 a ha, fun a o h _ k => s3.grow a o h k⟩
    have t4 : Sd Dd σ4 ρ4 ok4 H4 (wipe σ vs) (wipeE ρ4 vs) ok4 H4 := ⟨Fr.refl, fun _ _ h _ _ => .inl h, fun a ha => wrs_wipe (fun k hk => by rw [wipe_get hk, ag4 k hk]) ha, fun _ _ _ _ h => .inl h⟩
    refine ⟨ok4, wipeE ρ4 vs, acc', el, (w5.wipe).agree (by rw [wipe_length, ln5, lnv]) (fun k s hk ns => by rw [wipe_get (wipeE_some hk ns).2, ag4 k (wipeE_some hk ns).2]), s2.trans (t23.trans (s5.trans t4)), fun l hl => ?_, o5, nk5⟩
    rw [wipeE_get (kL l hl), kb _ _ _ _ eb l hl, gset_keep eg (fun z => kL l hl (hvs l z)), l2 l hl]
  · have e : i = ds.length := by omega
    subst e
    rw [List.drop_length] at el
    cases el
    exact .inl ⟨wk2.2.1, fin ok2 H2 w2 s2 l2 o2 nk2⟩
end
end Pu
/-! Comprehensions with two fors. -/
namespace Pu
open PySem PySem.Spec PyProof.Rows L2 Kv
abbrev BT := Addr → L2.St → Hp → (Hp → Prop) → Prop
def BodyOk (K : PySem.W.Frag) (g : Gx) (vs : List Nat) (bF : En → D → Option (En × D)) (bT : BT) : Prop :=
  ∀ (Dd : Addr) (σ2 : L2.St) (ρ3 : En) (ok3 : Addr → Prop) (H3 : Hp) (acc acc' : D) (ρ' : En) (Nx : Hp → Prop), Wf K g ok3 ρ3 σ2 H3 → OwnAt K ok3 H3 Dd acc → ¬ ok3 Dd → ¬ wrs ρ3 σ2 Dd → bF ρ3 acc = some (ρ', acc') →
    (∀ (σ4 : L2.St) (ok4 : Addr → Prop) (H4 : Hp), Wf K g ok4 ρ' σ4 H4 → σ4.length = σ2.length → (∀ k, k ∉ vs → σ4[k]? = σ2[k]?) → Sd Dd σ2 ρ3 ok3 H3 σ4 ρ' ok4 H4 → OwnAt K ok4 H4 Dd acc' → ¬ ok4 Dd → Nx H4) → bT Dd σ2 H3 Nx
def KpB (L : List Nat) (bF : En → D → Option (En × D)) : Prop := ∀ ρ acc ρ' acc', bF ρ acc = some (ρ', acc') → ∀ l ∈ L, ρ'[l]? = ρ[l]?
theorem loopF_keep {T : Tg} {vs L : List Nat} {bF : En → D → Option (En × D)} (hvs : ∀ k ∈ T.ix, k ∈ vs) (kL : ∀ l ∈ L, l ∉ vs) (kb : KpB L bF) : ∀ {ds : List D} {ρ ρz : En} {acc accz : D}, loopF T vs bF ds ρ acc = some (ρz, accz) → ∀ l ∈ L, ρz[l]? = ρ[l]?
  | [], ρ, ρz, acc, accz, h, l, hl => by cases h; rfl
  | d :: ds, ρ, ρz, acc, accz, h, l, hl => by
    obtain ⟨ρ1, ρ2, acc', e1, e2, h⟩ := loopF_cons h
    rw [loopF_keep hvs kL kb h l hl, wipeE_get (kL l hl), kb _ _ _ _ e2 l hl, gset_keep e1 fun z => kL l hl (hvs l z)]
theorem loopF_wiped {T : Tg} {vs : List Nat} {bF : En → D → Option (En × D)} : ∀ {ds : List D} {ρ ρz : En} {acc accz : D}, loopF T vs bF ds (wipeE ρ vs) acc = some (ρz, accz) → ∃ ρ0, ρz = wipeE ρ0 vs
  | [], ρ, ρz, acc, accz, h => by cases h; exact ⟨ρ, rfl⟩
  | d :: ds, ρ, ρz, acc, accz, h => by
    obtain ⟨ρ1, ρ2, acc', _, _, h⟩ := loopF_cons h
    exact loopF_wiped h
def twoF (ft : P Bool) (fi1 : P (List D)) (T1 : Tg) (vs1 : List Nat) (bF1 : En → D → Option (En × D)) : En → D → Option (En × D) := fun ρ acc => match ft ρ with
  | some (.ok true ρ2) => match fi1 ρ2 with
    | some (.ok ds1 ρ3) => loopF T1 vs1 bF1 ds1 (wipeE ρ3 vs1) acc
    | _ => none
  | some (.ok false ρ2) => some (ρ2, acc)
  | _ => none
def twoT (tt : TT) (wi1 : TI) (g1 : TG) (bT1 : BT) (vs1 : List Nat) : BT := fun Dd σ2 H2 Nx => tt σ2 H2 fun b H3 => if b = true then wi1 σ2 H3 fun J1 H4 => ∃ W1 : Nat → Nat → Hp → Prop, (∃ m, W1 0 m H4) ∧ ∀ j k H, W1 j k H →
    (J1.stop j H ∧ Nx H) ∨ (J1.go j H ∧ ∃ Nx1 : Hp → Prop, (∀ H', Nx1 H' → ∃ k', k' < k ∧ W1 (j + 1) k' H') ∧ ∀ x H', J1.yld j H x H' → g1 x (wipe σ2 vs1) H' fun σ3 H5 => wipe σ3 vs1 = wipe σ2 vs1 ∧ bT1 Dd σ3 H5 Nx1)
  else Nx H3
section
variable {K : PySem.W.Frag} {g : Gx} {T1 : Tg} {vs vs1 L1 : List Nat} {gt1 : TG} {bF1 : En → D → Option (En × D)} {bT1 : BT} {ft : P Bool} {fi1 : P (List D)}
theorem two_body (hT1 : TgOk K gt1 T1) (hv1 : ∀ k ∈ T1.ix, k ∈ vs1) (hvv : ∀ k ∈ vs1, k ∈ vs) (kL1 : ∀ l ∈ L1, l ∉ vs1) (kb1 : KpB L1 bF1) (hb1 : BodyOk K g vs1 bF1 bT1) :
    BodyOk K g vs (twoF ft fi1 T1 vs1 bF1) (twoT (tX K g noE relB ft) (tI K g noE L1 fi1) gt1 bT1 vs1) := by
  intro Dd σ2 ρ3 ok3 H3 acc acc' ρ' Nx w o nk nw eb k
  unfold twoF at eb
  unfold twoT
  refine ⟨ok3, ρ3, w, ?_⟩
  split at eb
  · rename_i ρ4 et
    split at eb
    · rename_i ds1 ρ5 ei
      rw [et]
      intro b H5 ok5 w5 s5 hb
      have hb : b = true := hb
      subst hb
      rw [if_pos rfl]
      refine ⟨ok5, ρ4, w5, ?_⟩
      rw [ei]
      intro J1 H6 ok6 w6 s6 wk6
      have s56 := s5.trans s6
      obtain ⟨o6, nk6⟩ := own_keep s56 o nk nw
      have nw6 : ¬ wrs ρ5 σ2 Dd := fun z => nw (s56.sub _ z)
      have nw7 : ¬ wrs (wipeE ρ5 vs1) (wipe σ2 vs1) Dd := fun z => nw6 (wrs_wipe (fun k hk => wipe_get hk) z)
      have w7 : Wf K g ok6 (wipeE ρ5 vs1) (wipe σ2 vs1) H6 := (w6.wipe).agree (by rw [wipe_length]) fun k s hk ns => wipe_get (wipeE_some hk ns).2
      refine loop_ok (Dd := Dd) w7 wk6 o6 nk6 nw7 hT1 hv1 kL1 kb1 eb (fun σ3 ρ8 ok8 H8 a a' ρ9 Nx1 w8 o8 nk8 nw8 e8 ln8 ag8 k8 => hb1 Dd σ3 ρ8 ok8 H8 a a' ρ9 Nx1 w8 o8 nk8 nw8 e8 k8) fun ok9 H9 w9 s9 _ o9 nk9 => ?_
      have t6 : Sd Dd σ2 ρ5 ok6 H6 (wipe σ2 vs1) (wipeE ρ5 vs1) ok6 H6 := ⟨Fr.refl, fun _ _ h _ _ => .inl h, fun a ha => wrs_wipe (fun k hk => wipe_get hk) ha, fun _ _ _ _ h => .inl h⟩
      exact k (wipe σ2 vs1) ok9 H9 w9 (wipe_length ..) (fun j hj => wipe_get fun z => hj (hvv j z)) (s56.d.trans (t6.trans s9)) o9 nk9
    · cases eb
  · rename_i ρ4 et
    cases eb
    rw [et]
    intro b H5 ok5 w5 s5 hb
    have hb : b = false := hb
    subst hb
    rw [if_neg Bool.false_ne_true]
    obtain ⟨o5, nk5⟩ := own_keep s5 o nk nw
    exact k σ2 ok5 H5 w5 rfl (fun _ _ => rfl) s5.d o5 nk5
  · cases eb
theorem two_keep {L : List Nat} (hv1 : ∀ k ∈ T1.ix, k ∈ vs1) (kL : ∀ l ∈ L, l ∉ vs1) (kt : Kp L ft) (ki : Kp L fi1) (kb1 : KpB L bF1) : KpB L (twoF ft fi1 T1 vs1 bF1) := by
  intro ρ acc ρ' acc' h l hl
  unfold twoF at h
  split at h
  · rename_i ρ2 et
    split at h
    · rename_i ds1 ρ3 ei
      rw [loopF_keep hv1 kL kb1 h l hl, wipeE_get (kL l hl), ki _ _ _ ei l hl, kt _ _ _ et l hl]
    · cases h
  · rename_i ρ2 et
    cases h
    exact kt _ _ _ et l hl
  · cases h
end
def cmp (new : D) (fi : P (List D)) (T : Tg) (vs : List Nat) (bF : En → D → Option (En × D)) : P R := fun ρ => match fi ρ with
  | none => none
  | some (.er c ns ds ρ') => some (.er c ns ds ρ')
  | some (.ok ds ρ') => match loopF T vs bF ds (wipeE ρ' vs) new with
    | none => none
    | some (ρ2, y) => some (.ok (.own y) ρ2)
section
variable {K : PySem.W.Frag} {g : Gx} {E : Wx} {T : Tg} {vs L : List Nat} {gt : TG} {bF : En → D → Option (En × D)} {bT : BT} {fi : P (List D)} {O0 : HO} {new : D} {σ : L2.St} {H : Hp} {Q : VK}
theorem cmp_read (h0 : ∀ (ok : Addr → Prop) (H : Hp) (q : Addr), H q = some O0 → OwnAt K ok H q new) (hT : TgOk K gt T) (hvs : ∀ k ∈ T.ix, k ∈ vs) (kL : ∀ l ∈ L, l ∉ vs) (kb : KpB L bF) (hb : BodyOk K g vs bF bT) (hq : tX K g E (relR K) (cmp new fi T vs bF) σ H Q) :
    tI K g E L fi σ H fun J H1 => ∀ D, H1 D = none → ∃ W : Nat → Nat → Hp → Prop, (∃ m, W 0 m (upd H1 D O0)) ∧ ∀ i m H, W i m H →
      (J.stop i H ∧ Q (.ref D) H) ∨ (J.go i H ∧ ∃ Nx : Hp → Prop, (∀ H', Nx H' → ∃ m', m' < m ∧ W (i + 1) m' H') ∧ ∀ x H', J.yld i H x H' → gt x (wipe σ vs) H' fun σ2 H2 => wipe σ2 vs = wipe σ vs ∧ bT D σ2 H2 Nx) := by
  obtain ⟨ok, ρ, w, h⟩ := hq
  refine ⟨ok, ρ, w, ?_⟩
  unfold cmp at h
  cases e : fi ρ with
  | none => rw [e] at h; exact h
  | some x =>
    cases x with
    | er c ns ds ρ' => rw [e] at h; exact h
    | ok ds ρ1 =>
      rw [e] at h
      intro J H1 ok1 w1 s1 wk Dd nD
      cases el : loopF T vs bF ds (wipeE ρ1 vs) new with
      | none => simp only [el] at h; exact h.elim
      | some z =>
        obtain ⟨ρz, y⟩ := z
        simp only [el] at h
        have nwD : ¬ wrs ρ1 σ Dd := fun z => by
          obtain ⟨_, o, ho, _⟩ := w1.wr z
          rw [nD] at ho; cases ho
        have wN : Wf K g (sub1 ok1 Dd) (wipeE ρ1 vs) (wipe σ vs) (upd H1 Dd O0) := ((w1.newO nD).wipe).agree (by rw [wipe_length]) fun k s hk ns => wipe_get (wipeE_some hk ns).2
        have nwN : ¬ wrs (wipeE ρ1 vs) (wipe σ vs) Dd := fun z => nwD (wrs_wipe (fun k hk => wipe_get hk) z)
        refine loop_ok (Dd := Dd) wN (wk.later (fr_sub nD)) (h0 _ _ _ upd_same) (fun z => z.2 rfl) nwN hT hvs kL kb el (fun σ2 ρ3 ok3 H3 acc acc' ρ' Nx w3 o3 nk3 nw3 eb ln ag k => hb Dd σ2 ρ3 ok3 H3 acc acc' ρ' Nx w3 o3 nk3 nw3 eb k) fun ok2 H2 w2 s2 _ o2 nk2 => ?_
        obtain ⟨ρ0, rfl⟩ := loopF_wiped (ρ := ρ1) el
        have same : ∀ (k : Nat) (s : Slot), (wipeE ρ0 vs)[k]? = some s → s ≠ .un → σ[k]? = (wipe σ vs)[k]? := fun k s hk ns => (wipe_get (wipeE_some hk ns).2).symm
        have wB : Wf K g ok2 (wipeE ρ0 vs) σ H2 := w2.agree (by rw [wipe_length]) same
        have t0 : Sd Dd σ ρ1 ok1 H1 (wipe σ vs) (wipeE ρ1 vs) (sub1 ok1 Dd) (upd H1 Dd O0) := ⟨fr_sub nD, fun a o h ne _ => .inl (by rw [upd_ne ne]; exact h), fun a ha => wrs_wipe (fun k hk => wipe_get hk) ha, fun _ _ _ _ h => .inl h.1⟩
        have tB : Sd Dd (wipe σ vs) (wipeE ρ0 vs) ok2 H2 σ (wipeE ρ0 vs) ok2 H2 := ⟨Fr.refl, fun _ _ h _ _ => .inl h, fun a ⟨j, d, h1, h2⟩ => ⟨j, d, h1, by rw [← same j _ h1 (fun z => by cases z)]; exact h2⟩, fun _ _ _ _ h => .inl h⟩
        have all := (t0.trans (s2.trans tB)).x nD
        refine h (.ref Dd) H2 ok2 wB (s1.trans all) ⟨Dd, rfl, o2, nk2, s1.fr.all Dd nD, fun j d hj z => nwD (all.sub Dd ⟨j, d, hj, z⟩)⟩
end
end Pu
/-! [e for x in xs if .. for y in ys if ..]. -/
namespace Pu
open PySem PySem.Spec PyProof.Rows L2 Kv
def elF (ft : P Bool) (fe : P D) : En → D → Option (En × D) := fun ρ acc => match ft ρ with
  | some (.ok true ρ2) => match fe ρ2 with
    | some (.ok y ρ3) => match acc with
      | .lst xs => if xs.length < sizeLine then some (ρ3, .lst (xs ++ [y])) else none
      | _ => none
    | _ => none
  | some (.ok false ρ2) => some (ρ2, acc)
  | _ => none
def elT (tt : TT) (te : TE) : BT := fun D σ3 H5 Nx1 => tt σ3 H5 fun b H6 => if b = true then te σ3 H6 fun y H7 => ∃ acc, H7 D = some (.lst acc) ∧ acc.length < sizeLine ∧ Nx1 (upd H7 D (.lst (acc ++ [y]))) else Nx1 H6
section
variable {K : PySem.W.Frag} {g : Gx} {vs L : List Nat} {ft : P Bool} {fe fk fv : P D}
theorem put_d {Dd : Addr} {σ : L2.St} {ρ : En} {ok : Addr → Prop} {H : Hp} {o' : HO} {acc : D} (w : Wf K g ok ρ σ H) (o : OwnAt K ok H Dd acc) (nk : ¬ ok Dd) (nw : ¬ wrs ρ σ Dd) (f : Fr ok H ok (upd H Dd o')) (nt : ∀ ps, H Dd ≠ some (.tbl ps)) :
    Wf K g ok ρ σ (upd H Dd o') ∧ Sd Dd σ ρ ok H σ ρ ok (upd H Dd o') := by
  refine ⟨w.step f (fun a ha => w.fc a (f.all a ha)) (w.tb.fr f (upd_tbl nt) fun _ _ _ n => n) fun k d q hk hq => ⟨upd_ne fun z => nw ⟨k, d, hk, by rw [hq, z]⟩, ?_⟩, f, fun a u h ne _ => .inl (by rw [upd_ne ne]; exact h), fun _ h => h, fun _ _ _ _ h => .inl h⟩
  obtain ⟨q', e', _, n', _⟩ := w.own k d hk
  rw [hq] at e'
  cases e'
  exact n'
theorem el_body : BodyOk K g vs (elF ft fe) (elT (tX K g noE relB ft) (tX K g noE (relD K) fe)) := by
  intro Dd σ2 ρ3 ok3 H3 acc acc' ρ' Nx w o nk nw eb k
  unfold elF at eb
  unfold elT
  refine ⟨ok3, ρ3, w, ?_⟩
  split at eb
  · rename_i ρ4 et
    split at eb
    · rename_i y ρ5 ee
      split at eb
      · rename_i xs
        split at eb
        · rename_i hz
          cases eb
          rw [et]
          intro b H5 ok5 w5 s5 hb
          have hb : b = true := hb
          subst hb
          rw [if_pos rfl]
          refine ⟨ok5, ρ4, w5, ?_⟩
          rw [ee]
          intro yv H6 ok6 w6 s6 ry
          have s := s5.trans s6
          obtain ⟨o6, nk6⟩ := own_keep s o nk nw
          have nw6 : ¬ wrs _ σ2 Dd := fun z => nw (s.sub _ z)
          obtain ⟨vals, eD, rv⟩ := id o6
          have f : Fr ok6 H6 ok6 (upd H6 Dd (.lst (vals ++ [yv]))) := fr_own (K := K) eD trivial nk6
          obtain ⟨w8, s8⟩ := put_d w6 o6 nk6 nw6 f fun ps z => by rw [eD] at z; cases z
          exact ⟨vals, eD, by rw [rv.length]; exact hz, k σ2 ok6 _ w8 rfl (fun _ _ => rfl) (s.d.trans s8) ⟨_, upd_same, (rv.app (.cons ry .nil)).fr f⟩ nk6⟩
        · cases eb
      · cases eb
    · cases eb
  · rename_i ρ4 et
    cases eb
    rw [et]
    intro b H5 ok5 w5 s5 hb
    have hb : b = false := hb
    subst hb
    rw [if_neg Bool.false_ne_true]
    obtain ⟨o5, nk5⟩ := own_keep s5 o nk nw
    exact k σ2 ok5 H5 w5 rfl (fun _ _ => rfl) s5.d o5 nk5
  · cases eb
theorem el_keep (kt : Kp L ft) (ke : Kp L fe) : KpB L (elF ft fe) := by
  intro ρ acc ρ' acc' h l hl
  unfold elF at h
  split at h
  · rename_i ρ2 et
    split at h
    · rename_i y ρ3 ee
      split at h
      · split at h
        · cases h
          rw [ke _ _ _ ee l hl, kt _ _ _ et l hl]
        · cases h
      · cases h
    · cases h
  · rename_i ρ2 et
    cases h
    exact kt _ _ _ et l hl
  · cases h
end
section
variable {X : Cx} {g : Gx} {E : Wx}
theorem es_setLc2 {i : Nat} {y : Str} {py : Pos} {elt tg iter tg1 iter1 : Expr} {ifs ifs1 : List Expr} {scope : Scope} {own : List (Str × Nat)} {pos spos : Pos} {fi fi1 : P (List D)} {T T1 : Tg} {ft ft1 : P Bool} {fe : P D} {gt gt1 : TG} {vs L L1 : List Nat}
    (hc : X.calm = true) (hN : X.N.Nodup) (hy : X.N[i]? = some y) (hyl : X.env.scope.names.lookup y = some .local) (hB : i ∉ g.B)
    (hsw : swapsWith (.ListComp elt [⟨tg, iter, ifs, 0⟩, ⟨tg1, iter1, ifs1, 0⟩] scope pos) (some (.Name y py)) spos.line X.env = pure true)
    (hi : EI X g E L tg iter fi) (ok : BlkOk X.N X.env.scope scope own) (hT : TgOk X.K gt T) (hT1 : TgOk X.K gt1 T1) (hown : own.map (·.2) = vs)
    (hg : ∀ (s : Shared) (H : Hp) (C : Addr) (cl : List (Str × Addr)) (fp : List Addr), PG (X.blk s H scope (compEnvC scope cl C X.env) fp) tg gt)
    (ht : ∀ (s : Shared) (H : Hp) (C : Addr) (cl : List (Str × Addr)) (fp : List Addr), PTs (X.blk s H scope (compEnvC scope cl C X.env) fp) ifs (tX X.K g noE relB ft))
    (hi1 : ∀ (s : Shared) (H : Hp) (C : Addr) (cl : List (Str × Addr)) (fp : List Addr), EI (X.blk s H scope (compEnvC scope cl C X.env) fp) g noE L1 tg1 iter1 fi1)
    (hg1 : ∀ (s : Shared) (H : Hp) (C : Addr) (cl : List (Str × Addr)) (fp : List Addr), PG (X.blk s H scope (compEnvC scope cl C X.env) fp) tg1 gt1)
    (ht1 : ∀ (s : Shared) (H : Hp) (C : Addr) (cl : List (Str × Addr)) (fp : List Addr), PTs (X.blk s H scope (compEnvC scope cl C X.env) fp) ifs1 (tX X.K g noE relB ft1))
    (he : ∀ (s : Shared) (H : Hp) (C : Addr) (cl : List (Str × Addr)) (fp : List Addr), EV (X.blk s H scope (compEnvC scope cl C X.env) fp) g noE elt fe)
    (v0 : ∀ k ∈ T.ix, k ∈ vs) (v1 : ∀ k ∈ T1.ix, k ∈ vs) (kL : ∀ l ∈ L, l ∉ vs) (kL1 : ∀ l ∈ L1, l ∉ T1.ix) (kt : Kp L ft) (ki : Kp L fi1) (kt1 : Kp L ft1) (ke : Kp L fe) (kt1' : Kp L1 ft1) (ke' : Kp L1 fe)
    (hs : ∀ x, foldedSetIterable iter X.env x = pure x := by intro _; rfl) (hs1 : ∀ env x, foldedSetIterable iter1 env x = pure x := by intro _ _; rfl) :
    ES X g E (.Assign [.Name y py] (.ListComp elt [⟨tg, iter, ifs, 0⟩, ⟨tg1, iter1, ifs1, 0⟩] scope pos) spos) (sb (cmp (.lst []) fi T vs (twoF ft fi1 T1 T1.ix (elF ft1 fe))) fun r => put i r) := by
  subst hown
  refine PS_imp (ps_setLc2 (vs1 := T1.ix) (wi1 := tI X.K g noE L1 fi1) (te := tX X.K g noE (relD X.K) fe) hc hN hy hyl hsw hi ok v1 hg ht hi1 hg1 ht1 he hs hs1) fun Dn σ H hq => ?_
  exact cmp_read (O0 := .lst []) (new := .lst []) (bT := twoT (tX X.K g noE relB ft) (tI X.K g noE L1 fi1) gt1 (elT (tX X.K g noE relB ft1) (tX X.K g noE (relD X.K) fe)) T1.ix) (Q := fun x H1 => gName i x σ H1 Dn.nx) (fun ok H q h => ⟨[], h, .nil⟩) hT v0 kL (two_keep (fun k h => h) (fun l hl z => kL l hl (v1 l z)) kt ki (el_keep kt1 ke))
    (two_body hT1 (fun k h => h) v1 kL1 (el_keep kt1' ke') el_body) (tX_put hB hq)
end
end Pu
/-! The loops of {k: v for x in xs if .. for y in ys if ..}. -/
namespace Pu
open PySem PySem.Spec PyProof.Rows L2 Kv
section
variable {prog : Program} {w : World} {A : Around} {R : Result → Shared → Prop} {s : Shared} {kx vx ta ia tb ib : Expr} {fa fb : List Expr} {sc : Scope} {pos : Pos} {it acc : Value} {D : Addr} {env : Env}
end
end Pu
/-! {k: v for x in xs if .. for y in ys if ..}: keys that are ints, texts or tuples of them. -/
namespace Pu
open PySem PySem.Spec PyProof.Rows L2 Kv
section
variable {X : Cx}
end
end Pu
/-! .. as steps on trees. -/
namespace Pu
open PySem PySem.Spec PyProof.Rows L2 Kv
section
variable {X : Cx} {g : Gx} {E : Wx}
end
end Pu
/-! x = {k: v for ..}, stored from within. -/
namespace Pu
open PySem PySem.Spec PyProof.Rows L2 Kv
section
variable {X : Cx}
variable {g : Gx} {E : Wx}
end
end Pu
/-! The end of a law whose text has lambdas: tables of code objects are tracked beside the script. -/
namespace Kv
open PySem PySem.Spec PyProof.Rows L2
section
variable {P : Program} {w : World} {K : PySem.W.Frag} {mg mb : Str → Option Value} {CX : CXT} {k : Nat}
  {fa a : Addr} {fd : FuncData} {x : Str} {sp : Sp} {s1 : Shared} {vs : List Value} {ns : List Int} {cs : List (Addr × Addr)}
end
end Kv
/-! A def that makes lambdas: its code object is told. -/
namespace Pu
open PySem PySem.Spec PyProof.Rows L2 Kv
section
variable {P' : Program} {w : World} {K : PySem.W.Frag} {mg : Str → Option Value} {base : Heap} {CX : CXT} {T : List (Addr × Str)}
end
section
variable {P' : Program} {w : World} {K : PySem.W.Frag} {mg : Str → Option Value} {base : Heap} {T : List (Addr × Str)}
end
section
variable {P' : Program} {w : World} {K : PySem.W.Frag} {mg : Str → Option Value} {base : Heap} {T : List (Addr × Str)}
end
end Pu
/-! a, b, c = x, y, z with things of one's own and captured names; a dict of one's own walked; a thing lent, or a value. -/
namespace Pu
open PySem PySem.Spec PyProof.Rows L2 Kv
/-! ### a row of values, some of them new things -/
def ownAd (r : R) (v : V) (q : Addr) : Prop := ∃ d, r = .own d ∧ v = .ref q
def relRs (K : PySem.W.Frag) : Hp → (Addr → Prop) → Hp → En → L2.St → List V → List R → Prop
  | _, _, _, _, _, [], [] => True
  | H0, ok, H, ρ, σ, v :: vs, r :: rs => relR K H0 ok H ρ σ v r ∧ (∀ q, ownAd r v q → ∀ (k : Nat) (v' : V) (r' : R), vs[k]? = some v' → rs[k]? = some r' → ¬ ownAd r' v' q) ∧ relRs K H0 ok H ρ σ vs rs
  | _, _, _, _, _, _, _ => False
section
variable {K : PySem.W.Frag} {g : Gx} {E : Wx} {ρ ρ0 ρ1 ρ2 : En} {σ σ0 : L2.St} {ok ok0 ok1 ok2 : Addr → Prop} {H H0 H1 H2 : Hp} {i : Nat}
theorem monoRs : Mono (relRs K) := by
  intro H H1 ok' H' ρ' σ vs rs h r
  induction vs generalizing rs with
  | nil => cases rs with
    | nil => exact trivial
    | cons _ _ => exact r.elim
  | cons v vs ih => cases rs with
    | nil => exact r.elim
    | cons a rs => exact ⟨monoR _ _ _ _ _ _ _ _ h r.1, r.2.1, ih rs r.2.2⟩
theorem relRs_later (s : Sx σ ρ1 ok1 H1 ρ2 ok2 H2) : ∀ {vs : List V} {rs : List R}, relRs K H0 ok1 H1 ρ1 σ vs rs → relRs K H0 ok2 H2 ρ2 σ vs rs
  | [], [], _ => trivial
  | [], _ :: _, h => h.elim
  | _ :: _, [], h => h.elim
  | v :: vs, r :: rs, h => ⟨relR_later h.1 s, h.2.1, relRs_later s h.2.2⟩
theorem relRs_len : ∀ {vs : List V} {rs : List R}, relRs K H0 ok1 H1 ρ1 σ vs rs → vs.length = rs.length
  | [], [], _ => rfl
  | [], _ :: _, h => h.elim
  | _ :: _, [], h => h.elim
  | v :: vs, r :: rs, h => congrArg (· + 1) (relRs_len h.2.2)
theorem relRs_new : ∀ {vs : List V} {rs : List R} {k : Nat} {v : V} {r : R} {q : Addr}, relRs K H0 ok1 H1 ρ1 σ vs rs → vs[k]? = some v → rs[k]? = some r → ownAd r v q → H0 q = none
  | [], _, k, v, r, q, _, h, _, _ => by simp at h
  | _ :: _, [], _, _, _, _, h, _, _, _ => h.elim
  | v :: vs, r :: rs, 0, v', r', q, h, e1, e2, o => by
    simp at e1 e2
    subst e1 e2
    obtain ⟨d, rfl, rfl⟩ := o
    obtain ⟨q', e, _, _, n0, _⟩ := h.1
    cases e
    exact n0
  | v :: vs, r :: rs, k + 1, v', r', q, h, e1, e2, o => relRs_new (k := k) h.2.2 (by simpa using e1) (by simpa using e2) o
theorem relRs_put {v : V} {r : R} : ∀ {vs : List V} {rs : List R}, relRs K H0 ok H ρ σ vs rs → (∀ q, ownAd r v q → ∀ (k : Nat) (v' : V) (r' : R), vs[k]? = some v' → rs[k]? = some r' → ¬ ownAd r' v' q) → relRs K H0 ok H (ρ.set i (slR r)) (σ.set i (some v)) vs rs
  | [], [], _, _ => trivial
  | [], _ :: _, h, _ => h.elim
  | _ :: _, [], h, _ => h.elim
  | v1 :: vs, r1 :: rs, h, n => by
    refine ⟨?_, h.2.1, relRs_put h.2.2 fun q o k v' r' e1 e2 => n q o (k + 1) v' r' (by simpa using e1) (by simpa using e2)⟩
    cases r1 with
    | val d => exact h.1
    | own d =>
      obtain ⟨q, e, o, nk, n0, np⟩ := h.1
      subst e
      refine ⟨q, rfl, o, nk, n0, fun j x hj hz => ?_⟩
      by_cases nj : j = i
      · subst nj
        have hz := get_set_self hz
        have hj := get_set_self hj
        cases r with
        | val d1 => cases hj
        | own d1 =>
          cases hz
          exact n q ⟨d1, rfl, rfl⟩ 0 _ _ rfl rfl ⟨d, rfl, rfl⟩
      · rw [List.getElem?_set_ne (Ne.symm nj)] at hj hz
        exact np j x hj hz
def setRs : List Nat → List R → En → En
  | i :: is, r :: rs, ρ => setRs is rs (ρ.set i (slR r))
  | _, _, ρ => ρ
theorem names_R {Q : L2.St → Hp → Prop} (g0 : ∀ a, H0 a = none → g.H0 a = none) : ∀ {is : List Nat} {vs : List V} {rs : List R} {ρ : En} {σ : L2.St}, is.length = rs.length → (∀ i ∈ is, i ∉ g.B) → Wf K g ok ρ σ H → relRs K H0 ok H ρ σ vs rs → Sy g σ0 ρ0 ok0 H0 σ ρ ok H →
    (∀ σ', Wf K g ok (setRs is rs ρ) σ' H → Sy g σ0 ρ0 ok0 H0 σ' (setRs is rs ρ) ok H → Q σ' H) → gNames is vs σ H Q
  | [], [], [], _, _, _, _, w, _, s, q => ⟨rfl, q _ w s⟩
  | [], [], _ :: _, _, _, l, _, _, _, _, _ => nomatch l
  | [], _ :: _, [], _, _, _, _, _, h, _, _ => h.elim
  | [], _ :: _, _ :: _, _, _, l, _, _, _, _, _ => nomatch l
  | _ :: _, _, [], _, _, l, _, _, _, _, _ => nomatch l
  | _ :: _, [], _ :: _, _, _, _, _, _, h, _, _ => h.elim
  | i :: is, v :: vs, r :: rs, ρ, σ, l, hB, w, h, s, q => by
    obtain ⟨w2, s2⟩ := put_sy (i := i) w h.1 g0 (hB i (List.mem_cons_self ..)) s
    exact ⟨v, vs, rfl, names_R g0 (Nat.succ.inj l) (fun j hj => hB j (List.mem_cons_of_mem _ hj)) w2 (relRs_put h.2.2 h.2.1) s2 q⟩
end
section
variable {X : Cx} {g : Gx} {E : Wx} {e tg : Expr} {es : List Expr} {fa : P R} {fr : P (List R)} {pos p2 : Pos} {x1 : Nat}
abbrev ERs (X : Cx) (g : Gx) (E : Wx) (es : List Expr) (f : P (List R)) : Prop := PA X es (tX X.K g E (relRs X.K) f)
theorem ers_nil : ERs X g E [] (prt []) := PA_imp pa_nil fun σ H Q hq => tX_ret (v := ([] : List V)) hq fun _ _ _ => trivial
def consR (fa : P R) (fr : P (List R)) : P (List R) := bnd fa fun x => bnd fr fun xs => prt (x :: xs)
theorem ers_cons (ha : ER X g E e fa) (hr : ERs X g E es fr) (hs : starEach (e :: es) X.env = (false, eval e X.env) :: starEach es X.env := by rfl) : ERs X g E (e :: es) (consR fa fr) := by
  refine PA_imp (pa_cons ha hr hs) fun σ H Q hq => ?_
  obtain ⟨ok, ρ, w, h⟩ := hq
  refine ⟨ok, ρ, w, ?_⟩
  unfold consR at h
  cases e1 : fa ρ with
  | none => rw [bnd_none e1] at h; exact h
  | some z1 =>
    cases z1 with
    | er c ns ds ρ' => rw [bnd_er e1] at h; exact h
    | ok r1 ρ1 =>
      rw [bnd_ok e1] at h
      intro v1 H1 ok1 w1 s1 rr1
      refine ⟨ok1, ρ1, w1, ?_⟩
      cases e2 : fr ρ1 with
      | none => rw [bnd_none e2] at h; exact h
      | some z2 =>
        cases z2 with
        | er c ns ds ρ' => rw [bnd_er e2] at h; exact fun dx fs H' ok' w' s' => h dx fs H' ok' w' (s1.trans s')
        | ok rs ρ2 =>
          rw [bnd_ok e2] at h
          intro vs H2 ok2 w2 s2 rr
          refine h (v1 :: vs) H2 ok2 w2 (s1.trans s2) ⟨relR_later rr1 s2, fun q o k v' r' k1 k2 o' => ?_, monoRs _ _ _ _ _ _ _ _ s1.fr.all rr⟩
          obtain ⟨d, rfl, rfl⟩ := o
          obtain ⟨q', eq, ow, _⟩ := rr1
          cases eq
          obtain ⟨u, hu, _⟩ := ow.there
          rw [relRs_new rr k1 k2 o'] at hu
          cases hu
def tupR (is : List Nat) (f : P (List R)) : S := sb f fun rs => fun ρ => if is.length = rs.length ∧ rs.length ≤ 1000 then some (.nx (setRs is rs ρ)) else none
end
/-! ### trees without dicts -/
mutual
def ndD : D → Bool
  | .lst xs => ndDs xs
  | .flst xs => ndDs xs
  | .tup xs => ndDs xs
  | .ftup xs => ndDs xs
  | .dic _ _ => false
  | .dct _ _ => false
  | .obj _ _ vs => ndDs vs
  | .exn _ _ _ _ vs => ndDs vs
  | .lsta _ vs => ndDs vs
  | _ => true
def ndDs : List D → Bool
  | [] => true
  | d :: ds => ndD d && ndDs ds
end
section
variable {K : PySem.W.Frag} {ok : Addr → Prop} {H : Hp} {q : Addr} {od : Obj} {u : HO}
end
/-! ### a dict of one's own is walked -/
def isDD : D → Bool
  | .dic _ _ => true
  | .dct _ _ => true
  | _ => false
def restND (i : Nat) (ρ : En) : Prop := ∀ (j : Nat) (d : D), j ≠ i → ρ[j]? = some (.own d) → ndD d = true
open Classical in
noncomputable def lkR (i : Nat) (f : P R) : P R := fun ρ => match ρ[i]? with
  | some (.own d) => if isDD d = true ∧ restND i ρ then match f (ρ.set i (.val d)) with
      | some (.ok r ρ2) => if ρ2 = ρ.set i (.val d) ∧ ndD r.d = true then some (.ok r ρ) else none
      | _ => none
    else none
  | _ => f ρ
section
variable {X : Cx} {g : Gx} {E : Wx} {e : Expr} {i : Nat} {f : P R}
end
/-! ### a thing lent, or a value handed on -/
def lntB (i : Nat) (fr : P (List Ar)) : P (List Ar) := fun ρ => match ρ[i]? with
  | some (.own _) => lntA i fr ρ
  | some (.val _) => valA (rd i) fr ρ
  | _ => none
section
variable {X : Cx} {g : Gx} {E : Wx} {i : Nat} {y : Str} {p' : Pos} {es : List Expr} {fr : P (List Ar)}
end
end Pu
/-! d.items() of a dict whose keys are tuples, walked. -/
namespace Pu
open PySem PySem.Spec PyProof.Rows L2 Kv
section
variable {X : Cx} {pins : List (Addr × Obj)} {σ : L2.St} {H : Hp} {s : Shared} {d : Addr} {o : Obj}
end
section
variable {P : Program} {w : World} {K : PySem.W.Frag} {d : Addr} {o : Obj} {es : Array DictEntry} {ep : Nat}
end
section
variable {X : Cx} {g : Gx} {E : Wx} {a e : Expr} {fa : P D} {apos cpos : Pos} {td : TE}
end
end Pu
/-! A loop over a list of one's own that the body leaves alone. -/
namespace Pu
open PySem PySem.Spec PyProof.Rows L2 Kv
open Classical in
noncomputable def gdB (L : List Nat) (fb : S) : S := fun ρ => match fb ρ with
  | some o => if ∀ l ∈ L, o.en[l]? = ρ[l]? then some o else none
  | none => none
section
variable {X : Cx} {g : Gx} {E : Wx}
end
end Pu
/-! The first things of a list that is the code's own. -/
namespace Pu
open PySem PySem.Spec PyProof.Rows L2 Kv
section
variable {X : Cx} {g : Gx} {E : Wx} {e : Expr} {fe : P D} {p2 p3 pos : Pos} {k : Int}
end
end Pu
/-! Two dicts with tuples as keys are ==. -/
namespace Kv
open PySem PySem.Calls PySem.Spec PyProof.Rows PyProof.V L2
section
variable {prog : Program} {w : World} {κ : Type} [DecidableEq κ] {knd : HeapKind prog w κ} {A : Around} {E : Value → Shared → Prop} {s : Shared} {a b : Addr} {xs ys : List (κ × Addr × Value)}
end
section
variable {X : Cx}
end
end Kv
/-! == of dicts with tuples as keys, when they are alike. -/
namespace Pu
open PySem PySem.Spec PyProof.Rows L2 Kv
section
variable {X : Cx} {K : PySem.W.Frag} {ok : Addr → Prop} {H : Hp}
end
end Pu
/-! Steps of == and repr of own things, f-strings, keyword calls of class methods. -/
namespace Pu
open PySem PySem.Spec PyProof.Rows L2 Kv
section
variable {ρ : En} {E : QE} {N B C : En → Prop} {T : R → En → Prop} {i j l n : Nat}
end
end Pu
/-! More about steps: sizes, written lists, loops, defs. -/
namespace Pu
open PySem PySem.Spec PyProof.Rows L2 Kv
theorem small_le {α : Type} {xs : List α} (h : Nat.ble xs.length 1000 = true) : xs.length ≤ sizeLine := Nat.le_trans (Nat.le_of_ble_eq_true h) (by rw [sizeLine_eq]; decide)
theorem le_line {n : Nat} (h : n ≤ 100000) : n ≤ sizeLine := Nat.le_trans h (by rw [sizeLine_eq]; decide)
theorem lt_line {n : Nat} (h : n < 100000) : n < sizeLine := Nat.lt_of_lt_of_le h (by rw [sizeLine_eq]; decide)
section
variable {ρ : En} {N B C : En → Prop} {T : R → En → Prop} {E : QE} {i j : Nat}
theorem s_gdO {f : S} {d : D} (e : ρ[i]? = some (.own d)) (h : WS f ρ N T B C E) : WS (gdO i f) ρ N T B C E := by
  unfold WS at h ⊢; unfold gdO; rw [e]; exact h
theorem s_gSub {fi : P D} {d : D} (h : WS (gdO i (sb fi fun j => stIx i j d)) ρ N T B C E) : WS (gSub i fi d) ρ N T B C E := h
theorem s_gPut {fi : P D} {d : D} (h : WS (gdO i (sb fi fun j => stPut i j d)) ρ N T B C E) : WS (gPut i fi d) ρ N T B C E := h
theorem s_stIx {xs : List D} {k : Int} {n : Nat} {d : D} (e : ρ[i]? = some (.own (.lst xs))) (hn : L2.ixN xs.length k = some n) (h : N (ρ.set i (.own (.lst (xs.set n d))))) : WS (stIx i (.int k) d) ρ N T B C E := by
  unfold WS stIx; simp only [e, hn]; exact h
theorem w_fn {n : Nat} {as : En} {b : List Nat} {body : S} {Q : R → En → Prop} (hl : lent b 0 as = true) (h : WS body (as ++ List.replicate (n - as.length) .un) (fun ρ => Q (.val .non) (outs as ρ)) (fun r ρ => Q r (outs as ρ)) (fun _ => False) (fun _ => False) (fun c ns ds ρ => E c ns ds (outs as ρ))) : W (fnP n b body) as Q E := by
  unfold W fnP
  rw [if_pos hl]
  unfold WS at h
  split at h
  · exact h.elim
  · rename_i z; rw [z]; exact h
  · rename_i z; rw [z]; exact h
  · exact h.elim
  · exact h.elim
  · rename_i z; rw [z]; exact h
end
section
variable {ρ : En} {E : QE} {Q : R → En → Prop}
/-! ### comprehensions -/
theorem w_lc {fi : P (List D)} {T : Tg} {ft : P Bool} {fe : P D} (h : W fi ρ (fun ds ρ1 => ∃ ys ρ2, lcL T ft fe ds (wipeE ρ1 T.ix) [] = some (ys, ρ2) ∧ Q (.own (.lst ys)) ρ2) E) : W (lc fi T ft fe) ρ Q E := by
  unfold W lc
  unfold W at h
  split at h
  · exact h.elim
  · rename_i z; obtain ⟨ys, ρ2, e, h⟩ := h; simp only [z, e]; exact h
  · rename_i z; simp only [z]; exact h
def NX : QE := fun _ _ _ _ => False
def LT (T : Tg) (ft : P Bool) (fe : P D) (d : D) (ρ : En) (K : Option D → En → Prop) : Prop :=
  ∃ ρ1, gset T d ρ = some ρ1 ∧ W ft ρ1 (fun b ρ2 => if b = true then W fe ρ2 (fun y ρ3 => K (some y) (wipeE ρ3 T.ix)) NX else K none (wipeE ρ2 T.ix)) NX
theorem lcL_step {T : Tg} {ft : P Bool} {fe : P D} {d : D} {ds acc : List D} {K : Option D → En → Prop} {Z : List D → En → Prop} (ha : acc.length < sizeLine) (h : LT T ft fe d ρ K)
    (hk : ∀ o ρ', K o ρ' → ∃ ys ρ2, lcL T ft fe ds ρ' (acc ++ o.toList) = some (ys, ρ2) ∧ Z ys ρ2) : ∃ ys ρ2, lcL T ft fe (d :: ds) ρ acc = some (ys, ρ2) ∧ Z ys ρ2 := by
  obtain ⟨ρ1, e, h⟩ := h
  unfold W at h
  split at h
  · exact h.elim
  · rename_i b ρ2 z
    cases b with
    | false =>
      obtain ⟨ys, ρ3, e2, hz⟩ := hk none _ h
      exact ⟨ys, ρ3, by unfold lcL; simp only [e, z]; rw [Option.toList_none, List.append_nil] at e2; exact e2, hz⟩
    | true =>
      rw [if_pos rfl] at h
      split at h
      · exact h.elim
      · rename_i y ρ3 z2
        obtain ⟨ys, ρ4, e2, hz⟩ := hk (some y) _ h
        exact ⟨ys, ρ4, by unfold lcL; simp only [e, z, z2, if_pos ha]; exact e2, hz⟩
      · exact h.elim
  · exact h.elim
theorem lc_list' {β : Type} {T : Tg} {ft : P Bool} {fe : P D} (f : β → D) {Z : List D → En → Prop} (all : List β) (hb : all.length ≤ 100000) (I : List β → List D → En → Prop)
    (hs : ∀ dn x td acc ρ, all = dn ++ x :: td → I dn acc ρ → LT T ft fe (f x) ρ (fun o ρ' => I (dn ++ [x]) (acc ++ o.toList) ρ')) (hN : ∀ acc ρ, I all acc ρ → Z acc ρ) :
    ∀ (xs dn : List β) {ρ : En} {acc : List D}, all = dn ++ xs → acc.length ≤ dn.length → I dn acc ρ → ∃ ys ρ2, lcL T ft fe (xs.map f) ρ acc = some (ys, ρ2) ∧ Z ys ρ2
  | [], dn, ρ, acc, e, hl, h0 => ⟨acc, ρ, rfl, hN _ _ (by rw [e, List.append_nil]; exact h0)⟩
  | x :: xs, dn, ρ, acc, e, hl, h0 => by
    have hl2 : dn.length + (xs.length + 1) ≤ 100000 := by rw [e, List.length_append, List.length_cons] at hb; exact hb
    refine lcL_step (lt_line (by omega)) (hs dn x xs acc ρ e h0) fun o ρ' h => ?_
    have ho : o.toList.length ≤ 1 := by cases o <;> simp
    exact lc_list' f all hb I hs hN xs (dn ++ [x]) (by rw [e, List.append_assoc]; rfl) (by rw [List.length_append, List.length_append]; exact Nat.add_le_add hl ho) h
theorem lc_list {β : Type} {T : Tg} {ft : P Bool} {fe : P D} (f : β → D) {Z : List D → En → Prop} (all : List β) (hb : all.length ≤ 100000) (I : List β → List D → En → Prop) (h0 : I [] [] ρ)
    (hs : ∀ dn x td acc ρ, all = dn ++ x :: td → I dn acc ρ → LT T ft fe (f x) ρ (fun o ρ' => I (dn ++ [x]) (acc ++ o.toList) ρ')) (hN : ∀ acc ρ, I all acc ρ → Z acc ρ) : ∃ ys ρ2, lcL T ft fe (all.map f) ρ [] = some (ys, ρ2) ∧ Z ys ρ2 :=
  lc_list' f all hb I hs hN all [] rfl (Nat.le_refl _) h0
theorem fm_snoc {β γ : Type} {g : β → Option γ} {dn : List β} {x : β} : dn.filterMap g ++ (g x).toList = (dn ++ [x]).filterMap g := by
  rw [List.filterMap_append]
  cases h : g x <;> simp [List.filterMap_cons, h]
theorem lc_pure {β : Type} {T : Tg} {ft : P Bool} {fe : P D} (f : β → D) (g : β → Option D) {Z : List D → En → Prop} (xs : List β) (hl : xs.length ≤ 100000)
    (hs : ∀ x ∈ xs, LT T ft fe (f x) ρ (fun o ρ' => o = g x ∧ ρ' = ρ)) (hZ : Z (xs.filterMap g) ρ) : ∃ ys ρ2, lcL T ft fe (xs.map f) ρ [] = some (ys, ρ2) ∧ Z ys ρ2 := by
  refine lc_list f xs hl (fun dn acc ρ' => acc = dn.filterMap g ∧ ρ' = ρ) ⟨rfl, rfl⟩ (fun dn x td acc ρ' e h => ?_) fun acc ρ' h => ?_
  · obtain ⟨rfl, rfl⟩ := h
    obtain ⟨ρ1, e1, h⟩ := hs x (by rw [e]; simp)
    refine ⟨ρ1, e1, h.mono (fun b ρ2 h => ?_) fun _ _ _ _ h => h⟩
    split
    · rename_i hb
      rw [if_pos hb] at h
      refine h.mono (fun y ρ3 h => ⟨?_, h.2⟩) fun _ _ _ _ h => h
      rw [h.1, fm_snoc]
    · rename_i hb
      rw [if_neg hb] at h
      refine ⟨?_, h.2⟩
      rw [h.1, fm_snoc]
  · obtain ⟨rfl, rfl⟩ := h
    exact hZ
theorem lc_map {β : Type} {T : Tg} {ft : P Bool} {fe : P D} (f : β → D) (g : β → D) {Z : List D → En → Prop} (xs : List β) (hl : xs.length ≤ 100000)
    (hs : ∀ x ∈ xs, LT T ft fe (f x) ρ (fun o ρ' => o = some (g x) ∧ ρ' = ρ)) (hZ : Z (xs.map g) ρ) : ∃ ys ρ2, lcL T ft fe (xs.map f) ρ [] = some (ys, ρ2) ∧ Z ys ρ2 :=
  lc_pure f (fun x => some (g x)) xs hl hs (by rw [show (fun x => some (g x)) = some ∘ g from rfl, List.filterMap_eq_map]; exact hZ)
theorem lc_filter {β : Type} {T : Tg} {ft : P Bool} {fe : P D} (f : β → D) (p : β → Bool) (g : β → D) {Z : List D → En → Prop} (xs : List β) (hl : xs.length ≤ 100000)
    (hs : ∀ x ∈ xs, LT T ft fe (f x) ρ (fun o ρ' => o = (if p x = true then some (g x) else none) ∧ ρ' = ρ)) (hZ : Z ((xs.filter p).map g) ρ) : ∃ ys ρ2, lcL T ft fe (xs.map f) ρ [] = some (ys, ρ2) ∧ Z ys ρ2 := by
  refine lc_pure f (fun x => if p x = true then some (g x) else none) xs hl hs ?_
  have : xs.filterMap (fun x => if p x = true then some (g x) else none) = (xs.filter p).map g := by
    clear hs hZ hl
    induction xs with
    | nil => rfl
    | cons a l ih =>
      rw [List.filterMap_cons, List.filter_cons]
      cases p a <;> simp [ih]
  rw [this]; exact hZ
end
theorem exOwn {d : D} {t : En} {G : D → En → Prop} (h : G d t) : ∃ d' t', (Slot.own d :: t) = Slot.own d' :: t' ∧ G d' t' := ⟨d, t, rfl, h⟩
theorem pIteT {A B : Prop} (h : A) : if true = true then A else B := by rw [if_pos rfl]; exact h
theorem pIteF {A B : Prop} (h : B) : if false = true then A else B := by rw [if_neg (by decide)]; exact h
theorem pIteB {A B : Prop} {c : Bool} (h1 : c = true → A) (h2 : c = false → B) : if c = true then A else B := by
  cases c
  · exact pIteF (h2 rfl)
  · exact pIteT (h1 rfl)
/-! ### operators -/
section
variable {ρ : En} {E : QE}
theorem w_pow18 {Q : D → En → Prop} (h : Q (.int 1000000000000000000) ρ) : W (lft (opPow (.int 10) (.int 18))) ρ Q E := by
  have e : opPow (.int 10) (.int 18) = some (.int 1000000000000000000) := by
    unfold opPow oI
    simp
  exact w_lft e h
theorem opMul_i {i j : Int} (h : (-(2 ^ 64) < i ∧ i < 2 ^ 64) ∨ (-(2 ^ 64) < j ∧ j < 2 ^ 64)) : opMul (.int i) (.int j) = some (.int (i * j)) := by
  unfold opMul opMulI oI
  have : cMul i j = true := decide_eq_true h
  simp [this]
theorem opFdiv_i {i j : Int} (h : 0 < j ∧ j < 1073741824) : opFdiv (.int i) (.int j) = some (.int (i / j)) := by unfold opFdiv oI; simp [h]
theorem opMod_i {i j : Int} (h : 0 < j) : opMod (.int i) (.int j) = some (.int (i % j)) := by unfold opMod oI; simp [h]
theorem dvm_i {i j : Int} (h : 0 < j ∧ j ≤ 1000000000000) : dvm [.int i, .int j] = some (.tup [.int (i / j), .int (i % j)]) := by unfold dvm i2; simp [h]
theorem rng1_n {n : Nat} (h : n ≤ 100000) : rng1 (.int n) = some ((List.range n).map fun i => .int ((i : Nat) : Int)) := by
  simp only [rng1]
  rw [if_pos ⟨by omega, by omega⟩]
  unfold rngD
  simp
variable {i j : Int} {Q : D → En → Prop}
theorem w_add (h : Q (.int (i + j)) ρ) : W (lft (opAdd (.int i) (.int j))) ρ Q E := w_lft rfl h
theorem w_sub (h : Q (.int (i - j)) ρ) : W (lft (opSub (.int i) (.int j))) ρ Q E := w_lft rfl h
theorem w_lt (h : Q (.bl (decide (i < j))) ρ) : W (lft (opLt (.int i) (.int j))) ρ Q E := w_lft rfl h
theorem w_le (h : Q (.bl (decide (i ≤ j))) ρ) : W (lft (opLe (.int i) (.int j))) ρ Q E := w_lft rfl h
theorem w_gt (h : Q (.bl (decide (j < i))) ρ) : W (lft (opGt (.int i) (.int j))) ρ Q E := w_lft rfl h
theorem w_ge (h : Q (.bl (decide (j ≤ i))) ρ) : W (lft (opGe (.int i) (.int j))) ρ Q E := w_lft rfl h
theorem w_mod (c : 0 < j) (h : Q (.int (i % j)) ρ) : W (lft (opMod (.int i) (.int j))) ρ Q E := w_lft (opMod_i c) h
theorem w_fdiv (c : 0 < j ∧ j < 1073741824) (h : Q (.int (i / j)) ρ) : W (lft (opFdiv (.int i) (.int j))) ρ Q E := w_lft (opFdiv_i c) h
theorem w_mul (c : (-(2 ^ 64) < i ∧ i < 2 ^ 64) ∨ (-(2 ^ 64) < j ∧ j < 2 ^ 64)) (h : Q (.int (i * j)) ρ) : W (lft (opMul (.int i) (.int j))) ρ Q E := w_lft (opMul_i c) h
theorem w_dvm (c : 0 < j ∧ j ≤ 1000000000000) (h : Q (.tup [.int (i / j), .int (i % j)]) ρ) : W (lft (dvm [.int i, .int j])) ρ Q E := w_lft (dvm_i c) h
theorem w_max (h : Q (.int (if j > i then j else i)) ρ) : W (lft (maxI [.int i, .int j])) ρ Q E := w_lft rfl h
theorem w_min (h : Q (.int (if j < i then j else i)) ρ) : W (lft (minI [.int i, .int j])) ρ Q E := w_lft rfl h
theorem w_abs (h : Q (.int (if i < 0 then -i else i)) ρ) : W (lft (absI [.int i])) ρ Q E := w_lft rfl h
theorem w_asB {b : Bool} {Q : Bool → En → Prop} (h : Q b ρ) : W (lft (asB (.bl b))) ρ Q E := w_lft rfl h
theorem w_asI {Q : Option Int → En → Prop} (h : Q (some i) ρ) : W (lft (asI (.int i))) ρ Q E := w_lft rfl h
theorem w_lenL {xs : List D} (h : Q (.int xs.length) ρ) : W (lft (lenD (.lst xs))) ρ Q E := w_lft rfl h
theorem w_lenT {xs : List D} (h : Q (.int xs.length) ρ) : W (lft (lenD (.tup xs))) ρ Q E := w_lft rfl h
theorem w_lenF {xs : List D} (h : Q (.int xs.length) ρ) : W (lft (lenD (.flst xs))) ρ Q E := w_lft rfl h
theorem w_lenD {ks : List Key} {xs : List D} (h : Q (.int ks.length) ρ) : W (lft (lenD (.dic ks xs))) ρ Q E := w_lft rfl h
theorem w_seqL {xs : List D} {Q : List D → En → Prop} (h : Q xs ρ) : W (lft (seqD (.lst xs))) ρ Q E := w_lft rfl h
theorem w_seqT {xs : List D} {Q : List D → En → Prop} (h : Q xs ρ) : W (lft (seqD (.tup xs))) ρ Q E := w_lft rfl h
theorem w_seqF {xs : List D} {Q : List D → En → Prop} (h : Q xs ρ) : W (lft (seqD (.flst xs))) ρ Q E := w_lft rfl h
theorem w_strP {x : Str} {Q : List D → En → Prop} (h : Q (lettersD x) ρ) : W (lft (strP (.str x))) ρ Q E := w_lft rfl h
theorem w_tupL {xs : List D} (h : Q (.tup xs) ρ) : W (lft (tupD (.lst xs))) ρ Q E := w_lft rfl h
theorem w_tupT {xs : List D} (h : Q (.tup xs) ρ) : W (lft (tupD (.tup xs))) ρ Q E := w_lft rfl h
theorem w_rng {n : Nat} {Q : List D → En → Prop} (c : n ≤ 100000) (h : Q ((List.range n).map fun i => .int ((i : Nat) : Int)) ρ) : W (lft (rng1 (.int n))) ρ Q E := by
  have e := rng1_n c
  generalize rng1 (.int n) = o at e ⊢
  exact w_lft e h
theorem w_keys {ks : List Key} {vs : List D} {Q : List D → En → Prop} (h : Q (ks.map keyD) ρ) : W (lft (keysD (.dic ks vs))) ρ Q E := w_lft rfl h
theorem w_cutL {xs : List D} {l u : Option Int} {Q : R → En → Prop} (h : Q (.own (.lst (cutD xs l u))) ρ) : W (lft ((lstOf (.lst xs)).map fun xs => R.own (.lst (cutD xs l u)))) ρ Q E := w_lft rfl h
theorem w_revL {xs : List D} {Q : R → En → Prop} (h : Q (.own (.lst xs.reverse)) ρ) : W (lft (revO (.lst xs))) ρ Q E := w_lft rfl h
theorem w_listL {xs : List D} {Q : R → En → Prop} (h : Q (.own (.lst xs)) ρ) : W (lft (listP (.lst xs))) ρ Q E := w_lft rfl h
theorem w_isN {d : D} (h : Q (.bl (isN d)) ρ) : W (lft (opIs d .non)) ρ Q E := w_lft rfl h
theorem w_isNotN {d : D} (h : Q (.bl (!isN d)) ρ) : W (lft (opIsNot d .non)) ρ Q E := w_lft rfl h
theorem w_ixL {xs : List D} {n : Nat} {d : D} (c : xs[n]? = some d) (h : Q d ρ) : W (lft (ixD (.lst xs) (.int n))) ρ Q E := w_lft (L2.atI_nat c) h
theorem w_ixF {xs : List D} {n : Nat} {d : D} (c : xs[n]? = some d) (h : Q d ρ) : W (lft (ixD (.flst xs) (.int n))) ρ Q E := w_lft (L2.atI_nat c) h
theorem w_ixL0 {x : D} {xs : List D} (h : Q x ρ) : W (lft (ixD (.lst (x :: xs)) (.int 0))) ρ Q E := w_lft (L2.atI_nat (j := 0) rfl : L2.atI (x :: xs) ((0 : Nat) : Int) = some x) h
theorem w_ixLw {xs : List D} {i : Int} {d : D} (c : L2.atI xs i = some d) (h : Q d ρ) : W (lft (ixD (.lst xs) (.int i))) ρ Q E := w_lft c h
theorem w_ixTw {xs : List D} {i : Int} {d : D} (c : L2.atI xs i = some d) (h : Q d ρ) : W (lft (ixD (.tup xs) (.int i))) ρ Q E := w_lft c h
end
/-! ### texts and their lists -/
theorem perm_erase {α : Type} : ∀ (l : List α) (i : Nat) (x : α), l[i]? = some x → (x :: l.eraseIdx i).Perm l
  | [], i, x, h => by simp at h
  | y :: r, 0, x, h => by
    have e : y = x := by simpa using h
    subst e
    exact List.Perm.refl _
  | y :: r, i + 1, x, h => by
    have ih := perm_erase r i x (by simpa using h)
    exact (List.Perm.swap y x (r.eraseIdx i)).trans (ih.cons y)
theorem len_erase {α : Type} {l : List α} {i : Nat} {x : α} (h : l[i]? = some x) : (l.eraseIdx i).length + 1 = l.length :=
  (perm_erase l i x h).length_eq
theorem seqIx {d : Int} {n : Nat} (h0 : 0 ≤ d) (h1 : d < n) : seqIndex? d n = some d.toNat := by
  unfold seqIndex?
  simp only [show ¬ d < 0 by omega, if_false]
  simp [h0, h1]
theorem join_az : ∀ ys : List Str, (∀ y ∈ ys, ∃ c, c ∈ az ∧ y = ⟨#[c]⟩) →
    (Txt.join "" ys).length = ys.length ∧ ∀ c ∈ (Txt.join "" ys).cps.toList, c ∈ az := by
  intro ys hy
  have e : (Txt.join "" ys).cps.toList = (ys.map TL.tl).flatten := by
    rw [TL.join_eq]
    show TL.tl (Str.join _ _) = _
    rw [TL.tl_join]
    exact joinL_nil _
  refine ⟨?_, fun c hc => ?_⟩
  · rw [Kv.len_list, e]
    clear e
    induction ys with
    | nil => rfl
    | cons y r ih =>
      obtain ⟨c, _, h1⟩ := hy y (List.mem_cons_self ..)
      have h2 := ih fun z hz => hy z (List.mem_cons_of_mem _ hz)
      simp only [List.map_cons, List.flatten_cons, List.length_append, List.length_cons, h2]
      have h3 : (TL.tl y).length = 1 := by
        rw [h1]
        rfl
      omega
  · rw [e] at hc
    obtain ⟨l, hl, hcl⟩ := List.mem_flatten.mp hc
    obtain ⟨y, hm, rfl⟩ := List.mem_map.mp hl
    obtain ⟨d, hd, rfl⟩ := hy y hm
    have : c = d := by simpa [TL.tl] using hcl
    rw [this]
    exact hd
theorem name_sm {x : Str} (h : nameV (.str x) = true) : Sm 8 x := by
  have h1 : ((decide (1 ≤ x.length) && decide (x.length ≤ 8)) && x.cps.toList.all inAz) = true := h
  simp only [Bool.and_eq_true, decide_eq_true_eq, List.all_eq_true] at h1
  refine ⟨h1.1.2, fun c hc => ?_⟩
  have h2 := of_decide_eq_true (h1.2 c hc)
  have : ∀ z ∈ az, z < 128 := by decide +kernel
  exact this c h2
theorem pop_nat {xs : List D} {i : Nat} {y : D} (hl : xs.length ≤ 100000) (h : xs[i]? = some y) : stPop xs [.int i] = some (y, xs.eraseIdx i) := by
  have hi := (List.getElem?_eq_some_iff.mp h).1
  simp only [stPop]
  rw [if_pos ⟨by omega, by omega⟩, seqIx (by omega) (by omega)]
  simp [h]
theorem app_nat {xs : List D} {y : D} (hl : xs.length < 100000) : stApp xs [y] = some (.non, xs ++ [y]) := by
  simp only [stApp]
  rw [if_pos (lt_line hl)]
theorem ext_nat {xs ys : List D} (hl : xs.length + ys.length ≤ 100000) : stExt xs [.lst ys] = some (.non, xs ++ ys) := by
  simp only [stExt]
  rw [if_pos (le_line hl)]
theorem map_perm {α : Type} {f : α → D} {ys : List D} {xs : List α} (h : ys.Perm (xs.map f)) : ∃ zs : List α, ys = zs.map f ∧ zs.Perm xs := by
  induction xs generalizing ys with
  | nil => exact ⟨[], List.Perm.eq_nil h, .refl _⟩
  | cons x xs ih =>
    have hm : f x ∈ ys := h.mem_iff.mpr (by simp)
    obtain ⟨a, b, rfl⟩ := List.append_of_mem hm
    have h2 : (a ++ b).Perm (xs.map f) := by
      have : (f x :: (a ++ b)).Perm (f x :: xs.map f) := (List.perm_middle.symm).trans h
      exact this.cons_inv
    obtain ⟨zs, e, p⟩ := ih h2
    have la : a = (zs.take a.length).map f := by
      rw [List.map_take, ← e]; simp
    have lb : b = (zs.drop a.length).map f := by
      rw [List.map_drop, ← e]; simp
    refine ⟨zs.take a.length ++ x :: zs.drop a.length, ?_, ?_⟩
    · rw [List.map_append, List.map_cons, ← la, ← lb]
    · exact List.perm_middle.trans ((by rw [List.take_append_drop]; exact p : (zs.take a.length ++ zs.drop a.length).Perm xs).cons x)
theorem cut_takeD {xs : List D} {k : Nat} : cutD xs none (some (k : Int)) = xs.take k := by
  unfold cutD
  rw [HT.sIx_none, HT.sIx_nat, Nat.sub_zero, List.drop_zero]
  by_cases h : k ≤ xs.length
  · rw [Nat.min_eq_left h]
  · rw [Nat.min_eq_right (by omega), List.take_length, List.take_of_length_le (by omega)]
theorem cut_dropD {xs : List D} {k : Nat} : cutD xs (some (k : Int)) none = xs.drop k := by
  unfold cutD
  rw [HT.sIx_none, HT.sIx_nat]
  by_cases h : k ≤ xs.length
  · rw [Nat.min_eq_left h, List.take_of_length_le (by rw [List.length_drop]; omega)]
  · rw [Nat.min_eq_right (by omega), List.drop_length, List.take_nil, List.drop_of_length_le (by omega)]
theorem letters_eq : lettersD "abcdefghijklmnopqrstuvwxyz" = letters.map D.str := by
  unfold lettersD letters az
  rw [List.map_map]
  rfl
theorem flV_map (xs : List Str) : flVs (xs.map D.str) = some (xs.map V.str) := by
  induction xs with
  | nil => rfl
  | cons x xs ih => rw [List.map_cons, List.map_cons]; unfold flVs; rw [ih]; rfl
theorem in_strs (x : Str) (xs : List Str) : opIn (.str x) (.lst (xs.map D.str)) = some (.bl (decide (x ∈ xs))) := by
  unfold opIn inD
  simp only [seqD, flV, flV_map, Option.map_some, inV_strs]
theorem notIn_strs (x : Str) (xs : List Str) : opNotIn (.str x) (.lst (xs.map D.str)) = some (.bl (!decide (x ∈ xs))) := by
  unfold opNotIn inD
  simp only [seqD, flV, flV_map, Option.map_some, inV_strs]
theorem eq_str (x y : Str) : opEq (.str x) (.str y) = some (.bl (decide (x = y))) := by
  unfold opEq eqA eqS
  simp only [flV]
  have : scal (.str x) (.str y) = true := rfl
  simp [this]
theorem ne_str (x y : Str) : opNe (.str x) (.str y) = some (.bl (!decide (x = y))) := by
  unfold opNe eqA eqS
  simp only [flV]
  have : scal (.str x) (.str y) = true := rfl
  simp [this]
theorem strsD_map (xs : List Str) : strsD (xs.map D.str) = some xs := by
  induction xs with
  | nil => rfl
  | cons x xs ih => rw [List.map_cons]; unfold strsD; rw [ih]; rfl
theorem blsD_map {α : Type} (f : α → Bool) (xs : List α) : blsD (xs.map fun x => D.bl (f x)) = some (xs.map f) := by
  induction xs with
  | nil => rfl
  | cons x xs ih => rw [List.map_cons]; unfold blsD; rw [ih]; rfl
theorem all_map {α : Type} (f : α → Bool) (xs : List α) : allD (fun bs => bs.all id) (.lst (xs.map fun x => D.bl (f x))) = some (.bl (xs.all f)) := by
  simp only [allD, blsD_map, Option.map_some, List.all_map]
  rfl
theorem any_map {α : Type} (f : α → Bool) (xs : List α) : allD (fun bs => bs.any id) (.lst (xs.map fun x => D.bl (f x))) = some (.bl (xs.any f)) := by
  simp only [allD, blsD_map, Option.map_some, List.any_map]
  rfl
end Pu
/-! Steps of dict comprehensions. -/
namespace Pu
open PySem PySem.Spec PyProof.Rows L2 Kv
section
variable {ρ : En} {E : QE} {Q : R → En → Prop}
end
end Pu
/-! What operators and built-ins give on trees that are lists of texts, hierarchies .. -/
namespace Pu
open PySem PySem.Spec PyProof.Rows L2 Kv
/-! ### isinstance -/
def isS : D → Bool
  | .str _ => true
  | _ => false
def isTp : D → Bool
  | .tup _ => true
  | .ftup _ => true
  | _ => false
def isIn : D → Bool
  | .int _ => true
  | .bl _ => true
  | _ => false
def isBl : D → Bool
  | .bl _ => true
  | _ => false
theorem isi_of {T : String} {d : D} {b : Bool} {t : String} (h : tyS d = some t) (hk : kitB t T = some b) : isi T d = some (.bl b) := by
  unfold isi; rw [h, Option.bind_some, hk]; rfl
theorem isi_str (d : D) (h : tyS d ≠ none) : isi "str" d = some (.bl (isS d)) := by
  have q0 : kitB "NoneType" "str" = some false := by decide +kernel
  have q1 : kitB "bool" "str" = some false := by decide +kernel
  have q2 : kitB "int" "str" = some false := by decide +kernel
  have q3 : kitB "str" "str" = some true := by decide +kernel
  have q4 : kitB "list" "str" = some false := by decide +kernel
  have q5 : kitB "tuple" "str" = some false := by decide +kernel
  have q6 : kitB "dict" "str" = some false := by decide +kernel
  cases d <;> first | exact absurd rfl h | exact isi_of rfl q0 | exact isi_of rfl q1 | exact isi_of rfl q2 | exact isi_of rfl q3 | exact isi_of rfl q4 | exact isi_of rfl q5 | exact isi_of rfl q6
theorem isi_tuple (d : D) (h : tyS d ≠ none) : isi "tuple" d = some (.bl (isTp d)) := by
  have q0 : kitB "NoneType" "tuple" = some false := by decide +kernel
  have q1 : kitB "bool" "tuple" = some false := by decide +kernel
  have q2 : kitB "int" "tuple" = some false := by decide +kernel
  have q3 : kitB "str" "tuple" = some false := by decide +kernel
  have q4 : kitB "list" "tuple" = some false := by decide +kernel
  have q5 : kitB "tuple" "tuple" = some true := by decide +kernel
  have q6 : kitB "dict" "tuple" = some false := by decide +kernel
  cases d <;> first | exact absurd rfl h | exact isi_of rfl q0 | exact isi_of rfl q1 | exact isi_of rfl q2 | exact isi_of rfl q3 | exact isi_of rfl q4 | exact isi_of rfl q5 | exact isi_of rfl q6
theorem isi_int (d : D) (h : tyS d ≠ none) : isi "int" d = some (.bl (isIn d)) := by
  have q0 : kitB "NoneType" "int" = some false := by decide +kernel
  have q1 : kitB "bool" "int" = some true := by decide +kernel
  have q2 : kitB "int" "int" = some true := by decide +kernel
  have q3 : kitB "str" "int" = some false := by decide +kernel
  have q4 : kitB "list" "int" = some false := by decide +kernel
  have q5 : kitB "tuple" "int" = some false := by decide +kernel
  have q6 : kitB "dict" "int" = some false := by decide +kernel
  cases d <;> first | exact absurd rfl h | exact isi_of rfl q0 | exact isi_of rfl q1 | exact isi_of rfl q2 | exact isi_of rfl q3 | exact isi_of rfl q4 | exact isi_of rfl q5 | exact isi_of rfl q6
theorem isi_bool (d : D) (h : tyS d ≠ none) : isi "bool" d = some (.bl (isBl d)) := by
  have q0 : kitB "NoneType" "bool" = some false := by decide +kernel
  have q1 : kitB "bool" "bool" = some true := by decide +kernel
  have q2 : kitB "int" "bool" = some false := by decide +kernel
  have q3 : kitB "str" "bool" = some false := by decide +kernel
  have q4 : kitB "list" "bool" = some false := by decide +kernel
  have q5 : kitB "tuple" "bool" = some false := by decide +kernel
  have q6 : kitB "dict" "bool" = some false := by decide +kernel
  cases d <;> first | exact absurd rfl h | exact isi_of rfl q0 | exact isi_of rfl q1 | exact isi_of rfl q2 | exact isi_of rfl q3 | exact isi_of rfl q4 | exact isi_of rfl q5 | exact isi_of rfl q6
/-! ### == and repr -/
theorem toPys_strs (xs : List Str) : toPys (xs.map D.str) = some (xs.map PyData.str) := by
  induction xs with
  | nil => rfl
  | cons x xs ih => rw [List.map_cons, List.map_cons]; unfold toPys; rw [ih]; rfl
theorem toPys_map {α : Type} (f : α → D) (g : α → PyData) (xs : List α) (h : ∀ x ∈ xs, toPy (f x) = some (g x)) : toPys (xs.map f) = some (xs.map g) := by
  induction xs with
  | nil => rfl
  | cons x xs ih => rw [List.map_cons, List.map_cons]; unfold toPys; rw [ih fun y hy => h y (List.mem_cons_of_mem _ hy), h x (List.mem_cons_self ..)]
theorem eqvAll_strs : ∀ (xs ys : List Str), PyData.eqvAll (xs.map PyData.str) (ys.map PyData.str) = decide (xs = ys)
  | [], [] => by simp [PyData.eqvAll]
  | [], y :: ys => by simp [PyData.eqvAll]
  | x :: xs, [] => by simp [PyData.eqvAll]
  | x :: xs, y :: ys => by
    rw [List.map_cons, List.map_cons]
    unfold PyData.eqvAll
    rw [eqvAll_strs xs ys]
    unfold PyData.eqv
    by_cases h : x = y
    · subst h; simp
    · have : (x == y) = false := beq_eq_false_iff_ne.mpr h
      rw [this]; simp [h]
theorem sm_ok {n : Nat} {x : Str} (h : Sm n x) : PyData.strOk x = true := by
  unfold PyData.strOk
  rw [← Array.all_toList, List.all_eq_true]
  exact fun c hc => decide_eq_true (Nat.lt_trans (h.2 c hc) (by decide))
theorem canLay_strs (xs : List Str) (hx : ∀ x ∈ xs, PyData.strOk x = true) : PyData.canLayAll0 (xs.map PyData.str) = true ∧ PyData.depthAll (xs.map PyData.str) = 0 := by
  induction xs with
  | nil => exact ⟨by simp [PyData.canLayAll0], by simp [PyData.depthAll]⟩
  | cons x xs ih =>
    have ih := ih fun y hy => hx y (List.mem_cons_of_mem _ hy)
    have h1 := hx x (List.mem_cons_self ..)
    rw [List.map_cons]
    exact ⟨by simp [PyData.canLayAll0, PyData.canLay0, ih.1, h1], by simp [PyData.depthAll, PyData.depth, ih.2]⟩
theorem shaped_strsT (xs : List Str) (hx : ∀ x ∈ xs, PyData.strOk x = true) : SeqAt.shaped (.tuple (xs.map PyData.str)) = true := by
  obtain ⟨h1, h2⟩ := canLay_strs xs hx
  unfold SeqAt.shaped
  simp [PyData.canLay0, PyData.depth, h1, h2]
theorem eqA_strsT (xs ys : List Str) (hx : ∀ x ∈ xs, PyData.strOk x = true) (hy : ∀ x ∈ ys, PyData.strOk x = true) : eqA (.tup (xs.map D.str)) (.tup (ys.map D.str)) = some (decide (xs = ys)) := by
  unfold eqA eqS eqP
  simp only [flV, toPy, toPys_strs, Option.map_some, shaped_strsT xs hx, shaped_strsT ys hy, Bool.and_self, if_true, Option.orElse]
  show some (PyData.eqv (.tuple (xs.map PyData.str)) (.tuple (ys.map PyData.str))) = _
  unfold PyData.eqv
  rw [eqvAll_strs]
theorem sh_of {d : D} {p : PyData} {n m : Nat} (h : toPy d = some p) (f : Fit n m p) (hn : n ≤ 60000) (hm : m ≤ 60) : shD d = some (.str p.shown) := by
  have e : shD d = (toPy d).bind showP := by
    unfold shD
    split
    · cases h
    · rfl
  rw [e, h, Option.bind_some]
  unfold showP
  rw [if_pos (f.ok hn hm)]
theorem fitAll_of {α : Type} {n m : Nat} (g : α → PyData) : ∀ xs : List α, (∀ x ∈ xs, Fit n m (g x)) → FitAll ((n + 1) * xs.length) m (xs.map g)
  | [], _ => by rw [List.length_nil, Nat.mul_zero]; exact fitAll_nil
  | x :: xs, h => by
    have := FitAll.cons (h x (List.mem_cons_self ..)) (fitAll_of g xs fun y hy => h y (List.mem_cons_of_mem _ hy))
    rw [List.length_cons, Nat.mul_add, Nat.mul_one, Nat.add_comm]
    exact this
theorem fit_strs {n : Nat} {xs : List Str} (h : ∀ x ∈ xs, Sm n x) : Fit ((n + 1) * xs.length) 1 (.list (xs.map PyData.str)) := Fit.lst (fitAll_of PyData.str xs fun x hx => (h x hx).fit)
theorem sh_strs {n : Nat} {xs : List Str} (h : ∀ x ∈ xs, Sm n x) (hn : (n + 1) * xs.length ≤ 60000) : shD (.lst (xs.map D.str)) = some (.str (PyData.list (xs.map PyData.str)).shown) :=
  sh_of (by simp only [toPy, toPys_strs, Option.map_some]) (fit_strs h) hn (by decide)
theorem eq_int (i j : Int) : opEq (.int i) (.int j) = some (.bl (decide (i = j))) := by
  unfold opEq eqA eqS
  simp only [flV]
  have : scal (.int i) (.int j) = true := rfl
  simp [this]
theorem add_lst {xs ys : List D} (h : xs.length + ys.length ≤ 100000) : opAdd (.lst xs) (.lst ys) = some (.lst (xs ++ ys)) := by
  simp only [opAdd]
  rw [if_pos (le_line h)]
section
variable {ρ : En} {E : QE} {Q : D → En → Prop}
theorem w_eqI {i j : Int} (h : Q (.bl (decide (i = j))) ρ) : W (lft (opEq (.int i) (.int j))) ρ Q E := w_lft (eq_int i j) h
theorem w_eqS {x y : Str} (h : Q (.bl (decide (x = y))) ρ) : W (lft (opEq (.str x) (.str y))) ρ Q E := w_lft (eq_str x y) h
theorem w_neS {x y : Str} (h : Q (.bl (!decide (x = y))) ρ) : W (lft (opNe (.str x) (.str y))) ρ Q E := w_lft (ne_str x y) h
end
section
variable {ρ : En} {N B C : En → Prop} {T : R → En → Prop} {E : QE} {i : Nat}
end
/-! ### dicts with texts as keys -/
theorem valD_map (x : Str) (f : Str → D) : ∀ ns : List Str, valD (ns.map (Sum.inr : Str → Key)) (ns.map f) (Sum.inr x : Key) = if x ∈ ns then some (f x) else none
  | [] => rfl
  | a :: ns => by
    rw [List.map_cons, List.map_cons]
    unfold valD
    rw [valD_map x f ns]
    by_cases e : a = x
    · subst e; simp
    · rw [if_neg (keyr_ne e)]
      by_cases m : x ∈ ns
      · simp [m]
      · simp [m, Ne.symm e]
theorem valD_str (x : Str) : ∀ {ns : List Str} {ds : List D}, ns.length = ds.length → (valD (ns.map (Sum.inr : Str → Key)) ds (Sum.inr x : Key)).isSome = decide (x ∈ ns)
  | [], [], _ => rfl
  | a :: ns, d :: ds, h => by
    have ih := valD_str x (ns := ns) (ds := ds) (Nat.succ.inj h)
    show (if (Sum.inr a : Key) = Sum.inr x then some d else valD (ns.map (Sum.inr : Str → Key)) ds (Sum.inr x : Key)).isSome = _
    by_cases e : a = x
    · subst e; simp
    · rw [if_neg (keyr_ne e), ih]
      by_cases m : x ∈ ns
      · simp [m]
      · simp [m, Ne.symm e]
theorem in_dic {x : Str} {ns : List Str} {ds : List D} (h : ns.length = ds.length) : opIn (.str x) (.dic (ns.map Sum.inr) ds) = some (.bl (decide (x ∈ ns))) := by
  simp only [opIn, inD, getD, asKey, Option.map_some, valD_str x h]
theorem putD_new {ks : List Key} {vs : List D} {k : Key} {v : D} (h : k ∉ ks) : putD ks vs k v = (ks ++ [k], vs ++ [v]) := by
  unfold putD
  have : (ks.any fun a => decide (a = k)) = false := by
    rw [List.any_eq_false]
    intro a ha z
    exact h (of_decide_eq_true z ▸ ha)
  rw [this]; rfl
theorem mergeD_new : ∀ (ps : List (Key × D)) (ks : List Key) (vs : List D), (ks ++ ps.map (·.1)).Nodup → mergeD ks vs ps = (ks ++ ps.map (·.1), vs ++ ps.map (·.2))
  | [], ks, vs, _ => by simp [mergeD]
  | (k, v) :: ps, ks, vs, h => by
    unfold mergeD
    have hk : k ∉ ks := fun z => (List.nodup_append.mp h).2.2 k z k (by simp) rfl
    rw [putD_new hk]
    show mergeD (ks ++ [k]) (vs ++ [v]) ps = _
    rw [mergeD_new ps (ks ++ [k]) (vs ++ [v]) (by rw [List.append_assoc]; exact h)]
    simp
theorem pairsOf_map {α : Type} (f : α → Str) (g : α → D) (xs : List α) : pairsOf (xs.map fun x => .tup [.str (f x), g x]) = some (xs.map fun x => ((Sum.inr (f x) : Key), g x)) := by
  induction xs with
  | nil => rfl
  | cons x xs ih => rw [List.map_cons, List.map_cons]; unfold pairsOf; rw [ih]; rfl
theorem dictP_map {α : Type} (f : α → Str) (g : α → D) (xs : List α) (h : (xs.map f).Nodup) : dictP (.lst (xs.map fun x => .tup [.str (f x), g x])) = some (.own (.dic ((xs.map f).map Sum.inr) (xs.map g))) := by
  unfold dictP
  have e : mergeD [] [] (xs.map fun x => ((Sum.inr (f x) : Key), g x)) = ((xs.map f).map Sum.inr, xs.map g) := by
    rw [mergeD_new]
    · simp [List.map_map, Function.comp_def]
    · simp only [List.nil_append, List.map_map, Function.comp_def]
      have : (xs.map fun x => (Sum.inr (f x) : Key)) = (xs.map f).map Sum.inr := by rw [List.map_map]; rfl
      rw [this]
      exact List.Pairwise.map _ (fun a b hab => fun z => hab (Sum.inr.inj z)) h
  simp only [lstOf, Option.bind_some, pairsOf_map, Option.map_some, e]
theorem rowsOf_map (rows : List Row2) : rowsOf (.lst (rows.map rowD)) = some rows := by
  show rowsOf' (rows.map rowD) = some rows
  induction rows with
  | nil => rfl
  | cons r rows ih =>
    rw [List.map_cons]
    have : rowOf (rowD r) = some r := by
      show (strsD (r.2.map D.str)).map (fun xs => (r.1, xs)) = _
      rw [strsD_map]; rfl
    unfold rowsOf'
    rw [ih, this]
/-! ### a hierarchy's parts -/
theorem hier_obj {C : Addr} {rows : List Row2} {m : Str} (h : decide (m ∉ [("rows" : Str), "places", "above"]) = true) : isObj C m (hierD C rows) = true := by
  show (decide (C = C) && decide (m ∉ [("rows" : Str), "places", "above"])) = true
  rw [decide_eq_true rfl, Bool.true_and]
  exact h
theorem fld_places (C : Addr) (rows : List Row2) : fldD C "places" (hierD C rows) = some (.dic ((fsts rows).map Sum.inr) (idxD rows.length)) := (if_pos rfl).trans rfl
theorem fld_above (C : Addr) (rows : List Row2) : fldD C "above" (hierD C rows) = some (.dic ((ancTab rows).map fun p => Sum.inr p.1) ((ancTab rows).map fun p => flagD p.2)) := (if_pos rfl).trans rfl
theorem idx_len (rows : List Row2) : (fsts rows).length = (idxD rows.length).length := by simp [idxD, fsts]
theorem fsts_len (rows : List Row2) : (fsts rows).length = rows.length := by unfold fsts; rw [List.length_map]
theorem above_at {rows : List Row2} {x : Str} (h : x ∈ fsts rows) : ixD (.dic ((ancTab rows).map fun p => Sum.inr p.1) ((ancTab rows).map fun p => flagD p.2)) (.str x) = some (flagD (Anc rows x)) := by
  have key : ∀ tab : Tab, x ∈ tabKeys tab → valD (tab.map fun p => (Sum.inr p.1 : Key)) (tab.map fun p => flagD p.2) (Sum.inr x : Key) = some (flagD (look tab x)) := by
    intro tab
    induction tab with
    | nil => intro h; cases h
    | cons p r ih =>
      intro h
      obtain ⟨y, as⟩ := p
      rw [List.map_cons, List.map_cons]
      unfold valD look
      rw [List.lookup_cons]
      by_cases e : y = x
      · subst e
        rw [if_pos rfl, beq_self_eq_true]; rfl
      · rw [if_neg (keyr_ne e), beq_eq_false_iff_ne.mpr (Ne.symm e)]
        rcases List.mem_cons.mp h with z | z
        · exact absurd z.symm e
        · exact ih z
  have h2 : x ∈ tabKeys (ancTab rows) := by rw [ancTab_keys]; exact h
  simp only [ixD, getD, asKey, Option.map_some, key _ h2, Option.bind_some]
  rfl
theorem in_flag (x : Str) (as : List Str) : opIn (.str x) (flagD as) = some (.bl (decide (x ∈ as))) := in_dic (by simp)
def hasN (ns : List Str) : D → Bool
  | .str x => decide (x ∈ ns)
  | _ => false
end Pu
/-! Steps of in, index and + over data and tuples, of calls with keywords. -/
namespace Pu
open PySem PySem.Spec PyProof.Rows L2 Kv
section
variable {ρ : En} {E : QE}
end
end Pu
/-! Steps of comprehensions with two fors. -/
namespace Pu
open PySem PySem.Spec PyProof.Rows L2 Kv
def BW (bF : En → D → Option (En × D)) (ρ : En) (acc : D) (K : En → D → Prop) : Prop := ∃ ρ' acc', bF ρ acc = some (ρ', acc') ∧ K ρ' acc'
def BL (T : Tg) (vs : List Nat) (bF : En → D → Option (En × D)) (ds : List D) (ρ : En) (acc : D) (K : En → D → Prop) : Prop := ∃ ρ' acc', loopF T vs bF ds ρ acc = some (ρ', acc') ∧ K ρ' acc'
section
variable {ρ : En} {E : QE} {acc : D} {K : En → D → Prop}
theorem w_cmp {new : D} {fi : P (List D)} {T : Tg} {vs : List Nat} {bF : En → D → Option (En × D)} {Q : R → En → Prop} (h : W fi ρ (fun ds ρ1 => BL T vs bF ds (wipeE ρ1 vs) new fun ρ2 y => Q (.own y) ρ2) E) : W (cmp new fi T vs bF) ρ Q E := by
  unfold W cmp
  unfold W at h
  split at h
  · exact h.elim
  · rename_i z; obtain ⟨ρ2, y, e, h⟩ := h; simp only [z, e]; exact h
  · rename_i z; simp only [z]; exact h
theorem bl_list' {β : Type} {T : Tg} {vs : List Nat} {bF : En → D → Option (En × D)} (f : β → D) (all : List β) (I : List β → En → D → Prop)
    (hs : ∀ dn x td ρ acc, all = dn ++ x :: td → I dn ρ acc → ∃ ρ1, gset T (f x) ρ = some ρ1 ∧ BW bF ρ1 acc fun ρ2 acc' => I (dn ++ [x]) (wipeE ρ2 vs) acc') (hN : ∀ ρ acc, I all ρ acc → K ρ acc) :
    ∀ (xs dn : List β) {ρ : En} {acc : D}, all = dn ++ xs → I dn ρ acc → BL T vs bF (xs.map f) ρ acc K
  | [], dn, ρ, acc, e, h0 => ⟨ρ, acc, rfl, hN _ _ (by rw [e, List.append_nil]; exact h0)⟩
  | x :: xs, dn, ρ, acc, e, h0 => by
    obtain ⟨ρ1, e1, ρ2, acc', e2, h⟩ := hs dn x xs ρ acc e h0
    obtain ⟨ρ3, acc3, e3, hk⟩ := bl_list' f all I hs hN xs (dn ++ [x]) (by rw [e, List.append_assoc]; rfl) h
    exact ⟨ρ3, acc3, by rw [List.map_cons]; unfold loopF; simp only [e1, e2]; exact e3, hk⟩
theorem bl_list {β : Type} {T : Tg} {vs : List Nat} {bF : En → D → Option (En × D)} (f : β → D) (all : List β) (I : List β → En → D → Prop) (h0 : I [] ρ acc)
    (hs : ∀ dn x td ρ acc, all = dn ++ x :: td → I dn ρ acc → ∃ ρ1, gset T (f x) ρ = some ρ1 ∧ BW bF ρ1 acc fun ρ2 acc' => I (dn ++ [x]) (wipeE ρ2 vs) acc') (hN : ∀ ρ acc, I all ρ acc → K ρ acc) : BL T vs bF (all.map f) ρ acc K :=
  bl_list' f all I hs hN all [] rfl h0
theorem bw_two {ft : P Bool} {fi1 : P (List D)} {T1 : Tg} {vs1 : List Nat} {bF1 : En → D → Option (En × D)} (h : W ft ρ (fun b ρ2 => if b = true then W fi1 ρ2 (fun ds1 ρ3 => BL T1 vs1 bF1 ds1 (wipeE ρ3 vs1) acc K) NX else K ρ2 acc) NX) : BW (twoF ft fi1 T1 vs1 bF1) ρ acc K := by
  unfold W at h
  split at h
  · exact h.elim
  · rename_i b ρ2 e1
    cases b with
    | true =>
      rw [if_pos rfl] at h
      split at h
      · exact h.elim
      · rename_i ds1 ρ3 e2
        obtain ⟨ρ4, a, e3, hk⟩ := h
        exact ⟨ρ4, a, by unfold twoF; simp only [e1, e2]; exact e3, hk⟩
      · exact h.elim
    | false =>
      rw [if_neg Bool.false_ne_true] at h
      exact ⟨ρ2, acc, by unfold twoF; simp only [e1], h⟩
  · exact h.elim
theorem bw_el {ft : P Bool} {fe : P D} {xs : List D} (hl : xs.length < 100000) (h : W ft ρ (fun b ρ2 => if b = true then W fe ρ2 (fun y ρ3 => K ρ3 (.lst (xs ++ [y]))) NX else K ρ2 (.lst xs)) NX) : BW (elF ft fe) ρ (.lst xs) K := by
  unfold W at h
  split at h
  · exact h.elim
  · rename_i b ρ2 e1
    cases b with
    | true =>
      rw [if_pos rfl] at h
      split at h
      · exact h.elim
      · rename_i y ρ3 e2
        exact ⟨ρ3, _, by unfold elF; simp only [e1, e2, if_pos (lt_line hl)], h⟩
      · exact h.elim
    | false =>
      rw [if_neg Bool.false_ne_true] at h
      exact ⟨ρ2, _, by unfold elF; simp only [e1], h⟩
  · exact h.elim
end
end Pu
/-! What must hold ahead of the newer steps. -/
namespace Pu
open PySem PySem.Spec PyProof.Rows L2 Kv
noncomputable def forG (L : List Nat) (fi : P (List D)) (T : Tg) (fb : S) : S := for' fi T (gdB L fb)
section
variable {ρ : En} {N B C : En → Prop} {T : R → En → Prop} {E : QE} {i : Nat}
theorem s_forG {L : List Nat} {fi : P (List D)} {T' : Tg} {fb : S} (h : W fi ρ (fun ds ρ' => FR T' (gdB L fb) ds ρ' N T E) E) : WS (forG L fi T' fb) ρ N T B C E := s_for h
theorem w_lkV {f : P R} {d : D} {Q : R → En → Prop} (e : ρ[i]? = some (.val d)) (h : W f ρ Q E) : W (lkR i f) ρ Q E := by
  unfold W at h ⊢
  unfold lkR
  rw [e]
  exact h
theorem w_lntBO {fr : P (List Ar)} {d : D} {Q : List Ar → En → Prop} (e : ρ[i]? = some (.own d)) (h : W fr ρ (fun xs ρ2 => Q (.l i :: xs) ρ2) E) : W (lntB i fr) ρ Q E := by
  have h := w_lntA (E := E) e h
  unfold W at h ⊢
  unfold lntB
  rw [e]
  exact h
theorem w_lntBV {fr : P (List Ar)} {d : D} {Q : List Ar → En → Prop} (e : ρ[i]? = some (.val d)) (h : W fr ρ (fun xs ρ2 => Q (.v d :: xs) ρ2) E) : W (lntB i fr) ρ Q E := by
  have h : W (valA (rd i) fr) ρ Q E := w_valA (w_rdV e h)
  unfold W at h ⊢
  unfold lntB
  rw [e]
  exact h
theorem w_consR {fa : P R} {fr : P (List R)} {Q : List R → En → Prop} (h : W fa ρ (fun x ρ1 => W fr ρ1 (fun xs ρ2 => Q (x :: xs) ρ2) E) E) : W (consR fa fr) ρ Q E := w_bnd (h.mono (fun _ _ h => w_bnd (h.mono (fun _ _ h => w_prt h) fun _ _ _ _ h => h)) fun _ _ _ _ h => h)
theorem s_tupR {is : List Nat} {fr : P (List R)} (h : W fr ρ (fun rs ρ' => is.length = rs.length ∧ rs.length ≤ 1000 ∧ N (setRs is rs ρ')) E) : WS (tupR is fr) ρ N T B C E := s_sb (h.mono (fun rs ρ' h => by
  unfold WS
  dsimp only
  rw [if_pos ⟨h.1, h.2.1⟩]
  exact h.2.2) fun _ _ _ _ h => h)
theorem w_seqU {xs : List D} {Q : List D → En → Prop} (h : Q xs ρ) : W (lft (seqD (.ftup xs))) ρ Q E := w_lft rfl h
end
end Pu
/-! A def with default values, some of which a call leaves out. -/
namespace Pu
open PySem PySem.Spec PyProof.Rows L2 Kv
section
variable {P' : Program} {w : World} {K : PySem.W.Frag} {mg : Str → Option Value} {base : Heap} {T : List (Addr × Str)}
end
section
variable {X : Cx} {g : Gx} {E : Wx} {k n : Nat} {x : Str} {F : P R} {dds : List D} {p pos : Pos} {e : Expr} {es : List Expr} {fr : P (List D)}
end
end Pu
/-! A list of one's own lists: x = [f(..), g(..)], whose items are written later. The items are held by names that the text does not know. -/
namespace Pu
open PySem PySem.Spec PyProof.Rows L2 Kv
def ownsL : List R → Option (List (List D))
  | [] => some []
  | .own (.lst xs) :: rs => (ownsL rs).map (xs :: ·)
  | _ => none
def atR : List Addr → List (List D) → List R
  | a :: as, xs :: xss => .own (.lsta a xs) :: atR as xss
  | _, _ => []
theorem atR_len : ∀ {as : List Addr} {xss : List (List D)}, as.length = xss.length → (atR as xss).length = xss.length
  | [], [], _ => rfl
  | [], _ :: _, h => by cases h
  | _ :: _, [], h => by cases h
  | a :: as, xs :: xss, h => congrArg (· + 1) (atR_len (Nat.succ.inj h))
theorem atR_get : ∀ {as : List Addr} {xss : List (List D)} {k : Nat} {r : R}, (atR as xss)[k]? = some r → ∃ a xs, as[k]? = some a ∧ xss[k]? = some xs ∧ r = .own (.lsta a xs)
  | [], xss, k, r, h => by cases xss <;> simp [atR] at h
  | _ :: _, [], k, r, h => by simp [atR] at h
  | a :: as, xs :: xss, 0, r, h => by simp [atR] at h; exact ⟨a, xs, rfl, rfl, h.symm⟩
  | a :: as, xs :: xss, k + 1, r, h => by
    obtain ⟨a', xs', h1, h2, h3⟩ := atR_get (as := as) (xss := xss) (k := k) (r := r) (by simpa [atR] using h)
    exact ⟨a', xs', by simpa using h1, by simpa using h2, h3⟩
section
variable {K : PySem.W.Frag} {g : Gx} {E : Wx} {ρ ρ0 ρ1 ρ2 : En} {σ σ0 : L2.St} {ok ok0 ok1 ok2 : Addr → Prop} {H H0 H1 H2 : Hp} {i : Nat}
theorem relRs_at : ∀ {vs : List V} {rs : List R} {xss : List (List D)}, ownsL rs = some xss → relRs K H0 ok H ρ σ vs rs → ∃ as : List Addr, vs = as.map V.ref ∧ as.length = xss.length ∧ relRs K H0 ok H ρ σ vs (atR as xss)
  | [], [], xss, h, _ => by cases h; exact ⟨[], rfl, rfl, trivial⟩
  | [], _ :: _, _, _, h => h.elim
  | _ :: _, [], _, _, h => h.elim
  | v :: vs, r :: rs, xss, h, hr => by
    cases r with
    | val d => cases h
    | own d =>
      cases d with
      | lst xs =>
        obtain ⟨yss, e, rfl⟩ := map_some (show (ownsL rs).map (xs :: ·) = some xss from h)
        obtain ⟨as, rfl, hl, hrs⟩ := relRs_at e hr.2.2
        obtain ⟨q, rfl, o, nk, n0, np⟩ := hr.1
        refine ⟨q :: as, rfl, congrArg (· + 1) hl, ⟨q, rfl, ⟨rfl, o⟩, nk, n0, np⟩, fun q' o' k v' r' e1 e2 o2 => ?_, hrs⟩
        obtain ⟨d', _, eq⟩ := o'
        cases eq
        obtain ⟨a, xs', h1, h2, rfl⟩ := atR_get e2
        obtain ⟨d2, e3, e4⟩ := o2
        -- the same thing held by the old row
        have hk : k < rs.length := by
          have := relRs_len hr.2.2
          rw [← this]
          exact (List.getElem?_eq_some_iff.mp e1).1
        have own_at : ∀ {rs : List R} {yss : List (List D)} {k : Nat} {xs : List D}, ownsL rs = some yss → yss[k]? = some xs → rs[k]? = some (.own (.lst xs)) := by
          intro rs
          induction rs with
          | nil => intro yss k xs e h; cases e; simp at h
          | cons r rs ih =>
            intro yss k xs e h
            cases r with
            | val d => cases e
            | own d =>
              cases d with
              | lst ys =>
                obtain ⟨zss, e5, rfl⟩ := map_some (show (ownsL rs).map (ys :: ·) = some yss from e)
                cases k with
                | zero => simp at h; subst h; rfl
                | succ k => simpa using ih e5 (by simpa using h)
              | _ => cases e
        exact hr.2.1 q ⟨_, rfl, rfl⟩ k v' _ e1 (own_at e h2) ⟨_, rfl, e4⟩
      | _ => cases h
end
theorem relRs_nd {K : PySem.W.Frag} {ρ : En} {σ : L2.St} {ok : Addr → Prop} {H H0 : Hp} : ∀ {as : List Addr} {xss : List (List D)}, as.length = xss.length → relRs K H0 ok H ρ σ (as.map V.ref) (atR as xss) → as.Nodup
  | [], _, _, _ => List.nodup_nil
  | _ :: _, [], h, _ => by cases h
  | a :: as, xs :: xss, hl, h => by
    rw [List.nodup_cons]
    refine ⟨fun hm => ?_, relRs_nd (Nat.succ.inj hl) h.2.2⟩
    obtain ⟨k, hk, e⟩ := List.getElem_of_mem hm
    have h2 : k < xss.length := by rw [← Nat.succ.inj hl]; exact hk
    have get : ∀ {as : List Addr} {xss : List (List D)} {k : Nat} {a : Addr} {xs : List D}, as[k]? = some a → xss[k]? = some xs → (atR as xss)[k]? = some (.own (.lsta a xs)) := by
      intro as
      induction as with
      | nil => intro xss k a xs h; simp at h
      | cons b bs ih =>
        intro xss k a xs h1 h2
        cases xss with
        | nil => simp at h2
        | cons ys yss =>
          cases k with
          | zero => simp at h1 h2; subst h1 h2; rfl
          | succ k => simpa [atR] using ih (by simpa using h1) (by simpa using h2)
    refine h.2.1 a ⟨_, rfl, rfl⟩ k (.ref a) (.own (.lsta a xss[k])) ?_ (get ?_ (List.getElem?_eq_getElem h2)) ⟨_, rfl, rfl⟩
    · rw [List.getElem?_map, List.getElem?_eq_getElem hk, e]; rfl
    · rw [List.getElem?_eq_getElem hk, e]
/-! ### names that the text does not know -/
def PhN (X : Cx) (js : List Nat) : Prop := ∀ j ∈ js, ∃ x, X.N[j]? = some x ∧ ¬ Vis X.env.scope x
theorem inv_ph {X : Cx} {pins : List (Addr × Obj)} {σ : L2.St} {H : Hp} {s : Shared} {j : Nat} {x : Str} {o : Option V} (I : Inv X pins σ H s) (hj : X.N[j]? = some x) (hx : ¬ Vis X.env.scope x) : Inv X pins (σ.set j o) H s :=
  ⟨I.ok, I.os, I.bare, I.base, by
    obtain ⟨m, hm, h⟩ := I.loc
    refine ⟨m, hm, fun i y v e1 e2 vis => ?_⟩
    by_cases hi : i = j
    · subst hi; rw [hj] at e1; cases e1; exact absurd vis hx
    · rw [List.getElem?_set_ne (Ne.symm hi)] at e2; exact h i y v e1 e2 vis, I.cell, I.free, I.freeC, I.pin, I.hok, by rw [List.length_set]; exact I.len⟩
section
variable {X : Cx} {g : Gx} {E : Wx} {rest : List Stmt}
theorem pss_ph {t : TS} : ∀ {js : List Nat} {vs : List V}, PhN X js → PSs X rest t → PSs X rest (fun Dn σ H => gNames js vs σ H fun σ' H' => t Dn σ' H')
  | [], vs, _, h => PSs_imp h fun Dn σ H z => by
    cases vs with
    | nil => exact z.2
    | cons _ _ => exact nomatch z.1
  | j :: js, vs, hp, h => ⟨fun pins s σ H Dn I z => by
    obtain ⟨v, vs', rfl, z⟩ := z
    obtain ⟨x, hj, hx⟩ := hp j (List.mem_cons_self ..)
    exact (pss_ph (js := js) (vs := vs') (fun k hk => hp k (List.mem_cons_of_mem _ hk)) h).run pins s _ H Dn (inv_ph I hj hx) z⟩
theorem pss_ex {α : Type} {t : α → TS} (h : ∀ a, PSs X rest (t a)) : PSs X rest (fun Dn σ H => ∃ a, t a Dn σ H) := ⟨fun pins s σ H Dn I ⟨a, z⟩ => (h a).run pins s σ H Dn I z⟩
end
/-! ### the names are dropped behind the block -/
def wipeS : List Nat → En → En
  | [], ρ => ρ
  | d :: ds, ρ => (wipeS ds ρ).set d .un
def unIs (ds : List Nat) : Option Fl → Option Fl
  | some (.nx ρ) => some (.nx (wipeS ds ρ))
  | some (.bk ρ) => some (.bk (wipeS ds ρ))
  | some (.ct ρ) => some (.ct (wipeS ds ρ))
  | some (.rt r ρ) => some (.rt r (wipeS ds ρ))
  | some (.er c ns es ρ) => some (.er c ns es (wipeS ds ρ))
  | none => none
section
variable {K : PySem.W.Frag} {g : Gx} {E : Wx} {ρ ρ0 ρ1 ρ2 : En} {σ σ0 : L2.St} {ok ok0 ok1 ok2 : Addr → Prop} {H H0 H1 H2 : Hp} {i : Nat}
theorem wipeS_wf : ∀ {ds : List Nat}, Wf K g ok ρ σ H → Wf K g ok (wipeS ds ρ) σ H
  | [], w => w
  | d :: ds, w => (wipeS_wf (ds := ds) w).drop
theorem wipeS_sx : ∀ {ds : List Nat}, Sx σ ρ ok H (wipeS ds ρ) ok H
  | [] => Sx.refl
  | d :: ds => (wipeS_sx (ds := ds)).trans Sx.drop
theorem wipeS_own : ∀ {ds : List Nat} {j : Nat} {e : D}, (wipeS ds ρ)[j]? = some (.own e) → ρ[j]? = some (.own e)
  | [], j, e, h => h
  | d :: ds, j, e, h => by
    have h : ((wipeS ds ρ).set d .un)[j]? = some (.own e) := h
    by_cases hj : j = d
    · subst hj; cases get_set_self h
    · rw [List.getElem?_set_ne (Ne.symm hj)] at h; exact wipeS_own h
theorem Ss.unwipe {ds : List Nat} {o : Option Fl} {fl : Fl} {Dn : Ends} (e : unIs ds o = some fl) (h : Ss K g E σ ρ ok H (some fl) Dn) : Ss K g E σ ρ ok H o Dn := by
  cases o with
  | none => cases e
  | some f =>
    cases f with
    | nx ρ' => cases e; exact fun σ' H' ok' w s => h σ' H' ok' (wipeS_wf w) (s.trans wipeS_sx.y)
    | bk ρ' => cases e; exact fun σ' H' ok' w s => h σ' H' ok' (wipeS_wf w) (s.trans wipeS_sx.y)
    | ct ρ' => cases e; exact fun σ' H' ok' w s => h σ' H' ok' (wipeS_wf w) (s.trans wipeS_sx.y)
    | rt r ρ' =>
      cases e
      refine fun v σ' H' ok' w s hr => h v σ' H' ok' (wipeS_wf w) (s.trans wipeS_sx.y) ?_
      cases r with
      | val d => exact hr
      | own d =>
        obtain ⟨q, e, o, nk, n0, np⟩ := hr
        exact ⟨q, e, o, nk, n0, fun j x hj => np j x (wipeS_own hj)⟩
    | er c ns es ρ' => cases e; exact fun dx fs σ' H' ok' w s => h dx fs σ' H' ok' (wipeS_wf w) (s.trans wipeS_sx.y)
end
/-! ### x = [..] -/
def nst0 (i : Nat) (js : List Nat) (as : List Addr) (xss : List (List D)) (ρ : En) : En := setRs js (atR as xss) (ρ.set i (.val (.lst (as.map .opq))))
open Classical in
noncomputable def nestS (i : Nat) (js ds : List Nat) (fr : P (List R)) (k : List Addr → S) : S := sb fr fun rs ρ => match ownsL rs with
  | some xss => if h : js.length = xss.length ∧ xss.length ≤ 1000 ∧ ∃ fl, ∀ as : List Addr, as.length = xss.length → as.Nodup → unIs ds (k as (nst0 i js as xss ρ)) = some fl then some h.2.2.choose else none
  | none => none
section
variable {X : Cx} {g : Gx} {E : Wx} {es : List Expr} {fr : P (List R)} {pos lpos px : Pos} {rest : List Stmt} {i : Nat} {x : Str} {js ds : List Nat} {k : List Addr → S}
open Classical in
theorem nest_core {σ : L2.St} {ρ1 : En} {ok1 : Addr → Prop} {H1 : Hp} {vs : List V} {rs : List R} {H : Hp} {ρ : En} {ok : Addr → Prop} {Dn : Ends} {q : Addr} (hB : i ∉ g.B) (hJ : ∀ j ∈ js, j ∉ g.B)
    (w : Wf X.K g ok ρ σ H) (w1 : Wf X.K g ok1 ρ1 σ H1) (s1 : Sx σ ρ ok H ρ1 ok1 H1) (r1 : relRs X.K H ok1 H1 ρ1 σ vs rs) (hq : H1 q = some (.lst vs)) (kq : ok1 q)
    (h1 : Ss X.K g E σ ρ ok H ((fun ρ => match ownsL rs with
      | some xss => if h : js.length = xss.length ∧ xss.length ≤ 1000 ∧ ∃ fl, ∀ as : List Addr, as.length = xss.length → as.Nodup → unIs ds (k as (nst0 i js as xss ρ)) = some fl then some h.2.2.choose else none
      | none => none) ρ1) Dn) :
    ∃ as, gNames js vs (σ.set i (some (.ref q))) H1 fun σ' H' => tS X.K g E (k as) Dn σ' H' := by
  dsimp only at h1
  cases eo : ownsL rs with
  | none => rw [eo] at h1; exact h1.elim
  | some xss =>
    rw [eo] at h1
    dsimp only at h1
    by_cases hz : js.length = xss.length ∧ xss.length ≤ 1000 ∧ ∃ fl, ∀ as : List Addr, as.length = xss.length → as.Nodup → unIs ds (k as (nst0 i js as xss ρ1)) = some fl
    · rw [dif_pos hz] at h1
      have hfl := hz.2.2.choose_spec
      generalize hz.2.2.choose = fl at h1 hfl
      obtain ⟨as, rfl, hl, ra⟩ := relRs_at eo r1
      refine ⟨as, ?_⟩
      have ro : ∀ (hp : Hp) (bs : List Addr), Reps X.K ok1 hp (bs.map V.ref) (bs.map D.opq) := fun hp bs => by
        induction bs with
        | nil => exact .nil
        | cons b bs ih => exact .cons (.opq b) ih
      have rp : relR X.K H ok1 H1 ρ1 σ (.ref q) (.val (.lst (as.map .opq))) := Rep.lst hq kq (ro _ _)
      obtain ⟨w3, s3⟩ := put_sy (i := i) w1 rp (fun a h => w.h0 a h) hB s1.y
      have r3 := relRs_put (i := i) (v := .ref q) (r := .val (.lst (as.map .opq))) ra (fun q o => by obtain ⟨d, e, _⟩ := o; cases e)
      refine names_R (fun a h => w.h0 a h) (by rw [atR_len hl]; exact hz.1) hJ w3 r3 s3 fun σ' w' s' => ?_
      exact ⟨ok1, _, w', Ss.unwipe (hfl as hl (relRs_nd hl ra)) (h1.shift s')⟩
    · rw [dif_neg hz] at h1
      exact h1.elim
open Classical in
theorem nest_len {ρ1 : En} {rs : List R} {σ : L2.St} {H : Hp} {ρ : En} {ok : Addr → Prop} {Dn : Ends}
    (h1 : Ss X.K g E σ ρ ok H ((fun ρ => match ownsL rs with
      | some xss => if h : js.length = xss.length ∧ xss.length ≤ 1000 ∧ ∃ fl, ∀ as : List Addr, as.length = xss.length → as.Nodup → unIs ds (k as (nst0 i js as xss ρ)) = some fl then some h.2.2.choose else none
      | none => none) ρ1) Dn) : rs.length ≤ 1000 := by
  dsimp only at h1
  cases eo : ownsL rs with
  | none => rw [eo] at h1; exact h1.elim
  | some xss =>
    rw [eo] at h1
    dsimp only at h1
    have hl : ∀ {rs : List R} {xss : List (List D)}, ownsL rs = some xss → rs.length = xss.length := by
      intro rs
      induction rs with
      | nil => intro xss e; cases e; rfl
      | cons r rs ih =>
        intro xss e
        cases r with
        | val d => cases e
        | own d =>
          cases d with
          | lst ys =>
            obtain ⟨zss, e5, rfl⟩ := map_some (show (ownsL rs).map (ys :: ·) = some xss from e)
            exact congrArg (· + 1) (ih e5)
          | _ => cases e
    by_cases hz : js.length = xss.length ∧ xss.length ≤ 1000 ∧ ∃ fl, ∀ as : List Addr, as.length = xss.length → as.Nodup → unIs ds (k as (nst0 i js as xss ρ1)) = some fl
    · rw [hl eo]; exact hz.2.1
    · rw [dif_neg hz] at h1
      exact h1.elim
theorem ess_nest (hN : X.N.Nodup) (hi : X.N[i]? = some x) (hx : Loc X.env.scope x) (hp : PhN X js) (hB : i ∉ g.B) (hJ : ∀ j ∈ js, j ∉ g.B) (h : ERs X g E es fr) (hk : ∀ as, ESs X g E rest (k as))
    (hs : swapsWith (.List es lpos) (some (.Name x px)) pos.line X.env = pure false := by rfl) (hf : X.fn x = true ∨ X.env.scope.names.lookup x = some .local := by first | exact .inl rfl | exact .inr rfl | assumption) :
    ESs X g E (.Assign [.Name x px] (.List es lpos) pos :: rest) (nestS i js ds fr k) := by
  refine PSs_imp (pss_cons (ps_set hN hi hx (pe_lst h) hs hf) (pss_ex fun vs => pss_ex fun as => pss_ph (vs := vs) hp (hk as))) fun Dn σ H hq => ?_
  obtain ⟨ok, ρ, w, h⟩ := hq
  refine ⟨ok, ρ, w, ?_⟩
  unfold nestS at h
  cases e1 : fr ρ with
  | none => rw [sb_none e1] at h; exact h
  | some z1 =>
    cases z1 with
    | er c ns ds ρ' => rw [sb_er e1] at h; exact fun dx fs H' ok' w' s' => h dx fs σ H' ok' w' s'.y
    | ok rs ρ1 =>
      rw [sb_ok e1] at h
      intro vs H1 ok1 w1 s1 r1
      refine ⟨by rw [relRs_len r1]; exact Nat.le_of_lt (small1000 (nest_len (ρ1 := ρ1) h)), fun p np => ?_⟩
      obtain ⟨as, hg⟩ := nest_core (q := p) (ρ1 := ρ1) hB hJ w (w1.new np) (s1.trans (Sx.new np)) (relRs_later (Sx.new np) r1) upd_same (w1.fc p np) h
      exact ⟨vs, as, hg⟩
end
end Pu
/-! The items of a list of one's own lists: written, shown. -/
namespace Pu
open PySem PySem.Spec PyProof.Rows L2 Kv
def fA (a : Addr) : Nat → En → Option (Nat × List D)
  | _, [] => none
  | n, .own (.lsta b xs) :: ρ => if b = a then some (n, xs) else fA a (n + 1) ρ
  | n, _ :: ρ => fA a (n + 1) ρ
theorem fA_get {a : Addr} : ∀ {ρ : En} {n j : Nat} {xs : List D}, fA a n ρ = some (j, xs) → ∃ k, j = n + k ∧ ρ[k]? = some (.own (.lsta a xs))
  | [], n, j, xs, h => by cases h
  | s :: ρ, n, j, xs, h => by
    have go : fA a (n + 1) ρ = some (j, xs) → ∃ k, j = n + k ∧ (s :: ρ)[k]? = some (.own (.lsta a xs)) := fun h => by
      obtain ⟨k, rfl, e⟩ := fA_get h
      exact ⟨k + 1, by omega, by simpa using e⟩
    cases s with
    | un => exact go h
    | val d => exact go h
    | own d =>
      cases d with
      | lsta b ys =>
        have h : (if b = a then some (n, ys) else fA a (n + 1) ρ) = some (j, xs) := h
        by_cases e : b = a
        · rw [if_pos e] at h
          cases h
          subst e
          exact ⟨0, rfl, rfl⟩
        · rw [if_neg e] at h; exact go h
      | _ => exact go h
def hasA : D → P Addr
  | .opq a => fun ρ => match fA a 0 ρ with
    | some _ => some (.ok a ρ)
    | none => none
  | _ => fun _ => none
def mutA (a : Addr) (step : List D → List D → Option (D × List D)) (ds : List D) : P D := fun ρ => match fA a 0 ρ with
  | some (j, xs) => match step xs ds with
    | some (d, ys) => some (.ok d (ρ.set j (.own (.lsta a ys))))
    | none => none
  | none => none
def mtA (fo : P D) (fr : P (List D)) (step : List D → List D → Option (D × List D)) : P D := bnd fo fun d => bnd (hasA d) fun a => bnd fr fun ds => mutA a step ds
section
variable {X : Cx} {K : PySem.W.Frag} {g : Gx} {E : Wx}
theorem mutA_end {r : V → List V → Hp → VK → Prop} {step : List D → List D → Option (D × List D)} (hm : OwM K r step) {a : Addr} {ds : List D} {ok : Addr → Prop} {ρ : En} {σ : L2.St} {H : Hp} {ws : List V} {Q : VK} (w : Wf K g ok ρ σ H)
    (rw' : Reps K ok H ws ds) (h : Rs K g E (relD K) σ ρ ok H (mutA a step ds ρ) Q) : r (.ref a) ws H Q := by
  unfold mutA at h
  cases e : fA a 0 ρ with
  | none => rw [e] at h; exact h.elim
  | some jx =>
    obtain ⟨j, xs⟩ := jx
    rw [e] at h
    dsimp only at h
    cases hs : step xs ds with
    | none => rw [hs] at h; exact h.elim
    | some dy =>
      obtain ⟨d, ys⟩ := dy
      rw [hs] at h
      obtain ⟨k, ej, hi⟩ := fA_get e
      rw [Nat.zero_add] at ej
      subst ej
      obtain ⟨q, hq, o, nk, _⟩ := w.own _ _ hi
      obtain ⟨rfl, vs, hv, rv⟩ := id o
      refine hm ok H q vs xs ws ds d ys Q hv rv rw' hs fun v vs' r1 r2 => ?_
      have f : Fr ok H ok (upd H q (.lst vs')) := .of (fun a x ha hk => by
          have : a ≠ q := fun z => by
            subst z
            rw [hv] at ha
            cases ha
            exact nk (hk trivial)
          rw [upd_ne this]; exact ha) (fun _ _ _ k => k) (fun a ha => by
        by_cases z : a = q
        · rw [z, upd_same] at ha; cases ha
        · rw [upd_ne z] at ha; exact ha)
      have ow : OwnAt K ok (upd H q (.lst vs')) q (.lsta q ys) := ⟨rfl, vs', upd_same, r1.fr f⟩
      exact h v _ ok (w.write hi hq ow).1 (Sx.write w hi hq ow) (r2.fr f)
theorem hasA_inv {d : D} {ρ : En} {x : Ex Addr} (h : hasA d ρ = some x) : ∃ (a : Addr) (k : Nat) (xs : List D), d = .opq a ∧ x = .ok a ρ ∧ ρ[k]? = some (Slot.own (.lsta a xs)) := by
  cases d with
  | opq a =>
    unfold hasA at h
    cases e : fA a 0 ρ with
    | none => simp only [e] at h; cases h
    | some jx =>
      simp only [e] at h
      cases h
      obtain ⟨j, xs⟩ := jx
      obtain ⟨k, _, hi⟩ := fA_get e
      exact ⟨a, k, xs, rfl, rfl, hi⟩
  | _ => cases h
theorem ev_mutA {m : Str} {id : String} {apos cpos : Pos} {o e : Expr} {es : List Expr} {fo : P D} {fr : P (List D)} {r : V → List V → Hp → VK → Prop} {step : List D → List D → Option (D × List D)}
    (slot : PySem.Slot "list" m id) (hty : typeOf (.builtin id) = pure (.type "method_descriptor")) (hr : MtR X id r) (hm : OwM X.K r step) (ho : EV X g E o fo) (ha : EA X g E (e :: es) fr)
    (hbase : attributeBase o m X.env (eval o X.env) = eval o X.env := by rfl)
    (hfew : ((backTo cpos (starEach (e :: es) X.env)).all (fun x => !x.1) && (backToKw cpos (keywordEach [] X.env)).all (fun x => x.1.isSome)
      && decide ((e :: es).length + ([] : List Keyword).length + (if ([] : List Keyword).isEmpty then 0 else 1) < 30)) = true := by rfl)
    (hline : (apos.endLine == cpos.line) = true := by rfl) (hs : starEach (e :: es) X.env = (false, eval e X.env) :: starEach es X.env := by rfl) (hplain : (backTo cpos (starEach es X.env)).any (·.1) = false := by rfl) :
    EV X g E (.Call (.Attribute o m apos) (e :: es) [] cpos) (mtA fo fr step) := by
  refine PE_imp (pe_bm PySem.F.plainAttrs_list slot hty hr ho ha hbase hfew hline hs hplain) fun σ H Q hq => ?_
  obtain ⟨ok, ρ, w, h⟩ := hq
  refine ⟨ok, ρ, w, (Rs.bnd (RA := relD X.K) h).mono fun v H1 hq => ?_⟩
  obtain ⟨ok1, ρ1, d, w1, s1, r1, h1⟩ := hq
  cases e0 : hasA d ρ1 with
  | none => rw [bnd_none e0] at h1; exact h1.elim
  | some x =>
    obtain ⟨a, k, xs, rfl, rfl, hi⟩ := hasA_inv e0
    rw [bnd_ok e0] at h1
    have r1 : Rep X.K ok1 H1 v (.opq a) := r1
    cases r1
    obtain ⟨q, eq, o, nk, _⟩ := w1.own k _ hi
    obtain ⟨rfl, vs, hvs, _⟩ := o
    refine ⟨.inl ⟨rfl, vs, .inl (.inl hvs)⟩, ok1, ρ1, w1, (Rs.bnd (RA := relA X.K) h1).mono fun ws H2 hq => ?_⟩
    obtain ⟨ok2, ρ2, ds, w2, s2, r2, h2⟩ := hq
    exact mutA_end hm w2 r2 h2
theorem ev_mutA0 {m : Str} {id : String} {apos cpos : Pos} {o : Expr} {fo : P D} {r : V → List V → Hp → VK → Prop} {step : List D → List D → Option (D × List D)}
    (slot : PySem.Slot "list" m id) (hty : typeOf (.builtin id) = pure (.type "method_descriptor")) (hr : MtR X id r) (hm : OwM X.K r step) (ho : EV X g E o fo)
    (hbase : attributeBase o m X.env (eval o X.env) = eval o X.env := by rfl) (hline : (apos.endLine == cpos.line) = true := by rfl) :
    EV X g E (.Call (.Attribute o m apos) [] [] cpos) (mtA fo (prt []) step) := by
  refine PE_imp (pe_bm0 PySem.F.plainAttrs_list slot hty hr ho hbase hline) fun σ H Q hq => ?_
  obtain ⟨ok, ρ, w, h⟩ := hq
  refine ⟨ok, ρ, w, (Rs.bnd (RA := relD X.K) h).mono fun v H1 hq => ?_⟩
  obtain ⟨ok1, ρ1, d, w1, s1, r1, h1⟩ := hq
  cases e0 : hasA d ρ1 with
  | none => rw [bnd_none e0] at h1; exact h1.elim
  | some x =>
    obtain ⟨a, k, xs, rfl, rfl, hi⟩ := hasA_inv e0
    rw [bnd_ok e0] at h1
    have r1 : Rep X.K ok1 H1 v (.opq a) := r1
    cases r1
    obtain ⟨q, eq, o, nk, _⟩ := w1.own k _ hi
    obtain ⟨rfl, vs, hvs, _⟩ := o
    exact ⟨.inl ⟨rfl, vs, .inl (.inl hvs)⟩, mutA_end hm w1 .nil h1⟩
end
/-! ### read with the items' own things -/
def res1 (ρ : En) : D → D
  | .opq a => match fA a 0 ρ with
    | some (_, xs) => .lsta a xs
    | none => .opq a
  | d => d
def resL (ρ : En) : D → D
  | .lst ds => .lst (ds.map (res1 ρ))
  | d => res1 ρ d
section
variable {X : Cx} {K : PySem.W.Frag} {g : Gx} {E : Wx} {ok : Addr → Prop} {ρ : En} {σ : L2.St} {H : Hp}
theorem fr_wrs : Fr ok H (fun b => ok b ∨ wrs ρ σ b) H := .of (fun _ _ h _ => h) (fun _ _ _ h => .inl h) (fun _ h => h)
theorem Rep.res1 (w : Wf K g ok ρ σ H) {v : V} {d : D} (r : Rep K ok H v d) : Rep K (fun b => ok b ∨ wrs ρ σ b) H v (res1 ρ d) := by
  cases d with
  | opq a =>
    cases e : fA a 0 ρ with
    | none =>
      have : Pu.res1 ρ (.opq a) = .opq a := by unfold Pu.res1; dsimp only; rw [e]
      rw [this]; exact r.fr fr_wrs
    | some jx =>
      obtain ⟨j, xs⟩ := jx
      have : Pu.res1 ρ (.opq a) = .lsta a xs := by unfold Pu.res1; dsimp only; rw [e]
      rw [this]
      obtain ⟨k, ej, hi⟩ := fA_get e
      obtain ⟨q, hq, o, nk, _⟩ := w.own _ _ hi
      obtain ⟨rfl, vs, hv, rv⟩ := id o
      cases r
      exact .lsta hv (.inr ⟨k, _, hi, hq⟩) (rv.fr fr_wrs)
  | _ => exact r.fr fr_wrs
theorem Rep.resL (w : Wf K g ok ρ σ H) {v : V} {d : D} (r : Rep K ok H v d) : Rep K (fun b => ok b ∨ wrs ρ σ b) H v (resL ρ d) := by
  cases d with
  | lst ds =>
    cases r with
    | lst h k rs =>
      refine .lst h (.inl k) ?_
      clear h
      rename_i a vs
      clear k
      have all : ∀ {vs : List V} {ds : List D}, Reps K ok H vs ds → Reps K (fun b => ok b ∨ wrs ρ σ b) H vs (ds.map (Pu.res1 ρ)) := by
        intro vs ds h
        induction ds generalizing vs with
        | nil => cases h; exact .nil
        | cons d ds ih => cases h with
          | cons h t => exact .cons (Rep.res1 w h) (ih t)
      exact all rs
  | _ => exact Rep.res1 w r
def shN (fa : P D) : P D := bnd fa fun d ρ => lft ((toPy (resL ρ d)).bind showP) ρ
theorem ev_reprN {a : Expr} {fa : P D} {p pos : Pos} (hgd : X.A.guards = some []) (hu : X.A.units + 64 < cLine) (hg : Gl X "repr") (hm : X.mg "repr" = none) (hv : bootBuiltins "repr" = some (.builtin "repr")) (ha : EV X g E a fa)
    (hs : starEach [a] X.env = [(false, eval a X.env)] := by rfl) : EV X g E (.Call (.Name "repr" p) [a] [] pos) (shN fa) := by
  refine PE_imp (pe_callB (call_reprA hgd hu) hg hm hv (pa_cons ha pa_nil hs) (by decide) (by decide) hs rfl) fun σ H Q hq => ?_
  obtain ⟨ok, ρ, w, h⟩ := hq
  refine ⟨ok, ρ, w, (Rs.bnd (RA := relD X.K) h).mono fun v H1 hq => ?_⟩
  obtain ⟨ok1, ρ1, d, w1, s1, r1, h1⟩ := hq
  have h1 : Rs X.K g E (relD X.K) σ ρ1 ok1 H1 (lft ((toPy (resL ρ1 d)).bind showP) ρ1) Q := h1
  cases e : toPy (resL ρ1 d) with
  | none => rw [e] at h1; exact h1.elim
  | some p =>
    rw [e] at h1
    have h1 : Rs X.K g E (relD X.K) σ ρ1 ok1 H1 (lft (showP p) ρ1) Q := h1
    unfold showP at h1
    by_cases hz : p.showable = true ∧ p.shown.length ≤ sizeLine ∧ p.depth ≤ 60
    · rw [if_pos hz] at h1
      exact .inl ⟨true, v, p, rfl, (Rep.resL w1 r1).sh e, hz.1, hz.2.1, hz.2.2, h1 _ H1 ok1 w1 Sx.refl (.str _)⟩
    · rw [if_neg hz] at h1; exact h1.elim
end
end Pu
/-! A def that gives a list of its own lists: return [f(..), g(..)]; its call: x = d(..), and what follows. -/
namespace Pu
open PySem PySem.Spec PyProof.Rows L2 Kv
section
variable {P' : Program} {w : World} {K : PySem.W.Frag} {mg : Str → Option Value} {base : Heap} {CX : CXT} {T : List (Addr × Str)}
end
section
variable {X : Cx} {g : Gx} {E : Wx} {k' n : Nat} {f : Str} {F : P (List R)} {e : Expr} {es : List Expr} {fr : P (List D)} {pos cpos p px : Pos} {rest : List Stmt} {i : Nat} {x : Str} {js ds : List Nat} {k : List Addr → S}
end
end Pu
/-! Ahead of the steps of Pu59 to Pu61. -/
namespace Pu
open PySem PySem.Spec PyProof.Rows L2 Kv
theorem phn_nil {X : Cx} : PhN X [] := fun _ h => nomatch h
theorem phn_cons {X : Cx} {j : Nat} {x : Str} {js : List Nat} (h : X.N[j]? = some x) (hl : X.env.scope.names.lookup x = none) (r : PhN X js) : PhN X (j :: js) := fun k hk => by
  rcases List.mem_cons.mp hk with rfl | hk
  · exact ⟨x, h, by unfold Vis; rw [hl]; simp⟩
  · exact r k hk
section
variable {ρ : En} {E : QE} {N : En → Prop} {T : R → En → Prop} {B C : En → Prop}
def endF (N : En → Prop) (T : R → En → Prop) (B C : En → Prop) (E : QE) : Fl → Prop
  | .nx ρ => N ρ
  | .rt r ρ => T r ρ
  | .bk ρ => B ρ
  | .ct ρ => C ρ
  | .er c ns es ρ => E c ns es ρ
theorem s_nest {i : Nat} {js ds : List Nat} {fr : P (List R)} {k : List Addr → S}
    (h : W fr ρ (fun rs ρ1 => ∃ xss, ownsL rs = some xss ∧ js.length = xss.length ∧ xss.length ≤ 1000 ∧ ∃ fl, endF N T B C E fl ∧ ∀ as : List Addr, as.length = xss.length → as.Nodup →
      WS (k as) (nst0 i js as xss ρ1) (fun ρ' => fl = .nx (wipeS ds ρ')) (fun r ρ' => fl = .rt r (wipeS ds ρ')) (fun _ => False) (fun _ => False) (fun c ns es ρ' => fl = .er c ns es (wipeS ds ρ'))) E) : WS (nestS i js ds fr k) ρ N T B C E :=
  s_sb (h.mono (fun rs ρ1 h => by
    obtain ⟨xss, e, l1, l2, fl, hf, h⟩ := h
    have hh : js.length = xss.length ∧ xss.length ≤ 1000 ∧ ∃ fl, ∀ as : List Addr, as.length = xss.length → as.Nodup → unIs ds (k as (nst0 i js as xss ρ1)) = some fl := ⟨l1, l2, fl, fun as h1 h2 => by
      have := h as h1 h2
      unfold WS at this
      split at this
      · exact this.elim
      · rename_i z; rw [z]; rw [this]; rfl
      · rename_i z; rw [z]; rw [this]; rfl
      · exact this.elim
      · exact this.elim
      · rename_i z; rw [z]; rw [this]; rfl⟩
    unfold WS
    dsimp only
    rw [e]
    dsimp only
    rw [dif_pos hh]
    -- the result is this one
    have ex : ∃ as : List Addr, as.length = xss.length ∧ as.Nodup := ⟨List.range xss.length, List.length_range, List.nodup_range⟩
    obtain ⟨as, h1, h2⟩ := ex
    have e1 := hh.2.2.choose_spec as h1 h2
    have e2 : unIs ds (k as (nst0 i js as xss ρ1)) = some fl := by
      have := h as h1 h2
      unfold WS at this
      split at this
      · exact this.elim
      · rename_i z; rw [z]; rw [this]; rfl
      · rename_i z; rw [z]; rw [this]; rfl
      · exact this.elim
      · exact this.elim
      · rename_i z; rw [z]; rw [this]; rfl
    have e3 : hh.2.2.choose = fl := Option.some.inj (e1.symm.trans e2)
    rw [e3]
    cases fl <;> exact hf) fun _ _ _ _ h => h)
theorem w_mtA {fo : P D} {fr : P (List D)} {step : List D → List D → Option (D × List D)} {Q : D → En → Prop}
    (h : W fo ρ (fun d ρ1 => ∃ a jx, d = .opq a ∧ fA a 0 ρ1 = some jx ∧ W fr ρ1 (fun ds ρ2 => ∃ j xs dd ys, fA a 0 ρ2 = some (j, xs) ∧ step xs ds = some (dd, ys) ∧ Q dd (ρ2.set j (.own (.lsta a ys)))) E) E) : W (mtA fo fr step) ρ Q E :=
  w_bnd (h.mono (fun d ρ1 h => by
    obtain ⟨a, jx, rfl, e, h⟩ := h
    refine w_bnd (W.of (show hasA (.opq a) ρ1 = some (.ok a ρ1) by unfold hasA; simp only [e]) ?_)
    exact w_bnd (h.mono (fun ds ρ2 h => by
      obtain ⟨j, xs, dd, ys, e1, e2, h⟩ := h
      unfold W mutA
      simp only [e1, e2]
      exact h) fun _ _ _ _ h => h)) fun _ _ _ _ h => h)
theorem w_shN {fa : P D} {Q : D → En → Prop} (h : W fa ρ (fun d ρ1 => W (lft ((toPy (resL ρ1 d)).bind showP)) ρ1 Q E) E) : W (shN fa) ρ Q E := w_bnd (h.mono (fun d ρ1 h => by
  unfold W at h ⊢
  exact h) fun _ _ _ _ h => h)
end
end Pu
/-! list(d.items()), d a dict whose keys are tuples. -/
namespace Pu
open PySem PySem.Spec PyProof.Rows L2 Kv
section
variable {X : Cx} {g : Gx} {E : Wx} {e : Expr} {te : TE} {p apos cpos pos : Pos}
end
/-! ### as a step -/
section
variable {X : Cx} {g : Gx} {E : Wx} {e : Expr} {fa : P D} {p apos cpos pos : Pos}
end
end Pu
/-! dict(pairs) and d.pop(k), keys tuples. -/
namespace Pu
open PySem PySem.Spec PyProof.Rows L2 Kv
section
variable {X : Cx}
end
/-! ### as steps -/
section
variable {X : Cx} {g : Gx} {E : Wx} {a : Expr} {fa : P D} {p pos : Pos}
end
/-! ### d.pop(k) -/
section
variable {X : Cx}
end
section
variable {X : Cx} {g : Gx} {E : Wx}
end
end Pu
/-! len(o) of an own object with its own __len__. -/
namespace Pu
open PySem PySem.Spec PyProof.Rows L2 Kv
section
variable {prog : Program} {w : World} {A : Around} {E : Value → Shared → Prop} {s : Shared} {K : PySem.W.Frag} {x C f : Addr} {ox : Obj} {od : Option Obj}
end
section
variable {X : Cx} {g : Gx} {k : Nat} {C : Addr} {F : P R}
end
section
variable {ρ : En} {E : QE}
end
section
variable {X : Cx} {g : Gx} {E : Wx}
end
end Pu
/-! list(zip(a, b, c)) of three tuples. -/
namespace Pu
open PySem PySem.Spec PyProof.Rows L2 Kv
section
variable {prog : Program} {w : World} {A : Around} {E : Value → Shared → Prop} {s : Shared} {z TI TO T i1 i2 i3 : Addr} {f1 f2 f3 : List Addr} {n1 n2 n3 i : Nat} {P1 P2 P3 : Nat → Value → Prop} {S1 S2 S3 : Nat → Heap → Prop} {f : Bool} {oT : Obj}
end
section
variable {prog : Program} {w : World} {A : Around} {E : Value → Shared → Prop} {s : Shared} {z TI TO T i1 i2 i3 : Addr} {f1 f2 f3 : List Addr} {n1 n2 n3 i : Nat} {P1 P2 P3 : Nat → Value → Prop} {S1 S2 S3 : Nat → Heap → Prop} {f : Bool} {oT : Obj}
end
section
variable {prog : Program} {w : World} {A : Around} {E : Value → Shared → Prop} {s : Shared} {z TI TO i1 i2 i3 S N : Addr} {f1 f2 f3 : List Addr} {n i : Nat} {P1 P2 P3 : Nat → Value → Prop} {S1 S2 S3 : Nat → Heap → Prop}
structure LaidZ (P1 P2 P3 : Nat → Value → Prop) (N : Nat) (h : Heap) (acc : Array Value) (i : Nat) : Prop where
  size : acc.size = i
  at_ : ∀ j, j < i → acc[j]? = some (.ref (N + j)) ∧ ∃ x1 x2 x3, P1 j x1 ∧ P2 j x2 ∧ P3 j x3 ∧ IsTupOf3 h (N + j) x1 x2 x3
theorem LaidZ.push {h h' : Heap} {acc : Array Value} {x1 x2 x3 : Value} (l : LaidZ P1 P2 P3 N h acc i) (k : ∀ j, j < i → ∀ o, h.get? (N + j) = some o → h'.get? (N + j) = some o) (p1 : P1 i x1) (p2 : P2 i x2) (p3 : P3 i x3) (t : IsTupOf3 h' (N + i) x1 x2 x3) : LaidZ P1 P2 P3 N h' (acc.push (.ref (N + i))) (i + 1) := by
  refine ⟨by rw [Array.size_push, l.size], fun j hj => ?_⟩
  by_cases e : j = i
  · subst e
    refine ⟨by rw [Array.getElem?_push, if_pos l.size.symm], x1, x2, x3, p1, p2, p3, t⟩
  · obtain ⟨a, y1, y2, y3, b1, b2, b3, b4⟩ := l.at_ j (by omega)
    refine ⟨by rw [Array.getElem?_push, if_neg (by rw [l.size]; exact e)]; exact a, y1, y2, y3, b1, b2, b3, k j (by omega) _ b4⟩
end
section
variable {X : Cx} {g : Gx} {E : Wx} {a b c : Expr} {p zp cpos pos : Pos} {ta : TA}
end
end Pu
/-! list(zip(a, b, c)) as a step on trees. -/
namespace Pu
open PySem PySem.Spec PyProof.Rows L2 Kv
section
variable {X : Cx} {g : Gx} {E : Wx} {a b c : Expr} {p zp cpos pos : Pos} {fr : P (List D)}
end
section
variable {ρ : En} {E : QE}
end
end Pu
/-! zip over any number of tuples, the items it gives held by a name. -/
namespace Pu
open PySem PySem.Spec PyProof.Rows L2 Kv
abbrev TupAt (h : Heap) (T : Addr) (a : Array Value) : Prop := h.get? T = some { cls := .type "tuple", data := .seq a }
abbrev ZipAny (h : Heap) (z TI TO : Addr) (f0 : Value) (f : Bool) : Prop := h.get? z = some { cls := .type "zip", dict := none, data := .fields #[f0, .bool f, .bool false, .ref TI, .ref TO], slots := #[] }
def Ow (f0 : Value) : Prop := f0 = .none ∨ ∃ T : Nat, f0 = rawInt T
def itsV (n k : Nat) : List Value := (List.range k).map fun j => .ref (n + j)
theorem itsV_at {n k j : Nat} (h : j < k) : (itsV n k)[j]? = some (.ref (n + j)) := by
  unfold itsV
  rw [List.getElem?_map, List.getElem?_range h]
  rfl
theorem itsV_len {n k : Nat} : (itsV n k).length = k := by unfold itsV; rw [List.length_map, List.length_range]
theorem itsV_drop {n k j : Nat} (h : j < k) : (itsV n k).drop j = .ref (n + j) :: (itsV n k).drop (j + 1) := by
  have l : j < (itsV n k).length := by rw [itsV_len]; exact h
  rw [List.drop_eq_getElem_cons l]
  congr 1
  exact Option.some.inj ((List.getElem?_eq_getElem l).symm.trans (itsV_at h))
theorem zipIdx_drop {n k j : Nat} (h : j < k) : (itsV n k).zipIdx.drop j = (.ref (n + j), j) :: (itsV n k).zipIdx.drop (j + 1) := by
  have l : j < (itsV n k).zipIdx.length := by rw [List.length_zipIdx, itsV_len]; exact h
  rw [List.drop_eq_getElem_cons l]
  congr 1
  rw [List.getElem_zipIdx]
  have := (List.getElem?_eq_getElem (l := itsV n k) (i := j) (by rw [itsV_len]; exact h)).symm.trans (itsV_at h)
  rw [Option.some.inj this]
  simp
structure ZnSt (n : Nat) (ts : List Addr) (i : Nat) (h : Heap) : Prop where
  z : ∃ f0 f, Ow f0 ∧ ZipAny h (n + ts.length + 2) (n + ts.length) (n + ts.length + 1) f0 f
  ti : TupAt h (n + ts.length) (itsV n ts.length).toArray
  to : ∃ a, a.size = ts.length ∧ TupAt h (n + ts.length + 1) a
  it : ∀ (j : Nat) (t : Addr), ts[j]? = some t → h.IsTupleIter (n + j) t i
structure ZnMid (n : Nat) (ts : List Addr) (i j : Nat) (h0 h : Heap) : Prop where
  it1 : ∀ (l : Nat) (t : Addr), ts[l]? = some t → l < j → h.IsTupleIter (n + l) t (i + 1)
  it0 : ∀ (l : Nat) (t : Addr), ts[l]? = some t → j ≤ l → h.IsTupleIter (n + l) t i
  kp : ∀ c o, c < n ∨ n + ts.length ≤ c → c ≠ n + ts.length + 1 → h0.get? c = some o → h.get? c = some o
  sz : h.objs.size = h0.objs.size
theorem ZnMid.go {n i j : Nat} {ts : List Addr} {h0 h h' : Heap} {t : Addr} (m : ZnMid n ts i j h0 h) (et : ts[j]? = some t) (s : Heap.SameBut (n + j) h h') (k : h'.IsTupleIter (n + j) t (i + 1)) : ZnMid n ts i (j + 1) h0 h' where
  it1 := fun l u e hl => by
    by_cases q : l = j
    · subst q; rw [et] at e; cases e; exact k
    · exact (m.it1 l u e (by omega)).at fun o z => s.extBut _ _ (fun w => q (Nat.add_left_cancel w)) z
  it0 := fun l u e hl => (m.it0 l u e (by omega)).at fun o z => s.extBut _ _ (fun w => by have := Nat.add_left_cancel w; omega) z
  kp := fun c o hc ne e => by
    have lj := (List.getElem?_eq_some_iff.mp et).1
    exact s.extBut _ _ (fun w => by
      have w : c = n + j := w
      omega) (m.kp c o hc ne e)
  sz := by rw [s.1, m.sz]
theorem ZnMid.put {n i j : Nat} {ts : List Addr} {h0 h h' : Heap} (m : ZnMid n ts i j h0 h) (s : Heap.SameBut (n + ts.length + 1) h h') : ZnMid n ts i j h0 h' where
  it1 := fun l u e hl => (m.it1 l u e hl).at fun o z => s.extBut _ _ (fun w => by
    have w : n + l = n + ts.length + 1 := w
    have := (List.getElem?_eq_some_iff.mp e).1
    omega) z
  it0 := fun l u e hl => (m.it0 l u e hl).at fun o z => s.extBut _ _ (fun w => by
    have w : n + l = n + ts.length + 1 := w
    have := (List.getElem?_eq_some_iff.mp e).1
    omega) z
  kp := fun c o hc ne e => s.extBut _ _ ne (m.kp c o hc ne e)
  sz := by rw [s.1, m.sz]
section
variable {prog : Program} {w : World} {A : Around} {E : Value → Shared → Prop} {s : Shared}
theorem zn_dead {a : Addr} {Q : Option Obj → Shared → Prop} (ho : s.heap.get? a = none) (h : Q none s) : wpAny (model prog w) A (loadIfAlive a) Q E s := by
  have h' : Q (s.heap.get? a) s := by rw [ho]; exact h
  exact fun _ _ _ => h'
theorem zn_free {z TI TO : Addr} {f0 : Value} {f : Bool} {Q : Bool → Shared → Prop} (o : Ow f0) (hz : ZipAny s.heap z TI TO f0 f)
    (h1 : Q true s) (h2 : ∀ h', ZipAny h' z TI TO f0 true → Heap.SameBut z s.heap h' → Q false { s with heap := h' }) : wpAny (model prog w) A (Builtin.SmallTypes.ownedTupleIsFree (.ref z)) Q E s := by
  rcases o with rfl | ⟨T, rfl⟩
  · unfold Builtin.SmallTypes.ownedTupleIsFree
    exact wpAny_bind (wpAny_field hz rfl (x := .none) rfl (wpAny_pure h1))
  · cases hT : s.heap.get? T with
    | some oT => exact wpAny_tupleHeld_zip hz hT h2
    | none =>
      unfold Builtin.SmallTypes.ownedTupleIsFree
      refine wpAny_bind (wpAny_field hz rfl (x := rawInt T) rfl ?_)
      show wpAny _ _ (loadIfAlive ((T : Int).toNat) >>= _) _ _ _
      rw [Int.toNat_natCast]
      refine wpAny_bind (zn_dead hT ?_)
      simp only [Option.isNone_none, if_true]
      exact wpAny_pure h1
theorem zn_item {n i : Nat} {ts : List Addr} {us : List Value} {Q : Value → Shared → Prop} (st : ZnSt n ts i s.heap) (ne : ts ≠ []) (lt : ∀ t ∈ ts, t < n) (lu : us.length = ts.length) (hk : ts.length ≤ sizeLine)
    (hx : ∀ (j : Nat) (t : Addr), ts[j]? = some t → ∃ xs u, s.heap.IsTuple t xs ∧ xs[i]? = some u ∧ us[j]? = some u)
    (q : ∀ h', ZnSt n ts (i + 1) h' → TupAt h' s.heap.objs.size us.toArray → h'.objs.size = s.heap.objs.size + 1 → (∀ c o, c < n ∨ n + ts.length + 2 < c → s.heap.get? c = some o → h'.get? c = some o) → Q (.ref s.heap.objs.size) { s with heap := h' }) :
    wpAny (model prog w) A (Builtin.«zip.__next__» ⟨[.ref (n + ts.length + 2)], []⟩) (fun fin s' => ∃ v, fin = .done (.ret v) ∧ Q v s') E s := by
  obtain ⟨hp, g, d, tk0, os⟩ := s
  obtain ⟨⟨f0, f, ow, hz⟩, hTI, ⟨a0, sa, hTO⟩, his⟩ := st
  have hz : ZipAny hp (n + ts.length + 2) (n + ts.length) (n + ts.length + 1) f0 f := hz
  have hTI : TupAt hp (n + ts.length) (itsV n ts.length).toArray := hTI
  have hTO : TupAt hp (n + ts.length + 1) a0 := hTO
  have hx : ∀ (j : Nat) (t : Addr), ts[j]? = some t → ∃ xs u, hp.IsTuple t xs ∧ xs[i]? = some u ∧ us[j]? = some u := hx
  have his : ∀ (j : Nat) (t : Addr), ts[j]? = some t → hp.IsTupleIter (n + j) t i := his
  show wpAny _ _ (field (.ref (n + ts.length + 2)) 2 >>= _) _ _ _
  refine wpAny_bind (wpAny_field hz rfl (x := .bool false) rfl ?_)
  show wpAny _ _ (field (.ref (n + ts.length + 2)) 3 >>= _) _ _ _
  refine wpAny_bind (wpAny_field hz rfl (x := .ref (n + ts.length)) rfl ?_)
  refine wpAny_bind (wpAny_seqItems hTI rfl ?_)
  have kpos : 0 < ts.length := List.length_pos_iff.mpr ne
  have some_ : (itsV n ts.length).toArray.isEmpty = false := by
    rw [Bool.eq_false_iff]
    intro z
    have z : (itsV n ts.length).toArray = #[] := Array.isEmpty_iff.mp z
    have := congrArg Array.size z
    rw [List.size_toArray, itsV_len] at this
    have : ts.length = 0 := this
    omega
  simp only [some_, Bool.false_eq_true, if_false]
  show wpAny _ _ (Builtin.SmallTypes.ownedTupleIsFree (.ref (n + ts.length + 2)) >>= _) _ _ _
  have z_ne : ∀ c : Nat, c ≠ n + ts.length + 2 → (c : Addr) ≠ n + ts.length + 2 := fun _ h => h
  -- what stands once the tuple is made
  have fin_ : ∀ (f0 : Value) (f : Bool) (h1 h2 : Heap), ZnMid n ts i ts.length h1 h2 → (∀ c o, c ≠ n + ts.length + 2 → hp.get? c = some o → h1.get? c = some o) → h1.objs.size = hp.objs.size → ZipAny h2 (n + ts.length + 2) (n + ts.length) (n + ts.length + 1) f0 f → (∃ a, a.size = ts.length ∧ TupAt h2 (n + ts.length + 1) a) →
      ∀ h3, (∀ c o, c ≠ n + ts.length + 2 → h2.get? c = some o → h3.get? c = some o) → ∀ f1 f', Ow f1 → ZipAny h3 (n + ts.length + 2) (n + ts.length) (n + ts.length + 1) f1 f' → TupAt h3 hp.objs.size us.toArray → h3.objs.size = hp.objs.size + 1 → Q (.ref hp.objs.size) ⟨h3, g, d, tk0, os⟩ := fun f0 f h1 h2 m k1 s1 z2 to2 h3 k3 f1 f' o3 z3 t3 s3 => by
    refine q h3 ⟨⟨f1, f', o3, z3⟩, k3 _ _ (z_ne _ (by omega)) (m.kp _ _ (.inr (Nat.le_refl _)) (by show (n + ts.length : Nat) ≠ n + ts.length + 1; omega) (k1 _ _ (z_ne _ (by omega)) hTI)), ?_, fun j t e => ?_⟩ t3 s3 fun c o hc e => ?_
    · obtain ⟨a, sa, ha⟩ := to2
      exact ⟨a, sa, k3 _ _ (z_ne _ (by omega)) ha⟩
    · have lj := (List.getElem?_eq_some_iff.mp e).1
      exact (m.it1 j t e lj).at fun o z => k3 _ _ (z_ne _ (by omega)) z
    · refine k3 _ _ (z_ne _ (by omega)) (m.kp _ _ ?_ ?_ (k1 _ _ (z_ne _ (by omega)) e))
      · omega
      · show (c : Nat) ≠ n + ts.length + 1
        omega
  have cont : ∀ {h1 h2 : Heap} {j : Nat}, ZnMid n ts i j h1 h2 → (∀ c o, c ≠ n + ts.length + 2 → hp.get? c = some o → h1.get? c = some o) → ∀ t ∈ ts, ∀ xs, hp.IsTuple t xs → h2.IsTuple t xs := fun {h1 h2 j} m k1 t ht xs hx => by
    have key : ∀ x : Nat, x < n → x ≠ n + ts.length + 1 ∧ x ≠ n + ts.length + 2 := fun x h => by omega
    have tk := key t (lt t ht)
    exact hx.at fun o e => m.kp _ _ (.inl (lt t ht)) tk.1 (k1 _ _ tk.2 e)
  refine wpAny_bind (zn_free ow hz ?_ fun h1 hz1 same1 => ?_)
  · simp only [if_true]
    refine wpAny_bind (wpAny_rule ?_)
    refine wpAny_bind (wpAny_field hz rfl (x := .ref (n + ts.length + 1)) rfl ?_)
    refine wpAny_bind (wpAny_setField_rec hz (by simp) fun g0 hz0 hs0 => ?_)
    replace hz0 : ZipAny g0 (n + ts.length + 2) (n + ts.length) (n + ts.length + 1) .ellipsis f := hz0
    replace hs0 : Heap.SameBut (n + ts.length + 2) hp g0 := hs0
    have k1 : ∀ c o, c ≠ n + ts.length + 2 → hp.get? c = some o → g0.get? c = some o := fun c o hc e => hs0.extBut _ _ hc e
    refine wpAny_bind ?_
    refine wpAny_forIn_list _ (fun rest b s' => ∃ j, j ≤ ts.length ∧ rest = (itsV n ts.length).zipIdx.drop j ∧ b = (none, ()) ∧ ∃ h', s' = ⟨h', g, d, tk0, os⟩ ∧ ZnMid n ts i j g0 h' ∧ ∃ a, TupAt h' (n + ts.length + 1) a ∧ a.size = ts.length ∧ ∀ l, l < j → a[l]? = us[l]?) _ ?_ ?_ _ _ ?_
    · rintro x rest b s' ⟨j, jl, er, rfl, h', rfl, m, a, ta, sa, ea⟩
      by_cases hj : j < ts.length
      · rw [zipIdx_drop hj] at er
        obtain ⟨rfl, rfl⟩ := List.cons.inj er
        obtain ⟨xs, u, hxs, hxi, huj⟩ := hx j ts[j] (List.getElem?_eq_getElem hj)
        refine wpAny_bind (wpAny_onRaise ?_)
        show wpAny _ _ (Builtin.SmallTypes.nextOf (.ref (n + j)) >>= _) _ _ ⟨h', g, d, tk0, os⟩
        refine wpAny_bind (wpAny_nextOf_tuple_item (s := ⟨h', g, d, tk0, os⟩) (m.it0 j _ (List.getElem?_eq_getElem hj) (Nat.le_refl _)) (cont m k1 _ (List.getElem_mem hj) xs hxs) hxi fun h2 k2 s2 => wpAny_pure ?_)
        have s2 : Heap.SameBut (n + j) h' h2 := s2
        have ta2 : TupAt h2 (n + ts.length + 1) a := s2.extBut _ _ (by show (n + ts.length + 1 : Nat) ≠ n + j; omega) ta
        refine wpAny_bind (wpAny_seqItems (s := ⟨h2, g, d, tk0, os⟩) ta2 rfl ?_)
        refine wpAny_bind (wpAny_updateSeq (s := ⟨h2, g, d, tk0, os⟩) ta2 rfl ?_)
        have m2 := m.go (List.getElem?_eq_getElem hj) s2 k2
        refine wpAny_bind (wpAny_letGo (wpAny_pure ⟨j + 1, hj, rfl, rfl, _, rfl, m2.put (Heap.SameBut.update ..), a.setIfInBounds j u, ?_, by rw [Array.size_setIfInBounds]; exact sa, fun l hl => ?_⟩))
        · show (h2.update (n + ts.length + 1) _).get? _ = _
          rw [Heap.get?_update_self _ ta2 rfl]
          simp [Obj.mapSeq]
        · rw [Array.getElem?_setIfInBounds]
          by_cases q : j = l
          · subst q
            rw [if_pos rfl, if_pos (by omega)]
            exact huj.symm
          · rw [if_neg q]
            exact ea l (by omega)
      · rw [List.drop_eq_nil_of_le (by rw [List.length_zipIdx, itsV_len]; omega)] at er
        cases er
    · rintro b s' ⟨j, jl, er, rfl, h', rfl, m, a, ta, sa, ea⟩
      have ej : j = ts.length := by
        by_cases hj : j < ts.length
        · rw [zipIdx_drop hj] at er; cases er
        · omega
      subst ej
      have eu : a = us.toArray := by
        refine Array.ext_getElem? fun l => ?_
        by_cases hl : l < ts.length
        · rw [ea l hl]; simp
        · rw [Array.getElem?_eq_none (by omega), Array.getElem?_eq_none (by rw [List.size_toArray]; omega)]
      subst eu
      refine wpAny_bind (wpAny_seqItems (s := ⟨h', g, d, tk0, os⟩) ta rfl ?_)
      refine wpAny_bind (wpAny_newTuple (hsz := by rw [List.toList_toArray, lu]; exact hk) ?_)
      have sz : h'.objs.size = hp.objs.size := by rw [m.sz, hs0.1]
      have z' : ZipAny h' (n + ts.length + 2) (n + ts.length) (n + ts.length + 1) .ellipsis f := m.kp _ _ (.inr (by omega)) (by show (n + ts.length + 2 : Nat) ≠ n + ts.length + 1; omega) hz0
      have zlt : n + ts.length + 2 < h'.objs.size := Heap.lt_size z'
      show wpAny _ _ (Builtin.SmallTypes.ownedTupleHandOut (.ref (n + ts.length + 2)) (.ref h'.objs.size) >>= _) _ _ ⟨h'.push { cls := .type "tuple", data := .seq us.toArray.toList.toArray }, g, d, tk0, os⟩
      refine wpAny_bind ?_
      unfold Builtin.SmallTypes.ownedTupleHandOut
      rw [show us.toArray.toList.toArray = us.toArray from rfl]
      have z6 : ZipAny (h'.push { cls := .type "tuple", data := .seq us.toArray }) (n + ts.length + 2) (n + ts.length) (n + ts.length + 1) .ellipsis f := Heap.get?_push_of_some _ z'
      refine wpAny_bind (wpAny_setField_rec z6 (by simp) fun h7 z7 s7 => ?_)
      replace z7 : ZipAny h7 (n + ts.length + 2) (n + ts.length) (n + ts.length + 1) (rawInt h'.objs.size) f := z7
      refine wpAny_setField_rec z7 (by simp) fun h8 z8 s8 => ?_
      replace z8 : ZipAny h8 (n + ts.length + 2) (n + ts.length) (n + ts.length + 1) (rawInt h'.objs.size) false := z8
      replace s7 : Heap.SameBut (n + ts.length + 2) (h'.push { cls := .type "tuple", data := .seq us.toArray }) h7 := s7
      replace s8 : Heap.SameBut (n + ts.length + 2) h7 h8 := s8
      have up : ∀ c o, c ≠ n + ts.length + 2 → h'.get? c = some o → h8.get? c = some o := fun c o c1 e => s8.extBut _ _ c1 (s7.extBut _ _ c1 (Heap.get?_push_of_some _ e))
      have tn : TupAt h8 h'.objs.size us.toArray := s8.extBut _ _ (Nat.ne_of_gt zlt) (s7.extBut _ _ (Nat.ne_of_gt zlt) (Heap.get?_push_size _ rfl))
      have s9 : h8.objs.size = h'.objs.size + 1 := by rw [s8.1, s7.1, Heap.size_push]
      rw [sz] at tn s9
      refine wpAny_pure ⟨_, rfl, ?_⟩
      show Q (.ref h'.objs.size) ⟨h8, g, d, tk0, os⟩
      rw [sz] at z8 ⊢
      exact fin_ .ellipsis f g0 h' m k1 hs0.1 z' ⟨_, sa, ta⟩ h8 up _ false (.inr ⟨_, rfl⟩) z8 tn s9
    · refine ⟨0, Nat.zero_le _, rfl, rfl, g0, rfl, ⟨fun l t e hl => absurd hl (Nat.not_lt_zero _), fun l t e _ => ?_, fun c o _ _ e => e, rfl⟩, a0, k1 _ _ (z_ne _ (by omega)) hTO, sa, fun l hl => absurd hl (Nat.not_lt_zero _)⟩
      have lj := (List.getElem?_eq_some_iff.mp e).1
      exact (his l t e).at fun o z => k1 _ _ (z_ne _ (by omega)) z
  · simp only [Bool.false_eq_true, if_false]
    have hz1 : ZipAny h1 (n + ts.length + 2) (n + ts.length) (n + ts.length + 1) f0 true := hz1
    have same1 : Heap.SameBut (n + ts.length + 2) hp h1 := same1
    have k1 : ∀ c o, c ≠ n + ts.length + 2 → hp.get? c = some o → h1.get? c = some o := fun c o hc e => same1.extBut _ _ hc e
    refine wpAny_bind ?_
    rw [← Array.forIn_toList]
    refine wpAny_forIn_list _ (fun rest b s' => ∃ j, j ≤ ts.length ∧ rest = (itsV n ts.length).drop j ∧ b = (none, (us.take j).toArray) ∧ ∃ h', s' = ⟨h', g, d, tk0, os⟩ ∧ ZnMid n ts i j h1 h' ∧ TupAt h' (n + ts.length + 1) a0) _ ?_ ?_ _ _ ?_
    · rintro x rest b s' ⟨j, jl, er, rfl, h', rfl, m, to⟩
      by_cases hj : j < ts.length
      · rw [itsV_drop hj] at er
        obtain ⟨rfl, rfl⟩ := List.cons.inj er
        obtain ⟨xs, u, hxs, hxi, huj⟩ := hx j ts[j] (List.getElem?_eq_getElem hj)
        refine wpAny_bind (wpAny_holding ?_)
        show wpAny _ _ (Builtin.SmallTypes.nextOf (.ref (n + j)) >>= _) _ _ ⟨h', g, d, tk0, os⟩
        refine wpAny_bind (wpAny_nextOf_tuple_item (s := ⟨h', g, d, tk0, os⟩) (m.it0 j _ (List.getElem?_eq_getElem hj) (Nat.le_refl _)) (cont m k1 _ (List.getElem_mem hj) xs hxs) hxi fun h2 k2 s2 => wpAny_pure ?_)
        refine wpAny_pure ⟨j + 1, hj, rfl, ?_, h2, rfl, m.go (List.getElem?_eq_getElem hj) s2 k2, s2.extBut _ _ (by show (n + ts.length + 1 : Nat) ≠ n + j; omega) to⟩
        show ((none : Option Fin), (us.take j).toArray.push u) = _
        rw [List.take_add_one, huj]
        simp
      · rw [List.drop_eq_nil_of_le (by rw [itsV_len]; omega)] at er
        cases er
    · rintro b s' ⟨j, jl, er, rfl, h', rfl, m, to⟩
      have ej : j = ts.length := by
        by_cases hj : j < ts.length
        · rw [itsV_drop hj] at er; cases er
        · omega
      subst ej
      have eu : us.take ts.length = us := List.take_of_length_le (by omega)
      rw [eu]
      show wpAny _ _ (newTuple us.toArray.toList >>= _) _ _ _
      refine wpAny_bind (wpAny_newTuple (hsz := by rw [List.toList_toArray, lu]; exact hk) ?_)
      have sz : h'.objs.size = hp.objs.size := by rw [m.sz, same1.1]
      refine wpAny_pure ⟨_, rfl, ?_⟩
      show Q (.ref h'.objs.size) _
      rw [sz]
      have z' : ZipAny h' (n + ts.length + 2) (n + ts.length) (n + ts.length + 1) f0 true := m.kp _ _ (.inr (by omega)) (by show (n + ts.length + 2 : Nat) ≠ n + ts.length + 1; omega) hz1
      have up : ∀ c o, h'.get? c = some o → (h'.push { cls := .type "tuple", data := .seq us.toArray }).get? c = some o := fun c o e => Heap.get?_push_of_some _ e
      have tn : TupAt (h'.push { cls := .type "tuple", data := .seq us.toArray }) h'.objs.size us.toArray := Heap.get?_push_size _ rfl
      rw [sz] at tn
      refine fin_ f0 true h1 h' m k1 same1.1 z' ⟨a0, sa, to⟩ _ (fun c o _ e => up c o e) f0 true ow (up _ _ z') tn (by rw [Heap.size_push, sz])
    · refine ⟨0, Nat.zero_le _, rfl, by simp, h1, rfl, ⟨fun l t e hl => absurd hl (Nat.not_lt_zero _), fun l t e _ => ?_, fun c o _ _ e => e, rfl⟩, k1 _ _ (z_ne _ (by omega)) hTO⟩
      have lj := (List.getElem?_eq_some_iff.mp e).1
      exact (his l t e).at fun o z => k1 _ _ (z_ne _ (by omega)) z
end
end Pu
/-! zip over any number of tuples: its end, the zip made, the walk. -/
namespace Pu
open PySem PySem.Spec PyProof.Rows L2 Kv
section
variable {prog : Program} {w : World} {A : Around} {E : Value → Shared → Prop} {s : Shared}
theorem zn_end {n i : Nat} {ts : List Addr} {t0 : Addr} {xs : Array Value} {Q : Fin → Shared → Prop} (hh : A.handled = none) (st : ZnSt n ts i s.heap) (h0 : ts[0]? = some t0) (hx : s.heap.IsTuple t0 xs) (lt : t0 < n) (e0 : xs[i]? = none)
    (q : ∀ h' e, (∀ c o, c < n ∨ n + ts.length + 2 < c → s.heap.get? c = some o → h'.get? c = some o) → (∃ o, h'.get? e = some o ∧ o.cls = .type "StopIteration") → E (.ref e) { s with heap := h' }) :
    wpAny (model prog w) A (Builtin.«zip.__next__» ⟨[.ref (n + ts.length + 2)], []⟩) Q E s := by
  obtain ⟨hp, g, d, tk0, os⟩ := s
  obtain ⟨⟨f0, f, ow, hz⟩, hTI, ⟨a0, sa, hTO⟩, his⟩ := st
  have hz : ZipAny hp (n + ts.length + 2) (n + ts.length) (n + ts.length + 1) f0 f := hz
  have hTI : TupAt hp (n + ts.length) (itsV n ts.length).toArray := hTI
  have hx : hp.IsTuple t0 xs := hx
  have kpos : 0 < ts.length := (List.getElem?_eq_some_iff.mp h0).1
  have it0 : hp.IsTupleIter (n + 0) t0 i := his 0 t0 h0
  show wpAny _ _ (field (.ref (n + ts.length + 2)) 2 >>= _) _ _ _
  refine wpAny_bind (wpAny_field hz rfl (x := .bool false) rfl ?_)
  show wpAny _ _ (field (.ref (n + ts.length + 2)) 3 >>= _) _ _ _
  refine wpAny_bind (wpAny_field hz rfl (x := .ref (n + ts.length)) rfl ?_)
  refine wpAny_bind (wpAny_seqItems hTI rfl ?_)
  obtain ⟨r, er⟩ : ∃ r, itsV n ts.length = .ref (n + 0) :: r := ⟨_, (List.drop_zero).symm.trans (itsV_drop kpos)⟩
  rw [er]
  have some_ : (Value.ref (n + 0) :: r).toArray.isEmpty = false := by
    rw [Bool.eq_false_iff]
    intro z
    have := congrArg Array.size (Array.isEmpty_iff.mp z)
    rw [List.size_toArray, List.length_cons] at this
    have : r.length + 1 = 0 := this
    omega
  simp only [some_, Bool.false_eq_true, if_false]
  show wpAny _ _ (Builtin.SmallTypes.ownedTupleIsFree (.ref (n + ts.length + 2)) >>= _) _ _ _
  have key : ∀ x : Nat, x < n → x ≠ n + ts.length + 2 ∧ x ≠ n + 0 := fun x h => by omega
  have kt := key t0 lt
  have iz : (n + 0 : Nat) ≠ n + ts.length + 2 := by omega
  have kc : ∀ x : Nat, x < n ∨ n + ts.length + 2 < x → x ≠ n + ts.length + 2 ∧ x ≠ n + 0 := fun x h => by omega
  refine wpAny_bind (zn_free ow hz ?_ fun h1 hz1 same1 => ?_)
  · simp only [if_true]
    refine wpAny_bind (wpAny_rule ?_)
    refine wpAny_bind (wpAny_field hz rfl (x := .ref (n + ts.length + 1)) rfl ?_)
    refine wpAny_bind (wpAny_setField_rec hz (by simp) fun g0 hz0 hs0 => ?_)
    replace hz0 : ZipAny g0 (n + ts.length + 2) (n + ts.length) (n + ts.length + 1) .ellipsis f := hz0
    replace hs0 : Heap.SameBut (n + ts.length + 2) hp g0 := hs0
    refine wpAny_bind ?_
    simp only [List.zipIdx_cons, List.forIn_cons]
    refine wpAny_bind (wpAny_bind (wpAny_onRaise ?_))
    show wpAny _ _ (Builtin.SmallTypes.nextOf (.ref (n + 0)) >>= _) _ _ ⟨g0, g, d, tk0, os⟩
    refine wpAny_bind (wpAny_nextOf_tuple_end (s := ⟨g0, g, d, tk0, os⟩) hh (it0.at fun o z => hs0.extBut _ _ iz z) (hx.at fun o z => hs0.extBut _ _ kt.1 z) e0 fun q' e hq he => ?_)
    replace hq : Heap.ExtBut (n + 0) g0 q' := hq
    obtain ⟨oe, hoe, hce⟩ := he
    replace hoe : q'.get? e = some oe := hoe
    have hzq : ZipAny q' (n + ts.length + 2) (n + ts.length) (n + ts.length + 1) .ellipsis f := hq _ _ (Ne.symm iz) hz0
    have hez : e ≠ n + ts.length + 2 := fun x => by
      have x : e = n + ts.length + 2 := x
      subst x
      rw [hzq] at hoe
      cases hoe
      simp at hce
    refine wpAny_setField_rec (s := ⟨q', g, d, tk0, os⟩) hzq (by simp) fun q2 _ hq2 => ?_
    replace hq2 : Heap.SameBut (n + ts.length + 2) q' q2 := hq2
    exact q q2 e (fun c o hc x => hq2.extBut _ _ (kc c hc).1 (hq _ _ (kc c hc).2 (hs0.extBut _ _ (kc c hc).1 x))) ⟨oe, hq2.extBut _ _ hez hoe, hce⟩
  · simp only [Bool.false_eq_true, if_false]
    have same1 : Heap.SameBut (n + ts.length + 2) hp h1 := same1
    refine wpAny_bind ?_
    rw [← Array.forIn_toList]
    simp only [List.toList_toArray, List.forIn_cons]
    refine wpAny_bind (wpAny_bind (wpAny_holding ?_))
    show wpAny _ _ (Builtin.SmallTypes.nextOf (.ref (n + 0)) >>= _) _ _ ⟨h1, g, d, tk0, os⟩
    refine wpAny_bind (wpAny_nextOf_tuple_end (s := ⟨h1, g, d, tk0, os⟩) hh (it0.at fun o z => same1.extBut _ _ iz z) (hx.at fun o z => same1.extBut _ _ kt.1 z) e0 fun q' e hq he => ?_)
    exact q q' e (fun c o hc x => hq _ _ (kc c hc).2 (same1.extBut _ _ (kc c hc).1 x)) he
theorem zn_next {n i : Nat} {ts : List Addr} {us : List Value} {Q : Option Value → Shared → Prop} (st : ZnSt n ts i s.heap) (ne : ts ≠ []) (lt : ∀ t ∈ ts, t < n) (lu : us.length = ts.length) (hk : ts.length ≤ sizeLine)
    (hx : ∀ (j : Nat) (t : Addr), ts[j]? = some t → ∃ xs u, s.heap.IsTuple t xs ∧ xs[i]? = some u ∧ us[j]? = some u)
    (q : ∀ h', ZnSt n ts (i + 1) h' → TupAt h' s.heap.objs.size us.toArray → h'.objs.size = s.heap.objs.size + 1 → (∀ c o, c < n ∨ n + ts.length + 2 < c → s.heap.get? c = some o → h'.get? c = some o) → Q (some (.ref s.heap.objs.size)) { s with heap := h' }) :
    wpAny (model prog w) A (pyNext (.ref (n + ts.length + 2))) Q E s := by
  obtain ⟨f0, f, _, hz⟩ := id st.z
  have ty : s.TypeIs (.ref (n + ts.length + 2)) "zip" := ⟨_, hz, rfl⟩
  unfold pyNext
  refine wpAny_bind (wpAny_attempt (wpAny_callSpecial?_slot (name := Str.ofString "__next__") ty F.slot_zip_next (wpAny_call_entry F.slot_zip_next ty F.entry_zip_next ?_ (F.args_zip_next_1 _))))
  exact zn_item st ne lt lu hk hx fun h' a1 a2 a3 a4 => wpAny_pure (q h' a1 a2 a3 a4)
theorem zn_stop {n i : Nat} {ts : List Addr} {t0 : Addr} {xs : Array Value} {Q : Option Value → Shared → Prop} (hh : A.in1.handled = none) (st : ZnSt n ts i s.heap) (h0 : ts[0]? = some t0) (hx : s.heap.IsTuple t0 xs) (lt : t0 < n) (e0 : xs[i]? = none)
    (q : ∀ h', (∀ c o, c < n ∨ n + ts.length + 2 < c → s.heap.get? c = some o → h'.get? c = some o) → Q none { s with heap := h' }) : wpAny (model prog w) A (pyNext (.ref (n + ts.length + 2))) Q E s := by
  obtain ⟨f0, f, _, hz⟩ := id st.z
  have ty : s.TypeIs (.ref (n + ts.length + 2)) "zip" := ⟨_, hz, rfl⟩
  unfold pyNext
  refine wpAny_bind (wpAny_attempt (wpAny_callSpecial?_slot (name := Str.ofString "__next__") ty F.slot_zip_next (wpAny_call_entry F.slot_zip_next ty F.entry_zip_next (zn_end hh st h0 hx lt e0 fun h' e hk he => ?_) (F.args_zip_next_1 _))))
  obtain ⟨o, ho, hc⟩ := he
  exact wpAny_bind (wpAny_isInstance (T := "StopIteration") (b := true) ⟨o, ho, hc⟩ isSubtype_stop (wpAny_pure (q _ hk)))
theorem zn_iter {z TI TO : Addr} {f0 : Value} {f : Bool} {Q : Value → Shared → Prop} (hz : ZipAny s.heap z TI TO f0 f) (h : Q (.ref z) s) : wpAny (model prog w) A (pyIter (.ref z)) Q E s := by
  have hT : s.TypeIs (.ref z) "zip" := ⟨_, hz, rfl⟩
  refine wpAny_pyIter_slot hT F.slot_zip_iter (wpAny_call_entry F.slot_zip_iter hT F.entry_zip_iter ?_ (F.args_zip_iter_1 _))
  show wpAny _ _ (PySem.ret (Value.ref z)) _ _ s
  exact wpAny_pure ⟨_, rfl, "zip", _, hT, F.slot_zip_next.lookup, h⟩
end
/-! the zip is made -/
def tupIt (t : Addr) : Obj := { cls := .type "tuple_iterator", data := .fields #[.ref t, .int 0 0] }
def pushIts : Heap → List Addr → Heap
  | h, [] => h
  | h, t :: ts => pushIts (h.push (tupIt t)) ts
theorem pushIts_size : ∀ (ts : List Addr) (h : Heap), (pushIts h ts).objs.size = h.objs.size + ts.length
  | [], _ => rfl
  | t :: ts, h => by
    show (pushIts (h.push (tupIt t)) ts).objs.size = _
    rw [pushIts_size ts, Heap.size_push, List.length_cons]
    omega
theorem pushIts_old : ∀ (ts : List Addr) (h : Heap) (c : Addr) (o : Obj), h.get? c = some o → (pushIts h ts).get? c = some o
  | [], _, _, _, e => e
  | t :: ts, h, c, o, e => pushIts_old ts _ c o (Heap.get?_push_of_some _ e)
theorem pushIts_at : ∀ (ts : List Addr) (h : Heap) (j : Nat) (t : Addr), ts[j]? = some t → (pushIts h ts).get? (h.objs.size + j) = some (tupIt t)
  | [], _, _, _, e => by cases e
  | u :: ts, h, 0, t, e => by
    cases e
    exact pushIts_old ts _ _ _ (Heap.get?_push_size _ rfl)
  | u :: ts, h, j + 1, t, e => by
    have := pushIts_at ts (h.push (tupIt u)) j t (by simpa using e)
    rw [Heap.size_push] at this
    rw [show h.objs.size + (j + 1) = h.objs.size + 1 + j by omega]
    exact this
def bornN1 (h : Heap) (ts : List Addr) : Heap := (pushIts h ts).push { cls := .type "tuple", data := .seq (itsV h.objs.size ts.length).toArray }
def bornN2 (h : Heap) (ts : List Addr) : Heap := (bornN1 h ts).push { cls := .type "tuple", data := .seq ((itsV h.objs.size ts.length).map fun _ => Value.none).toArray }
def bornN (h : Heap) (ts : List Addr) : Heap := (bornN2 h ts).push { cls := .type "zip", data := .fields #[.none, .bool false, .bool false, .ref (pushIts h ts).objs.size, .ref (bornN1 h ts).objs.size] }
theorem newClass_zip (us : List Value) : Builtin.SmallTypes.newClass "zip" ⟨.type "zip" :: us, []⟩ = pure (.type "zip", us) := by
  unfold Builtin.SmallTypes.newClass
  simp only [isType, sub_zip, pure_bind, Bool.not_true, Bool.false_eq_true, if_false]
theorem zn_iters {prog : Program} {w : World} {A : Around} {E : Value → Shared → Prop} (ts : List Addr) (s : Shared) (Q : List Value → Shared → Prop) (hx : ∀ t ∈ ts, ∃ xs, s.heap.IsTuple t xs)
    (q : Q (itsV s.heap.objs.size ts.length) { s with heap := pushIts s.heap ts }) : wpAny (model prog w) A (Builtin.SmallTypes.iterAll (ts.map Value.ref)) Q E s := by
  unfold Builtin.SmallTypes.iterAll
  refine wpAny_bind ?_
  obtain ⟨hp, g, d, tk, os⟩ := s
  refine wpAny_forIn_list _ (fun rest b s' => ∃ j, j ≤ ts.length ∧ rest = (ts.map Value.ref).drop j ∧ b = (itsV hp.objs.size j).toArray ∧ s' = ⟨pushIts hp (ts.take j), g, d, tk, os⟩) _ ?_ ?_ _ _ ?_
  · rintro x rest b s' ⟨j, jl, er, rfl, rfl⟩
    by_cases hj : j < ts.length
    · rw [List.drop_eq_getElem_cons (by rw [List.length_map]; exact hj), List.getElem_map] at er
      obtain ⟨rfl, rfl⟩ := List.cons.inj er
      obtain ⟨xs, hxs⟩ := hx ts[j] (List.getElem_mem hj)
      have hxs : hp.IsTuple ts[j] xs := hxs
      refine wpAny_bind (wpAny_holding (wpAny_pyIter_tuple (s := ⟨pushIts hp (ts.take j), g, d, tk, os⟩) (hxs.at fun o e => pushIts_old _ _ _ _ e) ?_))
      refine wpAny_pure ⟨j + 1, hj, rfl, ?_, ?_⟩
      · show (itsV hp.objs.size j).toArray.push (.ref (pushIts hp (ts.take j)).objs.size) = _
        rw [pushIts_size, List.length_take, Nat.min_eq_left jl]
        unfold itsV
        rw [List.range_succ]
        simp
      · have : ∀ (as : List Addr) (h : Heap) (t : Addr), pushIts h (as ++ [t]) = (pushIts h as).push (tupIt t) := fun as => by
          induction as with
          | nil => intro h t; rfl
          | cons a as ih => intro h t; exact ih _ t
        rw [List.take_add_one, List.getElem?_eq_getElem hj]
        show _ = Shared.mk (pushIts hp (ts.take j ++ [ts[j]])) g d tk os
        rw [this]
        rfl
    · rw [List.drop_eq_nil_of_le (by rw [List.length_map]; omega)] at er
      cases er
  · rintro b s' ⟨j, jl, er, rfl, rfl⟩
    have ej : j = ts.length := by
      by_cases hj : j < ts.length
      · rw [List.drop_eq_getElem_cons (by rw [List.length_map]; exact hj)] at er; cases er
      · omega
    subst ej
    rw [List.take_length]
    exact wpAny_pure q
  · exact ⟨0, Nat.zero_le _, rfl, rfl, rfl⟩
theorem meets_zipN (ts : List Addr) (hk : ts.length ≤ sizeLine) : Meets (Builtin.«zip.__new__» ⟨.type "zip" :: ts.map Value.ref, []⟩) (fun _ R s => (∀ t ∈ ts, ∃ xs, s.heap.IsTuple t xs) ∧ R (.ok (.ret (.ref (bornN2 s.heap ts).objs.size))) { s with heap := bornN s.heap ts }) :=
  .of_wp fun prog w A R s h => by
    obtain ⟨hx, h⟩ := h
    unfold Builtin.«zip.__new__»
    refine wpAny_bind (wpAny_of_eq (newClass_zip _) ?_)
    dsimp only
    rw [if_neg (by decide)]
    refine wpAny_bind (zn_iters ts s _ hx ?_)
    refine wpAny_bind (wpAny_newTuple (hsz := by rw [itsV_len]; exact hk) ?_)
    refine wpAny_bind (wpAny_newTuple (hsz := by rw [List.length_map, itsV_len]; exact hk) ?_)
    refine wpAny_bind ?_
    show wpAny _ _ (newObj (.type "zip") (.fields #[.none, .bool false, .bool false, .ref (pushIts s.heap ts).objs.size, .ref (bornN1 s.heap ts).objs.size])) _ _ _
    refine wpAny_newObj_type ?_
    exact wpAny_pure ⟨_, rfl, h⟩
theorem bornN_st {h : Heap} {ts : List Addr} : ZnSt h.objs.size ts 0 (bornN h ts) := by
  have s0 : (pushIts h ts).objs.size = h.objs.size + ts.length := pushIts_size ts h
  have s1 : (bornN1 h ts).objs.size = h.objs.size + ts.length + 1 := by unfold bornN1; rw [Heap.size_push, s0]
  have s2 : (bornN2 h ts).objs.size = h.objs.size + ts.length + 2 := by unfold bornN2; rw [Heap.size_push, s1]
  have gz : (bornN h ts).get? (bornN2 h ts).objs.size = some { cls := .type "zip", data := .fields #[.none, .bool false, .bool false, .ref (pushIts h ts).objs.size, .ref (bornN1 h ts).objs.size] } := Heap.get?_push_size _ rfl
  have go : (bornN h ts).get? (bornN1 h ts).objs.size = some { cls := .type "tuple", data := .seq ((itsV h.objs.size ts.length).map fun _ => Value.none).toArray } := Heap.get?_push_of_some _ (Heap.get?_push_size _ rfl)
  have gi : (bornN h ts).get? (pushIts h ts).objs.size = some { cls := .type "tuple", data := .seq (itsV h.objs.size ts.length).toArray } := Heap.get?_push_of_some _ (Heap.get?_push_of_some _ (Heap.get?_push_size _ rfl))
  rw [s2, s1, s0] at gz
  rw [s1] at go
  rw [s0] at gi
  refine ⟨⟨.none, false, .inl rfl, gz⟩, gi, ⟨_, ?_, go⟩, fun j t e => ⟨tupIt t, ?_, rfl, rfl⟩⟩
  · rw [List.size_toArray, List.length_map, itsV_len]
  · exact Heap.get?_push_of_some _ (Heap.get?_push_of_some _ (Heap.get?_push_of_some _ (pushIts_at ts h j t e)))
theorem bornN_old {h : Heap} {ts : List Addr} {c : Addr} {o : Obj} (e : h.get? c = some o) : (bornN h ts).get? c = some o := Heap.get?_push_of_some _ (Heap.get?_push_of_some _ (Heap.get?_push_of_some _ (pushIts_old ts h c o e)))
theorem tc_zip : ∀ us : List Value, 1 ≤ us.length → us.length ≤ 8 → checkTypeCall "zip" ⟨us, []⟩ = pure ()
  | [], h, _ => absurd h (by decide)
  | [_], _, _ => by kernel_rfl
  | [_, _], _, _ => by kernel_rfl
  | [_, _, _], _, _ => by kernel_rfl
  | [_, _, _, _], _, _ => by kernel_rfl
  | [_, _, _, _, _], _, _ => by kernel_rfl
  | [_, _, _, _, _, _], _, _ => by kernel_rfl
  | [_, _, _, _, _, _, _], _, _ => by kernel_rfl
  | [_, _, _, _, _, _, _, _], _, _ => by kernel_rfl
  | _ :: _ :: _ :: _ :: _ :: _ :: _ :: _ :: _ :: _, _, h => absurd h (by simp [List.length_cons])
theorem nc_zip : ∀ us : List Value, 1 ≤ us.length → us.length ≤ 8 → checkBuiltinCall "zip.__new__" ⟨.type "zip" :: us, []⟩ = pure ()
  | [], h, _ => absurd h (by decide)
  | [_], _, _ => by kernel_rfl
  | [_, _], _, _ => by kernel_rfl
  | [_, _, _], _, _ => by kernel_rfl
  | [_, _, _, _], _, _ => by kernel_rfl
  | [_, _, _, _, _], _, _ => by kernel_rfl
  | [_, _, _, _, _, _], _, _ => by kernel_rfl
  | [_, _, _, _, _, _, _], _, _ => by kernel_rfl
  | [_, _, _, _, _, _, _, _], _, _ => by kernel_rfl
  | _ :: _ :: _ :: _ :: _ :: _ :: _ :: _ :: _ :: _, _, h => absurd h (by simp [List.length_cons])
theorem ai_zip (obj : Value) : ∀ us : List Value, 1 ≤ us.length → us.length ≤ 8 → argsOk "object.__init__" ⟨obj :: us, []⟩
  | [], h, _ => absurd h (by decide)
  | [_], _, _ => by unfold argsOk; kernel_rfl
  | [_, _], _, _ => by unfold argsOk; kernel_rfl
  | [_, _, _], _, _ => by unfold argsOk; kernel_rfl
  | [_, _, _, _], _, _ => by unfold argsOk; kernel_rfl
  | [_, _, _, _, _], _, _ => by unfold argsOk; kernel_rfl
  | [_, _, _, _, _, _], _, _ => by unfold argsOk; kernel_rfl
  | [_, _, _, _, _, _, _], _, _ => by unfold argsOk; kernel_rfl
  | [_, _, _, _, _, _, _, _], _, _ => by unfold argsOk; kernel_rfl
  | _ :: _ :: _ :: _ :: _ :: _ :: _ :: _ :: _ :: _, _, h => absurd h (by simp [List.length_cons])
theorem zn_call {prog : Program} {w : World} {A : Around} {E : Value → Shared → Prop} {s : Shared} {Q : Value → Shared → Prop} {ts : List Addr} (k1 : 1 ≤ ts.length) (k8 : ts.length ≤ 8) (hx : ∀ t ∈ ts, ∃ xs, s.heap.IsTuple t xs)
    (q : Q (.ref (s.heap.objs.size + ts.length + 2)) { s with heap := bornN s.heap ts }) : wpAny (model prog w) A (call (.type "zip") (ts.map Value.ref)) Q E s := by
  have l1 : 1 ≤ (ts.map Value.ref).length := by rw [List.length_map]; exact k1
  have l8 : (ts.map Value.ref).length ≤ 8 := by rw [List.length_map]; exact k8
  have hk : ts.length ≤ sizeLine := Nat.le_trans k8 (by decide)
  refine callType_new F.called_zip (by decide) (tc_zip _ l1 l8) (nc_zip _ l1 l8) (fun obj => ai_zip obj _ l1 l8) F.entry_zip_new (meets_zipN ts hk) ⟨hx, ?_⟩
  have e : (bornN2 s.heap ts).objs.size = s.heap.objs.size + ts.length + 2 := by unfold bornN2 bornN1; rw [Heap.size_push, Heap.size_push, pushIts_size]
  show _ ∧ _
  rw [e]
  obtain ⟨f0, f, _, z⟩ := (bornN_st (h := s.heap) (ts := ts)).z
  exact ⟨⟨_, z, rfl⟩, q⟩
theorem callWith_typeS {M : Model} {A : Around} {E : Value → Shared → Prop} {s : Shared} {env : Env} {pos : Pos} {T : String} {e : Expr} {rest : List Expr} {Q : Value → Shared → Prop}
    (h : wpAny M A (spliced (backTo pos (starEach (e :: rest) env))) (fun vs s₁ => wpAny M A (call (.type T) vs) Q E s₁) E s)
    (he : starEach (e :: rest) env = (false, eval e env) :: starEach rest env := by rfl) (hst : (backTo pos (starEach rest env)).any (·.1) = true := by rfl) :
    wpAny M A (callWith pos (.type T) [] (backTo pos (starEach (e :: rest) env)) []) Q E s := by
  rw [he] at h ⊢
  have h2 : wpAny M A (spliced (backTo pos ((false, eval e env) :: starEach rest env))) (fun vs s₁ => True ∧ wpAny M A (call (.type T) ([] ++ vs) []) Q E s₁) E s := wpAny_mono h (fun vs s1 x => ⟨trivial, x⟩) fun _ _ x => x
  exact PySem.W.ks_call (P := fun _ => True) (by show (false || (backTo pos (starEach rest env)).any (·.1)) = true; rw [hst]; rfl) (fun h _ => ⟨.machine, .inr (.inl rfl), PySem.W.Looks.of_pure rfl⟩) (PySem.Calls.evalArgs_plain h2)
end Pu
/-! zip(first, *others) walked by one name, in the tree world. -/
namespace Pu
open PySem PySem.Spec PyProof.Rows L2 Kv
def cellsN (n k : Nat) : List Addr := (List.range (k + 3)).map fun j => n + j
theorem cellsN_of {n k c : Nat} (h : (c : Addr) ∈ cellsN n k) : n ≤ c ∧ c ≤ n + k + 2 := by
  obtain ⟨j, hj, e⟩ := List.mem_map.mp h
  have e : n + j = c := e
  have := List.mem_range.mp hj
  omega
theorem cellsN_in {n k c : Nat} (h : n ≤ c) (h2 : c ≤ n + k + 2) : (c : Addr) ∈ cellsN n k := List.mem_map.mpr ⟨c - n, List.mem_range.mpr (by omega), by show n + (c - n) = c; omega⟩
theorem cellsN_out {n k c : Nat} (h : (c : Addr) ∉ cellsN n k) : c < n ∨ n + k + 2 < c := by
  by_cases q : c < n
  · exact .inl q
  · by_cases r : n + k + 2 < c
    · exact .inr r
    · exact absurd (cellsN_in (by omega) (by omega)) h
theorem cellsN_cases {n k c : Nat} (h : (c : Addr) ∈ cellsN n k) : (∃ j : Nat, j < k ∧ c = n + j) ∨ c = n + k ∨ c = n + k + 1 ∨ c = n + k + 2 := by
  have := cellsN_of h
  by_cases q : c < n + k
  · exact .inl ⟨c - n, by omega, by omega⟩
  · omega
def ItN (K : PySem.W.Frag) (ts : List Addr) : It where
  go := fun i H => ∀ t ∈ ts, ∃ (xs : List V) (x : V), SqT K H t xs ∧ xs[i]? = some x
  yld := fun i H v H' => ∃ T ys, v = .ref T ∧ H T = none ∧ H' = upd H T (.tup ys) ∧ ys.length = ts.length ∧ ∀ (j : Nat) (t : Addr) (xs : List V), ts[j]? = some t → SqT K H t xs → ∃ y, ys[j]? = some y ∧ xs[i]? = some y
  stop := fun i H => ∃ (t : Addr) (xs : List V), ts[0]? = some t ∧ SqT K H t xs ∧ xs.length ≤ i
theorem gather {P : Addr → V → Value → Prop} : ∀ ts : List Addr, (∀ t ∈ ts, ∃ v u, RelV v u ∧ P t v u) → ∃ vs us, Vals vs us ∧ vs.length = ts.length ∧ ∀ (j : Nat) (t : Addr), ts[j]? = some t → ∃ v u, vs[j]? = some v ∧ us[j]? = some u ∧ P t v u
  | [], _ => ⟨[], [], .nil, rfl, fun _ _ e => by cases e⟩
  | t :: ts, h => by
    obtain ⟨v, u, r, p⟩ := h t (List.mem_cons_self ..)
    obtain ⟨vs, us, rs, l, k⟩ := gather ts fun t ht => h t (List.mem_cons_of_mem _ ht)
    refine ⟨v :: vs, u :: us, .cons r rs, by rw [List.length_cons, List.length_cons, l], fun j t' e => ?_⟩
    cases j with
    | zero => cases e; exact ⟨v, u, rfl, rfl, p⟩
    | succ j =>
      obtain ⟨v', u', e1, e2, e3⟩ := k j t' (by simpa using e)
      exact ⟨v', u', by simpa using e1, by simpa using e2, e3⟩
theorem turn_zipN {P' : Program} {w : World} {K : PySem.W.Frag} {x : Str} {tpos : Pos} {n : Nat} {ts : List Addr} (ne : ts ≠ []) (k8 : ts.length ≤ 8) (lt : ∀ t ∈ ts, t < n) : Turn P' w K (.Name x tpos) (ItN K ts) (cellsN n ts.length) (n + ts.length + 2) (ZnSt n ts) where
  mem := cellsN_in (by omega) (Nat.le_refl _)
  obj := fun i h st c hc => by
    obtain ⟨⟨f0, f, _, hz⟩, hI, ⟨a, _, hO⟩, hit⟩ := st
    rcases cellsN_cases hc with ⟨j, hj, rfl⟩ | rfl | rfl | rfl
    · obtain ⟨o, e1, _, d1⟩ := hit j ts[j] (List.getElem?_eq_getElem hj)
      exact ⟨o, e1, fun v z => by rw [d1] at z; cases z⟩
    · exact ⟨_, hI, fun v z => by cases z⟩
    · exact ⟨_, hO, fun v z => by cases z⟩
    · exact ⟨_, hz, fun v z => by cases z⟩
  keep := fun i h h' st k => by
    obtain ⟨⟨f0, f, o, hz⟩, hI, ⟨a, sa, hO⟩, hit⟩ := st
    refine ⟨⟨f0, f, o, k _ (cellsN_in (by omega) (by omega)) _ hz⟩, k _ (cellsN_in (by omega) (by omega)) _ hI, ⟨a, sa, k _ (cellsN_in (by omega) (by omega)) _ hO⟩, fun j t e => ?_⟩
    have := (List.getElem?_eq_some_iff.mp e).1
    exact (hit j t e).at fun o z => k _ (cellsN_in (by omega) (by omega)) o z
  item := fun X hP hw hK hc i pins s σ H E I free st go => by
    subst hP hw hK
    obtain ⟨vs, us, rel, lv, at_⟩ := gather (P := fun t v u => ∃ (xs : List V) (as : List Value), SqT X.K H t xs ∧ xs[i]? = some v ∧ s.heap.IsTuple t as.toArray ∧ as[i]? = some u) ts fun t ht => by
      obtain ⟨xs, x, q, gx⟩ := go t ht
      obtain ⟨as, rv, lu, _⟩ := I.tuple q
      obtain ⟨u, eu, r⟩ := rv.get gx
      exact ⟨x, u, r, xs, as, q, gx, lu, eu⟩
    have lu : us.length = ts.length := by rw [← lv]; exact rel.length.symm
    refine zn_next st ne lt lu (Nat.le_trans k8 (by decide)) (fun j t e => ?_) fun h' st' new size keep => ⟨_, rfl, ?_⟩
    · obtain ⟨v, u, _, e2, xs, as, _, _, a3, a4⟩ := at_ j t e
      exact ⟨as.toArray, u, a3, by simpa using a4, e2⟩
    show wpAny _ _ (pure ()) _ _ _
    refine wpAny_pure ?_
    have laid : ObjOk X.prog X.w (upd H s.heap.objs.size (.tup vs)) h' s.heap.objs.size (.tup vs) := ⟨by rw [lv]; exact Nat.le_trans k8 (by decide), us, rel, ⟨_, new, rfl, _, rfl⟩⟩
    have J := I.turnedNew (t' := s.toks) (ch := cellsN n ts.length) (h' := h') (fun c o out q => keep c o (cellsN_out out) q) free (Nat.le_refl _) laid
    obtain ⟨f0, f, _, hz⟩ := st.z
    have zl : n + ts.length + 2 < s.heap.objs.size := Heap.lt_size hz
    refine ⟨.ref s.heap.objs.size, _, J, rfl, ⟨_, vs, rfl, I.hok.fresh (Nat.le_refl _), rfl, lv, fun j t xs e q => ?_⟩, st', fun c hm => ?_⟩
    · obtain ⟨v, u, e1, _, xs', as, q', gx, _, _⟩ := at_ j t e
      rw [I.tuple_inj q q']
      exact ⟨v, e1, gx⟩
    · have := cellsN_of hm
      rw [upd_ne (ne_lt (by omega))]
      exact (free c hm).1
  done := fun X hP hw hK hc i pins s σ H E I free st ⟨t, xs, e0, q, hi⟩ => by
    subst hP hw hK
    obtain ⟨as, rv, lu, _⟩ := I.tuple q
    have quiet : X.A.in1.handled = none := I.ok.hd hc
    have la : as.length = xs.length := rv.length.symm
    refine zn_stop quiet st e0 lu (lt t (List.mem_of_getElem? e0)) (Array.getElem?_eq_none (by rw [List.size_toArray]; omega)) fun h' keep => ⟨rfl, ?_⟩
    exact I.turnedL (t' := s.toks) (ch := cellsN n ts.length) (fun c o out q => keep c o (cellsN_out out) q) free
  self := fun A i s Q E st h => by
    obtain ⟨f0, f, _, hz⟩ := st.z
    exact zn_iter hz h
section
variable {X : Cx} {g : Gx} {E : Wx} {a b : Expr} {p pos tpos sp : Pos} {x : Str}
def iZipN (K : PySem.W.Frag) (ta : TA) : TI := fun σ H R => ta σ H fun vs H1 => ∃ ts : List Addr, vs = ts.map V.ref ∧ ts ≠ [] ∧ ts.length ≤ 8 ∧ (∀ t ∈ ts, ∃ xs, SqT K H1 t xs) ∧ R (ItN K ts) H1
theorem vals_refs_of : ∀ {ts : List Addr} {us : List Value}, Vals (ts.map V.ref) us → us = ts.map Value.ref
  | [], _, .nil => rfl
  | t :: ts, _, .cons r rs => by
    cases r
    rw [vals_refs_of rs]
    rfl
theorem pi_zipN {ta : TA} (hg : Gl X "zip") (hm : X.mg "zip" = none) (ha : PA X [a, .Starred b sp] ta) (he : starEach [a, .Starred b sp] X.env = (false, eval a X.env) :: starEach [.Starred b sp] X.env := by rfl) :
    PI X (.Name x tpos) (.Call (.Name "zip" p) [a, .Starred b sp] [] pos) (iZipN X.K ta) := ⟨fun pins s σ H R I asked => by
  refine Call_ (ld_blt I hg hm PyProof.Rows.boot_zip (callWith_typeS (thn (ha.run pos pins s σ H _ I asked) fun us s1 got => ?_) he))
  obtain ⟨_, H1, I1, r1, ts, rfl, ne, k8, qs, k⟩ := got
  obtain rfl := vals_refs_of r1
  have hx : ∀ t ∈ ts, ∃ xs, s1.heap.IsTuple t xs := fun t ht => by
    obtain ⟨xs, q⟩ := qs t ht
    obtain ⟨as, _, lu, _⟩ := I1.tuple q
    exact ⟨_, lu⟩
  refine zn_call (List.length_pos_iff.mpr ne) k8 hx ?_
  obtain ⟨f0, f, _, hz⟩ := (bornN_st (h := s1.heap) (ts := ts)).z
  refine zn_iter hz ?_
  have I2 : Inv X pins σ H1 { s1 with heap := bornN s1.heap ts } := I1.kept (t' := s1.toks) fun b o e => bornN_old e
  exact ⟨s1.heap.objs.size + ts.length + 2, cellsN s1.heap.objs.size ts.length, _, _, H1, rfl, I2, turn_zipN ne k8 (fun t ht => by obtain ⟨xs, o, ho, _⟩ := hx t ht; exact Heap.lt_size ho), bornN_st, fun c hm => I1.fpOk (cellsN_of hm).1 (I1.hok.fresh (cellsN_of hm).1), k⟩⟩
end
/-! ### in the tree world -/
def tupU : D → Option (List D)
  | .tup xs => some xs
  | .ftup xs => some xs
  | _ => none
def tupsD : List D → Option (List (List D))
  | [] => some []
  | d :: ds => match tupU d, tupsD ds with
    | some xs, some xss => some (xs :: xss)
    | _, _ => none
def colD (xss : List (List D)) (i : Nat) : D := .tup (xss.map fun xs => (xs[i]?).getD (.tup []))
def zipN (ds : List D) : Option (List D) := match tupsD ds with
  | some (xs :: xss) => if xss.length ≤ 7 ∧ (∀ ys ∈ xss, ys.length = xs.length) then some ((List.range xs.length).map (colD (xs :: xss))) else none
  | _ => none
theorem reps_pt {K : PySem.W.Frag} {ok : Addr → Prop} {H : Hp} : ∀ {ys : List V} {ds : List D}, ys.length = ds.length → (∀ (j : Nat) (y : V) (d : D), ys[j]? = some y → ds[j]? = some d → Rep K ok H y d) → Reps K ok H ys ds
  | [], [], _, _ => .nil
  | y :: ys, d :: ds, e, h => .cons (h 0 y d rfl rfl) (reps_pt (by simpa using e) fun j y d h1 h2 => h (j + 1) y d (by simpa using h1) (by simpa using h2))
  | [], _ :: _, e, _ => by cases e
  | _ :: _, [], e, _ => by cases e
theorem rep_tupU {K : PySem.W.Frag} {ok : Addr → Prop} {H : Hp} {v : V} {d : D} {zs : List D} (r : Rep K ok H v d) (e : tupU d = some zs) : ∃ q, v = .ref q ∧ (∃ us, SqT K H q us) ∧ ∀ ok2 H2, Fr ok H ok2 H2 → ∃ vs, SqT K H2 q vs ∧ Reps K ok2 H2 vs zs := by
  cases r with
  | tupO hh t => cases e; exact ⟨_, rfl, ⟨_, hh.sq⟩, fun ok2 H2 f2 => ⟨_, (f2.tpO hh).sq, t.fr f2⟩⟩
  | tupF hh t => cases e; exact ⟨_, rfl, ⟨_, hh.sq⟩, fun ok2 H2 f2 => ⟨_, (f2.fzT hh).sq, t.fr f2⟩⟩
  | _ => cases e
theorem reps_tupsD {K : PySem.W.Frag} {ok : Addr → Prop} {H : Hp} : ∀ {vs : List V} {ds : List D} {xss : List (List D)}, Reps K ok H vs ds → tupsD ds = some xss → ∃ ts : List Addr, vs = ts.map V.ref ∧ ts.length = xss.length ∧ (∀ t ∈ ts, ∃ us, SqT K H t us) ∧
    ∀ ok2 H2, Fr ok H ok2 H2 → ∀ (j : Nat) (t : Addr), ts[j]? = some t → ∃ us zs, SqT K H2 t us ∧ xss[j]? = some zs ∧ Reps K ok2 H2 us zs
  | _, _, _, .nil, e => by
    cases e
    exact ⟨[], rfl, rfl, fun _ h => (by cases h), fun _ _ _ _ _ h => (by cases h)⟩
  | _, d :: ds, xss, .cons r rs, e => by
    unfold tupsD at e
    split at e
    · rename_i xs xss' e1 e2
      cases e
      obtain ⟨q, rfl, ⟨us, sq⟩, k⟩ := rep_tupU r e1
      obtain ⟨ts, rfl, l, a1, a2⟩ := reps_tupsD rs e2
      refine ⟨q :: ts, rfl, by rw [List.length_cons, List.length_cons, l], fun t ht => ?_, fun ok2 H2 f j t hj => ?_⟩
      · rcases List.mem_cons.mp ht with rfl | ht
        · exact ⟨us, sq⟩
        · exact a1 t ht
      · cases j with
        | zero =>
          cases hj
          obtain ⟨vs, b1, b2⟩ := k ok2 H2 f
          exact ⟨vs, xs, b1, rfl, b2⟩
        | succ j =>
          obtain ⟨us, zs, b1, b2, b3⟩ := a2 ok2 H2 f j t (by simpa using hj)
          exact ⟨us, zs, b1, by simpa using b2, b3⟩
    · cases e
section
variable {X : Cx} {g : Gx} {E : Wx} {a b : Expr} {p pos tpos sp : Pos} {x : Str} {fr : P (List D)}
theorem ei_zipN (hg : Gl X "zip") (hm : X.mg "zip" = none) (ha : EA X g E [a, .Starred b sp] fr) (he : starEach [a, .Starred b sp] X.env = (false, eval a X.env) :: starEach [.Starred b sp] X.env := by rfl) :
    EI X g E [] (.Name x tpos) (.Call (.Name "zip" p) [a, .Starred b sp] [] pos) (bnd fr fun ds => lft (zipN ds)) := by
  refine PI_imp (pi_zipN hg hm ha he) fun σ H R hq => ?_
  obtain ⟨ok, ρ, w, h⟩ := hq
  cases e1 : fr ρ with
  | none => rw [bnd_none e1] at h; exact h.elim
  | some z1 =>
    cases z1 with
    | er c ns ds ρ' =>
      rw [bnd_er e1] at h
      refine ⟨ok, ρ, w, ?_⟩
      rw [e1]
      exact h
    | ok ds ρ1 =>
      rw [bnd_ok e1] at h
      refine ⟨ok, ρ, w, ?_⟩
      rw [e1]
      intro vs H' ok' w' s' r'
      have r' : Reps X.K ok' H' vs ds := r'
      unfold lft zipN at h
      cases et : tupsD ds with
      | none => simp only [et] at h
      | some xss =>
        cases xss with
        | nil => simp only [et] at h
        | cons xs xss =>
          simp only [et] at h
          by_cases hc : xss.length ≤ 7 ∧ ∀ ys ∈ xss, ys.length = xs.length
          · rw [if_pos hc] at h
            dsimp only at h
            obtain ⟨ts, rfl, lt, sq, rd⟩ := reps_tupsD r' et
            have len : ∀ (j : Nat) (zs : List D), (xs :: xss)[j]? = some zs → zs.length = xs.length := fun j zs e => by
              rcases List.mem_cons.mp (List.mem_of_getElem? e) with rfl | m
              · rfl
              · exact hc.2 zs m
            rw [List.length_cons] at lt
            refine ⟨ts, rfl, fun z => (by rw [z] at lt; cases lt), by omega, sq, h (ItN X.K ts) H' ok' w' s' fun ok2 ρ2 σ2 H2 w2 f2 _ => ?_⟩
            rw [List.length_map, List.length_range]
            refine ⟨fun i hi t ht => ?_, ?_, fun i d v H3 hd y => ?_⟩
            · obtain ⟨j, hj⟩ := List.mem_iff_getElem?.mp ht
              obtain ⟨us, zs, b1, b2, b3⟩ := rd ok2 H2 f2 j t hj
              have l1 := b3.length
              have l2 := len j zs b2
              exact ⟨us, us[i], b1, List.getElem?_eq_getElem (by omega)⟩
            · have h0 : 0 < ts.length := by omega
              obtain ⟨us, zs, b1, b2, b3⟩ := rd ok2 H2 f2 0 ts[0] (List.getElem?_eq_getElem h0)
              have l1 := b3.length
              have l2 := len 0 zs b2
              exact ⟨ts[0], us, List.getElem?_eq_getElem h0, b1, by omega⟩
            · obtain ⟨T, ys, rfl, nT, rfl, ly, at_⟩ := y
              have hd : ((List.range xs.length).map (colD (xs :: xss)))[i]? = some d := hd
              rw [List.getElem?_map] at hd
              have hi : i < xs.length := by
                apply Classical.byContradiction
                intro z
                rw [List.getElem?_eq_none (by rw [List.length_range]; omega)] at hd
                cases hd
              rw [List.getElem?_range hi] at hd
              have ed : colD (xs :: xss) i = d := Option.some.inj hd
              subst ed
              refine ⟨.inr ⟨T, _, nT, rfl⟩, .tup upd_same (reps_pt (by rw [ly, lt, List.length_map, List.length_cons]) fun j y d hy hdd => ?_)⟩
              have hj : j < ts.length := by rw [← ly]; exact (List.getElem?_eq_some_iff.mp hy).1
              obtain ⟨us, zs, b1, b2, b3⟩ := rd ok2 H2 f2 j ts[j] (List.getElem?_eq_getElem hj)
              obtain ⟨y', c1, c2⟩ := at_ j ts[j] us (List.getElem?_eq_getElem hj) b1
              rw [hy] at c1
              cases c1
              obtain ⟨dd, d1, d2⟩ := b3.get c2
              rw [List.getElem?_map, b2] at hdd
              have : (zs[i]?).getD (.tup []) = d := Option.some.inj hdd
              rw [d1] at this
              have : dd = d := this
              subst this
              exact d2.fr (fr_new nT)
          · rw [if_neg hc] at h
            exact h.elim
end
end Pu
/-! A def of the module with a star parameter; a method called with a star alone; o.m(*e). -/
namespace Pu
open PySem PySem.Spec PyProof.Rows L2 Kv
structure CalFS (P' : Program) (w : World) (K : PySem.W.Frag) (mg : Str → Option Value) (base : Heap) (T : List (Addr × Str)) (k n : Nat) (x : Str) (F : P R) : Prop where
  ex : ∃ f, FnV P' w K mg base k f (spStar n (spP K T (n + 1) F)) ∧ mg x = some (.ref f) ∧ PySem.W.keepIn K (.ref f) = true
structure DefFS (K : PySem.W.Frag) (mg : Str → Option Value) (x : Str) (st : Stmt) (ps : List Str) (pv : Str) : Prop where
  ex : ∃ f fd, Fun K x x st f fd ∧ mg x = some (.ref f) ∧ ∀ us rest : List Value, us.length = ps.length → bindArgs fd ⟨us ++ rest, []⟩ = (newTuple rest >>= fun t => pure (ps.zip us ++ [(pv, t)]))
section
variable {P' : Program} {w : World} {K : PySem.W.Frag} {mg : Str → Option Value} {base : Heap} {T : List (Addr × Str)}
theorem calFS_mk {x pv : Str} {st : Stmt} {N ps : List Str} {k n : Nat} {B : List Nat} {body : S} (d : DefFS K mg x st ps pv) (S : FnScope N (ps ++ [pv]) (defScope st)) (hn : ps.length = n)
    (hb : ∀ (f : Addr) (cdv : Value) (A : Around) (fr : List Env) (s : Shared) (H : Hp) (E : XK), A.guards = some [] → Room k (A.deeper (envOfC x (defScope st) s.heap.objs.size f cdv)) →
      ESs (cxOf (L2.CX P' w) P' w K mg base N x (defScope st) f cdv A fr s H E) ⟨H, B, T⟩ (fun _ => E) (defBody st) body) :
    CalFS P' w K mg base T (k + 1) n x (fnP N.length B body) := by
  obtain ⟨f, fd, F, m, hbind⟩ := d.ex
  have kp := F.kp
  obtain ⟨oc, od, kV, doc, pm, an, cdv, ct, osl, rfl, lk, hcd⟩ := F.ex
  subst hn
  have hpl : ps.length + 1 ≤ N.length := by have := congrArg List.length S.pre; rw [List.length_take, List.length_append, List.length_singleton] at this; omega
  exact ⟨f, fn_starV lk hcd S hbind fun A fr s H vs Q E hg hr hsp => body_ok hpl (hb f cdv A fr s H E hg hr) hsp, m, kp⟩
end
def calS (F : P R) (n : Nat) (fr : P (List D)) : P R := bnd fr fun ds => starF n F ds
def metSS (C : Addr) (m : Str) (F : P R) (n : Nat) (fo fe : P D) : P R := bnd fo fun d => if isObj C m d = true then bnd fe fun e => bnd (lft (seqD e)) fun ds => starF n F (d :: ds) else fun _ => none
section
variable {X : Cx} {g : Gx} {E : Wx} {k n : Nat} {C : Addr} {x m : Str} {F : P R} {p pos apos sp : Pos} {e o : Expr} {es : List Expr} {fe : P D} {fr : P (List D)}
theorem er_callFS (c : CalFS X.prog X.w X.K X.mg X.base g.T k n x F) (hgd : X.A.guards = some []) (hr : Room k X.A) (hg : Gl X x) (hx : ∀ σ, PassesAt (L2.CX X.prog X.w) X σ (E σ)) (ha : EA X g E (e :: es) fr)
    (hdb : (x == ("__debug__" : Str)) = false := by decide) (he : starEach (e :: es) X.env = (false, eval e X.env) :: starEach es X.env := by rfl) (hpl : (backTo pos (starEach es X.env)).any (·.1) = false := by rfl) :
    ER X g E (.Call (.Name x p) (e :: es) [] pos) (calS F n fr) := by
  obtain ⟨f, G, hm, kp⟩ := c.ex
  refine ⟨fun pins s σ H Q I hq => ?_⟩
  obtain ⟨ok, ρ, w, h⟩ := hq
  refine wpAny_Call_Name_kw (ld_glob I hg hm ?_ hdb)
  refine PySem.W.callWith_K (h₀ := X.base) I.ok.mod.kin kp (thn (ha.run pos pins s σ H (fun vs H2 => ∃ ok2 ρ2 ds, Wf X.K g ok2 ρ2 σ H2 ∧ Sx σ ρ ok H ρ2 ok2 H2 ∧ Reps X.K ok2 H2 vs ds ∧ Rs X.K g E (relR X.K) σ ρ2 ok2 H2 (starF n F ds ρ2) Q) I ⟨ok, ρ, w, Rs.bnd (RA := relA X.K) h⟩) fun us s2 ⟨vs, H2, I2, rv, ok2, ρ2, ds, w2, f2, r2, h2⟩ => ⟨I2.kIn, ?_⟩) he hpl
  have q2 := star_ok w2 r2 h2
  refine wpAny_call (codeAny_mono (G X.A X.stack s2 H2 us vs Q (E σ) hgd hr I2.env0 rv q2) fun r s' hq => ?_)
  cases r with
  | error er => exact hx σ pins H2 s2 er s' I2 hq
  | ok fl =>
    cases fl with
    | ret u => exact I2.after hq
    | next => exact False.elim hq
    | brk => exact False.elim hq
    | cont => exact False.elim hq
theorem er_methSS {fo : P D} (c : CalMS X.prog X.w X.K X.mg X.base g.T C k n m F) (bm : ∃ f, L2.BMeth X.K C m f) (ho : EV X g E o fo) (hgd : X.A.guards = some []) (hr : Room k X.A) (hx : ∀ σ, PassesAt (L2.CX X.prog X.w) X σ (E σ)) (ha : EV X g E e fe)
    (hbase : attributeBase o m X.env (eval o X.env) = eval o X.env := by rfl) :
    ER X g E (.Call (.Attribute o m apos) [.Starred e sp] [] pos) (metSS C m F n fo fe) := by
  obtain ⟨f, G, hm, cl⟩ := c.ex
  obtain ⟨f', b⟩ := bm
  have ef : f' = f := by
    have := b.mt.at_.symm.trans hm.at_
    cases this
    rfl
  subst ef
  refine ⟨fun pins s σ H Q I hq => ?_⟩
  obtain ⟨ok, ρ, w, h⟩ := hq
  refine L2.starcall_of hbase (thn (ho.run pins s σ H (fun v H1 => ∃ ok1 ρ1 d, Wf X.K g ok1 ρ1 σ H1 ∧ Sx σ ρ ok H ρ1 ok1 H1 ∧ Rep X.K ok1 H1 v d ∧ Rs X.K g E (relR X.K) σ ρ1 ok1 H1 ((if isObj C m d = true then bnd fe fun e => bnd (lft (seqD e)) fun ds => starF n F (d :: ds) else fun _ => none) ρ1) Q) I ⟨ok, ρ, w, Rs.bnd (RA := relD X.K) h⟩) fun u s1 ⟨v, H1, I1, rx, ok1, ρ1, d, w1, f1, r1, h1⟩ => ?_)
  by_cases hi : isObj C m d = true
  · rw [if_pos hi] at h1
    obtain ⟨a, dx, fs, rfl, ea, el⟩ := isObj_rep r1 hi
    obtain rfl : u = Value.ref a := rx
    refine L2.getbound_ok I1 ea cl b el fun q1 s2 hq1 I2 => ?_
    refine PySem.W.ks_call (P := PySem.W.MethP X.K q1 f' (.ref a)) rfl (PySem.W.keeps_M b.fi) (PySem.W.ks_lone ?_)
    have w1n := w1.new (o := .met f' a) hq1
    have f1n := Sx.new (σ := σ) (ρ := ρ1) (ok := ok1) (o := .met f' a) hq1
    refine thn (ha.run pins s2 σ _ (fun y H2 => ∃ ok2 ρ2 b, Wf X.K g ok2 ρ2 σ H2 ∧ Sx σ ρ1 ok1 (upd H1 q1 (.met f' a)) ρ2 ok2 H2 ∧ Rep X.K ok2 H2 y b ∧ Rs X.K g E (relR X.K) σ ρ2 ok2 H2 ((bnd (lft (seqD b)) fun ds => starF n F (d :: ds)) ρ2) Q) I2 ⟨ok1, ρ1, w1n, Rs.bnd (RA := relD X.K) (h1.shift f1n monoR)⟩) fun v2 s3 ⟨y, H2, I3, ry, ok2, ρ2, b2, w2, f2, r2, h2⟩ => ?_
    have hme : H2 q1 = some (.met f' a) := f2.fr.rd upd_same (fun z => z)
    cases es2 : seqD b2 with
    | none => rw [es2] at h2; exact h2.elim
    | some ds =>
      rw [es2] at h2
      have h2 : Rs X.K g E (relR X.K) σ ρ2 ok2 H2 (starF n F (d :: ds) ρ2) Q := h2
      obtain ⟨a2, vs, rfl, hv, rv⟩ := Pk.seq (.inl r2) es2
      obtain rfl : v2 = Value.ref a2 := ry
      refine StX.star_any I3 hv.symm fun us s4 I4 rvs => ⟨L2.met_P I4 hme, ?_⟩
      have q2 := star_ok w2 (.cons (Rep.fr (f1n.trans f2).fr r1) rv) h2
      refine wpAny_call (PySem.W.method_call (L2.met_P I4 hme).1 (codeAny_mono (G X.A X.stack s4 H2 (.ref a :: us) (.ref a :: vs) Q (E σ) hgd hr I4.env0 (.cons rfl rvs) q2) fun r s' hq => ?_))
      cases r with
      | error er => exact hx σ pins H2 s4 er s' I4 hq
      | ok fl =>
        cases fl with
        | ret u => exact I4.after hq
        | next => exact False.elim hq
        | brk => exact False.elim hq
        | cont => exact False.elim hq
  · rw [if_neg hi] at h1
    exact h1.elim
end
end Pu
/-! A test that reads the items of a list of one's own lists: while it runs, they are values. -/
namespace Pu
open PySem PySem.Spec PyProof.Rows L2 Kv
def rsv1 (ρ : En) : D → D
  | .opq a => match fA a 0 ρ with
    | some (_, xs) => .lst xs
    | none => .opq a
  | d => d
def rsvL (ρ : En) : D → D
  | .lst ds => .lst (ds.map (rsv1 ρ))
  | d => d
def noOwn : Slot → Bool
  | .own _ => false
  | _ => true
def lstOwn : Slot → Bool
  | .own (.lsta _ _) => true
  | .own _ => false
  | _ => true
open Classical in
noncomputable def brwB (i : Nat) (js : List Nat) (f : P Bool) : P Bool := fun ρ => match ρ[i]? with
  | some (.val d) => if ((wipeS js ρ).all noOwn && ρ.all lstOwn) = true then match f ((wipeS js ρ).set i (.val (rsvL ρ d))) with
      | some (.ok c ρ2) => if ρ2 = (wipeS js ρ).set i (.val (rsvL ρ d)) then some (.ok c ρ) else none
      | _ => none
    else none
  | _ => none
section
variable {K : PySem.W.Frag} {g : Gx} {ok : Addr → Prop} {ρ : En} {σ : L2.St} {H : Hp}
theorem Rep.rsv1 (w : Wf K g ok ρ σ H) {v : V} {d : D} (r : Rep K ok H v d) : Rep K (fun b => ok b ∨ wrs ρ σ b) H v (rsv1 ρ d) := by
  cases d with
  | opq a =>
    cases e : fA a 0 ρ with
    | none =>
      have : Pu.rsv1 ρ (.opq a) = .opq a := by unfold Pu.rsv1; dsimp only; rw [e]
      rw [this]; exact r.fr fr_wrs
    | some jx =>
      obtain ⟨j, xs⟩ := jx
      have : Pu.rsv1 ρ (.opq a) = .lst xs := by unfold Pu.rsv1; dsimp only; rw [e]
      rw [this]
      obtain ⟨k, ej, hi⟩ := fA_get e
      obtain ⟨q, hq, o, nk, _⟩ := w.own _ _ hi
      obtain ⟨rfl, vs, hv, rv⟩ := id o
      cases r
      exact .lst hv (.inr ⟨k, _, hi, hq⟩) (rv.fr fr_wrs)
  | _ => exact r.fr fr_wrs
theorem Rep.rsvL (w : Wf K g ok ρ σ H) {v : V} {d : D} (r : Rep K ok H v d) : Rep K (fun b => ok b ∨ wrs ρ σ b) H v (rsvL ρ d) := by
  cases d with
  | lst ds =>
    cases r with
    | lst h k rs =>
      refine .lst h (.inl k) ?_
      clear h
      rename_i a vs
      clear k
      have all : ∀ {vs : List V} {ds : List D}, Reps K ok H vs ds → Reps K (fun b => ok b ∨ wrs ρ σ b) H vs (ds.map (Pu.rsv1 ρ)) := by
        intro vs ds h
        induction ds generalizing vs with
        | nil => cases h; exact .nil
        | cons d ds ih => cases h with
          | cons h t => exact .cons (Rep.rsv1 w h) (ih t)
      exact all rs
  | _ => exact r.fr fr_wrs
theorem wipeS_val {ds : List Nat} {j : Nat} {e : D} : (wipeS ds ρ)[j]? = some (.val e) → ρ[j]? = some (.val e) := by
  induction ds with
  | nil => exact fun h => h
  | cons d ds ih =>
    intro h
    have h : ((wipeS ds ρ).set d .un)[j]? = some (.val e) := h
    by_cases hj : j = d
    · subst hj; cases get_set_self h
    · rw [List.getElem?_set_ne (Ne.symm hj)] at h; exact ih h
theorem wipeS_len {ds : List Nat} : (wipeS ds ρ).length = ρ.length := by
  induction ds with
  | nil => rfl
  | cons d ds ih => show ((wipeS ds ρ).set d .un).length = _; rw [List.length_set, ih]
end
section
variable {X : Cx} {g : Gx} {E : Wx} {e : Expr} {i : Nat} {js : List Nat} {f : P Bool}
theorem tX_brw {σ : L2.St} {H : Hp} {Q : Bool → Hp → Prop} (hq : tX X.K g E relB (brwB i js f) σ H Q) : tX X.K g E relB f σ H Q := by
  obtain ⟨ok, ρ, w, h⟩ := hq
  unfold brwB at h
  cases hi : ρ[i]? with
  | none => rw [hi] at h; exact h.elim
  | some s0 =>
    cases s0 with
    | un => rw [hi] at h; exact h.elim
    | own _ => rw [hi] at h; exact h.elim
    | val d =>
      rw [hi] at h
      dsimp only at h
      by_cases hc : ((wipeS js ρ).all noOwn && ρ.all lstOwn) = true
      · rw [if_pos hc] at h
        rw [Bool.and_eq_true, List.all_eq_true, List.all_eq_true] at hc
        obtain ⟨hc1, hc2⟩ := hc
        obtain ⟨v0, ev0, rp0⟩ := w.val i d hi
        have nown : ∀ (j : Nat) (x : D), ((wipeS js ρ).set i (.val (rsvL ρ d)))[j]? ≠ some (.own x) := fun j x z => by
          by_cases hj : j = i
          · subst hj; cases get_set_self z
          · rw [List.getElem?_set_ne (Ne.symm hj)] at z
            exact absurd (hc1 _ (List.mem_of_getElem? z)) (by simp [noOwn])
        have nwr : ∀ a, ¬ wrs ((wipeS js ρ).set i (.val (rsvL ρ d))) σ a := fun a ⟨j, x, h1, _⟩ => nown j x h1
        have w1 : Wf X.K g (fun b => ok b ∨ wrs ρ σ b) ((wipeS js ρ).set i (.val (rsvL ρ d))) σ H := by
          refine ⟨by rw [List.length_set, wipeS_len]; exact w.len, fun a z => .inl (w.fc a z), w.h0, fun j x z => ?_, fun j x z => absurd z (nown j x), fun j k d1 d2 p h1 _ _ _ => absurd h1 (nown j d1), fun p hp => ⟨(w.tb p hp).1, ?_⟩⟩
          · by_cases hj : j = i
            · subst hj
              cases get_set_self z
              exact ⟨v0, ev0, Rep.rsvL w rp0⟩
            · rw [List.getElem?_set_ne (Ne.symm hj)] at z
              obtain ⟨v, e1, r1⟩ := w.val j x (wipeS_val z)
              exact ⟨v, e1, r1.fr fr_wrs⟩
          · rintro (z | ⟨j, x, h1, h2⟩)
            · exact (w.tb p hp).2 z
            · obtain ⟨q, e1, o, _⟩ := w.own j x h1
              rw [h2] at e1
              cases e1
              obtain ⟨ps, ht, _⟩ := (w.tb p hp).1
              exact o.nt ps ht
        refine ⟨_, _, w1, ?_⟩
        generalize hρ1 : (wipeS js ρ).set i (.val (rsvL ρ d)) = ρ1 at h w1 nown nwr ⊢
        cases ef : f ρ1 with
        | none => rw [ef] at h; exact h.elim
        | some x =>
          cases x with
          | er _ _ _ _ => rw [ef] at h; exact h.elim
          | ok c ρ2 =>
            rw [ef] at h
            dsimp only at h
            by_cases e2 : ρ2 = ρ1
            · rw [if_pos e2] at h
              subst e2
              intro v H' ok' w' s' rv
              have own_ok : ∀ (j : Nat) (x : D) (q : Addr), ρ[j]? = some (.own x) → σ[j]? = some (some (.ref q)) → ¬ ok q ∧ H' q = H q := fun j x q h1 h2 => by
                obtain ⟨q', e1, o, nk, _⟩ := w.own j x h1
                rw [h2] at e1
                cases e1
                refine ⟨nk, ?_⟩
                have hl := hc2 _ (List.mem_of_getElem? h1)
                cases x with
                | lsta b xs =>
                  obtain ⟨rfl, vs, hv, _⟩ := o
                  rcases s'.keep q _ hv (nwr q) with z | ⟨_, z, _⟩ | ⟨z, _⟩
                  · rw [z, hv]
                  · cases z
                  · cases z
                | _ => cases hl
              have f2 : Fr ok H (fun b => ok' b ∧ ¬ wrs ρ σ b) H' := ⟨fun a o ha hk => s'.fr.keep a o ha fun z => .inl (hk z), fun a o ha hk => ⟨s'.fr.mono a o ha (.inl hk), fun ⟨j, x, h1, h2⟩ => (own_ok j x a h1 h2).1 hk⟩, s'.fr.all⟩
              have w2 : Wf X.K g (fun b => ok' b ∧ ¬ wrs ρ σ b) ρ σ H' := by
                refine w.step f2 (fun a z => ⟨w'.fc a z, fun y => ?_⟩) (fun p hp => ⟨(w'.tb p hp).1, fun z => (w'.tb p hp).2 z.1⟩) fun j x q h1 h2 => ⟨(own_ok j x q h1 h2).2, fun z => z.2 ⟨j, x, h1, h2⟩⟩
                obtain ⟨_, o, ho, _⟩ := w.wr y
                rw [s'.fr.all a z] at ho
                cases ho
              refine h v H' _ w2 ⟨f2, fun a o ha hn => ?_, fun a z => z, fun a o ha z => ?_⟩ rv
              · rcases s'.keep a o ha (nwr a) with z | ⟨z, zz⟩ | z
                · exact .inl z
                · exact .inr (.inl ⟨z.resolve_right hn, zz⟩)
                · exact .inr (.inr z)
              · rcases s'.grow a o ha z.1 with y | y
                · exact y
                · exact absurd y (nwr a)
            · rw [if_neg e2] at h; exact h.elim
      · rw [if_neg hc] at h; exact h.elim
theorem et_brw (h : ET X g E e f) : ET X g E e (brwB i js f) := PT_imp h fun σ H Q hq => tX_brw hq
end
end Pu
/-! Ahead of the steps of Pu70 to Pu72. -/
namespace Pu
open PySem PySem.Spec PyProof.Rows L2 Kv
section
variable {ρ : En} {E : QE} {N : En → Prop} {T : R → En → Prop} {B C : En → Prop} {n : Nat}
theorem w_starF {F : P R} {ds : List D} {Q : R → En → Prop} (h : n ≤ ds.length ∧ ds.length ≤ sizeLine ∧ W F (vals (ds.take n ++ [.tup (ds.drop n)])) (fun r _ => Q r ρ) (fun c ns es _ => E c ns es ρ)) : W (starF n F ds) ρ Q E := by
  unfold starF
  rw [if_pos ⟨h.1, h.2.1⟩]
  exact w_app h.2.2
theorem w_calS {F : P R} {fr : P (List D)} {Q : R → En → Prop} (h : W fr ρ (fun ds ρ1 => n ≤ ds.length ∧ ds.length ≤ sizeLine ∧ W F (vals (ds.take n ++ [.tup (ds.drop n)])) (fun r _ => Q r ρ1) (fun c ns es _ => E c ns es ρ1)) E) : W (calS F n fr) ρ Q E :=
  w_bnd (h.mono (fun _ _ h => w_starF h) fun _ _ _ _ h => h)
theorem w_metSS {C' : Addr} {m : Str} {F : P R} {fo fe : P D} {Q : R → En → Prop} (h : W fo ρ (fun d ρ0 => isObj C' m d = true ∧ W fe ρ0 (fun e ρ1 => ∃ ds, seqD e = some ds ∧ n ≤ ds.length + 1 ∧ ds.length + 1 ≤ sizeLine ∧ W F (vals ((d :: ds).take n ++ [.tup ((d :: ds).drop n)])) (fun r _ => Q r ρ1) (fun c ns es _ => E c ns es ρ1)) E) E) : W (metSS C' m F n fo fe) ρ Q E :=
  w_bnd (h.mono (fun _ _ h => w_ifT h.1 (w_bnd (h.2.mono (fun e ρ1 h => by
    obtain ⟨ds, e1, h1, h2, h3⟩ := h
    exact w_bnd (w_lft e1 (w_starF ⟨h1, h2, h3⟩))) fun _ _ _ _ h => h))) fun _ _ _ _ h => h)
theorem w_brw {i : Nat} {js : List Nat} {A : P Bool} {d : D} {Q : Bool → En → Prop} (hi : ρ[i]? = some (.val d)) (hc : ((wipeS js ρ).all noOwn && ρ.all lstOwn) = true)
    (h : W A ((wipeS js ρ).set i (.val (rsvL ρ d))) (fun c ρ2 => ρ2 = (wipeS js ρ).set i (.val (rsvL ρ d)) ∧ Q c ρ) (fun _ _ _ _ => False)) : W (brwB i js A) ρ Q E := by
  unfold W at h ⊢
  unfold brwB
  rw [hi]
  dsimp only
  rw [if_pos hc]
  split at h
  · exact h.elim
  · rename_i z
    rw [z]
    dsimp only
    rw [if_pos h.1]
    exact h.2
  · exact h.elim
end
end Pu
/-! a, b, .. = a list. -/
namespace Pu
open PySem PySem.Spec PyProof.Rows L2 Kv
def unpL (is : List Nat) (d : D) : S := fun ρ => match d with
  | .lst ds => (sets is ds ρ).map .nx
  | _ => none
def unpL' (is : List Nat) (fe : P D) : S := sb fe fun d => unpL is d
section
variable {X : Cx} {g : Gx} {E : Wx} {e : Expr} {pos : Pos}
theorem es_unl {tg : Expr} {is : List Nat} {fe : P D} (he : EV X g E e fe) (hg : PG X tg (gUnl X.K is.length (gNames is))) (hB : ∀ i ∈ g.B, i ∉ is) (hs : swapsWithSole [tg] e pos.line X.env = pure false := by rfl) (hw : swappedStores [tg] e X.env = pure none := by rfl)
    (h1 : (assignEach [tg] X.env).map (·.2) = [assign tg X.env] := by rfl) : ES X g E (.Assign [tg] e pos) (unpL' is fe) := by
  refine PS_imp (ps_asg he hg hs hw h1) fun Dn σ H hq => ?_
  obtain ⟨ok, ρ, w, h⟩ := hq
  refine ⟨ok, ρ, w, (Ss.sb (RA := relD X.K) h).mono fun v H1 hq => ?_⟩
  obtain ⟨ok1, ρ1, d, w1, s1, r1, h1⟩ := hq
  have r1 : Rep X.K ok1 H1 v d := r1
  unfold unpL at h1
  cases r1 with
  | lst hl ko rs =>
    rename_i a vs ds
    dsimp only at h1
    cases eg : sets is ds ρ1 with
    | none => rw [eg] at h1; exact h1.elim
    | some ρ2 =>
      rw [eg] at h1
      have eg2 : gset (.many is) (.tup ds) ρ1 = some ρ2 := eg
      refine ⟨a, vs, rfl, .inl (.inl hl), by rw [rs.length]; exact (sets_len eg).symm, gNames_ok is g ok1 ρ1 σ H1 vs ds ρ2 _ w1 rs eg fun σ' w' hl' hk => ?_⟩
      exact h1 σ' H1 ok1 w' ⟨Fr.refl, fun _ _ h _ => .inl h, fun a ha => .inl (gset_own eg2 σ' (fun k hk' => hk k hk') ha), fun _ _ _ k => .inl k, fun i hi => hk i (hB i hi), hl'⟩
  | _ => exact h1.elim
theorem s_unl {ρ : En} {N : En → Prop} {T : R → En → Prop} {B C : En → Prop} {E : QE} {is : List Nat} {fe : P D} (h : W fe ρ (fun d ρ' => ∃ ds ρ2, d = .lst ds ∧ sets is ds ρ' = some ρ2 ∧ N ρ2) E) : WS (unpL' is fe) ρ N T B C E := s_sb (h.mono (fun d ρ' h => by
  obtain ⟨ds, ρ2, rfl, e, h⟩ := h
  unfold WS unpL
  dsimp only
  rw [e]
  exact h) fun _ _ _ _ h => h)
end
end Pu
namespace Fk
open PySem PySem.Spec PyProof.Rows L2 Kv Pu
def F__law_pot (z : Zf) : P R := fnP 3 []
    (sq (set' 2 (ifV (tst (op2 opLt (rd 1) (op1 lenD (pk 0)))) (vl (ixN' 0 (rd 1))) (vl (prt (.int 0)))))
    (ret (mkL (consA (opV maxI (consA (prt (.int 0)) (consA (op2 opSub (opV absI (consA (rd 2) (prt []))) (op2 opPow (prt (.int 10)) (prt (.int 18)))) (prt [])))) (consA (op2 opMod (op2 opAdd (op2 opAdd (op2 opMul (op2 opMod (opV absI (consA (rd 2) (prt []))) (prt (.int 2147483587))) (prt (.int 48271))) (op2 opMul (prt (.int 60013)) (pk 1))) (prt (.int 29))) (prt (.int 2147483647))) (prt []))))))
def F__law_draw (z : Zf) : P R := fnP 3 [0]
    (sq (iff (tst (op2 opGt (ixN' 0 (prt (.int 0))) (prt (.int 0)))) (sq (asg' (opV dvm (consA (ixN' 0 (prt (.int 0))) (consA (rd 1) (prt [])))) (gTup' [(gSub 0 (prt (.int 0))), (gName' 2)]))
    (ret (mv 2))) sk)
    (sq (asg' (op2 opMod (op2 opAdd (op2 opMul (ixN' 0 (prt (.int 1))) (prt (.int 39373))) (prt (.int 12227))) (prt (.int 2147483629))) (gSub 0 (prt (.int 1))))
    (ret (vl (op2 opMod (op2 opFdiv (op2 opMod (op2 opMul (ixN' 0 (prt (.int 1))) (ixN' 0 (prt (.int 1)))) (prt (.int 2147483563))) (prt (.int 13))) (pk 1))))))
noncomputable def F__law_sizes (z : Zf) : P R := fnP 1 [0]
    (ret (vl (op2 ixD (fz (mkL (consA (mkT (consA (prt (.int 8)) (consA (prt (.int 1)) (prt [])))) (consA (mkT (consA (prt (.int 8)) (consA (prt (.int 1)) (prt [])))) (consA (mkT (consA (prt (.int 6)) (consA (prt (.int 1)) (prt [])))) (consA (mkT (consA (prt (.int 6)) (consA (prt (.int 2)) (prt [])))) (consA (mkT (consA (prt (.int 8)) (consA (prt (.int 2)) (prt [])))) (consA (mkT (consA (prt (.int 4)) (consA (prt (.int 3)) (prt [])))) (prt []))))))))) (fz (calB 0 (F__law_draw z) 2 (consA (prt (.int 6)) (prt [])))))))
noncomputable def F__law_name (z : Zf) : P R := fnP 3 [0]
    (sq (set' 1 (vl (prt (.str "abcdefghijklmnopqrstuvwxyz"))))
    (ret (vl (mts joinD (prt (.str "")) (consA (fz (lc (opL rng1 (op2 ixD (fz (mkL (consA (prt (.int 1)) (consA (prt (.int 2)) (consA (prt (.int 8)) (prt [])))))) (fz (calB 0 (F__law_draw z) 2 (consA (prt (.int 3)) (prt [])))))) (.one 2) (prt true) (ixN' 1 (fz (calB 0 (F__law_draw z) 2 (consA (prt (.int 26)) (prt []))))))) (prt []))))))
noncomputable def F__law_names (z : Zf) : P R := fnP 7 [0]
    (sq (set' 2 (mkL (prt [])))
    (sq (for' (opL rng1 (rd 1)) (.one 3) (sq (set' 4 (calB 0 (F__law_name z) 1 (prt [])))
    (sq (set' 5 (lc (opL strP (prt (.str "abcdefghijklmnopqrstuvwxyz"))) (.one 6) (tst (op2 opNotIn (rd 6) (pk 2))) (rd 6)))
    (expr (mtt 2 (consA (ifV (tst (op2 opIn (rd 4) (pk 2))) (ixN' 5 (prt (.int 0))) (rd 4)) (prt [])) stApp)))))
    (ret (mv 2))))
noncomputable def F__law_mixed (z : Zf) : P R := fnP 4 [0]
    (sq (set' 2 (opR listP (pk 1)))
    (ret (lc (opL rng1 (op1 lenD (pk 1))) (.one 3) (prt true) (mtt 2 (consA (fz (calB 0 (F__law_draw z) 2 (consA (op1 lenD (pk 2)) (prt [])))) (prt [])) stPop))))
noncomputable def F__law_kinds (z : Zf) : P R := fnP 6 [0]
    (sq (set' 2 (mkL (prt [])))
    (sq (for' (seqP (fz (calB 0 (F__law_names z) 2 (consA (op2 opAdd (prt (.int 1)) (fz (calB 0 (F__law_draw z) 2 (consA (rd 1) (prt []))))) (prt []))))) (.one 3) (sq (set' 4 (vl (op2 ixD (fz (mkL (consA (prt (.int 0)) (consA (prt (.int 1)) (consA (prt (.int 1)) (consA (prt (.int 2)) (consA (prt (.int 2)) (consA (prt (.int 3)) (prt []))))))))) (fz (calB 0 (F__law_draw z) 2 (consA (prt (.int 6)) (prt [])))))))
    (expr (mtt 2 (consA (mkT (consA (rd 3) (consA (op1 tupD (fz (slA (fz (calB 0 (F__law_mixed z) 2 (consA (fz (lc (seqP (pk 2)) (.one 5) (prt true) (ixN' 5 (prt (.int 0))))) (prt [])))) (prt none) (sOpt (rd 4))))) (prt [])))) (prt [])) stApp))))
    (ret (mv 2))))
def F__law_all_points (z : Zf) : P R := fnP 7 []
    (sq (set' 2 (mkL (consA (mkT (prt [])) (prt []))))
    (sq (for' (opL rng1 (rd 1)) (.one 3) (sq (set' 4 (mkL (prt [])))
    (sq (for' (seqP (rd 2)) (.one 5) (expr (mtt 4 (consA (fz (lc (seqP (rd 0)) (.one 6) (prt true) (op2 opAddX (rd 5) (mkT (consA (ixN' 6 (prt (.int 0))) (prt [])))))) (prt [])) stExt)))
    (set' 2 (vl (rd 4))))))
    (ret (mv 2))))
def F__law_above (z : Zf) : P R := fnP 6 []
    (sq (set' 2 (mkL (consA (rd 1) (prt []))))
    (sq (for' (seqP (fz (opR revO (rd 0)))) (.many [3, 4]) (iff (tst (op2 opIn (rd 3) (pk 2))) (expr (mtt 2 (consA (fz (lc (seqP (rd 4)) (.one 5) (tst (op2 opNotIn (rd 5) (pk 2))) (rd 5))) (prt [])) stExt)) sk))
    (ret (mv 2))))
noncomputable def F__law_ups (z : Zf) : P R := fnP 2 []
    (ret (opR dictP (fz (lc (seqP (rd 0)) (.one 1) (prt true) (mkT (consA (ixN' 1 (prt (.int 0))) (consA (fz (cal (F__law_above z) 2 (consA (rd 0) (consA (ixN' 1 (prt (.int 0))) (prt []))))) (prt []))))))))
def F_is_parameter_count (z : Zf) : P R := fnP 1 []
    (ret (vl (andV (op1 (isi "int") (pk 0)) (andV (notV (op1 (isi "bool") (pk 0))) (chn opLe opLe (prt (.int 1)) (rd 0) (prt (.int 3)))))))
def F_Hierarchy_has_class (z : Zf) : P R := fnP 2 []
    (ret (vl (andV (op1 (isi "str") (pk 1)) (op2 opIn (rd 1) (op1 (fldD z.c_Hierarchy "places") (rd 0))))))
noncomputable def F_is_point (z : Zf) : P R := fnP 3 []
    (sq (iff (orB (notB (tst (op1 (isi "tuple") (pk 1)))) (notB (tst (fz (cal (F_is_parameter_count z) 1 (consA (op1 lenD (pk 1)) (prt []))))))) (ret (vl (prt (.bl false)))) sk)
    (ret (vl (op1 (allD fun bs => bs.all id) (fz (lc (seqP (rd 1)) (.one 2) (prt true) (fz (met z.c_Hierarchy "has_class" (F_Hierarchy_has_class z) 2 (rd 0) (consA (rd 2) (prt []))))))))))
noncomputable def F_require_point (z : Zf) : P R := fnP 2 []
    (iff (notB (tst (fz (cal (F_is_point z) 2 (consA (rd 0) (consA (rd 1) (prt []))))))) neverS sk)
noncomputable def F_require_point_like (z : Zf) : P R := fnP 3 []
    (sq (expr (fz (cal (F_require_point z) 2 (consA (rd 0) (consA (rd 1) (prt []))))))
    (iff (tst (op2 opNe (op1 lenD (pk 1)) (op1 lenD (pk 2)))) neverS sk))
def F_combinations (z : Zf) : P R := fnP 5 []
    (sq (set' 1 (mkL (consA (mkT (prt [])) (prt []))))
    (sq (for' (seqP (rd 0)) (.one 2) (set' 1 (cmp (.lst []) (seqP (rd 1)) (.one 3) [3, 4] (twoF (prt true) (seqP (rd 2)) (.one 4) ((.one 4) : Tg).ix (elF (prt true) (mkT (starA (rd 3) (consA (rd 4) (prt [])))))))))
    (ret (mv 1))))
noncomputable def F_Hierarchy_require_class (z : Zf) : P R := fnP 2 []
    (iff (notB (tst (fz (met z.c_Hierarchy "has_class" (F_Hierarchy_has_class z) 2 (rd 0) (consA (rd 1) (prt [])))))) neverS sk)
def F_Hierarchy_names (z : Zf) : P R := fnP 1 []
    (ret (opR listP (op1 (fldD z.c_Hierarchy "places") (rd 0))))
noncomputable def F_Hierarchy_highest_common (z : Zf) : P R := fnP 8 []
    (sq (set' 3 (mkL (consA (rd 1) (starA (rd 2) (prt [])))))
    (sq (for' (seqP (rd 3)) (.one 4) (expr (fz (met z.c_Hierarchy "require_class" (F_Hierarchy_require_class z) 2 (rd 0) (consA (rd 4) (prt []))))))
    (sq (set' 5 (mkL (prt [])))
    (sq (for' (seqP (fz (met0 z.c_Hierarchy "names" (F_Hierarchy_names z) 1 (rd 0)))) (.one 4) (sq (set' 6 (vl (op1 (allD fun bs => bs.all id) (fz (lc (seqP (rd 3)) (.one 7) (prt true) (op2 opIn (rd 7) (op2 ixD (op1 (fldD z.c_Hierarchy "above") (rd 0)) (rd 4))))))))
    (iff (andB (tst (rd 6)) (notB (tst (op1 (allD fun bs => bs.any id) (fz (lc (seqP (pk 5)) (.one 7) (prt true) (op2 opIn (rd 7) (op2 ixD (op1 (fldD z.c_Hierarchy "above") (rd 0)) (rd 4))))))))) (expr (mtt 5 (consA (rd 4) (prt [])) stApp)) sk)))
    (ret (mv 5))))))
noncomputable def F_highest_common_points (z : Zf) : P R := fnP 5 []
    (sq (expr (fz (cal (F_require_point z) 2 (consA (rd 0) (consA (rd 1) (prt []))))))
    (sq (for' (seqP (rd 2)) (.one 3) (expr (fz (cal (F_require_point_like z) 3 (consA (rd 0) (consA (rd 3) (consA (rd 1) (prt []))))))))
    (ret (cal (F_combinations z) 1 (consA (fz (lc (bnd (consA (rd 1) (starA (rd 2) (prt []))) fun ds => lft (zipN ds)) (.one 4) (prt true) (fz (metSS z.c_Hierarchy "highest_common" (F_Hierarchy_highest_common z) 2 (rd 0) (rd 4))))) (prt []))))))
noncomputable def F__law_told (z : Zf) : P R := fnP 10 []
    (sq (iff (tst (op2 opEq (op1 lenD (pk 1)) (prt (.int 1)))) (ret (calS (F_highest_common_points z) 2 (consA (rd 0) (consA (ixN' 1 (prt (.int 0))) (prt []))))) sk)
    (sq (iff (tst (op2 opEq (op1 lenD (pk 1)) (prt (.int 2)))) (ret (calS (F_highest_common_points z) 2 (consA (rd 0) (consA (ixN' 1 (prt (.int 0))) (consA (ixN' 1 (prt (.int 1))) (prt [])))))) sk)
    (sq (iff (tst (op2 opEq (op1 lenD (pk 1)) (prt (.int 3)))) (ret (calS (F_highest_common_points z) 2 (consA (rd 0) (consA (ixN' 1 (prt (.int 0))) (consA (ixN' 1 (prt (.int 1))) (consA (ixN' 1 (prt (.int 2))) (prt []))))))) sk)
    (sq (iff (tst (op2 opEq (op1 lenD (pk 1)) (prt (.int 4)))) (ret (calS (F_highest_common_points z) 2 (consA (rd 0) (consA (ixN' 1 (prt (.int 0))) (consA (ixN' 1 (prt (.int 1))) (consA (ixN' 1 (prt (.int 2))) (consA (ixN' 1 (prt (.int 3))) (prt [])))))))) sk)
    (sq (unpL' [2, 3, 4, 5, 6, 7, 8, 9] (rd 1))
    (ret (calS (F_highest_common_points z) 2 (consA (rd 0) (consA (rd 2) (consA (rd 3) (consA (rd 4) (consA (rd 5) (consA (rd 6) (consA (rd 7) (consA (rd 8) (consA (rd 9) (prt [])))))))))))))))))
noncomputable def F__law_flat_right (z : Zf) : P R := fnP 6 []
    (sq (set' 2 (opR (mkH z.c_Hierarchy) (fz (lc (seqP (rd 0)) (.one 4) (prt true) (mkT (consA (ixN' 4 (prt (.int 0))) (consA (mkT (prt [])) (prt []))))))))
    (sq (set' 3 (ifV (tst (op1 (allD fun bs => bs.all id) (fz (lc (seqP (rd 1)) (.one 5) (prt true) (op2 opEq (rd 5) (ixN' 1 (prt (.int 0)))))))) (slA (rd 1) (prt none) (sOpt (prt (.int 1)))) (mkL (prt []))))
    (ret (vl (op2 opEq (op1 shD (fz (cal (F__law_told z) 2 (consA (rd 2) (consA (rd 1) (prt [])))))) (op1 shD (pk 3)))))))
def F__law_is_under (z : Zf) : P R := fnP 5 []
    (ret (vl (op1 (allD fun bs => bs.all id) (fz (lc (opL2 zipD (rd 1) (rd 2)) (.many [3, 4]) (prt true) (op2 opIn (rd 4) (ixN' 0 (rd 3))))))))
noncomputable def F__law_highest (z : Zf) : P R := fnP 4 []
    (ret (lc (seqP (rd 1)) (.one 2) (notB (tst (op1 (allD fun bs => bs.any id) (fz (lc (seqP (rd 1)) (.one 3) (prt true) (andV (op2 opNe (rd 3) (pk 2)) (fz (cal (F__law_is_under z) 3 (consA (rd 0) (consA (rd 2) (consA (rd 3) (prt [])))))))))))) (rd 2)))
noncomputable def F__law_right (z : Zf) : P R := fnP 11 []
    (sq (set' 4 (lc (seqP (rd 2)) (.one 7) (tst (op1 (allD fun bs => bs.all id) (fz (lc (seqP (rd 3)) (.one 8) (prt true) (fz (cal (F__law_is_under z) 3 (consA (rd 1) (consA (rd 7) (consA (rd 8) (prt [])))))))))) (rd 7)))
    (sq (set' 5 (cal (F__law_highest z) 2 (consA (rd 1) (consA (rd 4) (prt [])))))
    (nestS 6 [9, 10] [6, 9, 10] (consR (cal (F__law_told z) 2 (consA (rd 0) (consA (rd 3) (prt [])))) (consR (cal (F__law_told z) 2 (consA (rd 0) (consA (fz (opR revO (rd 3))) (prt [])))) (prt []))) fun _ => (sq (iff (tst (op2 opNe (shN (rd 6)) (op1 shD (fz (mkL (consA (rd 5) (consA (rd 5) (prt [])))))))) (ret (vl (prt (.bl false)))) sk)
    (sq (iff (brwB 6 [9, 10] (andB (tst (op1 (allD fun bs => bs.all id) (fz (lc (seqP (rd 3)) (.one 8) (prt true) (fz (cal (F__law_is_under z) 3 (consA (rd 1) (consA (ixN' 3 (prt (.int 0))) (consA (rd 8) (prt [])))))))))) (tst (op2 opNe (ixN' 6 (prt (.int 0))) (fz (mkL (consA (ixN' 3 (prt (.int 0))) (prt [])))))))) (ret (vl (prt (.bl false)))) sk)
    (sq (iff (brwB 6 [9, 10] (notB (tst (op1 (allD fun bs => bs.all id) (fz (lc (seqP (rd 4)) (.one 7) (prt true) (op1 (allD fun bs => bs.any id) (fz (lc (seqP (ixN' 6 (prt (.int 1)))) (.one 8) (prt true) (fz (cal (F__law_is_under z) 3 (consA (rd 1) (consA (rd 7) (consA (rd 8) (prt []))))))))))))))) (ret (vl (prt (.bl false)))) sk)
    (sq (expr (mtA (ixN' 6 (prt (.int 0))) (consA (prt .non) (prt [])) stApp))
    (sq (expr (mtA (ixN' 6 (prt (.int 0))) (prt []) stRev))
    (ret (vl (op2 opEq (op1 shD (fz (cal (F__law_told z) 2 (consA (rd 0) (consA (rd 3) (prt [])))))) (op1 shD (pk 5)))))))))))))
noncomputable def F_law (z : Zf) : P R := fnP 12 []
    (sq (for' (opL rng1 (opV maxI (consA (prt (.int 1)) (consA (opV minI (consA (prt (.int 3)) (consA (op1 lenD (pk 0)) (prt [])))) (prt []))))) (.one 1) (sq (set' 2 (cal (F__law_pot z) 2 (consA (rd 0) (consA (rd 1) (prt [])))))
    (sq (unp' (.many [3, 4]) (fz (calB 2 (F__law_sizes z) 1 (prt []))))
    (sq (set' 5 (calB 2 (F__law_kinds z) 2 (consA (rd 3) (prt []))))
    (sq (unp' (.many [6, 7, 8]) (mkT (consA (fz (opR (mkH z.c_Hierarchy) (rd 5))) (consA (fz (cal (F__law_ups z) 1 (consA (rd 5) (prt [])))) (consA (fz (cal (F__law_all_points z) 2 (consA (rd 5) (consA (rd 4) (prt []))))) (prt []))))))
    (for' (opL rng1 (prt (.int 12))) (.one 9) (sq (set' 10 (lc (opL rng1 (op2 ixD (fz (mkL (consA (prt (.int 1)) (consA (prt (.int 2)) (consA (prt (.int 2)) (consA (prt (.int 2)) (consA (prt (.int 3)) (consA (prt (.int 4)) (consA (prt (.int 8)) (prt [])))))))))) (fz (calB 2 (F__law_draw z) 2 (consA (prt (.int 7)) (prt [])))))) (.one 11) (prt true) (ixN' 8 (fz (calB 2 (F__law_draw z) 2 (consA (op1 lenD (pk 8)) (prt [])))))))
    (sq (set' 10 (ifV (tst (op2 opEq (fz (calB 2 (F__law_draw z) 2 (consA (prt (.int 6)) (prt [])))) (prt (.int 0)))) (vl (op2 opAdd (op2 opMul (fz (slA (rd 10) (prt none) (sOpt (prt (.int 1))))) (prt (.int 2))) (fz (slA (rd 10) (sOpt (prt (.int 2))) (prt none))))) (vl (rd 10))))
    (sq (iff (orB (notB (tst (fz (cal (F__law_right z) 4 (consA (rd 6) (consA (rd 7) (consA (rd 8) (consA (rd 10) (prt []))))))))) (notB (tst (fz (cal (F__law_flat_right z) 2 (consA (rd 5) (consA (rd 10) (prt [])))))))) (ret (vl (prt (.bl false)))) sk)
    (iff (notB (tst (fz (cal (F__law_right z) 4 (consA (rd 6) (consA (rd 7) (consA (rd 8) (consA (rd 10) (prt []))))))))) (ret (vl (prt (.bl false)))) sk))))))))))
    (ret (vl (prt (.bl true)))))
end Fk
namespace Lw
open PySem PySem.Spec PyProof.Rows L2 Kv
def topS (i : Nat) : Stmt := PySem.Challenge.pw_fewestmethods_k24_whole_highest_common_p.main.body.getD i (.Pass ⟨0, 0, 0, 0⟩)
abbrev c_MethodsError : Stmt := topS 2
abbrev c_InvalidHierarchy : Stmt := topS 3
abbrev c_InvalidText : Stmt := topS 4
abbrev c_InvalidPoint : Stmt := topS 5
abbrev c_NotFound : Stmt := topS 6
abbrev sIsName : Stmt := topS 10
abbrev sAre : Stmt := topS 21
abbrev sProb : Stmt := topS 22
abbrev sAnc : Stmt := topS 23
abbrev cHier : Stmt := topS 26
abbrev m_init : Stmt := inClass cHier 1
end Lw
namespace Lw
open PySem PySem.Spec PyProof.Rows L2 Kv
section
variable {P : Program} {w : World} {K : PySem.W.Frag} {mg : Str → Option Value} {base : Heap}
end
section
variable {P : Program} {w : World} {K : PySem.W.Frag} {mg : Str → Option Value} {base : Heap}
end
end Lw
namespace Lw
open PySem PySem.Spec PyProof.Rows L2 Kv
theorem scIsName : FnScope ["value", "letter"] ["value"] (defScope sIsName) :=
  ⟨rfl, rfl, rfl, by decide +kernel, rfl, by decide +kernel, by decide +kernel⟩
section
variable {P : Program} {w : World} {K : PySem.W.Frag} {mg : Str → Option Value} {base : Heap}
def spName (K : PySem.W.Frag) : Sp := fun vs H Q _ => ∃ v : V, vs = [v] ∧ Good K H v ∧ ∀ H', Same H H' → Q (.bl (nameV v)) H'
theorem ok_isname {f : Addr} {fd : FuncData} {k : Nat} {t1 t2 : Tok} (F : Fun K "is_name" "is_name" sIsName f fd)
    (mi : mg "isinstance" = none) (ms : mg "str" = none) (ml : mg "len" = none) (ma : mg "all" = none)
    (g1 : mg "LETTERS" = some (.str "abcdefghijklmnopqrstuvwxyz" t1)) (g2 : mg "LONGEST_NAME" = some (.int 8 t2)) :
    FnOk P w K mg base CX0 (k + 1) f fd ["value"] (spName K) := by
  refine F.ok scIsName (fun vs H Q E h => ?_) (fun cdv A outer s H vs Q E hr h => ?_)
  · obtain ⟨a, rfl, _⟩ := h
    rfl
  · obtain ⟨v, rfl, ⟨nd, d, sh, hf, hv⟩, q⟩ := h
    refine ⟨_, pss_cons (ps_if (pt_not (pt_val (pe_callB call_isi (by rfl) mi (by decide +kernel) (pa_cons (pv 0)
          (pa_cons (pe_bltn (v := .ty "str") (by rfl) ms (by decide +kernel : bootBuiltins "str" = some (.type "str")) rfl) pa_nil))))) (pss_one (ps_ret pe_bl)) pss_nil)
      (pss_one (ps_ret (pe_and (pe_chain op_le op_le pe_int (pe_callB call_len_str (by rfl) ml PySem.boot_len (pa_cons (pv 0) pa_nil)) (pe_glob (v := .int 8) (by rfl) g2 ⟨_, rfl⟩))
        (pe_one (pe_callB (cr_all rfl) (by rfl) ma (by decide +kernel) (pa_cons
          (pe_lc (own := [("letter", 1)]) (g := gName 1) (tt := tYes) rfl scIsName.nd (pi_str (pv 0))
            (blkOk_by (own := [("letter", 1)]) (N := ["value", "letter"]) (sc := defScope sIsName) (by decide +kernel))
            (fun _ _ _ _ _ => pg_name (i := 1) scIsName.nd rfl (Or.inl rfl)) (fun _ _ _ _ _ => pts_nil)
            (fun _ _ _ _ _ => pe_cmpR op_in_sign (pv 1) (pe_glob (v := .str "abcdefghijklmnopqrstuvwxyz") (by rfl) g1 ⟨_, rfl⟩) rfl)) pa_nil)))))), ?_⟩
    obtain ⟨T, ty, hT⟩ := sh.ty
    rcases hT with ⟨x, rfl, rfl⟩ | ⟨hne, hT⟩
    · have hx := hv x rfl
      have hxl : x.length ≤ sizeLine := szle (Nat.le_trans hx.1 (by decide))
      refine ⟨.str x, rfl, .str x, .ty "str", _, _, true, rfl, .ty "str", ty, kit_ty (by decide +kernel), true, rfl, iteF ?_⟩
      refine ⟨.str x, rfl, x, rfl, hxl, _, _, rfl, rfl, _, rfl, ite2 (fun e => ?_) (fun e => ?_)⟩
      · have e1 : (1 : Int) ≤ x.length := of_decide_eq_true e
        refine ⟨_, _, rfl, rfl, _, rfl, ite2 (fun e2 => ?_) (fun e2 => ?_)⟩
        · have e3 : (x.length : Int) ≤ 8 := of_decide_eq_true e2
          refine ⟨.str x, rfl, x, rfl, fun D nD => ?_⟩
          refine lc_it walk_str (fun i H3 => H3 = upd H D (.lst ((x.cps.toList.take i).map fun c => .bl (inAz c)))) ?_ (fun _ _ _ _ => trivial) (fun i y H3 H4 hi hP hY => ?_) (fun H3 hP => ?_)
          · rfl
          · obtain ⟨rfl, c, hc, rfl⟩ := hY
            subst hP
            refine ⟨rfl, .str ⟨#[c]⟩, rfl, c, _, rfl, rfl, _, upd_same, ?_, ?_⟩
            · rw [List.length_map, List.length_take]
              exact sz1 (by
                have : i < x.length := hi
                omega)
            · have hc2 : x.cps.toList[i]? = some c := by
                rw [Array.getElem?_toList]
                exact hc
              rw [upd_upd, List.take_add_one, hc2, List.map_append]
              rfl
          · subst hP
            refine ⟨D, (x.cps.toList.take x.cps.size).map inAz, rfl, .inl (.inl ?_), ?_⟩
            · rw [upd_same, List.map_map]
              rfl
            · have e4 : x.cps.toList.take x.cps.size = x.cps.toList := List.take_of_length_le (by rw [Array.length_toList]; exact Nat.le_refl _)
              have e5 : ((x.cps.toList.take x.cps.size).map inAz).all id = nameV (.str x) := by
                rw [e4, List.all_map]
                show _ = ((decide (1 ≤ x.length) && decide (x.length ≤ 8)) && x.cps.toList.all inAz)
                rw [decide_eq_true (by omega : 1 ≤ x.length), decide_eq_true (by omega : x.length ≤ 8)]
                rfl
              rw [e5]
              exact q _ (same_new nD)
        · have e3 : ¬ (x.length : Int) ≤ 8 := fun z => e2 (decide_eq_true z)
          have e5 : nameV (.str x) = false := by
            show ((decide (1 ≤ x.length) && decide (x.length ≤ 8)) && x.cps.toList.all inAz) = false
            rw [decide_eq_false (by omega : ¬ x.length ≤ 8), Bool.and_false, Bool.false_and]
          have := q H (Same.refl _)
          rw [e5] at this
          exact this
      · have e1 : ¬ (1 : Int) ≤ x.length := fun z => e (decide_eq_true z)
        have e5 : nameV (.str x) = false := by
          show ((decide (1 ≤ x.length) && decide (x.length ≤ 8)) && x.cps.toList.all inAz) = false
          rw [decide_eq_false (by omega : ¬ 1 ≤ x.length), Bool.false_and, Bool.false_and]
        have := q H (Same.refl _)
        rw [e5] at this
        exact ⟨false, rfl, iteF this⟩
    · have hk : kitB T "str" = some false := by
        rcases hT with rfl | rfl | rfl | rfl | rfl | rfl <;> decide +kernel
      have := q H (Same.refl _)
      rw [nameV_not hne] at this
      exact ⟨v, rfl, v, .ty "str", _, _, false, rfl, .ty "str", ty, kit_ty hk, false, rfl, iteT this⟩
end
end Lw
namespace Lw
open PySem PySem.Spec PyProof.Rows L2 Kv
theorem perm_erase {α : Type} : ∀ (l : List α) (i : Nat) (x : α), l[i]? = some x → (x :: l.eraseIdx i).Perm l
  | [], i, x, h => by simp at h
  | y :: r, 0, x, h => by
    have e : y = x := by simpa using h
    subst e
    exact List.Perm.refl _
  | y :: r, i + 1, x, h => by
    have ih := perm_erase r i x (by simpa using h)
    exact (List.Perm.swap y x (r.eraseIdx i)).trans (ih.cons y)
theorem len_erase {α : Type} {l : List α} {i : Nat} {x : α} (h : l[i]? = some x) : (l.eraseIdx i).length + 1 = l.length :=
  (perm_erase l i x h).length_eq
theorem seqIx {d : Int} {n : Nat} (h0 : 0 ≤ d) (h1 : d < n) : seqIndex? d n = some d.toNat := by
  unfold seqIndex?
  simp only [show ¬ d < 0 by omega, if_false]
  simp [h0, h1]
theorem join_az : ∀ ys : List Str, (∀ y ∈ ys, ∃ c, c ∈ az ∧ y = ⟨#[c]⟩) →
    (Txt.join "" ys).length = ys.length ∧ ∀ c ∈ (Txt.join "" ys).cps.toList, c ∈ az := by
  intro ys hy
  have e : (Txt.join "" ys).cps.toList = (ys.map TL.tl).flatten := by
    rw [TL.join_eq]
    show TL.tl (Str.join _ _) = _
    rw [TL.tl_join]
    exact joinL_nil _
  refine ⟨?_, fun c hc => ?_⟩
  · rw [Kv.len_list, e]
    clear e
    induction ys with
    | nil => rfl
    | cons y r ih =>
      obtain ⟨c, _, h1⟩ := hy y (List.mem_cons_self ..)
      have h2 := ih fun z hz => hy z (List.mem_cons_of_mem _ hz)
      simp only [List.map_cons, List.flatten_cons, List.length_append, List.length_cons, h2]
      have h3 : (TL.tl y).length = 1 := by
        rw [h1]
        rfl
      omega
  · rw [e] at hc
    obtain ⟨l, hl, hcl⟩ := List.mem_flatten.mp hc
    obtain ⟨y, hm, rfl⟩ := List.mem_map.mp hl
    obtain ⟨d, hd, rfl⟩ := hy y hm
    have : c = d := by simpa [TL.tl] using hcl
    rw [this]
    exact hd
theorem name_sm {x : Str} (h : nameV (.str x) = true) : Sm 8 x := by
  have h1 : ((decide (1 ≤ x.length) && decide (x.length ≤ 8)) && x.cps.toList.all inAz) = true := h
  simp only [Bool.and_eq_true, decide_eq_true_eq, List.all_eq_true] at h1
  refine ⟨h1.1.2, fun c hc => ?_⟩
  have h2 := of_decide_eq_true (h1.2 c hc)
  have : ∀ z ∈ az, z < 128 := by decide +kernel
  exact this c h2
section
variable {P : Program} {w : World} {K : PySem.W.Frag} {mg : Str → Option Value} {base : Heap}
end
end Lw
namespace Lw
open PySem PySem.Spec PyProof.Rows L2 Kv
section
variable {P : Program} {w : World} {K : PySem.W.Frag} {mg : Str → Option Value} {base : Heap}
end
end Lw
namespace Lw
open PySem PySem.Spec PyProof.Rows L2 Kv
section
variable {P : Program} {w : World} {K : PySem.W.Frag} {mg : Str → Option Value} {base : Heap}
end
end Lw
namespace Lw
open PySem PySem.Spec PyProof.Rows L2 Kv
abbrev NAre : List Str := ["value", "known", "name"]
theorem scAre : FnScope NAre ["value", "known"] (defScope sAre) :=
  ⟨rfl, rfl, rfl, by decide +kernel, rfl, by decide +kernel, by decide +kernel⟩
theorem scProb : FnScope ["row", "known", "name", "superclasses"] ["row", "known"] (defScope sProb) :=
  ⟨rfl, rfl, rfl, by decide +kernel, rfl, by decide +kernel, by decide +kernel⟩
theorem scAnc : FnScope ["name", "superclasses", "above", "found", "superclass", "ancestor"] ["name", "superclasses", "above"] (defScope sAnc) :=
  ⟨rfl, rfl, rfl, by decide +kernel, rfl, by decide +kernel, by decide +kernel⟩
section
variable {P : Program} {w : World} {K : PySem.W.Frag} {mg : Str → Option Value} {base : Heap}
def areV (kvs : List (Key × V)) (ss : List Str) : Bool := ss.all (fun x => (valV kvs (Sum.inr x : Key)).isSome) && decide (met ss ss.length = ss.length)
def spAre (K : PySem.W.Frag) : Sp := fun vs H Q _ => ∃ (a d : Addr) (ss : List Str) (kvs : List (Key × V)), vs = [.ref a, .ref d] ∧ TpO K H a (ss.map V.str) ∧ H d = some (.dK kvs) ∧ ss.length ≤ 100 ∧
  ∀ H', Same H H' → Q (.bl (areV kvs ss)) H'
theorem ok_are {f : Addr} {fd : FuncData} {k : Nat} (F : Fun K "are_superclasses" "are_superclasses" sAre f fd)
    (mi : mg "isinstance" = none) (mT : mg "tuple" = none) (ms : mg "str" = none) (ma : mg "all" = none) (ml : mg "len" = none) (mS : mg "set" = none) :
    FnOk P w K mg base CX0 (k + 1) f fd ["value", "known"] (spAre K) := by
  refine F.ok scAre (fun vs H Q E h => ?_) (fun cdv A outer s H vs Q E hr h => ?_)
  · obtain ⟨a, d, ss, kvs, rfl, _⟩ := h
    rfl
  · obtain ⟨a, d, ss, kvs, rfl, ha, hd, hl, q⟩ := h
    have hu := hu_of hr
    refine ⟨_, pss_cons (ps_if (pt_not (pt_val (pe_callB call_isi (by rfl) mi (by decide +kernel) (pa_cons (pv 0)
          (pa_cons (pe_bltn (v := .ty "tuple") (by rfl) mT (by decide +kernel : bootBuiltins "tuple" = some (.type "tuple")) rfl) pa_nil))))) (pss_one (ps_ret pe_bl)) pss_nil)
      (pss_cons (ps_if (pt_not (pt_val (pe_callB (cr_all rfl) (by rfl) ma (by decide +kernel) (pa_cons
          (pe_lc (own := [("name", 2)]) (g := gName 2) (tt := tYes) (te := tAndV (tCB (rIsi K) (tCons (tVar 2) (tCons (tC (.ty "str")) tNil))) (tDIn (tVar 2) (tVar 1))) rfl scAre.nd (pi_tup (pv 0))
            (blkOk_by (own := [("name", 2)]) (N := NAre) (sc := defScope sAre) (by decide +kernel))
            (fun _ _ _ _ _ => pg_name (i := 2) scAre.nd rfl (Or.inl rfl)) (fun _ _ _ _ _ => pts_nil)
            (fun _ _ _ _ _ => pe_and (pe_callB call_isi (by rfl) mi (by decide +kernel) (pa_cons (pv 2)
              (pa_cons (pe_bltn (v := .ty "str") (by rfl) ms (by decide +kernel : bootBuiltins "str" = some (.type "str")) rfl) pa_nil)))
              (pe_one (pe_cmp (pc_din hu (pv 2) (pv 1)) rfl)))) pa_nil)))) (pss_one (ps_ret pe_bl)) pss_nil)
      (pss_one (ps_ret (pe_cmpR op_eq (pe_lenTexts rfl (by rfl) ml (by rfl) mS (pv 0)) (pe_callB call_len_seq (by rfl) ml PySem.boot_len (pa_cons (pv 0) pa_nil)) (nomark _))))), ?_⟩
    refine ⟨.ref a, rfl, .ref a, .ty "tuple", _, _, true, rfl, .ty "tuple", ha.ty, kit_ty (by decide +kernel), true, rfl, iteF ?_⟩
    refine ⟨.ref a, rfl, a, rfl, ⟨_, ha.sq⟩, fun D nD => ?_⟩
    have nDd : d ≠ D := ne_of_none hd nD
    refine lc_tup (xs := ss.map V.str) (fun i H3 => H3 = upd H D (.lst ((ss.take i).map fun x => .bl (valV kvs (Sum.inr x : Key)).isSome))) rfl (fun i H3 _ hP => ?_) (fun i v H3 hv hP => ?_) (fun H3 hP => ?_)
    · subst hP
      exact (ha.same (same_new nD)).sq
    · subst hP
      rw [List.getElem?_map] at hv
      obtain ⟨x, hx, rfl⟩ : ∃ x, ss[i]? = some x ∧ v = .str x := by
        cases hz : ss[i]? with
        | none =>
          rw [hz] at hv
          cases hv
        | some x =>
          rw [hz] at hv
          exact ⟨x, rfl, (Option.some.inj hv).symm⟩
      have hd2 : (upd H D (.lst ((ss.take i).map fun x => V.bl (valV kvs (Sum.inr x : Key)).isSome))) d = some (.dK kvs) := by
        rw [upd_ne nDd]
        exact hd
      refine ⟨rfl, .str x, rfl, .str x, .ty "str", _, _, true, rfl, .ty "str", .base (.str x), kit_ty (by decide +kernel), true, rfl, iteT ?_⟩
      refine ⟨.str x, rfl, .ref d, rfl, d, _, rfl, DGet.k (k := Sum.inr x) hd2, _, upd_same, ?_, ?_⟩
      · rw [List.length_map, List.length_take]
        exact sz1 (by omega)
      · rw [upd_upd, List.take_add_one, hx, List.map_append]
        rfl
    · subst hP
      have et : ss.take (ss.map V.str).length = ss := by
        rw [List.length_map, List.take_length]
      rw [et]
      have sD := same_new (o := .lst (ss.map fun x => V.bl (valV kvs (Sum.inr x : Key)).isSome)) nD
      refine ⟨D, ss.map fun x => (valV kvs (Sum.inr x : Key)).isSome, rfl, .inl (.inl (by rw [upd_same, List.map_map]; rfl)), _, rfl, ?_⟩
      rw [List.all_map]
      show if (!(ss.all (fun x => (valV kvs (Sum.inr x : Key)).isSome))) = true then _ else _
      cases hz : ss.all (fun x => (valV kvs (Sum.inr x : Key)).isSome) with
      | false =>
        refine iteT ?_
        have := q _ sD
        unfold areV at this
        rw [hz, Bool.false_and] at this
        exact this
      | true =>
        refine iteF ?_
        refine ⟨.ref a, rfl, a, ss, rfl, (ha.same sD).sq, by omega, .ref a, rfl, a, ss.map V.str, rfl, .inr (ha.same sD).sq, rfl, ?_⟩
        have := q _ sD
        unfold areV at this
        rw [hz, Bool.true_and] at this
        rw [List.length_map]
        have e : decide (V.int (met ss ss.length : Nat) = V.int (ss.length : Nat)) = decide (met ss ss.length = ss.length) := by
          by_cases e : met ss ss.length = ss.length
          · rw [decide_eq_true e, e]
            exact decide_eq_true rfl
          · rw [decide_eq_false e, decide_eq_false (fun z => e (by
              have := V.int.inj z
              omega))]
        rw [e]
        exact this
def spProb (K : PySem.W.Frag) : Sp := fun vs H Q _ => ∃ (t d : Addr) (r : Row2) (kvs : List (Key × V)), vs = [.ref t, .ref d] ∧ RowK K H (.ref t) r ∧ H d = some (.dK kvs) ∧
  nameV (.str r.1) = true ∧ valV kvs (Sum.inr r.1 : Key) = none ∧ (∀ x ∈ r.2, (valV kvs (Sum.inr x : Key)).isSome = true) ∧ r.2.Nodup ∧ r.2.length ≤ 100 ∧
  ∀ H', Same H H' → Q .non H'
theorem ok_prob {f fN fA : Addr} {fd fdN fdA : FuncData} {k : Nat} (F : Fun K "row_problem" "row_problem" sProb f fd)
    (FN : Fun K "is_name" "is_name" sIsName fN fdN) (bN : Binds K fdN ["value"] []) (gN : mg "is_name" = some (.ref fN))
    (FA : Fun K "are_superclasses" "are_superclasses" sAre fA fdA) (bA : Binds K fdA ["value", "known"] []) (gA : mg "are_superclasses" = some (.ref fA))
    (GN : FnOk P w K mg base CX0 (k + 1) fN fdN ["value"] (spName K)) (GA : FnOk P w K mg base CX0 (k + 1) fA fdA ["value", "known"] (spAre K))
    (mi : mg "isinstance" = none) (mT : mg "tuple" = none) (ml : mg "len" = none) :
    FnOk P w K mg base CX0 (k + 2) f fd ["row", "known"] (spProb K) := by
  refine F.ok scProb (fun vs H Q E h => ?_) (fun cdv A outer s H vs Q E hr h => ?_)
  · obtain ⟨t, d, r, kvs, rfl, _⟩ := h
    rfl
  · obtain ⟨t, d, ⟨n, ss⟩, kvs, rfl, ⟨t', sA, e0, ht, hs⟩, hd, h1, h2, h3, h4, h5, q⟩ := h
    cases e0
    have hu := hu_of hr
    refine ⟨_, pss_cons (ps_if (PW.pt (pw_or (pt_not (pt_val (pe_callB call_isi (by rfl) mi (by decide +kernel) (pa_cons (pv 0)
          (pa_cons (pe_bltn (v := .ty "tuple") (by rfl) mT (by decide +kernel : bootBuiltins "tuple" = some (.type "tuple")) rfl) pa_nil)))))
          (pw_or1 (pt_cmpR op_ne (pe_callB call_len_seq (by rfl) ml PySem.boot_len (pa_cons (pv 0) pa_nil)) pe_int (nomark _))))) (pss_one (ps_ret pe_str)) pss_nil)
      (pss_cons (ps_asg (pv 0) (pg_tup (by rfl) (pgs_cons (pg_name (i := 2) scProb.nd rfl (.inl rfl)) (pgs_cons (pg_name (i := 3) scProb.nd rfl (.inl rfl)) pgs_nil))))
      (pss_cons (ps_if (pt_not (pt_val (pe_call GN hr (by rfl) gN FN.kp bN .nil pass0 (pa_cons (pv 2) pa_nil)))) (pss_one (ps_ret pe_str)) pss_nil)
      (pss_cons (ps_if (pt_cmp (pc_din hu (pv 2) (pv 1))) (pss_one (ps_ret pe_str)) pss_nil)
      (pss_cons (ps_if (pt_not (pt_val (pe_call GA hr (by rfl) gA FA.kp bA .nil pass0 (pa_cons (pv 3) (pa_cons (pv 1) pa_nil))))) (pss_one (ps_ret pe_str)) pss_nil)
      (pss_one (ps_ret pe_non)))))), ?_⟩
    refine ⟨.ref t, rfl, .ref t, .ty "tuple", _, _, true, rfl, .ty "tuple", .base (.tup ht), kit_ty (by decide +kernel), true, rfl, iteF ?_⟩
    refine ⟨.ref t, rfl, t, _, rfl, .inr (.inl (.inl ht)), rfl, _, rfl, ?_⟩
    show if (!decide (V.int 2 = V.int 2)) = true then _ else _
    rw [decide_eq_true rfl]
    refine iteF ?_
    refine ⟨.ref t, rfl, t, _, rfl, .inl (.inl ht), rfl, _, _, rfl, _, _, rfl, rfl, ?_⟩
    have gn : Good K H (.str n) := Good.str (name_sm h1)
    refine ⟨.str n, rfl, .str n, rfl, gn, fun H1 s1 => ⟨_, rfl, ?_⟩⟩
    rw [h1]
    refine iteF ?_
    refine ⟨.str n, rfl, .ref d, rfl, d, _, rfl, DGet.k (k := Sum.inr n) (s1 _ _ hd), _, rfl, ?_⟩
    rw [h2]
    refine iteF ?_
    refine ⟨.ref sA, rfl, .ref d, rfl, sA, d, ss, kvs, rfl, hs.same s1, s1 _ _ hd, h5, fun H2 s2 => ⟨_, rfl, ?_⟩⟩
    have e : areV kvs ss = true := by
      unfold areV
      rw [Bool.and_eq_true, List.all_eq_true]
      exact ⟨h3, decide_eq_true (met_nodup h4 _ (Nat.le_refl _))⟩
    rw [e]
    exact iteF (q _ (s1.trans s2))
def spAnc (K : PySem.W.Frag) : Sp := fun vs H Q _ => ∃ (n : Str) (a u : Addr) (ss : List Str) (kvs : List (Key × V)) (tab : Tab), vs = [.str n, .ref a, .ref u] ∧ TpO K H a (ss.map V.str) ∧
  H u = some (.dK kvs) ∧ Entries H kvs tab ∧ TabOk tab ∧ tab.length ≤ 100 ∧ (∀ x ∈ ss, x ∈ tabKeys tab) ∧
  ∀ H' F, Same H H' → H F = none → H' F = some (.dK (flag (ancOf tab n ss))) → Q (.ref F) H'
theorem ok_anc {f : Addr} {fd : FuncData} {k : Nat} (F : Fun K "ancestors_of" "ancestors_of" sAnc f fd) :
    FnOk P w K mg base CX0 (k + 1) f fd ["name", "superclasses", "above"] (spAnc K) := by
  refine F.ok scAnc (fun vs H Q E h => ?_) (fun cdv A outer s H vs Q E hr h => ?_)
  · obtain ⟨n, a, u, ss, kvs, tab, rfl, _⟩ := h
    rfl
  · obtain ⟨n, a, u, ss, kvs, tab, rfl, ha, hU, he, hok, hlen, hss, q⟩ := h
    have hu := hu_of hr
    refine ⟨_, pss_cons (ps_set (i := 3) scAnc.nd rfl (.inl rfl) (pe_disp (pps_cons (pv 0) pe_bl pps_nil) (by rfl) (by rfl) (fun z => by cases z) (by decide)))
      (pss_cons (ps_for PassesOwn.never rfl (pi_tup (pv 1)) (pg_name (i := 4) scAnc.nd rfl (.inl rfl))
        (pss_one (ps_lock (ps_for PassesOwn.never rfl (pi_keys (pe_dget hu (pv 2) (pv 4) (fun _ _ => rfl))) (pg_name (i := 5) scAnc.nd rfl (.inl rfl))
          (pss_one (ps_dput hu (pv 3) (pv 5) pe_bl rfl))))))
      (pss_one (ps_ret (pv 3)))), ?_⟩
    refine fun D nD => ⟨.str n, rfl, upd_same, [(Sum.inr n, .bl true)], rfl, (by decide : 1 ≤ 15), ?_⟩
    have sD := same_new2 (o := .dK []) (u := .dK (flag [n])) nD
    have nDu : u ≠ D := ne_of_none hU nD
    refine ⟨.ref a, rfl, a, rfl, ⟨_, (ha.same sD).sq⟩, ?_⟩
    refine for_tup (xs := ss.map V.str) (fun i σ H3 => ∃ y4 y5 : Option V, σ = [some (.str n), some (.ref a), some (.ref u), some (.ref D), y4, y5] ∧ H3 D = some (.dK (flag (ancAt tab n ss i))) ∧ Same H H3)
      ⟨none, none, rfl, upd_same, sD⟩ (fun i σ H3 _ hP => ?_) (fun i v σ H3 hv hP => ?_) (fun σ H3 hP => ?_)
    · obtain ⟨_, _, _, _, s3⟩ := hP
      exact (ha.same s3).sq
    · obtain ⟨y4, y5, rfl, eD, s3⟩ := hP
      rw [List.getElem?_map] at hv
      obtain ⟨x, hx, rfl⟩ : ∃ x, ss[i]? = some x ∧ v = .str x := by
        cases hz : ss[i]? with
        | none =>
          rw [hz] at hv
          cases hv
        | some x =>
          rw [hz] at hv
          exact ⟨x, rfl, (Option.some.inj hv).symm⟩
      have hxk := hss x (List.mem_of_getElem? hx)
      obtain ⟨d, hval, hd⟩ := he.look hxk
      have nDd : d ≠ D := ne_of_none hd nD
      have nud : u ≠ d := by
        intro z
        rw [← z, hU] at hd
        cases Option.some.inj hd
        rw [valV_flag] at hval
        split at hval <;> cases hval
      have d3 := s3 _ _ hd
      refine ⟨d, _, d3, trivial, fun od => ?_⟩
      have u3 : (upd H3 d (.frz od (.dK (flag (look tab x))))) u = some (.dK kvs) := by
        rw [upd_ne nud]
        exact s3 _ _ hU
      have gg := DGet.k (k := Sum.inr x) u3
      rw [hval] at gg
      refine ⟨.ref u, rfl, .str x, rfl, u, .ref d, rfl, gg, d, od, rfl, .inl ⟨_, upd_same, ?_⟩⟩
      refine for_it walk_keys (fun j σ H4 => ∃ y5 : Option V, σ = [some (.str n), some (.ref a), some (.ref u), some (.ref D), some (.str x), y5] ∧ H4 D = some (.dK (flag (addAll (ancAt tab n ss i) ((look tab x).take j)))) ∧
          H4 d = some (.frz od (.dK (flag (look tab x)))) ∧ ∀ b o, b ≠ d → H b = some o → H4 b = some o)
        ⟨y5, rfl, by rw [upd_ne nDd.symm]; exact eD, upd_same, fun b o nb hb => by rw [upd_ne nb]; exact s3 _ _ hb⟩ (fun j σ H4 _ hP => ?_) (fun j v σ H4 H5 hj hP hY => ?_) (fun σ H4 hP => ?_)
      · obtain ⟨_, _, _, e, _⟩ := hP
        exact e
      · obtain ⟨y5, rfl, e1, e2, e3⟩ := hP
        obtain ⟨rfl, k', v', hk, rfl⟩ := hY
        obtain ⟨z, hz, rfl⟩ : ∃ z, (look tab x)[j]? = some z ∧ k' = Sum.inr z := by
          unfold flag at hk
          rw [List.getElem?_map] at hk
          cases hz : (look tab x)[j]? with
          | none =>
            rw [hz] at hk
            cases hk
          | some z =>
            rw [hz] at hk
            cases hk
            exact ⟨z, rfl, rfl⟩
        have ln : (addAll (ancAt tab n ss i) ((look tab x).take j)).length ≤ (n :: tabKeys tab).length := by
          refine nodup_le (addAll_nodup ancOf_nodup) fun y hy => ?_
          rcases mem_addAll.mp hy with g | g
          · rcases mem_ancOf.mp g with rfl | ⟨s', _, g2⟩
            · exact List.mem_cons_self ..
            · exact List.mem_cons_of_mem _ (look_sub hok g2)
          · exact List.mem_cons_of_mem _ (look_sub hok (List.mem_of_mem_take g))
        have lt : (tabKeys tab).length = tab.length := List.length_map _
        rw [List.length_cons, lt] at ln
        refine ⟨.ref D, rfl, .str z, rfl, D, _, rfl, DPut.k (k := Sum.inr z) e1 (by rw [flag_len]; exact sz1 (by omega)), ?_⟩
        refine ⟨_, rfl, ?_, ?_, ?_⟩
        · rw [upd_same, put_flag, addAll_take _ hz]
        · rw [upd_ne nDd]
          exact e2
        · intro b o nb hb
          rw [upd_ne (ne_of_none hb nD)]
          exact e3 b o nb hb
      · obtain ⟨y5, rfl, e1, e2, e3⟩ := hP
        refine ⟨e2, _, _, rfl, ?_, ?_⟩
        · rw [upd_ne nDd.symm, e1, flag_len, List.take_length, ancAt_next hx]
        · intro b o hb
          by_cases z : b = d
          · subst z
            rw [upd_same, ← hd]
            exact hb
          · rw [upd_ne z]
            exact e3 b o z hb
    · obtain ⟨y4, y5, rfl, eD, s3⟩ := hP
      have et : ss.take (ss.map V.str).length = ss := by
        rw [List.length_map, List.take_length]
      unfold ancAt at eD
      rw [et] at eD
      exact ⟨.ref D, rfl, q _ D s3 nD eD⟩
end
end Lw
namespace Lw
open PySem PySem.Spec PyProof.Rows L2 Kv
theorem scInit : FnScope ["self", "classes", "position", "row", "problem", "name", "superclasses"] ["self", "classes"] (defScope m_init) :=
  ⟨rfl, rfl, rfl, by decide +kernel, rfl, by decide +kernel, by decide +kernel⟩
structure HierNw (K : PySem.W.Frag) (C : Addr) (H0 H : Hp) (x : Addr) (rows : List Row2) : Prop where
  ex : ∃ (dx r q u : Addr) (rvs : List V) (kvs : List (Key × V)), H x = some (.ins C dx (flds r q u)) ∧ H r = some (.lst rvs) ∧ RowsK K H rvs rows ∧
    H q = some (.dK (placeKV (fsts rows))) ∧ H u = some (.dK kvs) ∧ Entries H kvs (ancTab rows) ∧ H0 r = none ∧ H0 q = none ∧ H0 u = none ∧ ∀ kv ∈ kvs, ∃ d, kv.2 = .ref d ∧ H0 d = none
section
variable {P : Program} {w : World} {K : PySem.W.Frag} {mg : Str → Option Value} {base : Heap}
def spInit (K : PySem.W.Frag) (C : Addr) : Sp := fun vs H Q _ => ∃ (x dx c : Addr) (us : List V) (rows : List Row2), vs = [.ref x, .ref c] ∧ H x = some (.ins C dx []) ∧
  (SqL K H c us ∨ (SqT K H c us ∧ us = [])) ∧ RowsK K H us rows ∧ Valid rows ∧ rows.length ≤ 20 ∧
  ∀ H', HierNw K C H H' x rows → But x H H' → Q .non H'
theorem ok_init {f fP fA C : Addr} {fd fdP fdA : FuncData} {k : Nat} {dvs : List V} (F : FunD K "__init__" "Hierarchy.__init__" (defArgs m_init) (defBody m_init) (defScope m_init) dvs [] f fd) (T : HTxt K mg C)
    (FP : Fun K "row_problem" "row_problem" sProb fP fdP) (bP : Binds K fdP ["row", "known"] []) (gP : mg "row_problem" = some (.ref fP))
    (FA : Fun K "ancestors_of" "ancestors_of" sAnc fA fdA) (bA : Binds K fdA ["name", "superclasses", "above"] []) (gA : mg "ancestors_of" = some (.ref fA))
    (GP : FnOk P w K mg base CX0 (k + 2) fP fdP ["row", "known"] (spProb K)) (GA : FnOk P w K mg base CX0 (k + 1) fA fdA ["name", "superclasses", "above"] (spAnc K))
    (mi : mg "isinstance" = none) (mT : mg "tuple" = none) (mL : mg "list" = none) (me : mg "enumerate" = none) (ml : mg "len" = none) :
    FnOk P w K mg base CX0 (k + 3) f fd ["self", "classes"] (spInit K C) := by
  refine F.ok scInit (fun vs H Q E h => ?_) (fun cdv A outer s H vs Q E hr h => ?_)
  · obtain ⟨x, dx, c, us, rows, rfl, _⟩ := h
    rfl
  · obtain ⟨x, dx, c, us, rows, rfl, hx, hc, hra, hva, hlen, fin⟩ := h
    have hu := hu_of hr
    have hrA := hr.mono (by omega : k + 1 ≤ k + 2)
    refine ⟨_, PSs.nox (pss_cons (ps_if (pt_not (pt_val (pe_callB call_isiT (by rfl) mi (by decide +kernel) (pa_cons (pv 1)
          (pa_cons (pe_tup (pa_cons (pe_bltn (v := .ty "list") (by rfl) mL (by decide +kernel : bootBuiltins "list" = some (.type "list")) rfl)
            (pa_cons (pe_bltn (v := .ty "tuple") (by rfl) mT (by decide +kernel : bootBuiltins "tuple" = some (.type "tuple")) rfl) pa_nil))) pa_nil))))) (pss_one ps_never) pss_nil)
      (pss_cons (ps_fld (pv 0) (pe_lst pa_nil) rfl)
      (pss_cons (ps_fld (pv 0) pe_dnewK rfl)
      (pss_cons (ps_fld (pv 0) pe_dnewK rfl)
      (pss_cons (ps_for PassesOwn.never rfl (pi_enumS (by rfl) me (pa_cons (pv 1) pa_nil))
          (pg_tup rfl (pgs_cons (pg_name (i := 2) scInit.nd rfl (.inl rfl)) (pgs_cons (pg_name (i := 3) scInit.nd rfl (.inl rfl)) pgs_nil)))
        (pss_cons (ps_set (i := 4) scInit.nd rfl (.inl rfl) (pe_call GP hr (by rfl) gP FP.kp bP .nil pass0 (pa_cons (pv 3) (pa_cons (pe_fld (pv 0) rfl) pa_nil))))
        (pss_cons (ps_if (pt_cmpR op_notN (pv 4) pe_non (nomark _)) (pss_one ps_never) pss_nil)
        (pss_cons (ps_asg (pv 3) (pg_tup (by rfl) (pgs_cons (pg_name (i := 5) scInit.nd rfl (.inl rfl)) (pgs_cons (pg_name (i := 6) scInit.nd rfl (.inl rfl)) pgs_nil))))
        (pss_cons (ps_expr (pe_bm PySem.F.plainAttrs_list PySem.F.slot_list_append PySem.F.type_list_append mt_append (pe_fld (pv 0) rfl)
            (pa_cons (pe_tup (pa_cons (pv 5) (pa_cons (pv 6) pa_nil))) pa_nil)))
        (pss_cons (ps_dput hu (pe_fld (pv 0) rfl) (pv 5) (pv 2) rfl)
        (pss_one (ps_dput hu (pe_fld (pv 0) rfl) (pv 5) (pe_call GA hrA (by rfl) gA FA.kp bA .nil pass0 (pa_cons (pv 5) (pa_cons (pv 6) (pa_cons (pe_fld (pv 0) rfl) pa_nil)))) rfl))))))))
      (pss_one (ps_if (pt_cmpR op_gt (pe_callB call_len_seq (by rfl) ml PySem.boot_len (pa_cons (pe_fld (pv 0) rfl) pa_nil)) (ClX.pe_cval (pe_glob (v := .ref C) (by rfl) T.mgC rfl)) (nomark _)) (pss_one ps_never) pss_nil))))))), ?_⟩
    obtain ⟨T0, hty, hkit⟩ : ∃ T0 : String, (∀ H', Same H H' → TyX K H' (.ref c) (.type T0)) ∧ PySem.W.kitAny K (.type T0) [.type "list", .type "tuple"] = some true := by
      rcases hc with hc | ⟨hc, _⟩
      · exact ⟨"list", fun H' s' => tyL (s'.seq hc), kitAny_cons (kit_ty (by decide +kernel : kitB "list" "list" = some true)) (fun z => nomatch z) (fun _ => rfl)⟩
      · exact ⟨"tuple", fun H' s' => tyT (sqT_same hc s'), kitAny_cons (kit_ty (by decide +kernel : kitB "tuple" "list" = some false))
          (fun _ => kitAny_cons (kit_ty (by decide +kernel : kitB "tuple" "tuple" = some true)) (fun z => nomatch z) (fun _ => rfl)) (fun z => nomatch z)⟩
    refine ⟨.ref c, rfl, (by decide : 2 ≤ sizeLine), fun tp ntp => ?_⟩
    have s0 := same_new (o := .tup [.ty "list", .ty "tuple"]) ntp
    refine ⟨.ref c, tp, [.ty "list", .ty "tuple"], _, [.type "list", .type "tuple"], true, rfl, upd_same, .cons (.ty _) (.cons (.ty _) .nil), hty _ s0, hkit, true, rfl, iteF ?_⟩
    have x0 := s0 _ _ hx
    refine ⟨(by decide : 0 ≤ sizeLine), fun r nr => ?_⟩
    have nxr : x ≠ r := ne_of_none x0 nr
    refine ⟨.ref x, rfl, x, C, dx, [], rfl, (by rw [upd_ne nxr]; exact x0), T.cl, T.nR, (by show 0 < 1000; decide), ?_⟩
    intro q nq
    have nxq : x ≠ q := ne_of_none upd_same nq
    have nrq : r ≠ q := ne_of_none (o := .lst []) (by rw [upd_ne nxr.symm, upd_same]) nq
    refine ⟨.ref x, rfl, x, C, dx, _, rfl, (by rw [upd_ne nxq, upd_same]), T.cl, T.nP, (by show 1 < 1000; decide), ?_⟩
    intro u nu
    have nxu : x ≠ u := ne_of_none upd_same nu
    have nqu : q ≠ u := ne_of_none (o := .dK []) (by rw [upd_ne nxq.symm, upd_same]) nu
    have nru : r ≠ u := ne_of_none (o := .lst []) (by rw [upd_ne nxr.symm, upd_ne nrq, upd_ne nxr.symm, upd_same]) nu
    refine ⟨.ref x, rfl, x, C, dx, _, rfl, (by rw [upd_ne nxu, upd_same]), T.cl, T.nA, two_flds r q, ?_⟩
    have nr0 : H r = none := s0.free nr
    have nq0 : H q = none := by
      have : (upd (upd H tp (.tup [.ty "list", .ty "tuple"])) r (.lst [])) q = none := by
        rw [upd_ne nxq.symm] at nq
        exact nq
      exact s0.free ((same_new nr).free this)
    have nu0 : H u = none := by
      rw [upd_ne nxu.symm, upd_ne nqu.symm, upd_ne nxu.symm] at nu
      exact s0.free ((same_new nr).free nu)
    have P0 : ∃ (y2 y3 y4 y5 y6 : Option V) (rvs : List V) (kvs : List (Key × V)), ([some (.ref x), some (.ref c), none, none, none, none, none] : List (Option V)) = [some (.ref x), some (.ref c), y2, y3, y4, y5, y6] ∧
        (upd (upd (upd (upd (upd (upd (upd H tp (.tup [.ty "list", .ty "tuple"])) r (.lst [])) x (.ins C dx (putF "rows" (.ref r) []))) q (.dK [])) x (.ins C dx (putF "places" (.ref q) (putF "rows" (.ref r) [])))) u (.dK [])) x (.ins C dx (flds r q u))) x = some (.ins C dx (flds r q u)) := ⟨none, none, none, none, none, [], [], rfl, upd_same⟩
    clear P0
    generalize hG : (upd (upd (upd (upd (upd (upd (upd H tp (.tup [.ty "list", .ty "tuple"])) r (.lst [])) x (.ins C dx (putF "rows" (.ref r) []))) q (.dK [])) x (.ins C dx (putF "places" (.ref q) (putF "rows" (.ref r) [])))) u (.dK [])) x (.ins C dx (putF "above" (.ref u) (putF "places" (.ref q) (putF "rows" (.ref r) []))))) = G
    have gx : G x = some (.ins C dx (flds r q u)) := by
      rw [← hG]
      exact upd_same
    have gr : G r = some (.lst []) := by
      rw [← hG, upd_ne nxr.symm, upd_ne nru, upd_ne nxr.symm, upd_ne nrq, upd_ne nxr.symm, upd_same]
    have gq : G q = some (.dK []) := by
      rw [← hG, upd_ne nxq.symm, upd_ne nqu, upd_ne nxq.symm, upd_same]
    have gu : G u = some (.dK []) := by
      rw [← hG, upd_ne nxu.symm, upd_same]
    have gb : But x H G := by
      intro b o nb hb
      rw [← hG, upd_ne nb, upd_ne (ne_of_none hb nu0), upd_ne nb, upd_ne (ne_of_none hb nq0), upd_ne nb, upd_ne (ne_of_none hb nr0)]
      exact s0 _ _ hb
    clear hG
    obtain ⟨Pv, hPv⟩ : ∃ Pv : Nat → L2.St → Hp → Prop, Pv = fun i σ H4 => ∃ (y2 y3 y4 y5 y6 : Option V) (rvs : List V) (kvs : List (Key × V)), σ = [some (.ref x), some (.ref c), y2, y3, y4, y5, y6] ∧
        H4 x = some (.ins C dx (flds r q u)) ∧ H4 r = some (.lst rvs) ∧ RowsK K H4 rvs (rows.take i) ∧ H4 q = some (.dK (placeKV (fsts (rows.take i)))) ∧ H4 u = some (.dK kvs) ∧
        Entries H4 kvs (ancTab (rows.take i)) ∧ (∀ kv ∈ kvs, kv.2 ≠ .ref q ∧ kv.2 ≠ .ref u ∧ kv.2 ≠ .ref r ∧ ∃ d, kv.2 = .ref d ∧ H d = none) ∧ But x H H4 := ⟨_, rfl⟩
    have start : Pv 0 [some (.ref x), some (.ref c), none, none, none, none, none] G := by
      rw [hPv]
      exact ⟨none, none, none, none, none, [], [], rfl, gx, gr, .nil, gq, gu, .nil, fun kv h => (nomatch h), gb⟩
    have lenU : us.length = rows.length := hra.length
    refine ⟨.ref c, rfl, ?_⟩
    rcases hc with hc | ⟨hc, hemp⟩
    · refine .inl ⟨c, us, rfl, sqL_but hc hx gb, ?_⟩
      refine for_it (walk_enum (xs := us)) Pv start (fun i σ H4 _ hP => ?_) (fun i v σ H4 H5 hi hP hY => ?_) (fun σ H4 hP => ?_)
      · rw [hPv] at hP
        obtain ⟨_, _, _, _, _, _, _, _, _, _, _, _, _, _, _, b4⟩ := hP
        exact sqL_but hc hx b4
      · rw [hPv] at hP
        obtain ⟨y2, y3, y4, y5, y6, rvs, kvs, rfl, ex, er, era, eq, eu, een, ene, b4⟩ := hP
        obtain ⟨T5, a5, v5, rfl, nT5, rfl, ea5, ev5⟩ := hY
        cases Option.some.inj ea5
        obtain ⟨⟨n, ss⟩, hrow, hRA⟩ := hra.get ev5
        obtain ⟨t, sA, rfl, ht, hsA⟩ := id hRA
        obtain ⟨v1, v2, v3, v4⟩ := hva i n ss hrow
        have il : i < rows.length := by omega
        have s5 := same_new (o := .tup [.int (i : Nat), .ref t]) nT5
        have RA4 : RowK K H4 (.ref t) (n, ss) := hRA.butX hx (by intro xs z; cases z) b4
        have lf : (fsts (rows.take i)).length = i := by
          unfold fsts
          rw [List.length_map, List.length_take]
          omega
        have ssl : ss.length ≤ i := by
          have := nodup_le v3 v4
          omega
        refine ⟨T5, [.int (i : Nat), .ref t], rfl, .inl (.inl upd_same), rfl, _, _, rfl, _, _, rfl, rfl, ?_⟩
        -- problem
        refine ⟨.ref t, rfl, .ref x, rfl, x, C, dx, _, _, rfl, s5 _ _ ex, T.cl, T.nP, flds_places r q u, t, q, (n, ss), _, rfl, RA4.same s5, s5 _ _ eq, v1, ?_, ?_, v3, (by show ss.length ≤ 100; omega), fun H6 s6 => ?_⟩
        · have := place_val n (fsts (rows.take i))
          rw [decide_eq_false v2] at this
          exact Option.isNone_iff_eq_none.mp (by rw [← Option.not_isSome, this]; rfl)
        · intro y hy
          rw [place_val]
          exact decide_eq_true (v4 y hy)
        have vn : valV (placeKV (fsts (rows.take i))) (Sum.inr n : Key) = none := by
          have := place_val n (fsts (rows.take i))
          rw [decide_eq_false v2] at this
          exact Option.isNone_iff_eq_none.mp (by rw [← Option.not_isSome, this]; rfl)
        have s46 := s5.trans s6
        refine ⟨.non, rfl, rfl, _, rfl, iteF ?_⟩
        -- name, superclasses = row
        refine ⟨.ref t, rfl, t, _, rfl, .inl (.inl (b4.trans (But.of_same s46) t _ (ne_of ht hx (by intro z; cases z)) ht)), rfl, _, _, rfl, _, _, rfl, rfl, ?_⟩
        -- self.rows.append(..)
        have r6 := s46 _ _ er
        refine ⟨.ref x, rfl, x, C, dx, _, _, rfl, s46 _ _ ex, T.cl, T.nR, flds_rows r q u, .inl ⟨rfl, _, .inl (.inl r6)⟩, .str n, rfl, .ref sA, rfl, (by decide : 2 ≤ sizeLine), fun w7 n7 => ?_⟩
        have s7 := same_new (o := .tup [.str n, .ref sA]) n7
        have s47 := s46.trans s7
        have r7 := s47 _ _ er
        have lr : rvs.length = i := by
          have := era.length
          rw [List.length_take] at this
          omega
        refine ⟨r, rvs, _, rfl, rfl, r7, sz1 (by omega), ?_⟩
        have x8 : ∀ o, (upd (upd H6 w7 (.tup [.str n, .ref sA])) r o) x = some (.ins C dx (flds r q u)) := fun o => by
          rw [upd_ne nxr]
          exact s47 _ _ ex
        have q8 : ∀ o, (upd (upd H6 w7 (.tup [.str n, .ref sA])) r o) q = some (.dK (placeKV (fsts (rows.take i)))) := fun o => by
          rw [upd_ne nrq.symm]
          exact s47 _ _ eq
        have u8 : ∀ o, (upd (upd H6 w7 (.tup [.str n, .ref sA])) r o) u = some (.dK kvs) := fun o => by
          rw [upd_ne nru.symm]
          exact s47 _ _ eu
        -- self.places[name] = position
        refine ⟨.int (i : Nat), rfl, .ref x, rfl, x, C, dx, _, _, rfl, x8 _, T.cl, T.nP, flds_places r q u, .str n, rfl, q, _, rfl, DPut.k (k := Sum.inr n) (q8 _) (by rw [place_len]; exact sz1 (by omega)), ?_⟩
        rw [putK_new _ vn]
        generalize hM : upd (upd (upd H6 w7 (.tup [.str n, .ref sA])) r (.lst (rvs ++ [.ref w7]))) q (.dK (placeKV (fsts (rows.take i)) ++ [(Sum.inr n, .int (i : Nat))])) = M
        have mx : M x = some (.ins C dx (flds r q u)) := by
          rw [← hM, upd_ne nxq]
          exact x8 _
        have mr : M r = some (.lst (rvs ++ [.ref w7])) := by
          rw [← hM, upd_ne nrq, upd_same]
        have mq : M q = some (.dK (placeKV (fsts (rows.take i)) ++ [(Sum.inr n, .int (i : Nat))])) := by
          rw [← hM, upd_same]
        have mu : M u = some (.dK kvs) := by
          rw [← hM, upd_ne nqu.symm]
          exact u8 _
        have mra : RowsK K M (rvs ++ [.ref w7]) (rows.take i ++ [(n, ss)]) := by
          rw [← hM]
          refine RowsK.wrX (q8 _) (by intro xs z; cases z) (RowsK.wrX r7 (by intro xs z; cases z) ?_)
          refine RowsK.snoc (era.same s47) ⟨w7, sA, rfl, upd_same, ?_⟩
          exact (hsA.map fun h => b4 _ _ (ne_of h hx (by intro z; cases z)) h).same s47
        have men : Entries M kvs (ancTab (rows.take i)) := by
          rw [← hM]
          refine Entries.wr (Entries.wr (een.mono fun d as e => s47 _ _ e) fun kv hk => (ene kv hk).2.2.1) fun kv hk => (ene kv hk).1
        have mb : But x H M := by
          intro b o nb hb
          rw [← hM, upd_ne (ne_of_none hb nq0), upd_ne (ne_of_none hb nr0)]
          exact s47 _ _ (b4 _ _ nb hb)
        clear hM
        have msA := hsA.map fun h => mb _ _ (ne_of h hx (by intro z; cases z)) h
        -- ancestors_of(name, superclasses, self.above)
        refine ⟨.str n, rfl, .ref sA, rfl, .ref x, rfl, x, C, dx, _, _, rfl, mx, T.cl, T.nA, flds_above r q u, n, sA, u, ss, kvs, ancTab (rows.take i), rfl, msA, mu, men, ancTab_ok rows i, ?_, ?_, fun H9 F9 s9 nF9 eF9 => ?_⟩
        · have := ancTab_keys (rows.take i)
          have e2 := congrArg List.length this
          unfold tabKeys at e2
          rw [List.length_map, lf] at e2
          omega
        · intro y hy
          rw [ancTab_keys]
          exact v4 y hy
        have kl : kvs.length = i := by
          have h1 := men.length
          have := ancTab_keys (rows.take i)
          have e2 := congrArg List.length this
          unfold tabKeys at e2
          rw [List.length_map, lf] at e2
          omega
        have kn : valV kvs (Sum.inr n : Key) = none := men.none (by rw [ancTab_keys]; exact v2)
        refine ⟨.ref x, rfl, x, C, dx, _, _, rfl, s9 _ _ mx, T.cl, T.nA, flds_above r q u, .str n, rfl, u, _, rfl, DPut.k (k := Sum.inr n) (s9 _ _ mu) (sz1 (by omega)), ?_⟩
        rw [putK_new _ kn, hPv]
        have tk1 : rows.take (i + 1) = rows.take i ++ [(n, ss)] := by
          rw [List.take_add_one, hrow]
          rfl
        refine ⟨_, _, _, _, _, rvs ++ [.ref w7], kvs ++ [(Sum.inr n, .ref F9)], rfl, ?_, ?_, ?_, ?_, upd_same, ?_, ?_, ?_⟩
        · rw [upd_ne nxu]
          exact s9 _ _ mx
        · rw [upd_ne nru]
          exact s9 _ _ mr
        · rw [tk1]
          exact RowsK.wrX (s9 _ _ mu) (by intro xs z; cases z) (mra.same s9)
        · rw [upd_ne nqu, tk1, fsts_snoc, place_snoc, lf]
          exact s9 _ _ mq
        · rw [tk1, ancTab_snoc]
          refine Entries.wr (Entries.snoc (men.mono fun d as e => s9 _ _ e) ⟨rfl, F9, rfl, eF9⟩) ?_
          intro kv hk
          rcases List.mem_append.mp hk with z | z
          · exact (ene kv z).2.1
          · rw [List.mem_singleton.mp z]
            intro z2
            cases z2
            rw [mu] at nF9
            cases nF9
        · intro kv hk
          rcases List.mem_append.mp hk with z | z
          · exact ene kv z
          · rw [List.mem_singleton.mp z]
            refine ⟨fun z2 => ?_, fun z2 => ?_, fun z2 => ?_, F9, rfl, ?_⟩
            · cases z2
              rw [mq] at nF9
              cases nF9
            · cases z2
              rw [mu] at nF9
              cases nF9
            · cases z2
              rw [mr] at nF9
              cases nF9
            · cases hF : H F9 with
              | none => rfl
              | some o =>
                have nx : F9 ≠ x := fun z2 => by
                  rw [z2, mx] at nF9
                  cases nF9
                rw [mb F9 o nx hF] at nF9
                cases nF9
        · intro b o nb hb
          rw [upd_ne (ne_of_none hb nu0)]
          exact s9 _ _ (mb _ _ nb hb)
      · rw [hPv] at hP
        obtain ⟨y2, y3, y4, y5, y6, rvs, kvs, rfl, ex, er, era, eq, eu, een, ene, b4⟩ := hP
        have tk : rows.take us.length = rows := List.take_of_length_le (by omega)
        rw [tk] at era eq een
        have lr := era.length
        obtain ⟨mc, ul, h1, h2⟩ := T.lim
        refine ⟨.ref x, rfl, x, C, dx, _, _, rfl, ex, T.cl, T.nR, flds_rows r q u, r, rvs, rfl, .inl (.inl (.inl er)), C, mc, .int 20, ul, rfl, h1, h2, _, _, rfl, rfl, _, rfl, ?_⟩
        rw [decide_eq_false (by omega : ¬ (rvs.length : Int) > 20)]
        exact iteF (fin _ ⟨dx, r, q, u, rvs, kvs, ex, er, era, eq, eu, een, nr0, nq0, nu0, fun kv hk => (ene kv hk).2.2.2⟩ b4)
    · subst hemp
      have hr0 : rows = [] := List.eq_nil_of_length_eq_zero (by
        have : ([] : List V).length = 0 := rfl
        omega)
      refine .inr ⟨c, [], rfl, sqT_but hc hx gb, ?_⟩
      refine for_it (walk_enumT (xs := [])) Pv start (fun i σ H4 _ hP => ?_) (fun i v σ H4 H5 hi hP hY => ?_) (fun σ H4 hP => ?_)
      · rw [hPv] at hP
        obtain ⟨_, _, _, _, _, _, _, _, _, _, _, _, _, _, _, b4⟩ := hP
        exact sqT_but hc hx b4
      · exact absurd hi (Nat.not_lt_zero _)
      · rw [hPv] at hP
        obtain ⟨y2, y3, y4, y5, y6, rvs, kvs, rfl, ex, er, era, eq, eu, een, ene, b4⟩ := hP
        have tk : rows.take ([] : List V).length = rows := by
          rw [hr0]
          rfl
        rw [tk] at era eq een
        have lr := era.length
        obtain ⟨mc, ul, h1, h2⟩ := T.lim
        refine ⟨.ref x, rfl, x, C, dx, _, _, rfl, ex, T.cl, T.nR, flds_rows r q u, r, rvs, rfl, .inl (.inl (.inl er)), C, mc, .int 20, ul, rfl, h1, h2, _, _, rfl, rfl, _, rfl, ?_⟩
        rw [decide_eq_false (by omega : ¬ (rvs.length : Int) > 20)]
        exact iteF (fin _ ⟨dx, r, q, u, rvs, kvs, ex, er, era, eq, eu, een, nr0, nq0, nu0, fun kv hk => (ene kv hk).2.2.2⟩ b4)
end
end Lw
/-! A hierarchy as a tree; its making. -/
namespace Lw
open PySem PySem.Spec PyProof.Rows L2 Kv Pu
theorem flds_eq (r q u : Addr) : flds r q u = [(("rows" : Str), V.ref r), (("places" : Str), V.ref q), (("above" : Str), V.ref u)] := by
  have h1 : ¬ (("rows" : Str) = "places") := Kv.f2
  have h2 : ¬ (("rows" : Str) = "above") := Kv.f1
  have h3 : ¬ (("places" : Str) = "above") := Kv.f3
  simp only [flds, putF, if_neg h1, if_neg h2, if_neg h3]
theorem flds_fst (r q u : Addr) : (flds r q u).map (·.1) = [("rows" : Str), "places", "above"] := by rw [flds_eq]; rfl
theorem flds_snd (r q u : Addr) : (flds r q u).map (·.2) = [V.ref r, .ref q, .ref u] := by rw [flds_eq]; rfl
section
variable {K : PySem.W.Frag} {ok : Addr → Prop} {H : Hp}
theorem row_at {v : V} {d : D} {r : Row2} (h : Rep K ok H v d) (e : Pu.rowOf d = some r) : RowK K H v r := by
  unfold Pu.rowOf at e
  split at e
  · rename_i n ss
    obtain ⟨xs, ex, rfl⟩ := map_some e
    cases h with
    | tupO ht rs =>
      replace ht := ht.at (by rintro rfl; cases rs)
      cases rs with
      | cons r1 rr =>
        cases rr with
        | cons r2 r3 =>
          cases r3
          cases r1
          cases r2 with
          | tupO hs rss =>
            have := rss.strs ex
            subst this
            exact ⟨_, _, rfl, ht, hs⟩
  · cases e
theorem rows_are : ∀ {vs : List V} {ds : List D} {rows : List Row2}, Reps K ok H vs ds → rowsOf' ds = some rows → RowsK K H vs rows
  | _, _, _, .nil, h => by cases h; exact .nil
  | _, _, _, .cons (d := d) (ds := ds) r t, h => by
    unfold rowsOf' at h
    cases e1 : Pu.rowOf d with
    | none => rw [e1] at h; cases h
    | some p =>
      cases e2 : rowsOf' ds with
      | none => rw [e1, e2] at h; cases h
      | some ps => rw [e1, e2] at h; cases h; exact .cons (row_at r e1) (rows_are t e2)
theorem reps_strs : ∀ xs : List Str, Reps K ok H (xs.map V.str) (xs.map D.str)
  | [] => .nil
  | x :: xs => .cons (.str x) (reps_strs xs)
theorem row_rep {v : V} {r : Row2} (h : RowK K H v r) : Rep K ok H v (rowD r) := by
  obtain ⟨t, u, rfl, h1, h2⟩ := h
  exact .tup h1 (.cons (.str _) (.cons (.tupO h2 (reps_strs _)) .nil))
theorem rows_rep : ∀ {vs : List V} {rows : List Row2}, RowsK K H vs rows → Reps K ok H vs (rows.map rowD)
  | _, _, .nil => .nil
  | _, _, .cons a t => .cons (row_rep a) (rows_rep t)
theorem flag_rep {d : Addr} {as : List Str} (h : RdO ok H d (.dK (flag as))) : Rep K ok H (.ref d) (flagD as) := by
  have e1 : (flag as).map (·.1) = as.map (Sum.inr : Str → Key) := by unfold flag; rw [List.map_map]; rfl
  have e2 : (flag as).map (·.2) = as.map fun _ => V.bl true := by unfold flag; rw [List.map_map]; rfl
  have r : Reps K ok H ((flag as).map (·.2)) (as.map fun _ => D.bl true) := by
    rw [e2]
    clear h e1 e2
    induction as with
    | nil => exact .nil
    | cons _ _ ih => exact .cons (.bl true) ih
  have := Rep.dic h r
  rw [e1] at this
  exact this
theorem entries_rep : ∀ {kvs : List (Key × V)} {tab : Tab}, Entries H kvs tab → (∀ kv ∈ kvs, ∃ d, kv.2 = .ref d ∧ ok d) → kvs.map (·.1) = tab.map (fun p => (Sum.inr p.1 : Key)) ∧ Reps K ok H (kvs.map (·.2)) (tab.map fun p => flagD p.2)
  | _, _, .nil, _ => ⟨rfl, .nil⟩
  | kv :: kvs, p :: tab, .cons ⟨e1, d, e2, e3⟩ t, hk => by
    obtain ⟨i1, i2⟩ := entries_rep t fun kv h => hk kv (List.mem_cons_of_mem _ h)
    obtain ⟨d', e4, k⟩ := hk kv (List.mem_cons_self ..)
    rw [e2] at e4
    cases e4
    refine ⟨by rw [List.map_cons, List.map_cons, i1, e1], ?_⟩
    rw [List.map_cons, List.map_cons, e2]
    exact .cons (flag_rep (.inl ⟨e3, k⟩)) i2
theorem places_rep (ns : List Str) : (placeKV ns).map (·.1) = ns.map (Sum.inr : Str → Key) ∧ Reps K ok H ((placeKV ns).map (·.2)) (idxD ns.length) := by
  have e1 : (placeKV ns).map (·.1) = ns.map (Sum.inr : Str → Key) := by
    unfold placeKV
    rw [List.map_map]
    show (ns.zipIdx.map fun p => (Sum.inr p.1 : Key)) = _
    have : ns.zipIdx.map Prod.fst = ns := List.zipIdx_map_fst ..
    conv => rhs; rw [← this, List.map_map]
    rfl
  have e2 : (placeKV ns).map (·.2) = (List.range ns.length).map fun i => V.int (i : Nat) := by
    unfold placeKV
    rw [List.map_map]
    show (ns.zipIdx.map fun p => V.int (p.2 : Nat)) = _
    have : ns.zipIdx.map Prod.snd = List.range ns.length := by rw [List.zipIdx_map_snd, List.range_eq_range']
    rw [← this, List.map_map]
    rfl
  refine ⟨e1, ?_⟩
  rw [e2]
  unfold idxD
  have : ∀ l : List Nat, Reps K ok H (l.map fun i => V.int (i : Nat)) (l.map fun i => D.int (i : Nat)) := fun l => by
    induction l with
    | nil => exact .nil
    | cons a l ih => exact .cons (.int _) ih
  exact this _
end
section
variable {X : Cx} {g : Gx} {E : Wx} {k : Nat} {C f : Addr} {fd : FuncData} {e : Expr} {fe : P D} {p pos : Pos}
theorem mkH_key {te : TE} (hte : ∀ σ H (Q : VK), te σ H Q ↔ tX X.K g E (relD X.K) fe σ H Q) {σ : L2.St} {H : Hp} {Q : VK} (hq : tX X.K g E (relR X.K) (bnd fe fun d => lft (mkH C d)) σ H Q) : tMake C (spInit X.K C) [] E0 (tCons te tNil) σ H Q := by
  unfold tMake tCons tNil
  rw [hte]
  obtain ⟨ok, ρ, w, h⟩ := hq
  refine ⟨ok, ρ, w, (Rs.bnd (RA := relD X.K) h).mono fun v H1 hq => ?_⟩
  obtain ⟨ok1, ρ1, d, w1, s1, r1, h1⟩ := hq
  have r1 : Rep X.K ok1 H1 v d := r1
  unfold lft mkH at h1
  cases er : rowsOf d with
  | none => simp only [er] at h1; exact h1.elim
  | some rows =>
    simp only [er] at h1
    split at h1
    · rename_i hv
      split at hv
      · rename_i hz
        cases hv
        obtain ⟨hva, hlen⟩ := hz
        unfold rowsOf at er
        split at er
        · rename_i ds
          cases r1 with
          | lst hc kc rs =>
            rename_i c us
            intro x dx nx ndx ndxx
            have hn : ∀ {a : Addr} {o : HO}, H1 a = some o → (upd (upd H1 dx (.own x)) x (.ins C dx [])) a = some o := fun {a o} ha => by rw [upd_ne (ne_of_none ha nx), upd_ne (ne_of_none ha ndx)]; exact ha
            have sm : Same H1 (upd (upd H1 dx (.own x)) x (.ins C dx [])) := fun a o ha => hn ha
            have nn : ∀ {a : Addr}, (upd (upd H1 dx (.own x)) x (.ins C dx [])) a = none → H1 a = none := fun {a} ha => sm.free ha
            refine ⟨x, dx, c, us, rows, rfl, upd_same, .inl (.inl (.inl (hn hc))), (rows_are rs er).same sm, hva, hlen, fun H' hh hb' => ⟨rfl, ?_⟩⟩
            have keep : ∀ a o, H1 a = some o → H' a = some o := fun a o ha => hb' a o (ne_of_none ha nx) (hn ha)
            have all : ∀ a, H' a = none → H1 a = none := fun a ha => by
              cases e1 : H1 a with
              | none => rfl
              | some o => rw [keep a o e1] at ha; cases ha
            have fr : Fr ok1 H1 ok1 H' := .of (fun a o ha _ => keep a o ha) (fun _ _ _ k => k) all
            have w2 : Wf X.K g ok1 ρ1 σ H' := w1.step fr (fun a ha => w1.fc a (all a ha)) (w1.tb.fr fr (fun a ps ha => keep a _ ha) fun _ _ _ n => n) fun i e q hi hq => by
              obtain ⟨q', e', o, nk, _⟩ := w1.own i e hi
              rw [hq] at e'
              cases e'
              obtain ⟨u, hu, _⟩ := o.there
              exact ⟨by rw [hu]; exact keep q u hu, nk⟩
            obtain ⟨dx', r, q, u, rvs, kvs, g1, g2, g3, g4, g5, g6, n1, n2, n3, n4⟩ := hh.ex
            refine h1 _ H' ok1 w2 ⟨fr, fun a o ha _ => .inl (keep a o ha), fun _ z => z, fun _ _ _ k => .inl k⟩ ?_
            obtain ⟨p1, p2⟩ := places_rep (K := X.K) (ok := ok1) (H := H') (fsts rows)
            obtain ⟨q1, q2⟩ := entries_rep (K := X.K) (ok := ok1) g6 fun kv hk => by
              obtain ⟨d', ed, nd⟩ := n4 kv hk
              exact ⟨d', ed, w1.fc d' (nn nd)⟩
            have t1 := Rep.dic (K := X.K) (.inl ⟨g4, w1.fc q (nn n2)⟩) p2
            have t2 := Rep.dic (K := X.K) (.inl ⟨g5, w1.fc u (nn n3)⟩) q2
            rw [p1] at t1
            rw [q1] at t2
            have lf : (fsts rows).length = rows.length := by unfold fsts; rw [List.length_map]
            rw [lf] at t1
            have ns := flds_fst r q u
            have vs := flds_snd r q u
            have rr : Reps X.K ok1 H' ((flds r q u).map (·.2)) [.lst (rows.map rowD), .dic ((fsts rows).map Sum.inr) (idxD rows.length), .dic ((ancTab rows).map fun p => Sum.inr p.1) ((ancTab rows).map fun p => flagD p.2)] := by
              rw [vs]
              exact .cons (.lst g2 (w1.fc r (nn n1)) (rows_rep g3)) (.cons t1 (.cons t2 .nil))
            have := Rep.obj (K := X.K) (ok := ok1) g1 (w1.fc _ nx) rr
            rw [ns] at this
            exact this
        · cases er
      · cases hv
    · exact h1.elim
theorem er_makeH (M : Mk X.K C f) (F : FnOk X.prog X.w X.K X.mg X.base CX0 k f fd ["self", "classes"] (spInit X.K C)) (hr : Room (k + 1) X.A) (hg : Gl X "Hierarchy") (hm : X.mg "Hierarchy" = some (.ref C)) (hb : Binds X.K fd ["self", "classes"] [])
    (he : EV X g E e fe) (hst : starEach [e] X.env = [(false, eval e X.env)] := by rfl) : ER X g E (.Call (.Name "Hierarchy" p) [e] [] pos) (bnd fe fun d => lft (mkH C d)) :=
  PE_imp (pe_make M F hr hg hm hb .nil pass0 (pa_cons he pa_nil hst) (by decide) hst rfl) fun σ H Q hq => mkH_key (fun _ _ _ => Iff.rfl) hq
end
end Lw
/-! a, b = x, y; Hierarchy(rows) as a bundle. -/
namespace Pu
open PySem PySem.Spec PyProof.Rows L2 Kv
section
variable {X : Cx} {g : Gx} {E : Wx} {x y : Str} {a b : Expr} {i j : Nat} {fr : P (List D)} {px py pt pos : Pos}
end
end Pu
namespace Lw
open PySem PySem.Spec PyProof.Rows L2 Kv Pu
structure MkHi (P' : Program) (w : World) (K : PySem.W.Frag) (mg : Str → Option Value) (base : Heap) (C : Addr) (k : Nat) : Prop where
  ex : ∃ f fd, Mk K C f ∧ FnOk P' w K mg base CX0 k f fd ["self", "classes"] (spInit K C) ∧ mg "Hierarchy" = some (.ref C) ∧ Binds K fd ["self", "classes"] []
theorem er_makeHC {X : Cx} {g : Gx} {E : Wx} {k : Nat} {C : Addr} {e : Expr} {fe : P D} {p pos : Pos} (c : MkHi X.prog X.w X.K X.mg X.base C k) (hr : Room (k + 1) X.A) (hg : Gl X "Hierarchy") (he : EV X g E e fe) (hst : starEach [e] X.env = [(false, eval e X.env)] := by rfl) :
    ER X g E (.Call (.Name "Hierarchy" p) [e] [] pos) (bnd fe fun d => lft (mkH C d)) := by
  obtain ⟨f, fd, M, F, hm, hb⟩ := c.ex
  exact er_makeH M F hr hg hm hb he hst
end Lw
namespace Lw
open PySem PySem.Spec PyProof.Rows L2 Kv Pu Fk
theorem hu64_of {k : Nat} {A : Around} (r : Room k A) : A.units + 64 < cLine := by have := r.un; omega
theorem law_mk {P' : Program} {w : World} {K : PySem.W.Frag} {mg : Str → Option Value} {base : Heap} {x : Str} {st : Stmt} {N ps : List Str} {k n : Nat} {B : List Nat} {T : List (Addr × Str)} {body : S} {f : Addr} {fd : FuncData} (F : Fun K x x st f fd) (S : FnScope N ps (defScope st)) (hn : ps.length = n)
    (hb : ∀ (f : Addr) (cdv : Value) (A : Around) (fr : List Env) (s : Shared) (H : Hp) (E : XK), A.guards = some [] → Room k (A.deeper (envOfC x (defScope st) s.heap.objs.size f cdv)) →
      ESs (cxOf (L2.CX P' w) P' w K mg base N x (defScope st) f cdv A fr s H E) ⟨H, B, T⟩ (fun _ => E) (defBody st) body) :
    FnG P' w K mg base (L2.CX P' w) (k + 1) f fd ps (spP K T n (fnP N.length B body)) := by
  subst hn
  exact fn_pure F S (hb f)
abbrev s__law_pot : Stmt := topS 28
abbrev s__law_draw : Stmt := topS 29
abbrev s__law_sizes : Stmt := topS 38
abbrev s__law_name : Stmt := topS 31
abbrev s__law_names : Stmt := topS 32
abbrev s__law_mixed : Stmt := topS 30
abbrev s__law_kinds : Stmt := topS 33
abbrev s__law_all_points : Stmt := topS 37
abbrev s__law_above : Stmt := topS 34
abbrev s__law_ups : Stmt := topS 35
abbrev s_is_parameter_count : Stmt := topS 13
abbrev m_Hierarchy_has_class : Stmt := inClass (topS 26) 9
abbrev s_is_point : Stmt := topS 14
abbrev s_require_point : Stmt := topS 15
abbrev s_require_point_like : Stmt := topS 16
abbrev s_combinations : Stmt := topS 17
abbrev m_Hierarchy_require_class : Stmt := inClass (topS 26) 12
abbrev m_Hierarchy_names : Stmt := inClass (topS 26) 8
abbrev m_Hierarchy_highest_common : Stmt := inClass (topS 26) 16
abbrev s_highest_common_points : Stmt := topS 18
abbrev s__law_told : Stmt := topS 40
abbrev s__law_flat_right : Stmt := topS 42
abbrev s__law_is_under : Stmt := topS 36
abbrev s__law_highest : Stmt := topS 39
abbrev s__law_right : Stmt := topS 41
abbrev s_law : Stmt := topS 43
section
variable {P' : Program} {w : World} {mg : Str → Option Value} {base : Heap} {z : Zf} {T : List (Addr × Str)}
theorem q__law_pot : FnScope ["_law_script", "_law_k", "_law_cell"] ["_law_script", "_law_k"] (defScope s__law_pot) := ⟨rfl, rfl, rfl, by decide +kernel, rfl, by decide +kernel, by decide +kernel⟩
theorem t__law_pot (d : Def z.K mg "_law_pot" s__law_pot ["_law_script", "_law_k"]) (n_len : mg "len" = none) (n_abs : mg "abs" = none) (n_max : mg "max" = none) :
    Cal P' w z.K mg base T 1 2 "_law_pot" (F__law_pot z) :=
  cal_mk (k := 0) (B := []) d q__law_pot rfl (fun f cdv A fr s H E hg hr => have hu := hu_of hr; have hu64 := hu64_of hr; (ess_cons (es_set (i := 2) q__law_pot.nd rfl (.inl rfl) (by first | decide | (simp [Gx.plus, Tg.ix]; done) | (intro i hi; simp [Gx.plus, Tg.ix] at hi ⊢; omega)) (er_if (et_cmp op_lt o2_lt (evn 1) (ep_of (ev_call1 call_lenA o1_len (by rfl) n_len (by decide +kernel) (epn 0))) (nomark _)) (er_vl (eixn 0 hu (evn 1))) (er_vl ev_int)))
    (ess_one (es_ret (er_lst (ea_cons (ev_callA (call_max2 rfl) oa_max (by rfl) n_max (by decide +kernel) (ea_cons ev_int (ea_cons (ev_bin op_sub o2_sub (ev_callA call_abs oa_abs (by rfl) n_abs (by decide +kernel) (ea_cons (evn 2) ea_nil)) (ep_of (ev_bin op_pow o2_pow ev_int (ep_of ev_int)))) ea_nil))) (ea_cons (ev_bin op_mod o2_mod (ev_bin op_addA o2_add (ev_bin op_addA o2_add (ev_bin op_mulA o2_mul (ev_bin op_mod o2_mod (ev_callA call_abs oa_abs (by rfl) n_abs (by decide +kernel) (ea_cons (evn 2) ea_nil)) (ep_of ev_int)) (ep_of ev_int)) (ep_of (ev_bin op_mulA o2_mul ev_int (epn 1)))) (ep_of ev_int)) (ep_of ev_int)) ea_nil)))))))
theorem q__law_draw : FnScope ["_law_pot_here", "_law_many", "_law_digit"] ["_law_pot_here", "_law_many"] (defScope s__law_draw) := ⟨rfl, rfl, rfl, by decide +kernel, rfl, by decide +kernel, by decide +kernel⟩
theorem t__law_draw (d : Def z.K mg "_law_draw" s__law_draw ["_law_pot_here", "_law_many"]) (n_divmod : mg "divmod" = none) :
    Cal P' w z.K mg base T 1 2 "_law_draw" (F__law_draw z) :=
  cal_mk (k := 0) (B := [0]) d q__law_draw rfl (fun f cdv A fr s H E hg hr => have hu := hu_of hr; have hu64 := hu64_of hr; (ess_cons (es_if (et_cmp op_gt o2_gt (eixn 0 hu ev_int) (ep_of ev_int) (nomark _)) (ess_cons (es_asg (ev_callA call_divmodW oa_divmod (by rfl) n_divmod (by decide +kernel) (ea_cons (eixn 0 hu ev_int) (ea_cons (evn 1) ea_nil))) (eg_tup (by rfl) (egs_cons (eg_sub (i := 0) rfl (by first | exact Or.inl rfl | exact Or.inr (Or.inl rfl) | exact Or.inr (Or.inr rfl)) ev_int) (egs_cons (eg_name (i := 2) q__law_draw.nd rfl (.inl rfl) (by first | decide | (simp [Gx.plus, Tg.ix]; done) | (intro i hi; simp [Gx.plus, Tg.ix] at hi ⊢; omega))) egs_nil))))
    (ess_one (eret 2 (by first | decide | (simp [Gx.plus, Tg.ix]; done) | (intro i hi; simp [Gx.plus, Tg.ix] at hi ⊢; omega))))) ess_nil)
    (ess_cons (es_asg (ev_bin op_mod o2_mod (ev_bin op_addA o2_add (ev_bin op_mulA o2_mul (eixn 0 hu ev_int) (ep_of ev_int)) (ep_of ev_int)) (ep_of ev_int)) (eg_sub (i := 0) rfl (by first | exact Or.inl rfl | exact Or.inr (Or.inl rfl) | exact Or.inr (Or.inr rfl)) ev_int))
    (ess_one (es_ret (er_vl (ev_bin op_mod o2_mod (ev_bin op_fdiv o2_fdiv (ev_bin op_mod o2_mod (ev_bin op_mulA o2_mul (eixn 0 hu ev_int) (ep_of (eixn 0 hu ev_int))) (ep_of ev_int)) (ep_of ev_int)) (epn 1))))))))
theorem q__law_sizes : FnScope ["_law_pot_here"] ["_law_pot_here"] (defScope s__law_sizes) := ⟨rfl, rfl, rfl, by decide +kernel, rfl, by decide +kernel, by decide +kernel⟩
theorem t__law_sizes (d : Def z.K mg "_law_sizes" s__law_sizes ["_law_pot_here"]) (c__law_draw : Cal P' w z.K mg base T 1 2 "_law_draw" (F__law_draw z)) :
    Cal P' w z.K mg base T 2 1 "_law_sizes" (F__law_sizes z) :=
  cal_mk (k := 1) (B := [0]) d q__law_sizes rfl (fun f cdv A fr s H E hg hr => have hu := hu_of hr; have hu64 := hu64_of hr; (ess_one (es_ret (er_vl (ev_ix hu (ev_fz (er_lst (ea_cons (ev_tup (ea_cons ev_int (ea_cons ev_int ea_nil))) (ea_cons (ev_tup (ea_cons ev_int (ea_cons ev_int ea_nil))) (ea_cons (ev_tup (ea_cons ev_int (ea_cons ev_int ea_nil))) (ea_cons (ev_tup (ea_cons ev_int (ea_cons ev_int ea_nil))) (ea_cons (ev_tup (ea_cons ev_int (ea_cons ev_int ea_nil))) (ea_cons (ev_tup (ea_cons ev_int (ea_cons ev_int ea_nil))) ea_nil)))))))) (ev_fz (er_callB (i := 0) c__law_draw hg (hr.mono (by decide)) (by rfl) (fun σ => passAt (takes_of rfl rfl rfl rfl) σ) rfl (by first | exact Or.inl rfl | exact Or.inr (Or.inl rfl) | exact Or.inr (Or.inr rfl)) (ea_cons ev_int ea_nil))) (by intro _ _; rfl))))))
theorem q__law_name : FnScope ["_law_pot_here", "_law_letters", "_law_turn"] ["_law_pot_here"] (defScope s__law_name) := ⟨rfl, rfl, rfl, by decide +kernel, rfl, by decide +kernel, by decide +kernel⟩
theorem t__law_name (d : Def z.K mg "_law_name" s__law_name ["_law_pot_here"]) (c__law_draw : Cal P' w z.K mg base T 1 2 "_law_draw" (F__law_draw z)) (n_range : mg "range" = none) :
    Cal P' w z.K mg base T 2 1 "_law_name" (F__law_name z) :=
  cal_mk (k := 1) (B := [0]) d q__law_name rfl (fun f cdv A fr s H E hg hr => have hu := hu_of hr; have hu64 := hu64_of hr; (ess_cons (es_set (i := 1) q__law_name.nd rfl (.inr rfl) (by first | decide | (simp [Gx.plus, Tg.ix]; done) | (intro i hi; simp [Gx.plus, Tg.ix] at hi ⊢; omega)) (er_vl ev_str))
    (ess_one (es_ret (er_vl (ev_bm PySem.F.slot_str_join PySem.F.type_str_join mt_join om_join ev_str (ea_cons (ev_fz (er_lc (own := [("_law_turn", 2)]) (T := (.one 2)) (gt := (gName 2)) rfl q__law_name.nd (ei_range1 (by rfl) n_range (ev_ix hu (ev_fz (er_lst (ea_cons ev_int (ea_cons ev_int (ea_cons ev_int ea_nil))))) (ev_fz (er_callB (i := 0) c__law_draw hg (hr.mono (by decide)) (by rfl) (fun σ => passAt (takes_of rfl rfl rfl rfl) σ) rfl (by first | exact Or.inl rfl | exact Or.inr (Or.inl rfl) | exact Or.inr (Or.inr rfl)) (ea_cons ev_int ea_nil))) (by intro _ _; rfl))) (blkOk_by (own := [("_law_turn", 2)]) (N := ["_law_pot_here", "_law_letters", "_law_turn"]) (sc := defScope s__law_name) (by decide +kernel)) tg_one rfl (fun _ _ _ _ _ => (pg_name (i := 2) q__law_name.nd rfl (by first | exact Or.inl rfl | exact Or.inr rfl))) (fun _ _ _ _ _ => pts0) (fun _ _ _ _ _ => (eixn 1 hu (ev_fz (er_callB (i := 0) c__law_draw hg (hr.mono (by decide)) (by rfl) (fun _ => pass_no) rfl (by first | exact Or.inl rfl | exact Or.inr (Or.inl rfl) | exact Or.inr (Or.inr rfl)) (ea_cons ev_int ea_nil))))) (by decide) kp_nil kp_nil)) ea_nil)))))))
theorem q__law_names : FnScope ["_law_pot_here", "_law_many", "_law_found", "_law_turn", "_law_drawn", "_law_free", "_law_letter"] ["_law_pot_here", "_law_many"] (defScope s__law_names) := ⟨rfl, rfl, rfl, by decide +kernel, rfl, by decide +kernel, by decide +kernel⟩
theorem t__law_names (d : Def z.K mg "_law_names" s__law_names ["_law_pot_here", "_law_many"]) (n_range : mg "range" = none) (c__law_name : Cal P' w z.K mg base T 2 1 "_law_name" (F__law_name z)) :
    Cal P' w z.K mg base T 3 2 "_law_names" (F__law_names z) :=
  cal_mk (k := 2) (B := [0]) d q__law_names rfl (fun f cdv A fr s H E hg hr => have hu := hu_of hr; have hu64 := hu64_of hr; (ess_cons (es_set (i := 2) q__law_names.nd rfl (.inr rfl) (by first | decide | (simp [Gx.plus, Tg.ix]; done) | (intro i hi; simp [Gx.plus, Tg.ix] at hi ⊢; omega)) (er_lst ea_nil))
    (ess_cons (es_for0 (T := (.one 3)) (gt := (gName 3)) (passes_of rfl) rfl (ei_range1 (by rfl) n_range (evn 1)) (pg_name (i := 3) q__law_names.nd rfl (.inl rfl)) tg_one (ess_cons (es_set (i := 4) q__law_names.nd rfl (.inl rfl) (by first | decide | (simp [Gx.plus, Tg.ix]; done) | (intro i hi; simp [Gx.plus, Tg.ix] at hi ⊢; omega)) (er_callB (i := 0) c__law_name hg (hr.mono (by decide)) (by rfl) (fun σ => passAt (takes_of rfl rfl rfl rfl) σ) rfl (by first | exact Or.inl rfl | exact Or.inr (Or.inl rfl) | exact Or.inr (Or.inr rfl)) ea_nil))
    (ess_cons (es_setLc (i := 5) (own := [("_law_letter", 6)]) (T := (.one 6)) (gt := (gName 6)) rfl q__law_names.nd rfl rfl (by first | decide | (simp [Gx.plus, Tg.ix]; done) | (intro i hi; simp [Gx.plus, Tg.ix] at hi ⊢; omega)) (sw_true rfl rfl rfl (by decide +kernel)) (ei_str ev_str) (blkOk_by (own := [("_law_letter", 6)]) (N := ["_law_pot_here", "_law_many", "_law_found", "_law_turn", "_law_drawn", "_law_free", "_law_letter"]) (sc := defScope s__law_names) (by decide +kernel)) tg_one rfl (fun _ _ _ _ _ => (pg_name (i := 6) q__law_names.nd rfl (by first | exact Or.inl rfl | exact Or.inr rfl))) (fun _ _ _ _ _ => pts1 (et_cmp (op_notInA hu) o2_notIn (evn 6) (epn 2) (by rfl))) (fun _ _ _ _ _ => (evn 6)) (by decide) kp_nil kp_nil)
    (ess_one (es_expr (ev_mut (i := 2) rfl (by first | exact Or.inl rfl | exact Or.inr (Or.inl rfl) | exact Or.inr (Or.inr rfl)) PySem.F.slot_list_append PySem.F.type_list_append mt_append om_append (ea_cons (ev_if (et_cmp (op_inA hu) o2_in (evn 4) (epn 2) (by rfl)) (eixn 5 hu ev_int) (evn 4)) ea_nil)))))) (by first | decide | (simp [Gx.plus, Tg.ix]; done) | (intro i hi; simp [Gx.plus, Tg.ix] at hi ⊢; omega)))
    (ess_one (eret 2 (by first | decide | (simp [Gx.plus, Tg.ix]; done) | (intro i hi; simp [Gx.plus, Tg.ix] at hi ⊢; omega)))))))
theorem q__law_mixed : FnScope ["_law_pot_here", "_law_some", "_law_left", "_law_turn"] ["_law_pot_here", "_law_some"] (defScope s__law_mixed) := ⟨rfl, rfl, rfl, by decide +kernel, rfl, by decide +kernel, by decide +kernel⟩
theorem t__law_mixed (d : Def z.K mg "_law_mixed" s__law_mixed ["_law_pot_here", "_law_some"]) (n_list : mg "list" = none) (n_len : mg "len" = none) (n_range : mg "range" = none) (c__law_draw : Cal P' w z.K mg base T 1 2 "_law_draw" (F__law_draw z)) :
    Cal P' w z.K mg base T 2 2 "_law_mixed" (F__law_mixed z) :=
  cal_mk (k := 1) (B := [0]) d q__law_mixed rfl (fun f cdv A fr s H E hg hr => have hu := hu_of hr; have hu64 := hu64_of hr; (ess_cons (es_set (i := 2) q__law_mixed.nd rfl (.inr rfl) (by first | decide | (simp [Gx.plus, Tg.ix]; done) | (intro i hi; simp [Gx.plus, Tg.ix] at hi ⊢; omega)) (er_listA rfl (by rfl) n_list (epn 1)))
    (ess_one (es_ret (er_lc (own := [("_law_turn", 3)]) (T := (.one 3)) (gt := (gName 3)) rfl q__law_mixed.nd (ei_range1 (by rfl) n_range (ev_call1 call_lenA o1_len (by rfl) n_len (by decide +kernel) (epn 1))) (blkOk_by (own := [("_law_turn", 3)]) (N := ["_law_pot_here", "_law_some", "_law_left", "_law_turn"]) (sc := defScope s__law_mixed) (by decide +kernel)) tg_one rfl (fun _ _ _ _ _ => (pg_name (i := 3) q__law_mixed.nd rfl (by first | exact Or.inl rfl | exact Or.inr rfl))) (fun _ _ _ _ _ => pts0) (fun _ _ _ _ _ => (ev_mut (i := 2) rfl (by first | exact Or.inl rfl | exact Or.inr (Or.inl rfl) | exact Or.inr (Or.inr rfl)) PySem.F.slot_list_pop PySem.F.type_list_pop mt_popAt om_pop (ea_cons (ev_fz (er_callB (i := 0) c__law_draw hg (hr.mono (by decide)) (by rfl) (fun _ => pass_no) rfl (by first | exact Or.inl rfl | exact Or.inr (Or.inl rfl) | exact Or.inr (Or.inr rfl)) (ea_cons (ev_call1 call_lenA o1_len (by rfl) n_len (by decide +kernel) (epn 2)) ea_nil))) ea_nil))) (by decide) kp_nil kp_nil)))))
theorem q__law_kinds : FnScope ["_law_pot_here", "_law_most", "_law_rows", "_law_label", "_law_many", "_law_row"] ["_law_pot_here", "_law_most"] (defScope s__law_kinds) := ⟨rfl, rfl, rfl, by decide +kernel, rfl, by decide +kernel, by decide +kernel⟩
theorem t__law_kinds (d : Def z.K mg "_law_kinds" s__law_kinds ["_law_pot_here", "_law_most"]) (c__law_names : Cal P' w z.K mg base T 3 2 "_law_names" (F__law_names z)) (c__law_draw : Cal P' w z.K mg base T 1 2 "_law_draw" (F__law_draw z)) (c__law_mixed : Cal P' w z.K mg base T 2 2 "_law_mixed" (F__law_mixed z)) (n_tuple : mg "tuple" = none) :
    Cal P' w z.K mg base T 4 2 "_law_kinds" (F__law_kinds z) :=
  cal_mk (k := 3) (B := [0]) d q__law_kinds rfl (fun f cdv A fr s H E hg hr => have hu := hu_of hr; have hu64 := hu64_of hr; (ess_cons (es_set (i := 2) q__law_kinds.nd rfl (.inl rfl) (by first | decide | (simp [Gx.plus, Tg.ix]; done) | (intro i hi; simp [Gx.plus, Tg.ix] at hi ⊢; omega)) (er_lst ea_nil))
    (ess_cons (es_for0 (T := (.one 3)) (gt := (gName 3)) (passes_of rfl) rfl (ei_seq (ev_fz (er_callB (i := 0) c__law_names hg (hr.mono (by decide)) (by rfl) (fun σ => passAt (takes_of rfl rfl rfl rfl) σ) rfl (by first | exact Or.inl rfl | exact Or.inr (Or.inl rfl) | exact Or.inr (Or.inr rfl)) (ea_cons (ev_bin op_addA o2_add ev_int (ep_of (ev_fz (er_callB (i := 0) c__law_draw hg (hr.mono (by decide)) (by rfl) (fun σ => passAt (takes_of rfl rfl rfl rfl) σ) rfl (by first | exact Or.inl rfl | exact Or.inr (Or.inl rfl) | exact Or.inr (Or.inr rfl)) (ea_cons (evn 1) ea_nil))))) ea_nil)))) (pg_name (i := 3) q__law_kinds.nd rfl (.inl rfl)) tg_one (ess_cons (es_set (i := 4) q__law_kinds.nd rfl (.inl rfl) (by first | decide | (simp [Gx.plus, Tg.ix]; done) | (intro i hi; simp [Gx.plus, Tg.ix] at hi ⊢; omega)) (er_vl (ev_ix hu (ev_fz (er_lst (ea_cons ev_int (ea_cons ev_int (ea_cons ev_int (ea_cons ev_int (ea_cons ev_int (ea_cons ev_int ea_nil)))))))) (ev_fz (er_callB (i := 0) c__law_draw hg (hr.mono (by decide)) (by rfl) (fun σ => passAt (takes_of rfl rfl rfl rfl) σ) rfl (by first | exact Or.inl rfl | exact Or.inr (Or.inl rfl) | exact Or.inr (Or.inr rfl)) (ea_cons ev_int ea_nil))) (by intro _ _; rfl))))
    (ess_one (es_expr (ev_mut (i := 2) rfl (by first | exact Or.inl rfl | exact Or.inr (Or.inl rfl) | exact Or.inr (Or.inr rfl)) PySem.F.slot_list_append PySem.F.type_list_append mt_append om_append (ea_cons (ev_tup (ea_cons (evn 3) (ea_cons (ev_callT1 call_tuple_of o1_tuple (by rfl) n_tuple (by decide +kernel) (ep_of (ev_fz (er_slA (ev_fz (er_callB (i := 0) c__law_mixed hg (hr.mono (by decide)) (by rfl) (fun σ => passAt (takes_of rfl rfl rfl rfl) σ) rfl (by first | exact Or.inl rfl | exact Or.inr (Or.inl rfl) | exact Or.inr (Or.inr rfl)) (ea_cons (ev_fz (er_lc (own := [("_law_row", 5)]) (T := (.one 5)) (gt := (gName 5)) rfl q__law_kinds.nd (ein 2) (blkOk_by (own := [("_law_row", 5)]) (N := ["_law_pot_here", "_law_most", "_law_rows", "_law_label", "_law_many", "_law_row"]) (sc := defScope s__law_kinds) (by decide +kernel)) tg_one rfl (fun _ _ _ _ _ => (pg_name (i := 5) q__law_kinds.nd rfl (by first | exact Or.inl rfl | exact Or.inr rfl))) (fun _ _ _ _ _ => pts0) (fun _ _ _ _ _ => (eixn 5 hu ev_int)) (by decide) (by repeat' first | exact kp_nil | exact kp_prt | exact kp_lft | exact kp_pk | exact kp_none | exact kp_app | exact kp_rd (by decide) | refine kp_lc (by decide) ?_ ?_ ?_ | refine kp_ix ?_ | refine kp_ite ?_ ?_ | refine kp_bnd ?_ fun _ => ?_) (by repeat' first | exact kp_nil | exact kp_prt | exact kp_lft | exact kp_pk | exact kp_none | exact kp_app | exact kp_rd (by decide) | refine kp_lc (by decide) ?_ ?_ ?_ | refine kp_ix ?_ | refine kp_ite ?_ ?_ | refine kp_bnd ?_ fun _ => ?_))) ea_nil))) eo_none (eo_some (evn 4)))))) ea_nil))) ea_nil))))) (by first | decide | (simp [Gx.plus, Tg.ix]; done) | (intro i hi; simp [Gx.plus, Tg.ix] at hi ⊢; omega)))
    (ess_one (eret 2 (by first | decide | (simp [Gx.plus, Tg.ix]; done) | (intro i hi; simp [Gx.plus, Tg.ix] at hi ⊢; omega)))))))
theorem q__law_all_points : FnScope ["_law_rows", "_law_many", "_law_found", "_law_turn", "_law_longer", "_law_spot", "_law_row"] ["_law_rows", "_law_many"] (defScope s__law_all_points) := ⟨rfl, rfl, rfl, by decide +kernel, rfl, by decide +kernel, by decide +kernel⟩
theorem t__law_all_points (d : Def z.K mg "_law_all_points" s__law_all_points ["_law_rows", "_law_many"]) (n_range : mg "range" = none) :
    Cal P' w z.K mg base T 1 2 "_law_all_points" (F__law_all_points z) :=
  cal_mk (k := 0) (B := []) d q__law_all_points rfl (fun f cdv A fr s H E hg hr => have hu := hu_of hr; have hu64 := hu64_of hr; (ess_cons (es_set (i := 2) q__law_all_points.nd rfl (.inl rfl) (by first | decide | (simp [Gx.plus, Tg.ix]; done) | (intro i hi; simp [Gx.plus, Tg.ix] at hi ⊢; omega)) (er_lst (ea_cons (ev_tup ea_nil) ea_nil)))
    (ess_cons (es_for0 (T := (.one 3)) (gt := (gName 3)) (passes_of rfl) rfl (ei_range1 (by rfl) n_range (evn 1)) (pg_name (i := 3) q__law_all_points.nd rfl (.inl rfl)) tg_one (ess_cons (es_set (i := 4) q__law_all_points.nd rfl (.inl rfl) (by first | decide | (simp [Gx.plus, Tg.ix]; done) | (intro i hi; simp [Gx.plus, Tg.ix] at hi ⊢; omega)) (er_lst ea_nil))
    (ess_cons (es_for0 (T := (.one 5)) (gt := (gName 5)) (passes_of rfl) rfl (ei_seq (evn 2)) (pg_name (i := 5) q__law_all_points.nd rfl (.inr rfl)) tg_one (ess_one (es_expr (ev_mut (i := 4) rfl (by first | exact Or.inl rfl | exact Or.inr (Or.inl rfl) | exact Or.inr (Or.inr rfl)) PySem.F.slot_list_extend PySem.F.type_list_extend mt_extend om_extend (ea_cons (ev_fz (er_lc (own := [("_law_row", 6)]) (T := (.one 6)) (gt := (gName 6)) rfl q__law_all_points.nd (ei_seq (evn 0)) (blkOk_by (own := [("_law_row", 6)]) (N := ["_law_rows", "_law_many", "_law_found", "_law_turn", "_law_longer", "_law_spot", "_law_row"]) (sc := defScope s__law_all_points) (by decide +kernel)) tg_one rfl (fun _ _ _ _ _ => (pg_name (i := 6) q__law_all_points.nd rfl (by first | exact Or.inl rfl | exact Or.inr rfl))) (fun _ _ _ _ _ => pts0) (fun _ _ _ _ _ => (ev_bin op_addX o2_addX (evn 5) (ep_of (ev_tup (ea_cons (eixn 6 hu ev_int) ea_nil))))) (by decide) kp_nil kp_nil)) ea_nil)))) (by first | decide | (simp [Gx.plus, Tg.ix]; done) | (intro i hi; simp [Gx.plus, Tg.ix] at hi ⊢; omega)))
    (ess_one (es_set (i := 2) q__law_all_points.nd rfl (.inl rfl) (by first | decide | (simp [Gx.plus, Tg.ix]; done) | (intro i hi; simp [Gx.plus, Tg.ix] at hi ⊢; omega)) (er_vl (evn 4)))))) (by first | decide | (simp [Gx.plus, Tg.ix]; done) | (intro i hi; simp [Gx.plus, Tg.ix] at hi ⊢; omega)))
    (ess_one (eret 2 (by first | decide | (simp [Gx.plus, Tg.ix]; done) | (intro i hi; simp [Gx.plus, Tg.ix] at hi ⊢; omega)))))))
theorem q__law_above : FnScope ["_law_rows", "_law_label", "_law_found", "_law_one", "_law_superclasses", "_law_each"] ["_law_rows", "_law_label"] (defScope s__law_above) := ⟨rfl, rfl, rfl, by decide +kernel, rfl, by decide +kernel, by decide +kernel⟩
theorem t__law_above (d : Def z.K mg "_law_above" s__law_above ["_law_rows", "_law_label"])  :
    Cal P' w z.K mg base T 1 2 "_law_above" (F__law_above z) :=
  cal_mk (k := 0) (B := []) d q__law_above rfl (fun f cdv A fr s H E hg hr => have hu := hu_of hr; have hu64 := hu64_of hr; (ess_cons (es_set (i := 2) q__law_above.nd rfl (.inr rfl) (by first | decide | (simp [Gx.plus, Tg.ix]; done) | (intro i hi; simp [Gx.plus, Tg.ix] at hi ⊢; omega)) (er_lst (ea_cons (evn 1) ea_nil)))
    (ess_cons (es_for0 (T := (.many [3, 4])) (gt := (gTup _ 2 (gNames [3, 4]))) (passes_of rfl) rfl (ei_seq (ev_fz (er_rev (evn 0)))) (pg_tup (by rfl) (pgs_cons (pg_name (i := 3) q__law_above.nd rfl (.inl rfl)) (pgs_cons (pg_name (i := 4) q__law_above.nd rfl (.inl rfl)) pgs_nil))) (tg_many (is := [3, 4])) (ess_one (es_if (et_cmp (op_inA hu) o2_in (evn 3) (epn 2) (by rfl)) (ess_one (es_expr (ev_mut (i := 2) rfl (by first | exact Or.inl rfl | exact Or.inr (Or.inl rfl) | exact Or.inr (Or.inr rfl)) PySem.F.slot_list_extend PySem.F.type_list_extend mt_extend om_extend (ea_cons (ev_fz (er_lc (own := [("_law_each", 5)]) (T := (.one 5)) (gt := (gName 5)) rfl q__law_above.nd (ei_seq (evn 4)) (blkOk_by (own := [("_law_each", 5)]) (N := ["_law_rows", "_law_label", "_law_found", "_law_one", "_law_superclasses", "_law_each"]) (sc := defScope s__law_above) (by decide +kernel)) tg_one rfl (fun _ _ _ _ _ => (pg_name (i := 5) q__law_above.nd rfl (by first | exact Or.inl rfl | exact Or.inr rfl))) (fun _ _ _ _ _ => pts1 (et_cmp (op_notInA hu) o2_notIn (evn 5) (epn 2) (by rfl))) (fun _ _ _ _ _ => (evn 5)) (by decide) kp_nil kp_nil)) ea_nil)))) ess_nil)) (by first | decide | (simp [Gx.plus, Tg.ix]; done) | (intro i hi; simp [Gx.plus, Tg.ix] at hi ⊢; omega)))
    (ess_one (eret 2 (by first | decide | (simp [Gx.plus, Tg.ix]; done) | (intro i hi; simp [Gx.plus, Tg.ix] at hi ⊢; omega)))))))
theorem q__law_ups : FnScope ["_law_rows", "_law_row"] ["_law_rows"] (defScope s__law_ups) := ⟨rfl, rfl, rfl, by decide +kernel, rfl, by decide +kernel, by decide +kernel⟩
theorem t__law_ups (d : Def z.K mg "_law_ups" s__law_ups ["_law_rows"]) (c__law_above : Cal P' w z.K mg base T 1 2 "_law_above" (F__law_above z)) (n_dict : mg "dict" = none) :
    Cal P' w z.K mg base T 2 1 "_law_ups" (F__law_ups z) :=
  cal_mk (k := 1) (B := []) d q__law_ups rfl (fun f cdv A fr s H E hg hr => have hu := hu_of hr; have hu64 := hu64_of hr; (ess_one (es_ret (er_dict rfl (by rfl) n_dict (ev_fz (er_lc (own := [("_law_row", 1)]) (T := (.one 1)) (gt := (gName 1)) rfl q__law_ups.nd (ei_seq (evn 0)) (blkOk_by (own := [("_law_row", 1)]) (N := ["_law_rows", "_law_row"]) (sc := defScope s__law_ups) (by decide +kernel)) tg_one rfl (fun _ _ _ _ _ => (pg_name (i := 1) q__law_ups.nd rfl (by first | exact Or.inl rfl | exact Or.inr rfl))) (fun _ _ _ _ _ => pts0) (fun _ _ _ _ _ => (ev_tup (ea_cons (eixn 1 hu ev_int) (ea_cons (ev_fz (er_callC c__law_above hg (hr.mono (by decide)) (by rfl) (fun _ => pass_no) (ea_cons (evn 0) (ea_cons (eixn 1 hu ev_int) ea_nil)))) ea_nil)))) (by decide) kp_nil kp_nil))))))
theorem q_is_parameter_count : FnScope ["value"] ["value"] (defScope s_is_parameter_count) := ⟨rfl, rfl, rfl, by decide +kernel, rfl, by decide +kernel, by decide +kernel⟩
theorem t_is_parameter_count {ut_MAX_PARAMETERS : Tok} (d : Def z.K mg "is_parameter_count" s_is_parameter_count ["value"]) (g_MAX_PARAMETERS : mg "MAX_PARAMETERS" = some (.int 3 ut_MAX_PARAMETERS)) (n_isinstance : mg "isinstance" = none) (n_bool : mg "bool" = none) (n_int : mg "int" = none) :
    Cal P' w z.K mg base T 1 1 "is_parameter_count" (F_is_parameter_count z) :=
  cal_mk (k := 0) (B := []) d q_is_parameter_count rfl (fun f cdv A fr s H E hg hr => have hu := hu_of hr; have hu64 := hu64_of hr; (ess_one (es_ret (er_vl (ev_and (ev_isi (T := "int") (by rfl) n_isinstance (by rfl) n_int (by decide +kernel) (epn 0)) (ev_and (ev_not (ev_isi (T := "bool") (by rfl) n_isinstance (by rfl) n_bool (by decide +kernel) (epn 0))) (ev_one (ev_chain op_le o2_le op_le o2_le ev_int (evn 0) (ep_of (ev_gint (by rfl) g_MAX_PARAMETERS))))))))))
theorem q_Hierarchy_has_class : FnScope ["self", "value"] ["self", "value"] (defScope m_Hierarchy_has_class) := ⟨rfl, rfl, rfl, by decide +kernel, rfl, by decide +kernel, by decide +kernel⟩
theorem t_Hierarchy_has_class (d : DefM z.K z.c_Hierarchy "has_class" "Hierarchy.has_class" m_Hierarchy_has_class ["self", "value"]) (k_Hierarchy : Cls z.K z.c_Hierarchy) (na_Hierarchy_places : NoAttr z.K z.c_Hierarchy "places") (n_isinstance : mg "isinstance" = none) (n_str : mg "str" = none) :
    CalM P' w z.K mg base T z.c_Hierarchy 1 2 "has_class" (F_Hierarchy_has_class z) :=
  calM_mk (k := 0) (B := []) d q_Hierarchy_has_class rfl (fun f cdv A fr s H E hg hr => have hu := hu_of hr; have hu64 := hu64_of hr; (ess_one (es_ret (er_vl (ev_and (ev_isi (T := "str") (by rfl) n_isinstance (by rfl) n_str (by decide +kernel) (epn 1)) (ev_one (ev_cmp (op_inA hu) o2_in (evn 1) (ep_of (ev_fld k_Hierarchy na_Hierarchy_places (evn 0))) (by rfl))))))))
theorem q_is_point : FnScope ["hierarchy", "value", "name"] ["hierarchy", "value"] (defScope s_is_point) := ⟨rfl, rfl, rfl, by decide +kernel, rfl, by decide +kernel, by decide +kernel⟩
theorem t_is_point (d : Def z.K mg "is_point" s_is_point ["hierarchy", "value"]) (c_is_parameter_count : Cal P' w z.K mg base T 1 1 "is_parameter_count" (F_is_parameter_count z)) (n_len : mg "len" = none) (n_isinstance : mg "isinstance" = none) (n_tuple : mg "tuple" = none) (c_Hierarchy_has_class : CalM P' w z.K mg base T z.c_Hierarchy 1 2 "has_class" (F_Hierarchy_has_class z)) (n_all : mg "all" = none) :
    Cal P' w z.K mg base T 2 2 "is_point" (F_is_point z) :=
  cal_mk (k := 1) (B := []) d q_is_point rfl (fun f cdv A fr s H E hg hr => have hu := hu_of hr; have hu64 := hu64_of hr; (ess_cons (es_if (et_w (ew_or (et_not (et_val (ev_isi (T := "tuple") (by rfl) n_isinstance (by rfl) n_tuple (by decide +kernel) (epn 1)))) (ew_or1 (et_not (et_val (ev_fz (er_callC c_is_parameter_count hg (hr.mono (by decide)) (by rfl) (fun σ => passAt (takes_of rfl rfl rfl rfl) σ) (ea_cons (ev_call1 call_lenA o1_len (by rfl) n_len (by decide +kernel) (epn 1)) ea_nil)))))))) (ess_one (es_ret (er_vl ev_bl))) ess_nil)
    (ess_one (es_ret (er_vl (ev_call1 (cr_all rfl) o1_all (by rfl) n_all (by decide +kernel) (ep_of (ev_fz (er_lc (own := [("name", 2)]) (T := (.one 2)) (gt := (gName 2)) rfl q_is_point.nd (ei_seq (evn 1)) (blkOk_by (own := [("name", 2)]) (N := ["hierarchy", "value", "name"]) (sc := defScope s_is_point) (by decide +kernel)) tg_one rfl (fun _ _ _ _ _ => (pg_name (i := 2) q_is_point.nd rfl (by first | exact Or.inl rfl | exact Or.inr rfl))) (fun _ _ _ _ _ => pts0) (fun _ _ _ _ _ => (ev_fz (er_methC c_Hierarchy_has_class (evn 0) hg (hr.mono (by decide)) (fun _ => pass_no) (ea_cons (evn 2) ea_nil)))) (by decide) kp_nil kp_nil)))))))))
theorem q_require_point : FnScope ["hierarchy", "value"] ["hierarchy", "value"] (defScope s_require_point) := ⟨rfl, rfl, rfl, by decide +kernel, rfl, by decide +kernel, by decide +kernel⟩
theorem t_require_point (d : Def z.K mg "require_point" s_require_point ["hierarchy", "value"]) (c_is_point : Cal P' w z.K mg base T 2 2 "is_point" (F_is_point z)) :
    Cal P' w z.K mg base T 3 2 "require_point" (F_require_point z) :=
  cal_mk (k := 2) (B := []) d q_require_point rfl (fun f cdv A fr s H E hg hr => have hu := hu_of hr; have hu64 := hu64_of hr; (ess_one (es_if (et_not (et_val (ev_fz (er_callC c_is_point hg (hr.mono (by decide)) (by rfl) (fun σ => passAt (takes_of rfl rfl rfl rfl) σ) (ea_cons (evn 0) (ea_cons (evn 1) ea_nil)))))) (ess_one es_never) ess_nil)))
theorem q_require_point_like : FnScope ["hierarchy", "value", "first"] ["hierarchy", "value", "first"] (defScope s_require_point_like) := ⟨rfl, rfl, rfl, by decide +kernel, rfl, by decide +kernel, by decide +kernel⟩
theorem t_require_point_like (d : Def z.K mg "require_point_like" s_require_point_like ["hierarchy", "value", "first"]) (c_require_point : Cal P' w z.K mg base T 3 2 "require_point" (F_require_point z)) (n_len : mg "len" = none) :
    Cal P' w z.K mg base T 4 3 "require_point_like" (F_require_point_like z) :=
  cal_mk (k := 3) (B := []) d q_require_point_like rfl (fun f cdv A fr s H E hg hr => have hu := hu_of hr; have hu64 := hu64_of hr; (ess_cons (es_expr (ev_fz (er_callC c_require_point hg (hr.mono (by decide)) (by rfl) (fun σ => passAt (takes_of rfl rfl rfl rfl) σ) (ea_cons (evn 0) (ea_cons (evn 1) ea_nil)))))
    (ess_one (es_if (et_cmp (op_neA hr.units) o2_ne (ev_call1 call_lenA o1_len (by rfl) n_len (by decide +kernel) (epn 1)) (ep_of (ev_call1 call_lenA o1_len (by rfl) n_len (by decide +kernel) (epn 2))) (nomark _)) (ess_one es_never) ess_nil))))
theorem q_combinations : FnScope ["choices", "rows", "names", "row", "name"] ["choices"] (defScope s_combinations) := ⟨rfl, rfl, rfl, by decide +kernel, rfl, by decide +kernel, by decide +kernel⟩
theorem t_combinations (d : Def z.K mg "combinations" s_combinations ["choices"])  :
    Cal P' w z.K mg base T 1 1 "combinations" (F_combinations z) :=
  cal_mk (k := 0) (B := []) d q_combinations rfl (fun f cdv A fr s H E hg hr => have hu := hu_of hr; have hu64 := hu64_of hr; (ess_cons (es_set (i := 1) q_combinations.nd rfl (.inl rfl) (by first | decide | (simp [Gx.plus, Tg.ix]; done) | (intro i hi; simp [Gx.plus, Tg.ix] at hi ⊢; omega)) (er_lst (ea_cons (ev_tup ea_nil) ea_nil)))
    (ess_cons (es_for0 (T := (.one 2)) (gt := (gName 2)) (passes_of rfl) rfl (ei_seq (evn 0)) (pg_name (i := 2) q_combinations.nd rfl (.inr rfl)) tg_one (ess_one (es_setLc2 (i := 1) (own := [("row", 3), ("name", 4)]) (T := (.one 3)) (T1 := (.one 4)) (gt := (gName 3)) (gt1 := (gName 4)) (vs := [3, 4]) rfl q_combinations.nd rfl rfl (by first | decide | (simp [Gx.plus, Tg.ix]; done) | (intro i hi; simp [Gx.plus, Tg.ix] at hi ⊢; omega)) (sw_true rfl rfl rfl (by decide +kernel)) (ei_seq (evn 1)) (blkOk_by (own := [("row", 3), ("name", 4)]) (N := ["choices", "rows", "names", "row", "name"]) (sc := defScope s_combinations) (by decide +kernel)) tg_one tg_one rfl (fun _ _ _ _ _ => (pg_name (i := 3) q_combinations.nd rfl (by first | exact Or.inl rfl | exact Or.inr rfl))) (fun _ _ _ _ _ => pts0) (fun _ _ _ _ _ => (ei_seq (evn 2))) (fun _ _ _ _ _ => (pg_name (i := 4) q_combinations.nd rfl (by first | exact Or.inl rfl | exact Or.inr rfl))) (fun _ _ _ _ _ => pts0) (fun _ _ _ _ _ => (ev_tup (ea_star (evn 3) (ea_cons (evn 4) ea_nil)))) (by decide) (by decide) (by decide) (by decide) kp_nil kp_nil kp_nil kp_nil kp_nil kp_nil)) (by first | decide | (simp [Gx.plus, Tg.ix]; done) | (intro i hi; simp [Gx.plus, Tg.ix] at hi ⊢; omega)))
    (ess_one (eret 1 (by first | decide | (simp [Gx.plus, Tg.ix]; done) | (intro i hi; simp [Gx.plus, Tg.ix] at hi ⊢; omega)))))))
theorem q_Hierarchy_require_class : FnScope ["self", "value"] ["self", "value"] (defScope m_Hierarchy_require_class) := ⟨rfl, rfl, rfl, by decide +kernel, rfl, by decide +kernel, by decide +kernel⟩
theorem t_Hierarchy_require_class (d : DefM z.K z.c_Hierarchy "require_class" "Hierarchy.require_class" m_Hierarchy_require_class ["self", "value"]) (c_Hierarchy_has_class : CalM P' w z.K mg base T z.c_Hierarchy 1 2 "has_class" (F_Hierarchy_has_class z)) :
    CalM P' w z.K mg base T z.c_Hierarchy 2 2 "require_class" (F_Hierarchy_require_class z) :=
  calM_mk (k := 1) (B := []) d q_Hierarchy_require_class rfl (fun f cdv A fr s H E hg hr => have hu := hu_of hr; have hu64 := hu64_of hr; (ess_one (es_if (et_not (et_val (ev_fz (er_methC c_Hierarchy_has_class (evn 0) hg (hr.mono (by decide)) (fun σ => passAt (takes_of rfl rfl rfl rfl) σ) (ea_cons (evn 1) ea_nil))))) (ess_one es_never) ess_nil)))
theorem q_Hierarchy_names : FnScope ["self"] ["self"] (defScope m_Hierarchy_names) := ⟨rfl, rfl, rfl, by decide +kernel, rfl, by decide +kernel, by decide +kernel⟩
theorem t_Hierarchy_names (d : DefM z.K z.c_Hierarchy "names" "Hierarchy.names" m_Hierarchy_names ["self"]) (k_Hierarchy : Cls z.K z.c_Hierarchy) (na_Hierarchy_places : NoAttr z.K z.c_Hierarchy "places") (n_list : mg "list" = none) :
    CalM P' w z.K mg base T z.c_Hierarchy 1 1 "names" (F_Hierarchy_names z) :=
  calM_mk (k := 0) (B := []) d q_Hierarchy_names rfl (fun f cdv A fr s H E hg hr => have hu := hu_of hr; have hu64 := hu64_of hr; (ess_one (es_ret (er_listA rfl (by rfl) n_list (ep_of (ev_fld k_Hierarchy na_Hierarchy_places (evn 0)))))))
theorem q_Hierarchy_highest_common : FnScope ["self", "first", "others", "classes", "name", "highest", "is_common", "other"] ((["self", "first"] : List Str) ++ [("others" : Str)]) (defScope m_Hierarchy_highest_common) := ⟨rfl, rfl, rfl, by decide +kernel, rfl, by decide +kernel, by decide +kernel⟩
theorem t_Hierarchy_highest_common (d : DefS z.K z.c_Hierarchy "highest_common" "Hierarchy.highest_common" m_Hierarchy_highest_common ["self", "first"] "others") (c_Hierarchy_require_class : CalM P' w z.K mg base T z.c_Hierarchy 2 2 "require_class" (F_Hierarchy_require_class z)) (c_Hierarchy_names : CalM P' w z.K mg base T z.c_Hierarchy 1 1 "names" (F_Hierarchy_names z)) (k_Hierarchy : Cls z.K z.c_Hierarchy) (na_Hierarchy_above : NoAttr z.K z.c_Hierarchy "above") (n_all : mg "all" = none) (n_any : mg "any" = none) :
    CalMS P' w z.K mg base T z.c_Hierarchy 3 2 "highest_common" (F_Hierarchy_highest_common z) :=
  calMS_mk (k := 2) (B := []) d q_Hierarchy_highest_common rfl (fun f cdv A fr s H E hg hr => have hu := hu_of hr; have hu64 := hu64_of hr; (ess_cons (es_set (i := 3) q_Hierarchy_highest_common.nd rfl (.inl rfl) (by first | decide | (simp [Gx.plus, Tg.ix]; done) | (intro i hi; simp [Gx.plus, Tg.ix] at hi ⊢; omega)) (er_lst (ea_cons (evn 1) (ea_star (evn 2) ea_nil))))
    (ess_cons (es_for0 (T := (.one 4)) (gt := (gName 4)) (passes_of rfl) rfl (ei_seq (evn 3)) (pg_name (i := 4) q_Hierarchy_highest_common.nd rfl (.inr rfl)) tg_one (ess_one (es_expr (ev_fz (er_methC c_Hierarchy_require_class (evn 0) hg (hr.mono (by decide)) (fun σ => passAt (takes_of rfl rfl rfl rfl) σ) (ea_cons (evn 4) ea_nil))))) (by first | decide | (simp [Gx.plus, Tg.ix]; done) | (intro i hi; simp [Gx.plus, Tg.ix] at hi ⊢; omega)))
    (ess_cons (es_set (i := 5) q_Hierarchy_highest_common.nd rfl (.inl rfl) (by first | decide | (simp [Gx.plus, Tg.ix]; done) | (intro i hi; simp [Gx.plus, Tg.ix] at hi ⊢; omega)) (er_lst ea_nil))
    (ess_cons (es_for0 (T := (.one 4)) (gt := (gName 4)) (passes_of rfl) rfl (ei_seq (ev_fz (er_methC0 c_Hierarchy_names (evn 0) hg (hr.mono (by decide)) (fun σ => passAt (takes_of rfl rfl rfl rfl) σ)))) (pg_name (i := 4) q_Hierarchy_highest_common.nd rfl (.inr rfl)) tg_one (ess_cons (es_set (i := 6) q_Hierarchy_highest_common.nd rfl (.inl rfl) (by first | decide | (simp [Gx.plus, Tg.ix]; done) | (intro i hi; simp [Gx.plus, Tg.ix] at hi ⊢; omega)) (er_vl (ev_call1 (cr_all rfl) o1_all (by rfl) n_all (by decide +kernel) (ep_of (ev_fz (er_lc (own := [("other", 7)]) (T := (.one 7)) (gt := (gName 7)) rfl q_Hierarchy_highest_common.nd (ei_seq (evn 3)) (blkOk_by (own := [("other", 7)]) (N := ["self", "first", "others", "classes", "name", "highest", "is_common", "other"]) (sc := defScope m_Hierarchy_highest_common) (by decide +kernel)) tg_one rfl (fun _ _ _ _ _ => (pg_name (i := 7) q_Hierarchy_highest_common.nd rfl (by first | exact Or.inl rfl | exact Or.inr rfl))) (fun _ _ _ _ _ => pts0) (fun _ _ _ _ _ => (ev_cmp (op_inA hu) o2_in (evn 7) (ep_of (ev_ix hu (ev_fld k_Hierarchy na_Hierarchy_above (evn 0)) (evn 4) (by intro _ _; rfl))) (by rfl))) (by decide) kp_nil kp_nil))))))
    (ess_one (es_if (et_w (ew_and (et_val (evn 6)) (ew_and1 (et_not (et_val (ev_call1 (cr_any rfl) o1_any (by rfl) n_any (by decide +kernel) (ep_of (ev_fz (er_lc (own := [("other", 7)]) (T := (.one 7)) (gt := (gName 7)) rfl q_Hierarchy_highest_common.nd (ein 5) (blkOk_by (own := [("other", 7)]) (N := ["self", "first", "others", "classes", "name", "highest", "is_common", "other"]) (sc := defScope m_Hierarchy_highest_common) (by decide +kernel)) tg_one rfl (fun _ _ _ _ _ => (pg_name (i := 7) q_Hierarchy_highest_common.nd rfl (by first | exact Or.inl rfl | exact Or.inr rfl))) (fun _ _ _ _ _ => pts0) (fun _ _ _ _ _ => (ev_cmp (op_inA hu) o2_in (evn 7) (ep_of (ev_ix hu (ev_fld k_Hierarchy na_Hierarchy_above (evn 0)) (evn 4) (by intro _ _; rfl))) (by rfl))) (by decide) (by repeat' first | exact kp_nil | exact kp_prt | exact kp_lft | exact kp_pk | exact kp_none | exact kp_app | exact kp_rd (by decide) | refine kp_lc (by decide) ?_ ?_ ?_ | refine kp_ix ?_ | refine kp_ite ?_ ?_ | refine kp_bnd ?_ fun _ => ?_) (by repeat' first | exact kp_nil | exact kp_prt | exact kp_lft | exact kp_pk | exact kp_none | exact kp_app | exact kp_rd (by decide) | refine kp_lc (by decide) ?_ ?_ ?_ | refine kp_ix ?_ | refine kp_ite ?_ ?_ | refine kp_bnd ?_ fun _ => ?_)))))))))) (ess_one (es_expr (ev_mut (i := 5) rfl (by first | exact Or.inl rfl | exact Or.inr (Or.inl rfl) | exact Or.inr (Or.inr rfl)) PySem.F.slot_list_append PySem.F.type_list_append mt_append om_append (ea_cons (evn 4) ea_nil)))) ess_nil))) (by first | decide | (simp [Gx.plus, Tg.ix]; done) | (intro i hi; simp [Gx.plus, Tg.ix] at hi ⊢; omega)))
    (ess_one (eret 5 (by first | decide | (simp [Gx.plus, Tg.ix]; done) | (intro i hi; simp [Gx.plus, Tg.ix] at hi ⊢; omega)))))))))
theorem q_highest_common_points : FnScope ["hierarchy", "first", "others", "point", "column"] ((["hierarchy", "first"] : List Str) ++ [("others" : Str)]) (defScope s_highest_common_points) := ⟨rfl, rfl, rfl, by decide +kernel, rfl, by decide +kernel, by decide +kernel⟩
theorem t_highest_common_points (d : DefFS z.K mg "highest_common_points" s_highest_common_points ["hierarchy", "first"] "others") (c_require_point : Cal P' w z.K mg base T 3 2 "require_point" (F_require_point z)) (c_require_point_like : Cal P' w z.K mg base T 4 3 "require_point_like" (F_require_point_like z)) (c_combinations : Cal P' w z.K mg base T 1 1 "combinations" (F_combinations z)) (n_zip : mg "zip" = none) (c_Hierarchy_highest_common : CalMS P' w z.K mg base T z.c_Hierarchy 3 2 "highest_common" (F_Hierarchy_highest_common z)) (bm_Hierarchy_highest_common : ∃ f, L2.BMeth z.K z.c_Hierarchy "highest_common" f) :
    CalFS P' w z.K mg base T 5 2 "highest_common_points" (F_highest_common_points z) :=
  calFS_mk (k := 4) (B := []) d q_highest_common_points rfl (fun f cdv A fr s H E hg hr => have hu := hu_of hr; have hu64 := hu64_of hr; (ess_cons (es_expr (ev_fz (er_callC c_require_point hg (hr.mono (by decide)) (by rfl) (fun σ => passAt (takes_of rfl rfl rfl rfl) σ) (ea_cons (evn 0) (ea_cons (evn 1) ea_nil)))))
    (ess_cons (es_for0 (T := (.one 3)) (gt := (gName 3)) (passes_of rfl) rfl (ei_seq (evn 2)) (pg_name (i := 3) q_highest_common_points.nd rfl (.inl rfl)) tg_one (ess_one (es_expr (ev_fz (er_callC c_require_point_like hg (hr.mono (by decide)) (by rfl) (fun σ => passAt (takes_of rfl rfl rfl rfl) σ) (ea_cons (evn 0) (ea_cons (evn 3) (ea_cons (evn 1) ea_nil))))))) (by first | decide | (simp [Gx.plus, Tg.ix]; done) | (intro i hi; simp [Gx.plus, Tg.ix] at hi ⊢; omega)))
    (ess_one (es_ret (er_callC c_combinations hg (hr.mono (by decide)) (by rfl) (fun σ => passAt (takes_of rfl rfl rfl rfl) σ) (ea_cons (ev_fz (er_lc (own := [("column", 4)]) (T := (.one 4)) (gt := (gName 4)) rfl q_highest_common_points.nd (ei_zipN (by rfl) n_zip (ea_cons (evn 1) (ea_star (evn 2) ea_nil))) (blkOk_by (own := [("column", 4)]) (N := ["hierarchy", "first", "others", "point", "column"]) (sc := defScope s_highest_common_points) (by decide +kernel)) tg_one rfl (fun _ _ _ _ _ => (pg_name (i := 4) q_highest_common_points.nd rfl (by first | exact Or.inl rfl | exact Or.inr rfl))) (fun _ _ _ _ _ => pts0) (fun _ _ _ _ _ => (ev_fz (er_methSS c_Hierarchy_highest_common bm_Hierarchy_highest_common (evn 0) hg (hr.mono (by decide)) (fun _ => pass_no) (evn 4)))) (by decide) kp_nil kp_nil)) ea_nil)))))))
theorem q__law_told : FnScope ["_law_world", "_law_some", "_law_a", "_law_b", "_law_c", "_law_d", "_law_e", "_law_f", "_law_g", "_law_h"] ["_law_world", "_law_some"] (defScope s__law_told) := ⟨rfl, rfl, rfl, by decide +kernel, rfl, by decide +kernel, by decide +kernel⟩
theorem t__law_told (d : Def z.K mg "_law_told" s__law_told ["_law_world", "_law_some"]) (n_len : mg "len" = none) (c_highest_common_points : CalFS P' w z.K mg base T 5 2 "highest_common_points" (F_highest_common_points z)) :
    Cal P' w z.K mg base T 6 2 "_law_told" (F__law_told z) :=
  cal_mk (k := 5) (B := []) d q__law_told rfl (fun f cdv A fr s H E hg hr => have hu := hu_of hr; have hu64 := hu64_of hr; (ess_cons (es_if (et_cmp (op_eqA hr.units) o2_eq (ev_call1 call_lenA o1_len (by rfl) n_len (by decide +kernel) (epn 1)) (ep_of ev_int) (nomark _)) (ess_one (es_ret (er_callFS c_highest_common_points hg (hr.mono (by decide)) (by rfl) (fun σ => passAt (takes_of rfl rfl rfl rfl) σ) (ea_cons (evn 0) (ea_cons (eixn 1 hu ev_int) ea_nil))))) ess_nil)
    (ess_cons (es_if (et_cmp (op_eqA hr.units) o2_eq (ev_call1 call_lenA o1_len (by rfl) n_len (by decide +kernel) (epn 1)) (ep_of ev_int) (nomark _)) (ess_one (es_ret (er_callFS c_highest_common_points hg (hr.mono (by decide)) (by rfl) (fun σ => passAt (takes_of rfl rfl rfl rfl) σ) (ea_cons (evn 0) (ea_cons (eixn 1 hu ev_int) (ea_cons (eixn 1 hu ev_int) ea_nil)))))) ess_nil)
    (ess_cons (es_if (et_cmp (op_eqA hr.units) o2_eq (ev_call1 call_lenA o1_len (by rfl) n_len (by decide +kernel) (epn 1)) (ep_of ev_int) (nomark _)) (ess_one (es_ret (er_callFS c_highest_common_points hg (hr.mono (by decide)) (by rfl) (fun σ => passAt (takes_of rfl rfl rfl rfl) σ) (ea_cons (evn 0) (ea_cons (eixn 1 hu ev_int) (ea_cons (eixn 1 hu ev_int) (ea_cons (eixn 1 hu ev_int) ea_nil))))))) ess_nil)
    (ess_cons (es_if (et_cmp (op_eqA hr.units) o2_eq (ev_call1 call_lenA o1_len (by rfl) n_len (by decide +kernel) (epn 1)) (ep_of ev_int) (nomark _)) (ess_one (es_ret (er_callFS c_highest_common_points hg (hr.mono (by decide)) (by rfl) (fun σ => passAt (takes_of rfl rfl rfl rfl) σ) (ea_cons (evn 0) (ea_cons (eixn 1 hu ev_int) (ea_cons (eixn 1 hu ev_int) (ea_cons (eixn 1 hu ev_int) (ea_cons (eixn 1 hu ev_int) ea_nil)))))))) ess_nil)
    (ess_cons (es_unl (is := [2, 3, 4, 5, 6, 7, 8, 9]) (evn 1) (pg_unl (by rfl) (pgs_cons (pg_name (i := 2) q__law_told.nd rfl (.inl rfl)) (pgs_cons (pg_name (i := 3) q__law_told.nd rfl (.inl rfl)) (pgs_cons (pg_name (i := 4) q__law_told.nd rfl (.inl rfl)) (pgs_cons (pg_name (i := 5) q__law_told.nd rfl (.inl rfl)) (pgs_cons (pg_name (i := 6) q__law_told.nd rfl (.inl rfl)) (pgs_cons (pg_name (i := 7) q__law_told.nd rfl (.inl rfl)) (pgs_cons (pg_name (i := 8) q__law_told.nd rfl (.inl rfl)) (pgs_cons (pg_name (i := 9) q__law_told.nd rfl (.inl rfl)) pgs_nil))))))))) (by first | decide | (simp [Gx.plus, Tg.ix]; done) | (intro i hi; simp [Gx.plus, Tg.ix] at hi ⊢; omega)))
    (ess_one (es_ret (er_callFS c_highest_common_points hg (hr.mono (by decide)) (by rfl) (fun σ => passAt (takes_of rfl rfl rfl rfl) σ) (ea_cons (evn 0) (ea_cons (evn 2) (ea_cons (evn 3) (ea_cons (evn 4) (ea_cons (evn 5) (ea_cons (evn 6) (ea_cons (evn 7) (ea_cons (evn 8) (ea_cons (evn 9) ea_nil))))))))))))))))))
theorem q__law_flat_right : FnScope ["_law_rows", "_law_some", "_law_flat", "_law_due", "_law_row", "_law_one"] ["_law_rows", "_law_some"] (defScope s__law_flat_right) := ⟨rfl, rfl, rfl, by decide +kernel, rfl, by decide +kernel, by decide +kernel⟩
theorem t__law_flat_right (d : Def z.K mg "_law_flat_right" s__law_flat_right ["_law_rows", "_law_some"]) (mkHier : MkHi P' w z.K mg base z.c_Hierarchy 3) (n_all : mg "all" = none) (c__law_told : Cal P' w z.K mg base T 6 2 "_law_told" (F__law_told z)) (n_repr : mg "repr" = none) :
    Cal P' w z.K mg base T 7 2 "_law_flat_right" (F__law_flat_right z) :=
  cal_mk (k := 6) (B := []) d q__law_flat_right rfl (fun f cdv A fr s H E hg hr => have hu := hu_of hr; have hu64 := hu64_of hr; (ess_cons (es_set (i := 2) q__law_flat_right.nd rfl (.inl rfl) (by first | decide | (simp [Gx.plus, Tg.ix]; done) | (intro i hi; simp [Gx.plus, Tg.ix] at hi ⊢; omega)) (er_makeHC mkHier (hr.mono (by decide)) (by rfl) (ev_fz (er_lc (own := [("_law_row", 4)]) (T := (.one 4)) (gt := (gName 4)) rfl q__law_flat_right.nd (ei_seq (evn 0)) (blkOk_by (own := [("_law_row", 4)]) (N := ["_law_rows", "_law_some", "_law_flat", "_law_due", "_law_row", "_law_one"]) (sc := defScope s__law_flat_right) (by decide +kernel)) tg_one rfl (fun _ _ _ _ _ => (pg_name (i := 4) q__law_flat_right.nd rfl (by first | exact Or.inl rfl | exact Or.inr rfl))) (fun _ _ _ _ _ => pts0) (fun _ _ _ _ _ => (ev_tup (ea_cons (eixn 4 hu ev_int) (ea_cons (ev_tup ea_nil) ea_nil)))) (by decide) kp_nil kp_nil))))
    (ess_cons (es_set (i := 3) q__law_flat_right.nd rfl (.inl rfl) (by first | decide | (simp [Gx.plus, Tg.ix]; done) | (intro i hi; simp [Gx.plus, Tg.ix] at hi ⊢; omega)) (er_if (et_val (ev_call1 (cr_all rfl) o1_all (by rfl) n_all (by decide +kernel) (ep_of (ev_fz (er_lc (own := [("_law_one", 5)]) (T := (.one 5)) (gt := (gName 5)) rfl q__law_flat_right.nd (ei_seq (evn 1)) (blkOk_by (own := [("_law_one", 5)]) (N := ["_law_rows", "_law_some", "_law_flat", "_law_due", "_law_row", "_law_one"]) (sc := defScope s__law_flat_right) (by decide +kernel)) tg_one rfl (fun _ _ _ _ _ => (pg_name (i := 5) q__law_flat_right.nd rfl (by first | exact Or.inl rfl | exact Or.inr rfl))) (fun _ _ _ _ _ => pts0) (fun _ _ _ _ _ => (ev_cmp (op_eqA hr.units) o2_eq (evn 5) (ep_of (eixn 1 hu ev_int)) (nomark _))) (by decide) kp_nil kp_nil))))) (er_slA (evn 1) eo_none (eo_some ev_int)) (er_lst ea_nil)))
    (ess_one (es_ret (er_vl (ev_cmp (op_eqA hr.units) o2_eq (ev_call1 (call_reprA (by exact hg) (by exact hu64)) o1_repr (by rfl) n_repr (by decide +kernel) (ep_of (ev_fz (er_callC c__law_told hg (hr.mono (by decide)) (by rfl) (fun σ => passAt (takes_of rfl rfl rfl rfl) σ) (ea_cons (evn 2) (ea_cons (evn 1) ea_nil)))))) (ep_of (ev_call1 (call_reprA (by exact hg) (by exact hu64)) o1_repr (by rfl) n_repr (by decide +kernel) (epn 3))) (nomark _))))))))
theorem q__law_is_under : FnScope ["_law_ups_here", "_law_inner", "_law_outer", "_law_low", "_law_high"] ["_law_ups_here", "_law_inner", "_law_outer"] (defScope s__law_is_under) := ⟨rfl, rfl, rfl, by decide +kernel, rfl, by decide +kernel, by decide +kernel⟩
theorem t__law_is_under (d : Def z.K mg "_law_is_under" s__law_is_under ["_law_ups_here", "_law_inner", "_law_outer"]) (n_zip : mg "zip" = none) (n_all : mg "all" = none) :
    Cal P' w z.K mg base T 1 3 "_law_is_under" (F__law_is_under z) :=
  cal_mk (k := 0) (B := []) d q__law_is_under rfl (fun f cdv A fr s H E hg hr => have hu := hu_of hr; have hu64 := hu64_of hr; (ess_one (es_ret (er_vl (ev_call1 (cr_all rfl) o1_all (by rfl) n_all (by decide +kernel) (ep_of (ev_fz (er_lc (own := [("_law_low", 3), ("_law_high", 4)]) (T := (.many [3, 4])) (gt := (gTup _ 2 (gNames [3, 4]))) rfl q__law_is_under.nd (ei_zip (by rfl) n_zip (evn 1) (evn 2)) (blkOk_by (own := [("_law_low", 3), ("_law_high", 4)]) (N := ["_law_ups_here", "_law_inner", "_law_outer", "_law_low", "_law_high"]) (sc := defScope s__law_is_under) (by decide +kernel)) (tg_many (is := [3, 4])) rfl (fun _ _ _ _ _ => (pg_tup (by rfl) (pgs_cons (pg_name (i := 3) q__law_is_under.nd rfl (by first | exact Or.inl rfl | exact Or.inr rfl)) (pgs_cons (pg_name (i := 4) q__law_is_under.nd rfl (by first | exact Or.inl rfl | exact Or.inr rfl)) pgs_nil)))) (fun _ _ _ _ _ => pts0) (fun _ _ _ _ _ => (ev_cmp (op_inA hu) o2_in (evn 4) (ep_of (eixn 0 hu (evn 3))) (by rfl))) (by decide) kp_nil kp_nil))))))))
theorem q__law_highest : FnScope ["_law_ups_here", "_law_spots", "_law_one", "_law_other"] ["_law_ups_here", "_law_spots"] (defScope s__law_highest) := ⟨rfl, rfl, rfl, by decide +kernel, rfl, by decide +kernel, by decide +kernel⟩
theorem t__law_highest (d : Def z.K mg "_law_highest" s__law_highest ["_law_ups_here", "_law_spots"]) (c__law_is_under : Cal P' w z.K mg base T 1 3 "_law_is_under" (F__law_is_under z)) (n_any : mg "any" = none) :
    Cal P' w z.K mg base T 2 2 "_law_highest" (F__law_highest z) :=
  cal_mk (k := 1) (B := []) d q__law_highest rfl (fun f cdv A fr s H E hg hr => have hu := hu_of hr; have hu64 := hu64_of hr; (ess_one (es_ret (er_lc (own := [("_law_one", 2)]) (T := (.one 2)) (gt := (gName 2)) rfl q__law_highest.nd (ei_seq (evn 1)) (blkOk_by (own := [("_law_one", 2)]) (N := ["_law_ups_here", "_law_spots", "_law_one", "_law_other"]) (sc := defScope s__law_highest) (by decide +kernel)) tg_one rfl (fun _ _ _ _ _ => (pg_name (i := 2) q__law_highest.nd rfl (by first | exact Or.inl rfl | exact Or.inr rfl))) (fun _ _ _ _ _ => pts1 (et_not (et_val (ev_call1 (cr_any rfl) o1_any (by rfl) n_any (by decide +kernel) (ep_of (ev_fz (er_lc (own := [("_law_other", 3)]) (T := (.one 3)) (gt := (gName 3)) rfl q__law_highest.nd (ei_seq (evn 1)) (blkOk_by (own := [("_law_other", 3)]) (N := ["_law_ups_here", "_law_spots", "_law_one", "_law_other"]) (by kernel_rfl)) tg_one rfl (fun _ _ _ _ _ => (pg_name (i := 3) q__law_highest.nd rfl (by first | exact Or.inl rfl | exact Or.inr rfl))) (fun _ _ _ _ _ => pts0) (fun _ _ _ _ _ => (ev_and (ev_cmp (op_neA hr.units) o2_ne (evn 3) (epn 2) (nomark _)) (ev_one (ev_fz (er_callC c__law_is_under hg (hr.mono (by decide)) (by rfl) (fun _ => pass_no) (ea_cons (evn 0) (ea_cons (evn 2) (ea_cons (evn 3) ea_nil)))))))) (by decide) kp_nil kp_nil))))))) (fun _ _ _ _ _ => (evn 2)) (by decide) kp_nil kp_nil))))
theorem q__law_right : FnScope ["_law_world", "_law_ups_here", "_law_spots", "_law_some", "_law_common", "_law_due", "_law_told_here", "_law_spot", "_law_one", "0", "1"] ["_law_world", "_law_ups_here", "_law_spots", "_law_some"] (defScope s__law_right) := ⟨rfl, rfl, rfl, by decide +kernel, rfl, by decide +kernel, by decide +kernel⟩
theorem t__law_right (d : Def z.K mg "_law_right" s__law_right ["_law_world", "_law_ups_here", "_law_spots", "_law_some"]) (c__law_is_under : Cal P' w z.K mg base T 1 3 "_law_is_under" (F__law_is_under z)) (n_all : mg "all" = none) (c__law_highest : Cal P' w z.K mg base T 2 2 "_law_highest" (F__law_highest z)) (c__law_told : Cal P' w z.K mg base T 6 2 "_law_told" (F__law_told z)) (n_repr : mg "repr" = none) (n_any : mg "any" = none) :
    Cal P' w z.K mg base T 7 4 "_law_right" (F__law_right z) :=
  cal_mk (k := 6) (B := []) d q__law_right rfl (fun f cdv A fr s H E hg hr => have hu := hu_of hr; have hu64 := hu64_of hr; (ess_cons (es_setLc (i := 4) (own := [("_law_spot", 7)]) (T := (.one 7)) (gt := (gName 7)) rfl q__law_right.nd rfl rfl (by first | decide | (simp [Gx.plus, Tg.ix]; done) | (intro i hi; simp [Gx.plus, Tg.ix] at hi ⊢; omega)) (sw_true rfl rfl rfl (by decide +kernel)) (ei_seq (evn 2)) (blkOk_by (own := [("_law_spot", 7)]) (N := ["_law_world", "_law_ups_here", "_law_spots", "_law_some", "_law_common", "_law_due", "_law_told_here", "_law_spot", "_law_one", "0", "1"]) (sc := defScope s__law_right) (by decide +kernel)) tg_one rfl (fun _ _ _ _ _ => (pg_name (i := 7) q__law_right.nd rfl (by first | exact Or.inl rfl | exact Or.inr rfl))) (fun _ _ _ _ _ => pts1 (et_val (ev_call1 (cr_all rfl) o1_all (by rfl) n_all (by decide +kernel) (ep_of (ev_fz (er_lc (own := [("_law_one", 8)]) (T := (.one 8)) (gt := (gName 8)) rfl q__law_right.nd (ei_seq (evn 3)) (blkOk_by (own := [("_law_one", 8)]) (N := ["_law_world", "_law_ups_here", "_law_spots", "_law_some", "_law_common", "_law_due", "_law_told_here", "_law_spot", "_law_one", "0", "1"]) (by kernel_rfl)) tg_one rfl (fun _ _ _ _ _ => (pg_name (i := 8) q__law_right.nd rfl (by first | exact Or.inl rfl | exact Or.inr rfl))) (fun _ _ _ _ _ => pts0) (fun _ _ _ _ _ => (ev_fz (er_callC c__law_is_under hg (hr.mono (by decide)) (by rfl) (fun _ => pass_no) (ea_cons (evn 1) (ea_cons (evn 7) (ea_cons (evn 8) ea_nil)))))) (by decide) kp_nil kp_nil)))))) (fun _ _ _ _ _ => (evn 7)) (by decide) kp_nil kp_nil)
    (ess_cons (es_set (i := 5) q__law_right.nd rfl (.inl rfl) (by first | decide | (simp [Gx.plus, Tg.ix]; done) | (intro i hi; simp [Gx.plus, Tg.ix] at hi ⊢; omega)) (er_callC c__law_highest hg (hr.mono (by decide)) (by rfl) (fun σ => passAt (takes_of rfl rfl rfl rfl) σ) (ea_cons (evn 1) (ea_cons (evn 4) ea_nil))))
    (ess_nest (i := 6) (js := [9, 10]) (ds := [6, 9, 10]) q__law_right.nd rfl (.inr rfl) (phn_cons rfl rfl (phn_cons rfl rfl phn_nil)) (by first | decide | (simp [Gx.plus, Tg.ix]; done) | (intro i hi; simp [Gx.plus, Tg.ix] at hi ⊢; omega)) (by first | decide | (simp [Gx.plus, Tg.ix]; done) | (intro i hi; simp [Gx.plus, Tg.ix] at hi ⊢; omega)) (ers_cons (er_callC c__law_told hg (hr.mono (by decide)) (by rfl) (fun σ => passAt (takes_of rfl rfl rfl rfl) σ) (ea_cons (evn 0) (ea_cons (evn 3) ea_nil))) (ers_cons (er_callC c__law_told hg (hr.mono (by decide)) (by rfl) (fun σ => passAt (takes_of rfl rfl rfl rfl) σ) (ea_cons (evn 0) (ea_cons (ev_fz (er_rev (evn 3))) ea_nil))) ers_nil)) (fun _ => (ess_cons (es_if (et_cmp (op_neA hr.units) o2_ne (ev_reprN (by exact hg) (by exact hu64) (by rfl) n_repr (by decide +kernel) (evn 6)) (ep_of (ev_call1 (call_reprA (by exact hg) (by exact hu64)) o1_repr (by rfl) n_repr (by decide +kernel) (ep_of (ev_fz (er_lst (ea_cons (evn 5) (ea_cons (evn 5) ea_nil))))))) (nomark _)) (ess_one (es_ret (er_vl ev_bl))) ess_nil)
    (ess_cons (es_if (et_brw (i := 6) (js := [9, 10]) (et_w (ew_and (et_val (ev_call1 (cr_all rfl) o1_all (by rfl) n_all (by decide +kernel) (ep_of (ev_fz (er_lc (own := [("_law_one", 8)]) (T := (.one 8)) (gt := (gName 8)) rfl q__law_right.nd (ei_seq (evn 3)) (blkOk_by (own := [("_law_one", 8)]) (N := ["_law_world", "_law_ups_here", "_law_spots", "_law_some", "_law_common", "_law_due", "_law_told_here", "_law_spot", "_law_one", "0", "1"]) (sc := defScope s__law_right) (by decide +kernel)) tg_one rfl (fun _ _ _ _ _ => (pg_name (i := 8) q__law_right.nd rfl (by first | exact Or.inl rfl | exact Or.inr rfl))) (fun _ _ _ _ _ => pts0) (fun _ _ _ _ _ => (ev_fz (er_callC c__law_is_under hg (hr.mono (by decide)) (by rfl) (fun _ => pass_no) (ea_cons (evn 1) (ea_cons (eixn 3 hu ev_int) (ea_cons (evn 8) ea_nil)))))) (by decide) kp_nil kp_nil))))) (ew_and1 (et_cmp (op_neA hr.units) o2_ne (eixn 6 hu ev_int) (ep_of (ev_fz (er_lst (ea_cons (eixn 3 hu ev_int) ea_nil)))) (nomark _)))))) (ess_one (es_ret (er_vl ev_bl))) ess_nil)
    (ess_cons (es_if (et_brw (i := 6) (js := [9, 10]) (et_not (et_val (ev_call1 (cr_all rfl) o1_all (by rfl) n_all (by decide +kernel) (ep_of (ev_fz (er_lc (own := [("_law_spot", 7)]) (T := (.one 7)) (gt := (gName 7)) rfl q__law_right.nd (ei_seq (evn 4)) (blkOk_by (own := [("_law_spot", 7)]) (N := ["_law_world", "_law_ups_here", "_law_spots", "_law_some", "_law_common", "_law_due", "_law_told_here", "_law_spot", "_law_one", "0", "1"]) (sc := defScope s__law_right) (by decide +kernel)) tg_one rfl (fun _ _ _ _ _ => (pg_name (i := 7) q__law_right.nd rfl (by first | exact Or.inl rfl | exact Or.inr rfl))) (fun _ _ _ _ _ => pts0) (fun _ _ _ _ _ => (ev_call1 (cr_any rfl) o1_any (by rfl) n_any (by decide +kernel) (ep_of (ev_fz (er_lc (own := [("_law_one", 8)]) (T := (.one 8)) (gt := (gName 8)) rfl q__law_right.nd (ei_seq (eixn 6 hu ev_int)) (blkOk_by (own := [("_law_one", 8)]) (N := ["_law_world", "_law_ups_here", "_law_spots", "_law_some", "_law_common", "_law_due", "_law_told_here", "_law_spot", "_law_one", "0", "1"]) (by kernel_rfl)) tg_one rfl (fun _ _ _ _ _ => (pg_name (i := 8) q__law_right.nd rfl (by first | exact Or.inl rfl | exact Or.inr rfl))) (fun _ _ _ _ _ => pts0) (fun _ _ _ _ _ => (ev_fz (er_callC c__law_is_under hg (hr.mono (by decide)) (by rfl) (fun _ => pass_no) (ea_cons (evn 1) (ea_cons (evn 7) (ea_cons (evn 8) ea_nil)))))) (by decide) kp_nil kp_nil))))) (by decide) kp_nil kp_nil))))))) (ess_one (es_ret (er_vl ev_bl))) ess_nil)
    (ess_cons (es_expr (ev_mutA PySem.F.slot_list_append PySem.F.type_list_append mt_append om_append (eixn 6 hu ev_int) (ea_cons ev_non ea_nil)))
    (ess_cons (es_expr (ev_mutA0 PySem.F.slot_list_reverse PySem.F.type_list_reverse mt_reverse om_reverse (eixn 6 hu ev_int)))
    (ess_one (es_ret (er_vl (ev_cmp (op_eqA hr.units) o2_eq (ev_call1 (call_reprA (by exact hg) (by exact hu64)) o1_repr (by rfl) n_repr (by decide +kernel) (ep_of (ev_fz (er_callC c__law_told hg (hr.mono (by decide)) (by rfl) (fun σ => passAt (takes_of rfl rfl rfl rfl) σ) (ea_cons (evn 0) (ea_cons (evn 3) ea_nil)))))) (ep_of (ev_call1 (call_reprA (by exact hg) (by exact hu64)) o1_repr (by rfl) n_repr (by decide +kernel) (epn 5))) (nomark _)))))))))))))))
theorem q_law : FnScope ["_law_script", "_law_k", "_law_pot_here", "_law_most", "_law_many", "_law_rows", "_law_world", "_law_ups_here", "_law_spots", "_law_turn", "_law_some", "_law_each"] ["_law_script"] (defScope s_law) := ⟨rfl, rfl, rfl, by decide +kernel, rfl, by decide +kernel, by decide +kernel⟩
theorem tl_law {f : Addr} {fd : FuncData} (U : Fun z.K "law" "law" s_law f fd) (n_len : mg "len" = none) (n_min : mg "min" = none) (n_max : mg "max" = none) (n_range : mg "range" = none) (c__law_pot : Cal P' w z.K mg base T 1 2 "_law_pot" (F__law_pot z)) (c__law_sizes : Cal P' w z.K mg base T 2 1 "_law_sizes" (F__law_sizes z)) (c__law_kinds : Cal P' w z.K mg base T 4 2 "_law_kinds" (F__law_kinds z)) (c__law_all_points : Cal P' w z.K mg base T 1 2 "_law_all_points" (F__law_all_points z)) (c__law_ups : Cal P' w z.K mg base T 2 1 "_law_ups" (F__law_ups z)) (mkHier : MkHi P' w z.K mg base z.c_Hierarchy 3) (c__law_draw : Cal P' w z.K mg base T 1 2 "_law_draw" (F__law_draw z)) (c__law_flat_right : Cal P' w z.K mg base T 7 2 "_law_flat_right" (F__law_flat_right z)) (c__law_right : Cal P' w z.K mg base T 7 4 "_law_right" (F__law_right z)) :
    FnG P' w z.K mg base (L2.CX P' w) 8 f fd ["_law_script"] (spP z.K T 1 (F_law z)) :=
  law_mk (k := 7) (n := 1) (B := []) U q_law rfl (fun f cdv A fr s H E hg hr => have hu := hu_of hr; have hu64 := hu64_of hr; (ess_cons (es_for0 (T := (.one 1)) (gt := (gName 1)) (passes_of rfl) rfl (ei_range1 (by rfl) n_range (ev_callA (call_max2 rfl) oa_max (by rfl) n_max (by decide +kernel) (ea_cons ev_int (ea_cons (ev_callA (call_min2 rfl) oa_min (by rfl) n_min (by decide +kernel) (ea_cons ev_int (ea_cons (ev_call1 call_lenA o1_len (by rfl) n_len (by decide +kernel) (epn 0)) ea_nil))) ea_nil)))) (pg_name (i := 1) q_law.nd rfl (.inl rfl)) tg_one (ess_cons (es_set (i := 2) q_law.nd rfl (.inr rfl) (by first | decide | (simp [Gx.plus, Tg.ix]; done) | (intro i hi; simp [Gx.plus, Tg.ix] at hi ⊢; omega)) (er_callC c__law_pot hg (hr.mono (by decide)) (by rfl) (fun σ => passAt (takes_of rfl rfl rfl rfl) σ) (ea_cons (evn 0) (ea_cons (evn 1) ea_nil))))
    (ess_cons (es_tup (T := (.many [3, 4])) (gt := (gTup _ 2 (gNames [3, 4]))) (ev_fz (er_callB (i := 2) c__law_sizes hg (hr.mono (by decide)) (by rfl) (fun σ => passAt (takes_of rfl rfl rfl rfl) σ) rfl (by first | exact Or.inl rfl | exact Or.inr (Or.inl rfl) | exact Or.inr (Or.inr rfl)) ea_nil)) (pg_tup (by rfl) (pgs_cons (pg_name (i := 3) q_law.nd rfl (.inl rfl)) (pgs_cons (pg_name (i := 4) q_law.nd rfl (.inl rfl)) pgs_nil))) (tg_many (is := [3, 4])) (by first | decide | (simp [Gx.plus, Tg.ix]; done) | (intro i hi; simp [Gx.plus, Tg.ix] at hi ⊢; omega)))
    (ess_cons (es_set (i := 5) q_law.nd rfl (.inl rfl) (by first | decide | (simp [Gx.plus, Tg.ix]; done) | (intro i hi; simp [Gx.plus, Tg.ix] at hi ⊢; omega)) (er_callB (i := 2) c__law_kinds hg (hr.mono (by decide)) (by rfl) (fun σ => passAt (takes_of rfl rfl rfl rfl) σ) rfl (by first | exact Or.inl rfl | exact Or.inr (Or.inl rfl) | exact Or.inr (Or.inr rfl)) (ea_cons (evn 3) ea_nil)))
    (ess_cons (es_tup (T := (.many [6, 7, 8])) (gt := (gTup _ 3 (gNames [6, 7, 8]))) (ev_tup (ea_cons (ev_fz (er_makeHC mkHier (hr.mono (by decide)) (by rfl) (evn 5))) (ea_cons (ev_fz (er_callC c__law_ups hg (hr.mono (by decide)) (by rfl) (fun σ => passAt (takes_of rfl rfl rfl rfl) σ) (ea_cons (evn 5) ea_nil))) (ea_cons (ev_fz (er_callC c__law_all_points hg (hr.mono (by decide)) (by rfl) (fun σ => passAt (takes_of rfl rfl rfl rfl) σ) (ea_cons (evn 5) (ea_cons (evn 4) ea_nil)))) ea_nil)))) (pg_tup (by rfl) (pgs_cons (pg_name (i := 6) q_law.nd rfl (.inl rfl)) (pgs_cons (pg_name (i := 7) q_law.nd rfl (.inl rfl)) (pgs_cons (pg_name (i := 8) q_law.nd rfl (.inr rfl)) pgs_nil)))) (tg_many (is := [6, 7, 8])) (by first | decide | (simp [Gx.plus, Tg.ix]; done) | (intro i hi; simp [Gx.plus, Tg.ix] at hi ⊢; omega)))
    (ess_one (es_for0 (T := (.one 9)) (gt := (gName 9)) (passes_of rfl) rfl (ei_range1 (by rfl) n_range ev_int) (pg_name (i := 9) q_law.nd rfl (.inl rfl)) tg_one (ess_cons (es_setLc (i := 10) (own := [("_law_each", 11)]) (T := (.one 11)) (gt := (gName 11)) rfl q_law.nd rfl rfl (by first | decide | (simp [Gx.plus, Tg.ix]; done) | (intro i hi; simp [Gx.plus, Tg.ix] at hi ⊢; omega)) (sw_true rfl rfl rfl (by decide +kernel)) (ei_range1 (by rfl) n_range (ev_ix hu (ev_fz (er_lst (ea_cons ev_int (ea_cons ev_int (ea_cons ev_int (ea_cons ev_int (ea_cons ev_int (ea_cons ev_int (ea_cons ev_int ea_nil))))))))) (ev_fz (er_callB (i := 2) c__law_draw hg (hr.mono (by decide)) (by rfl) (fun σ => passAt (takes_of rfl rfl rfl rfl) σ) rfl (by first | exact Or.inl rfl | exact Or.inr (Or.inl rfl) | exact Or.inr (Or.inr rfl)) (ea_cons ev_int ea_nil))) (by intro _ _; rfl))) (blkOk_by (own := [("_law_each", 11)]) (N := ["_law_script", "_law_k", "_law_pot_here", "_law_most", "_law_many", "_law_rows", "_law_world", "_law_ups_here", "_law_spots", "_law_turn", "_law_some", "_law_each"]) (sc := defScope s_law) (by decide +kernel)) tg_one rfl (fun _ _ _ _ _ => (pg_name (i := 11) q_law.nd rfl (by first | exact Or.inl rfl | exact Or.inr rfl))) (fun _ _ _ _ _ => pts0) (fun _ _ _ _ _ => (eixn 8 hu (ev_fz (er_callB (i := 2) c__law_draw hg (hr.mono (by decide)) (by rfl) (fun _ => pass_no) rfl (by first | exact Or.inl rfl | exact Or.inr (Or.inl rfl) | exact Or.inr (Or.inr rfl)) (ea_cons (ev_call1 call_lenA o1_len (by rfl) n_len (by decide +kernel) (epn 8)) ea_nil))))) (by decide) kp_nil kp_nil)
    (ess_cons (es_set (i := 10) q_law.nd rfl (.inl rfl) (by first | decide | (simp [Gx.plus, Tg.ix]; done) | (intro i hi; simp [Gx.plus, Tg.ix] at hi ⊢; omega)) (er_if (et_cmp (op_eqA hr.units) o2_eq (ev_fz (er_callB (i := 2) c__law_draw hg (hr.mono (by decide)) (by rfl) (fun σ => passAt (takes_of rfl rfl rfl rfl) σ) rfl (by first | exact Or.inl rfl | exact Or.inr (Or.inl rfl) | exact Or.inr (Or.inr rfl)) (ea_cons ev_int ea_nil))) (ep_of ev_int) (nomark _)) (er_vl (ev_bin op_addA o2_add (ev_bin op_mulA o2_mul (ev_fz (er_slA (evn 10) eo_none (eo_some ev_int))) (ep_of ev_int)) (ep_of (ev_fz (er_slA (evn 10) (eo_some ev_int) eo_none))))) (er_vl (evn 10))))
    (ess_cons (es_if (et_w (ew_or (et_not (et_val (ev_fz (er_callC c__law_right hg (hr.mono (by decide)) (by rfl) (fun σ => passAt (takes_of rfl rfl rfl rfl) σ) (ea_cons (evn 6) (ea_cons (evn 7) (ea_cons (evn 8) (ea_cons (evn 10) ea_nil)))))))) (ew_or1 (et_not (et_val (ev_fz (er_callC c__law_flat_right hg (hr.mono (by decide)) (by rfl) (fun σ => passAt (takes_of rfl rfl rfl rfl) σ) (ea_cons (evn 5) (ea_cons (evn 10) ea_nil))))))))) (ess_one (es_ret (er_vl ev_bl))) ess_nil)
    (ess_one (es_if (et_not (et_val (ev_fz (er_callC c__law_right hg (hr.mono (by decide)) (by rfl) (fun σ => passAt (takes_of rfl rfl rfl rfl) σ) (ea_cons (evn 6) (ea_cons (evn 7) (ea_cons (evn 8) (ea_cons (evn 10) ea_nil)))))))) (ess_one (es_ret (er_vl ev_bl))) ess_nil))))) (by first | decide | (simp [Gx.plus, Tg.ix]; done) | (intro i hi; simp [Gx.plus, Tg.ix] at hi ⊢; omega)))))))) (by first | decide | (simp [Gx.plus, Tg.ix]; done) | (intro i hi; simp [Gx.plus, Tg.ix] at hi ⊢; omega)))
    (ess_one (es_ret (er_vl ev_bl)))))
end
end Lw
/-! Points, methods, expansions: what is true of them, without any program. -/
namespace Tm
open PySem PySem.Spec PyProof.Rows L2 Kv
theorem anc_in {rows : List Row2} {x y : Str} (h : y ∈ Anc rows x) : x ∈ fsts rows := by
  apply Classical.byContradiction
  intro z
  have z2 : x ∉ tabKeys (ancTab rows) := by rw [ancTab_keys]; exact z
  have : ∀ t : Tab, x ∉ tabKeys t → look t x = [] := by
    intro t
    induction t with
    | nil => intro _; rfl
    | cons p r ih =>
      intro hx
      obtain ⟨a, as⟩ := p
      have e := look_right (t1 := [(a, as)]) (t2 := r) (x := x) (fun q => hx (by rw [List.mem_singleton.mp q]; exact List.mem_cons_self ..))
      exact e.trans (ih fun q => hx (List.mem_cons_of_mem _ q))
  unfold Anc at h
  rw [this _ z2] at h
  cases h
theorem anc_tr {rows : List Row2} (v : Valid rows) : ∀ x y z, y ∈ Anc rows x → z ∈ Anc rows y → z ∈ Anc rows x := fun x y z h1 h2 => by
  obtain ⟨i, ss, e⟩ := mem_row (anc_in h1)
  exact anc_trans v i e h1 h2
theorem names_pw {rows : List Row2} (v : Valid rows) : (fsts rows).Pairwise fun x y => y ∉ Anc rows x := by
  rw [List.pairwise_iff_getElem]
  intro i j hi hj hij h
  have := names_ord v (List.getElem?_eq_getElem hi) (List.getElem?_eq_getElem hj) h
  omega
theorem anc_self {rows : List Row2} (v : Valid rows) {x : Str} (h : x ∈ fsts rows) : x ∈ Anc rows x := by
  obtain ⟨i, ss, e⟩ := mem_row h
  exact (anc_row v e x).mpr (.inl rfl)
theorem names_nd {rows : List Row2} (v : Valid rows) : (fsts rows).Nodup := by
  rw [List.nodup_iff_pairwise_ne] <;> skip
  refine (names_pw v).imp_of_mem fun {a b} ha hb h z => h ?_
  subst z
  exact anc_self v ha
theorem revInd {α : Type} {motive : List α → Prop} (nil : motive []) (append_singleton : ∀ (l : List α) (a : α), motive l → motive (l ++ [a])) (t : List α) : motive t := Kv.snocInd nil append_singleton t
abbrev Pt := List Str
def le (rows : List Row2) (p q : Pt) : Bool := Kv.under (Anc rows) p q
def PtOk (rows : List Row2) (n : Nat) (p : Pt) : Prop := p.length = n ∧ ∀ x ∈ p, x ∈ fsts rows
def allP (rows : List Row2) (n : Nat) : List Pt := combos (List.replicate n (fsts rows))
section
variable {rows : List Row2} {n : Nat} {p q r : Pt}
theorem mem_allP : p ∈ allP rows n ↔ PtOk rows n p := by
  constructor
  · intro h
    refine ⟨by rw [combos_len _ p h, List.length_replicate], combos_all (fun x => x ∈ fsts rows) (fun c hc x hx => ?_) p h⟩
    rw [(List.mem_replicate.mp hc).2] at hx
    exact hx
  · rintro ⟨rfl, h⟩
    exact mem_combos _ p h
theorem under_trans {up : Str → List Str} (tr : ∀ x y z, y ∈ up x → z ∈ up y → z ∈ up x) : ∀ {p q r : Pt}, p.length = q.length → q.length = r.length → Kv.under up p q = true → Kv.under up q r = true → Kv.under up p r = true
  | [], [], [], _, _, _, _ => rfl
  | [], _ :: _, _, h, _, _, _ => by simp at h
  | _ :: _, [], _, h, _, _, _ => by simp at h
  | [], [], _ :: _, _, h, _, _ => by simp at h
  | _ :: _, _ :: _, [], _, h, _, _ => by simp at h
  | x :: p, y :: q, z :: r, h1, h2, a, b => by
    unfold Kv.under at a b ⊢
    simp only [okZip, Bool.and_eq_true, decide_eq_true_eq] at a b ⊢
    exact ⟨tr x y z a.1 b.1, under_trans tr (p := p) (q := q) (r := r) (by simpa using h1) (by simpa using h2) a.2 b.2⟩
theorem le_refl (v : Valid rows) (h : PtOk rows n p) : le rows p p = true := under_refl (names := fsts rows) (fun x hx => anc_self v hx) p h.2
theorem le_trans (v : Valid rows) (hp : PtOk rows n p) (hq : PtOk rows n q) (hr : PtOk rows n r) (a : le rows p q = true) (b : le rows q r = true) : le rows p r = true :=
  under_trans (anc_tr v) (hp.1.trans hq.1.symm) (hq.1.trans hr.1.symm) a b
theorem anc_anti (v : Valid rows) {x y : Str} (hx : x ∈ fsts rows) (hy : y ∈ fsts rows) (a : y ∈ Anc rows x) (b : x ∈ Anc rows y) : x = y := by
  obtain ⟨i, hi, ei⟩ := List.getElem_of_mem hx
  obtain ⟨j, hj, ej⟩ := List.getElem_of_mem hy
  have e1 : (fsts rows)[i]? = some x := by rw [List.getElem?_eq_getElem hi, ei]
  have e2 : (fsts rows)[j]? = some y := by rw [List.getElem?_eq_getElem hj, ej]
  have h1 := names_ord v e1 e2 a
  have h2 := names_ord v e2 e1 b
  have : i = j := by omega
  subst this
  rw [e1] at e2
  exact Option.some.inj e2
theorem le_anti (v : Valid rows) : ∀ {p q : Pt}, p.length = q.length → (∀ x ∈ p, x ∈ fsts rows) → (∀ x ∈ q, x ∈ fsts rows) → le rows p q = true → le rows q p = true → p = q
  | [], [], _, _, _, _, _ => rfl
  | [], _ :: _, h, _, _, _, _ => by simp at h
  | _ :: _, [], h, _, _, _, _ => by simp at h
  | x :: p, y :: q, h, hp, hq, a, b => by
    unfold le Kv.under at a b
    simp only [okZip, Bool.and_eq_true, decide_eq_true_eq] at a b
    have e1 := anc_anti v (hp x (List.mem_cons_self ..)) (hq y (List.mem_cons_self ..)) a.1 b.1
    have e2 := le_anti v (p := p) (q := q) (by simpa using h) (fun z hz => hp z (List.mem_cons_of_mem _ hz)) (fun z hz => hq z (List.mem_cons_of_mem _ hz)) a.2 b.2
    rw [e1, e2]
theorem allP_pw (v : Valid rows) (n : Nat) : (allP rows n).Pairwise fun p q => le rows p q = false := by
  rw [List.pairwise_iff_getElem]
  intro i j hi hj hij
  cases h : le rows (allP rows n)[i] (allP rows n)[j] with
  | false => rfl
  | true =>
    by_cases hr : 0 < rows.length
    · have := pts_ord v hr (fun x y => decide (y ∈ Anc rows x)) (fun x y e _ => of_decide_eq_true e) n (List.getElem?_eq_getElem hi) (List.getElem?_eq_getElem hj) h
      omega
    · have e : rows = [] := List.eq_nil_of_length_eq_zero (by omega)
      subst e
      cases n with
      | zero =>
        have : (allP [] 0).length = 1 := rfl
        omega
      | succ n =>
        have m := mem_allP.mp (List.getElem_mem hi)
        obtain ⟨m1, m2⟩ := m
        have : ∃ x, x ∈ (allP [] (n + 1))[i] := by
          cases e : (allP [] (n + 1))[i] with
          | nil => rw [e] at m1; cases m1
          | cons a l => exact ⟨a, List.mem_cons_self ..⟩
        obtain ⟨x, hx⟩ := this
        exact absurd (m2 x hx) (by simp [fsts])
theorem allP_nd (v : Valid rows) (n : Nat) : (allP rows n).Nodup := by
  rw [List.nodup_iff_pairwise_ne] <;> skip
  refine (allP_pw v n).imp_of_mem fun {a b} ha hb h z => ?_
  subst z
  rw [le_refl v (mem_allP.mp ha)] at h
  cases h
end
/-! ### over points of a list -/
structure Ord (L : Pt → Pt → Bool) (S : Pt → Prop) : Prop where
  refl : ∀ p, S p → L p p = true
  trans : ∀ p q r, S p → S q → S r → L p q = true → L q r = true → L p r = true
  anti : ∀ p q, S p → S q → L p q = true → L q p = true → p = q
theorem ord_le {rows : List Row2} (v : Valid rows) (n : Nat) : Ord (le rows) (PtOk rows n) :=
  ⟨fun _ h => le_refl v h, fun _ _ _ a b c => le_trans v a b c, fun _ _ a b => le_anti v (a.1.trans b.1.symm) a.2 b.2⟩
structure Ls (L : Pt → Pt → Bool) (S : Pt → Prop) (ps : List Pt) : Prop where
  ok : ∀ p ∈ ps, S p
  pw : ps.Pairwise fun p q => L p q = false
theorem ls_all {rows : List Row2} (v : Valid rows) (n : Nat) : Ls (le rows) (PtOk rows n) (allP rows n) := ⟨fun _ h => mem_allP.mp h, allP_pw v n⟩
section
variable {L : Pt → Pt → Bool} {S : Pt → Prop} {ps qs : List Pt}
theorem Ls.sub (l : Ls L S ps) (h : qs.Sublist ps) : Ls L S qs := ⟨fun p hp => l.ok p (h.subset hp), l.pw.sublist h⟩
theorem Ls.filter (l : Ls L S ps) (f : Pt → Bool) : Ls L S (ps.filter f) := l.sub List.filter_sublist
theorem Ls.nd (o : Ord L S) (l : Ls L S ps) : ps.Nodup := by
  rw [List.nodup_iff_pairwise_ne] <;> skip
  refine l.pw.imp_of_mem fun {a b} ha hb h z => ?_
  subst z
  rw [o.refl a (l.ok a ha)] at h
  cases h
def low (L : Pt → Pt → Bool) (ps : List Pt) : List Pt := ps.filter fun p => !(ps.any fun q => decide (q ≠ p) && L q p)
def hig (L : Pt → Pt → Bool) (ps : List Pt) : List Pt := ps.filter fun p => !(ps.any fun q => decide (q ≠ p) && L p q)
theorem mem_low {p : Pt} : p ∈ low L ps ↔ p ∈ ps ∧ ∀ q ∈ ps, q ≠ p → L q p = false := by
  unfold low
  rw [List.mem_filter, Bool.not_eq_true', List.any_eq_false]
  refine and_congr_right fun _ => forall_congr' fun q => forall_congr' fun _ => ?_
  simp only [Bool.and_eq_true, decide_eq_true_eq, not_and, Bool.not_eq_true]
theorem mem_hig {p : Pt} : p ∈ hig L ps ↔ p ∈ ps ∧ ∀ q ∈ ps, q ≠ p → L p q = false := by
  unfold hig
  rw [List.mem_filter, Bool.not_eq_true', List.any_eq_false]
  refine and_congr_right fun _ => forall_congr' fun q => forall_congr' fun _ => ?_
  simp only [Bool.and_eq_true, decide_eq_true_eq, not_and, Bool.not_eq_true]
theorem low_exists (o : Ord L S) (l : Ls L S ps) {p : Pt} (hp : p ∈ ps) : ∃ t ∈ low L ps, L t p = true := by
  -- the last one at or below p
  have key : ∀ (m : Nat) (p : Pt), (∃ i, ps[i]? = some p ∧ ps.length ≤ i + m) → ∃ t ∈ low L ps, L t p = true := by
    intro m
    induction m with
    | zero =>
      rintro p ⟨i, hi, hl⟩
      have := (List.getElem?_eq_some_iff.mp hi).1
      omega
    | succ m ih =>
      rintro p ⟨i, hi, hl⟩
      have hp : p ∈ ps := List.mem_of_getElem? hi
      by_cases c : p ∈ low L ps
      · exact ⟨p, c, o.refl p (l.ok p hp)⟩
      · have : ∃ q ∈ ps, q ≠ p ∧ L q p = true := by
          apply Classical.byContradiction
          intro z
          refine c (mem_low.mpr ⟨hp, fun q hq ne => ?_⟩)
          cases h : L q p with
          | false => rfl
          | true => exact absurd ⟨q, hq, ne, h⟩ z
        obtain ⟨q, hq, ne, hl2⟩ := this
        obtain ⟨j, hj, ej⟩ := List.getElem_of_mem hq
        have ej : ps[j]? = some q := by rw [List.getElem?_eq_getElem hj, ej]
        have hij : i < j := by
          apply Classical.byContradiction
          intro z
          have hi2 := (List.getElem?_eq_some_iff.mp hi)
          obtain ⟨hi3, ei⟩ := hi2
          have ne2 : j ≠ i := fun y => by subst y; rw [hi] at ej; exact ne (Option.some.inj ej).symm
          have := List.pairwise_iff_getElem.mp l.pw j i hj hi3 (by omega)
          have e2 : ps[j] = q := by rw [List.getElem?_eq_getElem hj] at ej; exact Option.some.inj ej
          rw [e2, ei, hl2] at this
          cases this
        obtain ⟨t, ht, h2⟩ := ih q ⟨j, ej, by omega⟩
        exact ⟨t, ht, o.trans t q p (l.ok t (mem_low.mp ht).1) (l.ok q hq) (l.ok p hp) h2 hl2⟩
  obtain ⟨i, hi, e⟩ := List.getElem_of_mem hp
  exact key ps.length p ⟨i, by rw [List.getElem?_eq_getElem hi, e], by omega⟩
end
/-! ### bodies and expansions -/
inductive Stp where
  | say (w : Str)
  | nxt
deriving DecidableEq
abbrev Bd := List Stp
def repl (b s : Bd) : Bd := b.flatMap fun x => if x = .nxt then s else [x]
section
variable (L : Pt → Pt → Bool)
def abv (ps : List Pt) (p : Pt) : List Pt := ps.filter fun q => decide (q ≠ p) && L p q
def near (ps : List Pt) (p : Pt) : List Pt := low L (abv L ps p)
end
def one (ex : Pt → Bd) : List Pt → Bool
  | [] => false
  | q :: qs => qs.all fun x => decide (ex x = ex q)
def fst1 (ex : Pt → Bd) : List Pt → Bd
  | [] => []
  | q :: _ => ex q
def fupd {α : Type} (f : Pt → α) (p : Pt) (a : α) : Pt → α := fun q => if q = p then a else f q
def val1 (L : Pt → Pt → Bool) (ps : List Pt) (bd ex : Pt → Bd) (p : Pt) : Bd := if .nxt ∈ bd p then repl (bd p) (fst1 ex (near L ps p)) else bd p
def exF (L : Pt → Pt → Bool) (ps : List Pt) (bd : Pt → Bd) : List Pt → (Pt → Bd) := fun dn => dn.foldl (fun f p => fupd f p (val1 L ps bd f p)) fun _ => []
def exP (L : Pt → Pt → Bool) (ps : List Pt) (bd : Pt → Bd) : Pt → Bd := exF L ps bd ps
section
variable {L : Pt → Pt → Bool} {S : Pt → Prop} {ps qs : List Pt} {bd ex : Pt → Bd}
/-! the different values -/
/-! sizes and words -/
def nxts (b : Bd) : Nat := (b.filter fun s => decide (s = .nxt)).length
end
end Tm
/-! Points, bodies, dicts of them, as trees: what operators give. -/
namespace Tm
open PySem PySem.Spec PyProof.Rows L2 Kv Pu
@[reducible] def ptT (p : Pt) : D := .tup (p.map D.str)
@[reducible] def ptsT (ps : List Pt) : D := .lst (ps.map ptT)
def kT (p : Pt) : List Key := p.map Sum.inr
def stD : Stp → D
  | .say w => .tup [.str "say", .str w]
  | .nxt => .tup [.str "next"]
def IsB (b : Bd) (d : D) : Prop := d = .tup (b.map stD) ∨ d = .ftup (b.map stD)
inductive Bds : List Bd → List D → Prop
  | nil : Bds [] []
  | cons {b : Bd} {d : D} {bs : List Bd} {ds : List D} : IsB b d → Bds bs ds → Bds (b :: bs) (d :: ds)
def WdOk (b : Bd) : Prop := ∀ w, Stp.say w ∈ b → PyData.strOk w = true
/-! ### data -/
theorem Bds.len {bs : List Bd} {ds : List D} (h : Bds bs ds) : bs.length = ds.length := by
  induction h with
  | nil => rfl
  | cons h t ih => exact congrArg (· + 1) ih
theorem Bds.snoc {bs : List Bd} {ds : List D} {b : Bd} {d : D} (h : Bds bs ds) (hb : IsB b d) : Bds (bs ++ [b]) (ds ++ [d]) := by
  induction h with
  | nil => exact .cons hb .nil
  | cons h t ih => exact .cons h ih
theorem Bds.map {ps : List Pt} {ex : Pt → Bd} {v : Pt → D} (h : ∀ p ∈ ps, IsB (ex p) (v p)) : Bds (ps.map ex) (ps.map v) := by
  induction ps with
  | nil => exact .nil
  | cons p ps ih => exact .cons (h p (List.mem_cons_self ..)) (ih fun q hq => h q (List.mem_cons_of_mem _ hq))
theorem toPy_pt (p : Pt) : toPy (ptT p) = some (.tuple (p.map PyData.str)) := by
  show (toPys _).map PyData.tuple = _
  rw [toPys_strs]; rfl
theorem toPy_pts (ps : List Pt) : toPy (ptsT ps) = some (.list (ps.map fun p => PyData.tuple (p.map PyData.str))) := by
  show (toPys _).map PyData.list = _
  rw [toPys_map ptT (fun p => PyData.tuple (p.map PyData.str)) ps fun p _ => toPy_pt p]; rfl
/-! ### == and in -/
theorem eqA_py {x y : D} {p q : PyData} (hx : toPy x = some p) (hy : toPy y = some q) (fx : flV x = none) (sp : SeqAt.shaped p = true) (sq : SeqAt.shaped q = true) : eqA x y = some (PyData.eqv p q) := by
  unfold eqA eqS eqP
  simp only [fx, hx, hy, sp, sq, Bool.and_self, if_true, Option.orElse]
def PtW (p : Pt) : Prop := ∀ x ∈ p, PyData.strOk x = true
theorem eq_pt {p q : Pt} (hp : PtW p) (hq : PtW q) : opEq (ptT p) (ptT q) = some (.bl (decide (p = q))) := by
  unfold opEq; rw [eqA_strsT p q hp hq]; rfl
theorem ne_pt {p q : Pt} (hp : PtW p) (hq : PtW q) : opNe (ptT p) (ptT q) = some (.bl (!decide (p = q))) := by
  unfold opNe; rw [eqA_strsT p q hp hq]; rfl
theorem lay_pts {ps : List Pt} (h : ∀ p ∈ ps, PtW p) : PyData.canLayAll0 (ps.map fun p => PyData.tuple (p.map PyData.str)) = true ∧ PyData.depthAll (ps.map fun p => PyData.tuple (p.map PyData.str)) ≤ 1 := by
  induction ps with
  | nil => simp [PyData.canLayAll0, PyData.depthAll]
  | cons p ps ih =>
    have ih := ih fun q hq => h q (List.mem_cons_of_mem _ hq)
    have c := canLay_strs p (h p (List.mem_cons_self ..))
    rw [List.map_cons]
    refine ⟨by simp [PyData.canLayAll0, PyData.canLay0, c.1, ih.1], ?_⟩
    simp only [PyData.depthAll, PyData.depth, c.2]
    omega
theorem shaped_pts {ps : List Pt} (h : ∀ p ∈ ps, PtW p) : SeqAt.shaped (.list (ps.map fun p => PyData.tuple (p.map PyData.str))) = true := by
  obtain ⟨h1, h2⟩ := lay_pts h
  unfold SeqAt.shaped
  rw [Bool.and_eq_true, decide_eq_true_eq]
  exact ⟨by simp [PyData.canLay0, h1], by simp only [PyData.depth]; omega⟩
theorem eqvAll_pts : ∀ ps qs : List Pt, PyData.eqvAll (ps.map fun p => PyData.tuple (p.map PyData.str)) (qs.map fun p => PyData.tuple (p.map PyData.str)) = decide (ps = qs)
  | [], [] => by simp [PyData.eqvAll]
  | [], y :: ys => by simp [PyData.eqvAll]
  | x :: xs, [] => by simp [PyData.eqvAll]
  | x :: xs, y :: ys => by
    rw [List.map_cons, List.map_cons]
    unfold PyData.eqvAll
    rw [eqvAll_pts xs ys]
    unfold PyData.eqv
    rw [Pu.eqvAll_strs]
    by_cases h : x = y
    · subst h; simp
    · simp [h]
theorem eqA_pts {ps qs : List Pt} (hp : ∀ p ∈ ps, PtW p) (hq : ∀ p ∈ qs, PtW p) : eqA (ptsT ps) (ptsT qs) = some (decide (ps = qs)) := by
  rw [eqA_py (toPy_pts ps) (toPy_pts qs) rfl (shaped_pts hp) (shaped_pts hq)]
  congr 1
  unfold PyData.eqv
  exact eqvAll_pts ps qs
/-! ### dicts -/
section
variable {ρ : En} {N B C : En → Prop} {T : R → En → Prop} {E : QE} {i : Nat}
end
theorem ne_int (i j : Int) : opNe (.int i) (.int j) = some (.bl (!decide (i = j))) := by
  unfold opNe eqA eqS
  simp only [flV]
  have : scal (.int i) (.int j) = true := rfl
  simp [this]
/-! ### shown -/
theorem fit_ptsT {k : Nat} {ps : List Pt} (h : ∀ p ∈ ps, p.length ≤ k ∧ ∀ x ∈ p, Sm 8 x) : Fit ((9 * k + 1) * ps.length) 2 (.list (ps.map fun p => PyData.tuple (p.map PyData.str))) := Fit.lst (fit_pts k ps h)
theorem sh_pts {ps : List Pt} (h : ∀ p ∈ ps, p.length ≤ 3 ∧ ∀ x ∈ p, Sm 8 x) (hl : ps.length ≤ 1000) : ∃ x, shD (ptsT ps) = some (.str x) :=
  ⟨_, sh_of (toPy_pts ps) (fit_ptsT (k := 3) h) (by omega) (by decide)⟩
end Tm
/-! The listed order: points by the positions of their classes. -/
namespace Tm
open PySem PySem.Spec PyProof.Rows L2 Kv Pu
def key (rows : List Row2) (p : Pt) : List Int := p.map fun x => (((fsts rows).idxOf x : Nat) : Int)
def lst (rows : List Row2) (n : Nat) (ps : List Pt) : List Pt := (allP rows n).filter fun p => decide (p ∈ ps)
def once (ps : List Pt) : List Pt := ps.foldl (fun a x => if x ∈ a then a else a ++ [x]) []
end Tm
namespace Fk
open Tm
open PySem PySem.Spec PyProof.Rows L2 Kv Pu
local macro_rules | `(tactic| walk_at "w") => `(tactic| (repeat' (first | with_reducible refine w_seqU ?_ | with_reducible refine w_opL2 ?_ | with_reducible refine w_consR ?_ | with_reducible refine s_tupR ?_ | with_reducible refine s_forG ?_ | with_reducible refine s_parV ?_ | with_reducible refine s_par3V ?_ | with_reducible refine w_slA ?_ | with_reducible refine w_spl ?_ | with_reducible refine w_calC ?_ | with_reducible refine w_clsC ?_ | with_reducible refine s_parR ?_ | with_reducible refine w_calL ?_ | with_reducible refine w_valA ?_ | with_reducible refine w_slL ?_ | with_reducible refine w_slT ?_ | with_reducible refine w_quiet ?_ | with_reducible refine w_prt ?_ | with_reducible refine w_bnd ?_ | with_reducible refine w_fz ?_ | with_reducible refine w_vl ?_ | with_reducible refine w_op1 ?_ | with_reducible refine w_opR ?_ | with_reducible refine w_opL ?_ | with_reducible refine w_opV ?_ | with_reducible refine w_op2 ?_ | with_reducible refine w_tst ?_ | with_reducible refine w_andV ?_ | with_reducible refine w_orV ?_ | with_reducible refine w_notV ?_ | with_reducible refine w_andB ?_ | with_reducible refine w_orB ?_ | with_reducible refine w_notB ?_ | with_reducible refine w_ifV ?_ | with_reducible refine w_consA ?_ | with_reducible refine w_mkT ?_ | with_reducible refine w_mkL ?_ | with_reducible refine w_ix ?_ | with_reducible refine w_chn ?_ | with_reducible refine w_seqP ?_ | with_reducible refine w_sOpt ?_ | with_reducible refine w_slc ?_ | with_reducible refine w_mts ?_ | with_reducible refine w_mtt ?_ | with_reducible refine w_cal ?_ | with_reducible refine w_met ?_ | with_reducible refine w_met0 ?_ | with_reducible refine w_metS ?_ | with_reducible refine s_sk ?_ | with_reducible refine s_sq ?_ | with_reducible refine s_iff ?_ | with_reducible refine s_ret ?_ | with_reducible refine s_retN ?_ | with_reducible refine s_brk ?_ | with_reducible refine s_cnt ?_ | with_reducible refine s_expr ?_ | with_reducible refine s_set ?_ | with_reducible refine s_unp ?_ | with_reducible refine s_par ?_ | with_reducible refine s_asg ?_ | with_reducible refine s_gName ?_ | with_reducible refine s_asgs0 ?_ | with_reducible refine s_asgs1 ?_ | with_reducible refine s_raise ?_ | with_reducible refine s_for ?_ | with_reducible refine s_gSub ?_ | with_reducible refine s_gPut ?_ | with_reducible refine s_sb ?_ | with_reducible refine w_pow18 ?_ | with_reducible refine w_add ?_ | with_reducible refine w_sub ?_ | with_reducible refine w_lt ?_ | with_reducible refine w_le ?_ | with_reducible refine w_gt ?_ | with_reducible refine w_ge ?_ | with_reducible refine w_max ?_ | with_reducible refine w_min ?_ | with_reducible refine w_abs ?_ | with_reducible refine w_asB ?_ | with_reducible refine w_asI ?_ | with_reducible refine w_lenL ?_ | with_reducible refine w_lenT ?_ | with_reducible refine w_lenF ?_ | with_reducible refine w_lenD ?_ | with_reducible refine w_seqL ?_ | with_reducible refine w_seqT ?_ | with_reducible refine w_seqF ?_ | with_reducible refine w_strP ?_ | with_reducible refine w_tupL ?_ | with_reducible refine w_tupT ?_ | with_reducible refine w_keys ?_ | with_reducible refine w_cutL ?_ | with_reducible refine w_revL ?_ | with_reducible refine w_listL ?_ | with_reducible refine w_isN ?_ | with_reducible refine w_isNotN ?_ | with_reducible refine pIteT ?_ | with_reducible refine pIteF ?_ | with_reducible refine exOwn ?_ | with_reducible refine w_eqI ?_ | with_reducible refine w_eqS ?_ | with_reducible refine w_neS ?_ | with_reducible refine w_ixL0 ?_ | ((with_reducible apply w_lntBO); exact rfl) | ((with_reducible apply w_lntBV); exact rfl) | ((with_reducible apply w_lkV); exact rfl) | ((with_reducible apply w_lntA); exact rfl) | ((with_reducible apply w_mkHL); exact rfl) | ((with_reducible apply w_rdV); exact rfl) | ((with_reducible apply w_rdO); exact rfl) | ((with_reducible apply w_pkV); exact rfl) | ((with_reducible apply w_pkO); exact rfl) | ((with_reducible apply w_mvV); exact rfl) | ((with_reducible apply w_mvO); exact rfl) | ((with_reducible apply w_ownL); exact rfl) | ((with_reducible apply w_calB); exact rfl) | ((with_reducible apply s_gdO); exact rfl) | ((with_reducible apply w_ixLw); exact rfl) | ((with_reducible apply w_ixTw); exact rfl) | ((with_reducible refine And.intro (small_le ?_) ?_); exact rfl) | ((with_reducible refine And.intro ?_ ?_); exact rfl) | ((with_reducible refine And.intro (Nat.le_of_ble_eq_true ?_) ?_); exact rfl) | ((with_reducible apply s_gTup); exact rfl; exact rfl) | ((with_reducible apply w_appB); exact rfl; exact rfl) | ((with_reducible apply s_stIx); exact rfl; exact rfl) | ((with_reducible apply w_mod); decide) | ((with_reducible apply w_fdiv); decide) | ((with_reducible apply w_mul); first | exact .inl ⟨by omega, by omega⟩ | exact .inr ⟨by omega, by omega⟩) | ((with_reducible apply Exists.intro); (with_reducible apply And.intro); exact rfl))))
section
variable {z : Zf} {E : QE} {Q : R → En → Prop}
theorem s_has {rows : List Row2} {v : D} (hv : tyS v ≠ none) (k : Q (.val (.bl (hasN (fsts rows) v))) [.un, .un]) : W (F_Hierarchy_has_class z) [.val (hierD z.c_Hierarchy rows), .val v] Q E := by
  unfold F_Hierarchy_has_class
  refine w_fn (by rfl) ?_
  walk_at "w"
  refine w_lft (isi_str v hv) ?_
  walk_at "w"
  cases v <;> first | exact absurd rfl hv | skip
  case str x =>
    walk_at "w"
    refine w_ifB (fun c => ?_) fun c => (nomatch c)
    walk_at "w"
    refine w_lft (fld_places _ _) ?_
    refine w_lft (in_dic (idx_len rows)) ?_
    exact k
  all_goals
    refine w_ifB (fun c => (nomatch c)) fun c => ?_
    walk_at "w"
    exact k
theorem s_req {rows : List Row2} {x : Str} (hx : x ∈ fsts rows) (k : Q (.val .non) [.un, .un]) : W (F_Hierarchy_require_class z) [.val (hierD z.c_Hierarchy rows), .val (.str x)] Q E := by
  unfold F_Hierarchy_require_class
  refine w_fn (by rfl) ?_
  walk_at "w"
  refine ⟨hier_obj (by decide +kernel), ?_⟩
  walk_at "w"
  refine s_has (by intro h; cases h) ?_
  walk_at "w"
  have e : hasN (fsts rows) (.str x) = true := decide_eq_true hx
  rw [e]
  refine s_ifB (fun c => (nomatch c)) fun c => ?_
  walk_at "w"
  exact k
theorem keys_strs (ns : List Str) : ((ns.map (Sum.inr : Str → Key)).map keyD) = ns.map D.str := by rw [List.map_map]; rfl
theorem s_nms {rows : List Row2} (k : Q (.own (.lst ((fsts rows).map D.str))) [.un]) : W (F_Hierarchy_names z) [.val (hierD z.c_Hierarchy rows)] Q E := by
  unfold F_Hierarchy_names
  refine w_fn (by rfl) ?_
  walk_at "w"
  refine w_lft (fld_places _ _) ?_
  refine w_lft (a := .own (.lst (((fsts rows).map (Sum.inr : Str → Key)).map keyD))) (by rfl) ?_
  rw [keys_strs]
  exact k
theorem s_pcount {n : Nat} (h1 : 1 ≤ n) (h3 : n ≤ 3) (k : Q (.val (.bl true)) [.un]) : W (F_is_parameter_count z) [.val (.int n)] Q E := by
  unfold F_is_parameter_count
  refine w_fn (by rfl) ?_
  walk_at "w"
  refine w_lft (isi_int _ (by intro h; cases h)) ?_
  walk_at "w"
  refine w_ifB (fun _ => ?_) fun c => (nomatch c)
  walk_at "w"
  refine w_lft (isi_bool _ (by intro h; cases h)) ?_
  walk_at "w"
  refine w_ifB (fun _ => ?_) fun c => (nomatch c)
  walk_at "w"
  refine w_lft (a := true) (by show some (decide ((1 : Int) ≤ (n : Int))) = some true; rw [decide_eq_true (by omega)]) ?_
  refine w_ifB (fun _ => ?_) fun c => (nomatch c)
  walk_at "w"
  rw [decide_eq_true (show (n : Int) ≤ 3 by omega)]
  exact k
theorem s_isp {rows : List Row2} {n : Nat} {p : Pt} (h : PtOk rows n p) (h1 : 1 ≤ n) (h3 : n ≤ 3) (k : Q (.val (.bl true)) [.un, .un]) : W (F_is_point z) [.val (hierD z.c_Hierarchy rows), .val (ptT p)] Q E := by
  have hl := h.1
  unfold F_is_point
  refine w_fn (by rfl) ?_
  walk_at "w"
  refine w_lft (isi_tuple _ (by intro h; cases h)) ?_
  walk_at "w"
  refine w_ifB (fun c => (nomatch c)) fun _ => ?_
  walk_at "w"
  rw [List.length_map, hl]
  refine s_pcount h1 h3 ?_
  walk_at "w"
  refine s_ifB (fun c => (nomatch c)) fun _ => ?_
  walk_at "w"
  refine w_lc ?_
  walk_at "w"
  refine lc_map D.str (fun _ => .bl true) p (by omega) (fun x hx => ⟨_, rfl, ?_⟩) ?_
  · walk_at "w"
    refine ⟨hier_obj (by decide +kernel), ?_⟩
    walk_at "w"
    refine s_has (by intro h; cases h) ?_
    have e : hasN (fsts rows) (.str x) = true := decide_eq_true (h.2 x hx)
    rw [e]
    exact ⟨rfl, rfl⟩
  · walk_at "w"
    refine w_lft (all_map (fun _ => true) p) ?_
    rw [show p.all (fun _ => true) = true from by simp]
    exact k
end
end Fk
namespace Fk
open Tm
open PySem PySem.Spec PyProof.Rows L2 Kv Pu
section
variable {z : Zf} {E : QE} {Q : R → En → Prop}
abbrev nmS (x : Str) : Bool := nameV (.str x)
theorem nm_okS {x : Str} (h : nmS x = true) : PyData.strOk x = true := sm_ok (name_sm h)
def WdN (b : Bd) : Prop := ∀ w, Stp.say w ∈ b → nmS w = true
theorem WdN.ok {b : Bd} (h : WdN b) : WdOk b := fun w hw => nm_okS (h w hw)
end
end Fk
namespace Fk
open Tm
open PySem PySem.Spec PyProof.Rows L2 Kv Pu
section
variable {z : Zf} {E : QE} {Q : R → En → Prop}
theorem pw_ok {rows : List Row2} {n : Nat} {p : Pt} (hn : ∀ x ∈ fsts rows, PyData.strOk x = true) (h : PtOk rows n p) : PtW p := fun x hx => hn x (h.2 x hx)
end
end Fk
namespace Fk
open Tm
open PySem PySem.Spec PyProof.Rows L2 Kv Pu
section
variable {z : Zf} {E : QE} {Q : R → En → Prop}
end
end Fk
/-! One more method; one more class. -/
namespace Tm
open PySem PySem.Spec PyProof.Rows L2 Kv Pu
section
variable {L L' : Pt → Pt → Bool} {S : Pt → Prop} {dn ps : List Pt} {p q : Pt} {bd : Pt → Bd} {b : Bd}
/-! ### one more method behind all others -/
def Legit (L : Pt → Pt → Bool) (ps : List Pt) (bd : Pt → Bd) : Prop := ∀ p ∈ ps, Stp.nxt ∈ bd p → one (exP L ps bd) (near L ps p) = true
/-! ### another order that is the same on the methods -/
end
section
variable {rows : List Row2} {n : Nat} {nm : Str} {ss : List Str}
/-! ### one more class -/
end
end Tm
namespace Fk
open Tm
open PySem PySem.Spec PyProof.Rows L2 Kv Pu
section
variable {z : Zf} {E : QE} {Q : R → En → Prop}
def BdOk (b : Bd) (d : D) : Prop := IsB b d ∧ (Stp.nxt ∈ b → d = .ftup (b.map stD))
section
variable {C CH : Addr} {rows : List Row2} {n : Nat} {ps : List Pt} {bv ev : Pt → D}
end
structure TabOk (rows : List Row2) (n : Nat) (ps : List Pt) (bd : Pt → Bd) (bv : Pt → D) : Prop where
  v : Valid rows
  lr : rows.length ≤ 20
  nm : ∀ x ∈ fsts rows, nmS x = true
  h1 : 1 ≤ n
  h3 : n ≤ 3
  hl : ps.length ≤ 40
  ls : Ls (le rows) (PtOk rows n) ps
  hb : ∀ p ∈ ps, BdOk (bd p) (bv p)
  hw : ∀ p, WdN (bd p)
  hc : ∀ p, nxts (bd p) ≤ 1
  hm : ∀ p, (bd p).length ≤ 100
  lg : Legit (le rows) ps bd
  self : lst rows n ps = ps
end
end Fk
namespace Fk
open Tm
open PySem PySem.Spec PyProof.Rows L2 Kv Pu
local macro_rules | `(tactic| walk_at "w") => `(tactic| (repeat' (first | with_reducible refine w_seqU ?_ | with_reducible refine w_opL2 ?_ | with_reducible refine w_consR ?_ | with_reducible refine s_tupR ?_ | with_reducible refine s_forG ?_ | with_reducible refine s_parV ?_ | with_reducible refine s_par3V ?_ | with_reducible refine w_slA ?_ | with_reducible refine w_spl ?_ | with_reducible refine w_calC ?_ | with_reducible refine w_clsC ?_ | with_reducible refine s_parR ?_ | with_reducible refine w_calL ?_ | with_reducible refine w_valA ?_ | with_reducible refine w_slL ?_ | with_reducible refine w_slT ?_ | with_reducible refine w_quiet ?_ | with_reducible refine w_prt ?_ | with_reducible refine w_bnd ?_ | with_reducible refine w_fz ?_ | with_reducible refine w_vl ?_ | with_reducible refine w_op1 ?_ | with_reducible refine w_opR ?_ | with_reducible refine w_opL ?_ | with_reducible refine w_opV ?_ | with_reducible refine w_op2 ?_ | with_reducible refine w_tst ?_ | with_reducible refine w_andV ?_ | with_reducible refine w_orV ?_ | with_reducible refine w_notV ?_ | with_reducible refine w_andB ?_ | with_reducible refine w_orB ?_ | with_reducible refine w_notB ?_ | with_reducible refine w_ifV ?_ | with_reducible refine w_consA ?_ | with_reducible refine w_mkT ?_ | with_reducible refine w_mkL ?_ | with_reducible refine w_ix ?_ | with_reducible refine w_chn ?_ | with_reducible refine w_seqP ?_ | with_reducible refine w_sOpt ?_ | with_reducible refine w_slc ?_ | with_reducible refine w_mts ?_ | with_reducible refine w_mtt ?_ | with_reducible refine w_cal ?_ | with_reducible refine w_met ?_ | with_reducible refine w_met0 ?_ | with_reducible refine w_metS ?_ | with_reducible refine s_sk ?_ | with_reducible refine s_sq ?_ | with_reducible refine s_iff ?_ | with_reducible refine s_ret ?_ | with_reducible refine s_retN ?_ | with_reducible refine s_brk ?_ | with_reducible refine s_cnt ?_ | with_reducible refine s_expr ?_ | with_reducible refine s_set ?_ | with_reducible refine s_unp ?_ | with_reducible refine s_par ?_ | with_reducible refine s_asg ?_ | with_reducible refine s_gName ?_ | with_reducible refine s_asgs0 ?_ | with_reducible refine s_asgs1 ?_ | with_reducible refine s_raise ?_ | with_reducible refine s_for ?_ | with_reducible refine s_gSub ?_ | with_reducible refine s_gPut ?_ | with_reducible refine s_sb ?_ | with_reducible refine w_pow18 ?_ | with_reducible refine w_add ?_ | with_reducible refine w_sub ?_ | with_reducible refine w_lt ?_ | with_reducible refine w_le ?_ | with_reducible refine w_gt ?_ | with_reducible refine w_ge ?_ | with_reducible refine w_max ?_ | with_reducible refine w_min ?_ | with_reducible refine w_abs ?_ | with_reducible refine w_asB ?_ | with_reducible refine w_asI ?_ | with_reducible refine w_lenL ?_ | with_reducible refine w_lenT ?_ | with_reducible refine w_lenF ?_ | with_reducible refine w_lenD ?_ | with_reducible refine w_seqL ?_ | with_reducible refine w_seqT ?_ | with_reducible refine w_seqF ?_ | with_reducible refine w_strP ?_ | with_reducible refine w_tupL ?_ | with_reducible refine w_tupT ?_ | with_reducible refine w_keys ?_ | with_reducible refine w_cutL ?_ | with_reducible refine w_revL ?_ | with_reducible refine w_listL ?_ | with_reducible refine w_isN ?_ | with_reducible refine w_isNotN ?_ | with_reducible refine pIteT ?_ | with_reducible refine pIteF ?_ | with_reducible refine exOwn ?_ | with_reducible refine w_eqI ?_ | with_reducible refine w_eqS ?_ | with_reducible refine w_neS ?_ | with_reducible refine w_ixL0 ?_ | ((with_reducible apply w_lntBO); exact rfl) | ((with_reducible apply w_lntBV); exact rfl) | ((with_reducible apply w_lkV); exact rfl) | ((with_reducible apply w_lntA); exact rfl) | ((with_reducible apply w_mkHL); exact rfl) | ((with_reducible apply w_rdV); exact rfl) | ((with_reducible apply w_rdO); exact rfl) | ((with_reducible apply w_pkV); exact rfl) | ((with_reducible apply w_pkO); exact rfl) | ((with_reducible apply w_mvV); exact rfl) | ((with_reducible apply w_mvO); exact rfl) | ((with_reducible apply w_ownL); exact rfl) | ((with_reducible apply w_calB); exact rfl) | ((with_reducible apply s_gdO); exact rfl) | ((with_reducible apply w_ixLw); exact rfl) | ((with_reducible apply w_ixTw); exact rfl) | ((with_reducible refine And.intro (small_le ?_) ?_); exact rfl) | ((with_reducible refine And.intro ?_ ?_); exact rfl) | ((with_reducible refine And.intro (Nat.le_of_ble_eq_true ?_) ?_); exact rfl) | ((with_reducible apply s_gTup); exact rfl; exact rfl) | ((with_reducible apply w_appB); exact rfl; exact rfl) | ((with_reducible apply s_stIx); exact rfl; exact rfl) | ((with_reducible apply w_mod); decide) | ((with_reducible apply w_fdiv); decide) | ((with_reducible apply w_mul); first | exact .inl ⟨by omega, by omega⟩ | exact .inr ⟨by omega, by omega⟩) | ((with_reducible apply Exists.intro); (with_reducible apply And.intro); exact rfl))))
section
variable {z : Zf} {E : QE} {Q : R → En → Prop}
@[reducible] def lsT (l : List Str) : D := .lst (l.map D.str)
theorem s_comb {choices : List (List Str)} (hc : choices.length ≤ 1000) (hb : ∀ dn c td, choices = dn ++ c :: td → c.length ≤ 1000 ∧ (combos dn).length ≤ 1000 ∧ (stepC (combos dn) c).length ≤ 90000 ∧ ∀ t ∈ combos dn, t.length ≤ 1000)
    (k : Q (.own (.lst ((combos choices).map ptT))) [.un]) : W (F_combinations z) [.val (.lst (choices.map lsT))] Q E := by
  unfold F_combinations
  refine w_fn (by rfl) ?_
  walk_at "w"
  refine fr_list lsT choices (fun dn ρ => ∃ s2, ρ = [.val (.lst (choices.map lsT)), .own (.lst ((combos dn).map ptT)), s2, .un, .un]) ⟨_, rfl⟩ (fun dn c td ρ e h => ?_) fun ρ h => ?_
  · obtain ⟨s2, rfl⟩ := h
    obtain ⟨b1, b2, b3, b4⟩ := hb dn c td e
    refine ⟨_, rfl, ?_⟩
    walk_at "w"
    refine w_cmp ?_
    walk_at "w"
    refine bl_list ptT (combos dn) (fun d2 ρ acc => acc = .lst ((stepC d2 c).map ptT) ∧ ρ = [.val (.lst (choices.map lsT)), .val (.lst ((combos dn).map ptT)), .val (lsT c), .un, .un]) ⟨rfl, rfl⟩ (fun d2 row td2 ρ acc e2 h => ?_) fun ρ acc h => ?_
    · obtain ⟨rfl, rfl⟩ := h
      refine ⟨_, rfl, bw_two ?_⟩
      walk_at "w"
      have len2 : (stepC d2 c).length ≤ 90000 := by
        refine Nat.le_trans ?_ b3
        rw [e2]
        unfold stepC
        rw [List.flatMap_append, List.length_append]
        exact Nat.le_add_right _ _
      have lrow : row.length ≤ 1000 := b4 row (by rw [e2]; simp)
      refine bl_list D.str c (fun d3 ρ acc => acc = .lst ((stepC d2 c ++ d3.map fun n => row ++ [n]).map ptT) ∧ ρ = [.val (.lst (choices.map lsT)), .val (.lst ((combos dn).map ptT)), .val (lsT c), .val (ptT row), .un]) ⟨by rw [List.map_nil, List.append_nil], rfl⟩ (fun d3 n td3 ρ acc e3 h => ?_) fun ρ acc h => ?_
      · obtain ⟨rfl, rfl⟩ := h
        have l3 : d3.length ≤ c.length := by rw [e3, List.length_append]; exact Nat.le_add_right _ _
        refine ⟨_, rfl, bw_el (by rw [List.length_map, List.length_append, List.length_map]; omega) ?_⟩
        walk_at "w"
        refine w_starA ?_
        walk_at "w"
        refine ⟨le_line (by simp; omega), ?_⟩
        walk_at "w"
        refine ⟨?_, rfl⟩
        rw [List.map_append, List.map_append, List.map_append, List.map_append, List.append_assoc]
        simp
      · obtain ⟨rfl, rfl⟩ := h
        refine ⟨?_, rfl⟩
        have : stepC (d2 ++ [row]) c = stepC d2 c ++ c.map fun n => row ++ [n] := by unfold stepC; rw [List.flatMap_append]; simp
        rw [this]
    · obtain ⟨rfl, rfl⟩ := h
      refine ⟨.val (lsT c), ?_⟩
      rw [combos_snoc]
      rfl
  · obtain ⟨s2, rfl⟩ := h
    walk_at "w"
    exact k
theorem combos_rep {ns : List Str} : ∀ k, (combos (List.replicate k ns)).length = ns.length ^ k
  | 0 => rfl
  | k + 1 => by rw [List.replicate_succ', combos_snoc, stepC_length, combos_rep k, Nat.pow_succ]
theorem opRep_of {xs : List D} {k : Int} (h : -(2 ^ 63) ≤ k ∧ k < 2 ^ 63 ∧ xs.length * k.toNat ≤ sizeLine) : opRep (.lst xs) (.int k) = some (.lst (List.replicate k.toNat xs).flatten) := if_pos h
theorem mul_of {xs : List D} {k : Int} {d : D} (h : opRep (.lst xs) (.int k) = some d) : opMul (.lst xs) (.int k) = some d := by
  have e0 : opMulI (.lst xs) (.int k) = none := rfl
  unfold opMul
  rw [e0]
  exact h
end
end Fk
namespace Fk
open Tm
open PySem PySem.Spec PyProof.Rows L2 Kv Pu
section
variable {z : Zf} {E : QE} {Q : R → En → Prop}
end
end Fk
namespace Fk
open PySem PySem.Spec PyProof.Rows L2 Kv Pu
local macro_rules | `(tactic| walk_at "w") => `(tactic| (repeat' (first | with_reducible refine w_seqU ?_ | with_reducible refine w_opL2 ?_ | with_reducible refine w_consR ?_ | with_reducible refine s_tupR ?_ | with_reducible refine s_forG ?_ | with_reducible refine s_parV ?_ | with_reducible refine s_par3V ?_ | with_reducible refine w_slA ?_ | with_reducible refine w_spl ?_ | with_reducible refine w_calC ?_ | with_reducible refine w_clsC ?_ | with_reducible refine s_parR ?_ | with_reducible refine w_calL ?_ | with_reducible refine w_valA ?_ | with_reducible refine w_slL ?_ | with_reducible refine w_slT ?_ | with_reducible refine w_quiet ?_ | with_reducible refine w_prt ?_ | with_reducible refine w_bnd ?_ | with_reducible refine w_fz ?_ | with_reducible refine w_vl ?_ | with_reducible refine w_op1 ?_ | with_reducible refine w_opR ?_ | with_reducible refine w_opL ?_ | with_reducible refine w_opV ?_ | with_reducible refine w_op2 ?_ | with_reducible refine w_tst ?_ | with_reducible refine w_andV ?_ | with_reducible refine w_orV ?_ | with_reducible refine w_notV ?_ | with_reducible refine w_andB ?_ | with_reducible refine w_orB ?_ | with_reducible refine w_notB ?_ | with_reducible refine w_ifV ?_ | with_reducible refine w_consA ?_ | with_reducible refine w_mkT ?_ | with_reducible refine w_mkL ?_ | with_reducible refine w_ix ?_ | with_reducible refine w_chn ?_ | with_reducible refine w_seqP ?_ | with_reducible refine w_sOpt ?_ | with_reducible refine w_slc ?_ | with_reducible refine w_mts ?_ | with_reducible refine w_mtt ?_ | with_reducible refine w_cal ?_ | with_reducible refine w_met ?_ | with_reducible refine w_met0 ?_ | with_reducible refine w_metS ?_ | with_reducible refine s_sk ?_ | with_reducible refine s_sq ?_ | with_reducible refine s_iff ?_ | with_reducible refine s_ret ?_ | with_reducible refine s_retN ?_ | with_reducible refine s_brk ?_ | with_reducible refine s_cnt ?_ | with_reducible refine s_expr ?_ | with_reducible refine s_set ?_ | with_reducible refine s_unp ?_ | with_reducible refine s_par ?_ | with_reducible refine s_asg ?_ | with_reducible refine s_gName ?_ | with_reducible refine s_asgs0 ?_ | with_reducible refine s_asgs1 ?_ | with_reducible refine s_raise ?_ | with_reducible refine s_for ?_ | with_reducible refine s_gSub ?_ | with_reducible refine s_gPut ?_ | with_reducible refine s_sb ?_ | with_reducible refine w_pow18 ?_ | with_reducible refine w_add ?_ | with_reducible refine w_sub ?_ | with_reducible refine w_lt ?_ | with_reducible refine w_le ?_ | with_reducible refine w_gt ?_ | with_reducible refine w_ge ?_ | with_reducible refine w_max ?_ | with_reducible refine w_min ?_ | with_reducible refine w_abs ?_ | with_reducible refine w_asB ?_ | with_reducible refine w_asI ?_ | with_reducible refine w_lenL ?_ | with_reducible refine w_lenT ?_ | with_reducible refine w_lenF ?_ | with_reducible refine w_lenD ?_ | with_reducible refine w_seqL ?_ | with_reducible refine w_seqT ?_ | with_reducible refine w_seqF ?_ | with_reducible refine w_strP ?_ | with_reducible refine w_tupL ?_ | with_reducible refine w_tupT ?_ | with_reducible refine w_keys ?_ | with_reducible refine w_cutL ?_ | with_reducible refine w_revL ?_ | with_reducible refine w_listL ?_ | with_reducible refine w_isN ?_ | with_reducible refine w_isNotN ?_ | with_reducible refine pIteT ?_ | with_reducible refine pIteF ?_ | with_reducible refine exOwn ?_ | with_reducible refine w_eqI ?_ | with_reducible refine w_eqS ?_ | with_reducible refine w_neS ?_ | with_reducible refine w_ixL0 ?_ | ((with_reducible apply w_lntBO); exact rfl) | ((with_reducible apply w_lntBV); exact rfl) | ((with_reducible apply w_lkV); exact rfl) | ((with_reducible apply w_lntA); exact rfl) | ((with_reducible apply w_mkHL); exact rfl) | ((with_reducible apply w_rdV); exact rfl) | ((with_reducible apply w_rdO); exact rfl) | ((with_reducible apply w_pkV); exact rfl) | ((with_reducible apply w_pkO); exact rfl) | ((with_reducible apply w_mvV); exact rfl) | ((with_reducible apply w_mvO); exact rfl) | ((with_reducible apply w_ownL); exact rfl) | ((with_reducible apply w_calB); exact rfl) | ((with_reducible apply s_gdO); exact rfl) | ((with_reducible apply w_ixLw); exact rfl) | ((with_reducible apply w_ixTw); exact rfl) | ((with_reducible refine And.intro (small_le ?_) ?_); exact rfl) | ((with_reducible refine And.intro ?_ ?_); exact rfl) | ((with_reducible refine And.intro (Nat.le_of_ble_eq_true ?_) ?_); exact rfl) | ((with_reducible apply s_gTup); exact rfl; exact rfl) | ((with_reducible apply w_appB); exact rfl; exact rfl) | ((with_reducible apply s_stIx); exact rfl; exact rfl) | ((with_reducible apply w_mod); decide) | ((with_reducible apply w_fdiv); decide) | ((with_reducible apply w_mul); first | exact .inl ⟨by omega, by omega⟩ | exact .inr ⟨by omega, by omega⟩) | ((with_reducible apply Exists.intro); (with_reducible apply And.intro); exact rfl))))
abbrev potD (r g : Int) : D := .lst [.int r, .int g]
def PotOk (r g : Int) : Prop := 0 ≤ r ∧ 0 ≤ g ∧ g < 2147483647
def Nm (x : Str) : Prop := nameV (.str x) = true ∧ (x.length = 1 ∨ x.length = 2 ∨ x.length = 8)
def Pot (d : D) : Prop := ∃ r g, d = potD r g ∧ PotOk r g
section
variable {z : Zf} {E : QE} {Q : R → En → Prop}
theorem s_draw {p : D} {m : Int} (hp : Pot p) (h0 : 0 < m) (h1 : m ≤ 1000000000000) (k : ∀ x p2, 0 ≤ x → x < m → Pot p2 → Q (.val (.int x)) [.own p2, .un]) :
    W (F__law_draw z) [.own p, .val (.int m)] Q E := by
  obtain ⟨r, g, rfl, p1, p2, p3⟩ := hp
  unfold F__law_draw
  refine w_fn (by rfl) ?_
  walk_at "w"
  refine s_ifB (fun c => ?_) (fun c => ?_)
  · have hr : 0 < r := of_decide_eq_true c
    walk_at "w"
    refine w_dvm ⟨h0, h1⟩ ?_
    walk_at "w"
    exact k _ _ (Int.emod_nonneg _ (by omega)) (Int.emod_lt_of_pos _ h0) ⟨_, _, rfl, Int.ediv_nonneg p1 (by omega), p2, p3⟩
  · walk_at "w"
    have b0 : 0 ≤ (g * 39373 + 12227) % 2147483629 := Int.emod_nonneg _ (by decide)
    have b1 : (g * 39373 + 12227) % 2147483629 < 2147483629 := Int.emod_lt_of_pos _ (by decide)
    generalize (g * 39373 + 12227) % 2147483629 = g2 at b0 b1
    walk_at "w"
    refine w_mod h0 ?_
    walk_at "w"
    exact k _ _ (Int.emod_nonneg _ (by omega)) (Int.emod_lt_of_pos _ h0) ⟨_, _, rfl, p1, b0, by omega⟩
theorem s_drawN {p : D} {n : Nat} (hp : Pot p) (h0 : 0 < n) (h1 : n ≤ 1000000000) (k : ∀ (x : Nat) p2, x < n → Pot p2 → Q (.val (.int x)) [.own p2, .un]) :
    W (F__law_draw z) [.own p, .val (.int n)] Q E := by
  refine s_draw hp (by omega) (by omega) fun x p2 a b c => ?_
  have e : x = (x.toNat : Nat) := (Int.toNat_of_nonneg a).symm
  rw [e]
  exact k _ _ (by omega) c
theorem s_pot {ns : List Int} {j : Nat} (hj : j ≤ 1000) (k : ∀ p, Pot p → Q (.own p) [.un, .un]) : W (F__law_pot z) [.val (.flst (ns.map D.int)), .val (.int j)] Q E := by
  unfold F__law_pot
  refine w_fn (by rfl) ?_
  have fin : ∀ c : Int, Pot (.lst [.int (if (if c < 0 then -c else c) - 1000000000000000000 > 0 then (if c < 0 then -c else c) - 1000000000000000000 else 0), .int (((if c < 0 then -c else c) % 2147483587 * 48271 + 60013 * (j : Int) + 29) % 2147483647)]) := fun c =>
    ⟨_, _, rfl, by split <;> omega, Int.emod_nonneg _ (by decide), Int.emod_lt_of_pos _ (by decide)⟩
  have key : ∀ c : Int, 0 ≤ (if c < 0 then -c else c) % 2147483587 ∧ (if c < 0 then -c else c) % 2147483587 < 2147483587 := fun c => ⟨Int.emod_nonneg _ (by decide), Int.emod_lt_of_pos _ (by decide)⟩
  walk_at "w"
  refine w_ifB (fun c => ?_) (fun c => ?_)
  · have hl : j < ns.length := by have := of_decide_eq_true c; rw [List.length_map] at this; omega
    walk_at "w"
    refine w_ixF (d := .int ns[j]) (by rw [List.getElem?_map, List.getElem?_eq_getElem hl]; rfl) ?_
    have k1 := key ns[j]
    walk_at "w"
    exact k _ (fin _)
  · have k1 := key 0
    walk_at "w"
    exact k _ (fin 0)
theorem s_mixed {p : D} {xs : List D} (hp : Pot p) (hl : xs.length ≤ 1000) (k : ∀ ys p2, ys.Perm xs → Pot p2 → Q (.own (.lst ys)) [.own p2, .un]) : W (F__law_mixed z) [.own p, .val (.lst xs)] Q E := by
  unfold F__law_mixed
  refine w_fn (by rfl) ?_
  walk_at "w"
  refine w_lc ?_
  walk_at "w"
  refine w_rng (by omega) ?_
  refine lc_list _ (List.range xs.length) (by rw [List.length_range]; omega) (fun dn acc ρ => ∃ p left, Pot p ∧ left.length + dn.length = xs.length ∧ (acc ++ left).Perm xs ∧ ρ = [.own p, .val (.lst xs), .own (.lst left), .un])
    ⟨p, xs, hp, by simp, by simp, rfl⟩ (fun dn x td acc ρ e h => ?_) fun acc ρ h => ?_
  · obtain ⟨p1, left, hp1, h1, h2, rfl⟩ := h
    have h3 := congrArg List.length e
    rw [List.length_range, List.length_append, List.length_cons] at h3
    refine ⟨_, rfl, ?_⟩
    walk_at "w"
    refine s_drawN hp1 (by omega) (by omega) fun x p2 hx hp2 => ?_
    walk_at "w"
    refine w_mutL (by rfl) (pop_nat (by omega) (List.getElem?_eq_getElem hx)) ?_
    refine ⟨p2, _, hp2, ?_, ?_, rfl⟩
    · have := len_erase (List.getElem?_eq_getElem hx)
      rw [List.length_append]
      show _ + (_ + 1) = _
      omega
    · show (acc ++ [left[x]] ++ left.eraseIdx x).Perm xs
      rw [List.append_assoc]
      exact ((perm_erase left x _ (List.getElem?_eq_getElem hx)).append_left acc).trans h2
  · obtain ⟨p1, left, hp1, h1, h2, rfl⟩ := h
    rw [List.length_range] at h1
    have : left = [] := List.eq_nil_of_length_eq_zero (by omega)
    subst this
    rw [List.append_nil] at h2
    exact k _ _ h2 hp1
theorem s_name {p : D} (hp : Pot p) (k : ∀ x p2, Nm x → Pot p2 → Q (.val (.str x)) [.own p2]) : W (F__law_name z) [.own p] Q E := by
  unfold F__law_name
  refine w_fn (by rfl) ?_
  walk_at "w"
  refine w_lc ?_
  walk_at "w"
  refine s_drawN (n := 3) hp (by omega) (by omega) fun x p2 hx hp2 => ?_
  walk_at "w"
  obtain ⟨n, hn, e⟩ : ∃ n : Nat, (n = 1 ∨ n = 2 ∨ n = 8) ∧ ([.int 1, .int 2, .int 8] : List D)[x]? = some (.int n) := by
    match x, hx with
    | 0, _ => exact ⟨1, by omega, rfl⟩
    | 1, _ => exact ⟨2, by omega, rfl⟩
    | 2, _ => exact ⟨8, by omega, rfl⟩
  refine w_ixL e ?_
  refine w_rng (by omega) ?_
  refine lc_list _ (List.range n) (by rw [List.length_range]; omega) (fun dn acc ρ => ∃ p ys, Pot p ∧ acc = ys.map D.str ∧ ys.length = dn.length ∧ (∀ y ∈ ys, ∃ c, c ∈ az ∧ y = (⟨#[c]⟩ : Str)) ∧ ρ = [.own p, .val (.str "abcdefghijklmnopqrstuvwxyz"), .un])
    ⟨p2, [], hp2, rfl, rfl, fun y h => (nomatch h), rfl⟩ (fun dn x td acc ρ e h => ?_) fun acc ρ h => ?_
  · obtain ⟨p1, ys, hp1, rfl, h2, h3, rfl⟩ := h
    refine ⟨_, rfl, ?_⟩
    walk_at "w"
    refine s_drawN (n := 26) hp1 (by omega) (by omega) fun x p2 hx hp2 => ?_
    walk_at "w"
    have la : az.length = 26 := by decide +kernel
    have e2 : ixD (.str "abcdefghijklmnopqrstuvwxyz") (.int x) = some (.str ⟨#[az[x]]⟩) := by
      simp only [ixD]
      rw [if_pos (by decide +kernel)]
      have : L2.atI ("abcdefghijklmnopqrstuvwxyz" : Str).cps.toList (x : Int) = some az[x] := L2.atI_nat (List.getElem?_eq_getElem _)
      rw [this]; rfl
    refine w_lft e2 ?_
    refine ⟨p2, ys ++ [⟨#[az[x]]⟩], hp2, by rw [List.map_append]; rfl, by simp [h2], fun y hy => ?_, rfl⟩
    rcases List.mem_append.mp hy with hy | hy
    · exact h3 y hy
    · exact ⟨az[x], List.getElem_mem _, List.mem_singleton.mp hy⟩
  · obtain ⟨p1, ys, hp1, rfl, h2, h3, rfl⟩ := h
    rw [List.length_range] at h2
    obtain ⟨j1, j2⟩ := join_az ys h3
    walk_at "w"
    have e3 : joinD "" [.lst (ys.map D.str)] = some (.str (Txt.join "" ys)) := by
      simp only [joinD, seqD, strsD_map]
      have s1 : (ys.map (·.length)).sum = ys.length := by
        clear h2 j1 j2
        induction ys with
        | nil => rfl
        | cons y r ih =>
          obtain ⟨c, _, h1⟩ := h3 y (List.mem_cons_self ..)
          rw [List.map_cons, List.sum_cons, ih fun z hz => h3 z (List.mem_cons_of_mem _ hz), List.length_cons, h1]
          show 1 + _ = _
          omega
      have s2 : ("" : Str).length = 0 := rfl
      rw [if_pos (by rw [s1, s2]; omega)]
    refine w_lft e3 ?_
    refine k _ _ ⟨?_, by rw [j1, h2]; exact hn⟩ hp1
    show ((decide (1 ≤ (Txt.join "" ys).length) && decide ((Txt.join "" ys).length ≤ 8)) && (Txt.join "" ys).cps.toList.all inAz) = true
    rw [j1, decide_eq_true (by omega), decide_eq_true (by omega), Bool.true_and, Bool.true_and, List.all_eq_true]
    exact fun c hc => decide_eq_true (j2 c hc)
theorem letter_nm (y : Str) (h : y ∈ letters) : Nm y := by
  refine ⟨letter_name y h, .inl ?_⟩
  obtain ⟨c, _, rfl⟩ := List.mem_map.mp h
  rfl
theorem s_names {p : D} {m : Nat} (hp : Pot p) (hm : m ≤ 25) (k : ∀ (xs : List Str) p2, xs.length = m → xs.Nodup → (∀ x ∈ xs, Nm x) → Pot p2 → Q (.own (.lst (xs.map D.str))) [.own p2, .un]) : W (F__law_names z) [.own p, .val (.int m)] Q E := by
  unfold F__law_names
  refine w_fn (by rfl) ?_
  walk_at "w"
  refine w_rng (by omega) ?_
  refine fr_list _ (List.range m) (fun dn ρ => ∃ p xs s3 s4 s5, Pot p ∧ xs.length = dn.length ∧ xs.Nodup ∧ (∀ x ∈ xs, Nm x) ∧ ρ = [.own p, .val (.int m), .own (.lst (xs.map D.str)), s3, s4, s5, .un])
    ⟨p, [], _, _, _, hp, rfl, List.nodup_nil, fun x h => (nomatch h), rfl⟩ (fun dn x td ρ e h => ?_) fun ρ h => ?_
  · obtain ⟨p1, xs, s3, s4, s5, hp1, h1, h2, h3, rfl⟩ := h
    have hl := congrArg List.length e
    rw [List.length_range, List.length_append, List.length_cons] at hl
    refine ⟨_, rfl, ?_⟩
    walk_at "w"
    refine s_name hp1 fun x p2 hx hp2 => ?_
    walk_at "w"
    refine w_lc ?_
    walk_at "w"
    rw [letters_eq]
    refine lc_filter D.str (fun y => decide (y ∉ xs)) D.str letters (by rw [letters_len]; omega) (fun y hy => ⟨_, rfl, ?_⟩) ?_
    · walk_at "w"
      refine w_lft (notIn_strs y xs) ?_
      walk_at "w"
      by_cases c : y ∈ xs
      · refine pIteB (fun h => absurd h (by simp [c])) fun _ => ?_
        exact ⟨by simp [c], rfl⟩
      · refine pIteB (fun h => ?_) fun h => absurd h (by simp [c])
        walk_at "w"
        exact ⟨by simp [c], rfl⟩
    · walk_at "w"
      have fl := filter_left xs letters_nodup
      rw [letters_len] at fl
      refine w_lft (in_strs x xs) ?_
      walk_at "w"
      refine w_ifB (fun c => ?_) (fun c => ?_)
      · walk_at "w"
        obtain ⟨y, r, ey⟩ : ∃ y r, letters.filter (fun y => decide (y ∉ xs)) = y :: r := by
          cases h : letters.filter (fun y => decide (y ∉ xs)) with
          | nil => rw [h, List.length_nil] at fl; omega
          | cons y r => exact ⟨y, r, rfl⟩
        have hy : y ∈ letters ∧ y ∉ xs := by
          have : y ∈ letters.filter (fun y => decide (y ∉ xs)) := by rw [ey]; exact List.mem_cons_self ..
          obtain ⟨a, b⟩ := List.mem_filter.mp this
          exact ⟨a, of_decide_eq_true b⟩
        rw [ey]
        refine w_ixL0 ?_
        walk_at "w"
        refine w_mutL (by rfl) (app_nat (by rw [List.length_map]; omega)) ?_
        refine ⟨p2, xs ++ [y], _, _, _, hp2, by simp [h1], ?_, fun u hu => ?_, by rw [List.map_append]; rfl⟩
        · exact List.nodup_append.mpr ⟨h2, by simp, fun a ha b hb => by rw [List.mem_singleton.mp hb]; exact fun z => hy.2 (z ▸ ha)⟩
        · rcases List.mem_append.mp hu with hu | hu
          · exact h3 u hu
          · rw [List.mem_singleton.mp hu]; exact letter_nm y hy.1
      · walk_at "w"
        refine w_mutL (by rfl) (app_nat (by rw [List.length_map]; omega)) ?_
        have hx2 : x ∉ xs := of_decide_eq_false c
        refine ⟨p2, xs ++ [x], _, _, _, hp2, by simp [h1], ?_, fun u hu => ?_, by rw [List.map_append]; rfl⟩
        · exact List.nodup_append.mpr ⟨h2, by simp, fun a ha b hb => by rw [List.mem_singleton.mp hb]; exact fun z => hx2 (z ▸ ha)⟩
        · rcases List.mem_append.mp hu with hu | hu
          · exact h3 u hu
          · rw [List.mem_singleton.mp hu]; exact hx
  · obtain ⟨p1, xs, s3, s4, s5, hp1, h1, h2, h3, rfl⟩ := h
    walk_at "w"
    exact k xs p1 (by rw [h1, List.length_range]) h2 h3 hp1
theorem s_kinds {p : D} {m : Nat} (hp : Pot p) (h0 : 0 < m) (hm : m ≤ 25) (k : ∀ (rows : List Row2) p2, Valid rows → 0 < rows.length → rows.length ≤ m → (∀ r ∈ rows, r.2.length ≤ 3 ∧ Nm r.1) → Pot p2 → Q (.own (.lst (rows.map rowD))) [.own p2, .un]) : W (F__law_kinds z) [.own p, .val (.int m)] Q E := by
  unfold F__law_kinds
  refine w_fn (by rfl) ?_
  walk_at "w"
  refine s_drawN hp h0 (by omega) fun x p2 hx hp2 => ?_
  walk_at "w"
  have e1 : (1 + (x : Int)) = ((1 + x : Nat) : Int) := by omega
  rw [e1]
  walk_at "w"
  refine s_names hp2 (by omega) fun xs p3 hl hn hv hp3 => ?_
  walk_at "w"
  refine fr_list D.str xs (fun dn ρ => ∃ p rows s3 s4, Pot p ∧ fsts rows = dn ∧ Valid rows ∧ (∀ r ∈ rows, r.2.length ≤ 3 ∧ Nm r.1) ∧ ρ = [.own p, .val (.int m), .own (.lst (rows.map rowD)), s3, s4, .un])
    ⟨p3, [], _, _, hp3, rfl, valid_nil, fun x h => (nomatch h), rfl⟩ (fun dn x td ρ e0 h => ?_) fun ρ h => ?_
  · obtain ⟨p4, rows, s3, s4, hp4, h1, h2, h3, rfl⟩ := h
    refine ⟨_, rfl, ?_⟩
    walk_at "w"
    refine s_drawN (n := 6) hp4 (by omega) (by omega) fun y p5 hy hp5 => ?_
    walk_at "w"
    obtain ⟨n, hn3, e⟩ : ∃ n : Nat, n ≤ 3 ∧ ([.int 0, .int 1, .int 1, .int 2, .int 2, .int 3] : List D)[y]? = some (.int n) := by
      match y, hy with
      | 0, _ => exact ⟨0, by omega, rfl⟩
      | 1, _ => exact ⟨1, by omega, rfl⟩
      | 2, _ => exact ⟨1, by omega, rfl⟩
      | 3, _ => exact ⟨2, by omega, rfl⟩
      | 4, _ => exact ⟨2, by omega, rfl⟩
      | 5, _ => exact ⟨3, by omega, rfl⟩
    refine w_ixL e ?_
    walk_at "w"
    refine w_lc ?_
    walk_at "w"
    refine lc_map rowD (fun r => .str r.1) rows (by rw [← h1] at e0; have := congrArg List.length e0; unfold fsts at this; simp at this; omega) (fun r hr => ⟨_, rfl, ?_⟩) ?_
    · walk_at "w"
      refine w_lft (a := .str r.1) (by rfl) ?_
      exact ⟨rfl, rfl⟩
    · walk_at "w"
      have hle : rows.length < xs.length := by rw [← h1] at e0; have := congrArg List.length e0; unfold fsts at this; simp at this; omega
      refine s_mixed hp5 (by rw [List.length_map]; omega) fun ys p6 pm hp6 => ?_
      have e5 : (rows.map fun r => D.str r.1) = (fsts rows).map D.str := by unfold fsts; rw [List.map_map]; rfl
      rw [e5] at pm
      obtain ⟨zs, rfl, pm2⟩ := map_perm pm
      walk_at "w"
      rw [cut_takeD, ← List.map_take]
      refine w_mutL (by rfl) (app_nat (by rw [List.length_map]; omega)) ?_
      have hx : x ∉ fsts rows := by
        rw [h1]
        rw [e0] at hn
        have := List.nodup_append.mp hn
        exact fun hz => this.2.2 x hz x (List.mem_cons_self ..) rfl
      have hnd : (fsts rows).Nodup := by
        rw [h1]
        rw [e0] at hn
        exact (List.nodup_append.mp hn).1
      refine ⟨p6, rows ++ [(x, zs.take n)], _, _, hp6, by rw [fsts_snoc, h1], h2.snoc (hv x (by rw [e0]; simp)).1 hx ((pm2.nodup_iff.mpr hnd).sublist (List.take_sublist _ _)) fun s hs => pm2.mem_iff.mp (List.mem_of_mem_take hs), fun r hr => ?_, by rw [List.map_append]; rfl⟩
      rcases List.mem_append.mp hr with hr | hr
      · exact h3 r hr
      · rw [List.mem_singleton.mp hr]
        refine ⟨?_, hv x (by rw [e0]; simp)⟩
        show (zs.take n).length ≤ 3
        rw [List.length_take]
        omega
  · obtain ⟨p4, rows, s3, s4, hp4, h1, h2, h3, rfl⟩ := h
    have hr : rows.length = xs.length := by rw [← h1]; unfold fsts; rw [List.length_map]
    walk_at "w"
    exact k rows p4 h2 (by omega) (by omega) h3 hp4
end
end Fk
namespace Fk
open Tm
open PySem PySem.Spec PyProof.Rows L2 Kv Pu
local macro_rules | `(tactic| walk_at "w") => `(tactic| (repeat' (first | with_reducible refine w_seqU ?_ | with_reducible refine w_opL2 ?_ | with_reducible refine w_consR ?_ | with_reducible refine s_tupR ?_ | with_reducible refine s_forG ?_ | with_reducible refine s_parV ?_ | with_reducible refine s_par3V ?_ | with_reducible refine w_slA ?_ | with_reducible refine w_spl ?_ | with_reducible refine w_calC ?_ | with_reducible refine w_clsC ?_ | with_reducible refine s_parR ?_ | with_reducible refine w_calL ?_ | with_reducible refine w_valA ?_ | with_reducible refine w_slL ?_ | with_reducible refine w_slT ?_ | with_reducible refine w_quiet ?_ | with_reducible refine w_prt ?_ | with_reducible refine w_bnd ?_ | with_reducible refine w_fz ?_ | with_reducible refine w_vl ?_ | with_reducible refine w_op1 ?_ | with_reducible refine w_opR ?_ | with_reducible refine w_opL ?_ | with_reducible refine w_opV ?_ | with_reducible refine w_op2 ?_ | with_reducible refine w_tst ?_ | with_reducible refine w_andV ?_ | with_reducible refine w_orV ?_ | with_reducible refine w_notV ?_ | with_reducible refine w_andB ?_ | with_reducible refine w_orB ?_ | with_reducible refine w_notB ?_ | with_reducible refine w_ifV ?_ | with_reducible refine w_consA ?_ | with_reducible refine w_mkT ?_ | with_reducible refine w_mkL ?_ | with_reducible refine w_ix ?_ | with_reducible refine w_chn ?_ | with_reducible refine w_seqP ?_ | with_reducible refine w_sOpt ?_ | with_reducible refine w_slc ?_ | with_reducible refine w_mts ?_ | with_reducible refine w_mtt ?_ | with_reducible refine w_cal ?_ | with_reducible refine w_met ?_ | with_reducible refine w_met0 ?_ | with_reducible refine w_metS ?_ | with_reducible refine s_sk ?_ | with_reducible refine s_sq ?_ | with_reducible refine s_iff ?_ | with_reducible refine s_ret ?_ | with_reducible refine s_retN ?_ | with_reducible refine s_brk ?_ | with_reducible refine s_cnt ?_ | with_reducible refine s_expr ?_ | with_reducible refine s_set ?_ | with_reducible refine s_unp ?_ | with_reducible refine s_par ?_ | with_reducible refine s_asg ?_ | with_reducible refine s_gName ?_ | with_reducible refine s_asgs0 ?_ | with_reducible refine s_asgs1 ?_ | with_reducible refine s_raise ?_ | with_reducible refine s_for ?_ | with_reducible refine s_gSub ?_ | with_reducible refine s_gPut ?_ | with_reducible refine s_sb ?_ | with_reducible refine w_pow18 ?_ | with_reducible refine w_add ?_ | with_reducible refine w_sub ?_ | with_reducible refine w_lt ?_ | with_reducible refine w_le ?_ | with_reducible refine w_gt ?_ | with_reducible refine w_ge ?_ | with_reducible refine w_max ?_ | with_reducible refine w_min ?_ | with_reducible refine w_abs ?_ | with_reducible refine w_asB ?_ | with_reducible refine w_asI ?_ | with_reducible refine w_lenL ?_ | with_reducible refine w_lenT ?_ | with_reducible refine w_lenF ?_ | with_reducible refine w_lenD ?_ | with_reducible refine w_seqL ?_ | with_reducible refine w_seqT ?_ | with_reducible refine w_seqF ?_ | with_reducible refine w_strP ?_ | with_reducible refine w_tupL ?_ | with_reducible refine w_tupT ?_ | with_reducible refine w_keys ?_ | with_reducible refine w_cutL ?_ | with_reducible refine w_revL ?_ | with_reducible refine w_listL ?_ | with_reducible refine w_isN ?_ | with_reducible refine w_isNotN ?_ | with_reducible refine pIteT ?_ | with_reducible refine pIteF ?_ | with_reducible refine exOwn ?_ | with_reducible refine w_eqI ?_ | with_reducible refine w_eqS ?_ | with_reducible refine w_neS ?_ | with_reducible refine w_ixL0 ?_ | ((with_reducible apply w_lntBO); exact rfl) | ((with_reducible apply w_lntBV); exact rfl) | ((with_reducible apply w_lkV); exact rfl) | ((with_reducible apply w_lntA); exact rfl) | ((with_reducible apply w_mkHL); exact rfl) | ((with_reducible apply w_rdV); exact rfl) | ((with_reducible apply w_rdO); exact rfl) | ((with_reducible apply w_pkV); exact rfl) | ((with_reducible apply w_pkO); exact rfl) | ((with_reducible apply w_mvV); exact rfl) | ((with_reducible apply w_mvO); exact rfl) | ((with_reducible apply w_ownL); exact rfl) | ((with_reducible apply w_calB); exact rfl) | ((with_reducible apply s_gdO); exact rfl) | ((with_reducible apply w_ixLw); exact rfl) | ((with_reducible apply w_ixTw); exact rfl) | ((with_reducible refine And.intro (small_le ?_) ?_); exact rfl) | ((with_reducible refine And.intro ?_ ?_); exact rfl) | ((with_reducible refine And.intro (Nat.le_of_ble_eq_true ?_) ?_); exact rfl) | ((with_reducible apply s_gTup); exact rfl; exact rfl) | ((with_reducible apply w_appB); exact rfl; exact rfl) | ((with_reducible apply s_stIx); exact rfl; exact rfl) | ((with_reducible apply w_mod); decide) | ((with_reducible apply w_fdiv); decide) | ((with_reducible apply w_mul); first | exact .inl ⟨by omega, by omega⟩ | exact .inr ⟨by omega, by omega⟩) | ((with_reducible apply Exists.intro); (with_reducible apply And.intro); exact rfl))))
def upsD (rows : List Row2) : D := .dic ((fsts rows).map Sum.inr) ((fsts rows).map fun n => .lst ((aboveL rows n).map D.str))
theorem ups_at {rows : List Row2} {x : Str} (h : x ∈ fsts rows) : ixD (upsD rows) (.str x) = some (.lst ((aboveL rows x).map D.str)) := by
  unfold upsD
  simp only [ixD, getD, asKey, Option.map_some, valD_map]
  rw [if_pos h]
  rfl
section
variable {z : Zf} {E : QE} {Q : R → En → Prop}
theorem s_labove {rows : List Row2} {label : Str} (hr : rows.length ≤ 100) (h3 : ∀ r ∈ rows, r.2.length ≤ 5) (k : Q (.own (.lst ((aboveL rows label).map D.str))) [.un, .un]) : W (F__law_above z) [.val (.lst (rows.map rowD)), .val (.str label)] Q E := by
  unfold F__law_above
  refine w_fn (by rfl) ?_
  walk_at "w"
  rw [← List.map_reverse]
  refine fr_list rowD rows.reverse (fun dn ρ => ∃ s3 s4, (dn.foldl stepUp [label]).length ≤ 1 + 5 * dn.length ∧ ρ = [.val (.lst (rows.map rowD)), .val (.str label), .own (.lst ((dn.foldl stepUp [label]).map D.str)), s3, s4, .un])
    ⟨_, _, by simp, rfl⟩ (fun dn r td ρ e h => ?_) fun ρ h => ?_
  · obtain ⟨s3, s4, hle, rfl⟩ := h
    have hdl : dn.length < 100 := by have := congrArg List.length e; simp at this; omega
    have hrm : r.2.length ≤ 5 := h3 r (List.mem_reverse.mp (by rw [e]; simp))
    rw [List.foldl_append]
    show ∃ ρ1, gset (.many [3, 4]) (.tup [.str r.1, .tup (r.2.map D.str)]) _ = some ρ1 ∧ _
    generalize dn.foldl stepUp [label] = found at hle
    refine ⟨_, rfl, ?_⟩
    walk_at "w"
    refine w_lft (in_strs _ _) ?_
    walk_at "w"
    refine s_ifB (fun c => ?_) fun c => ?_
    · walk_at "w"
      refine w_lc ?_
      walk_at "w"
      refine lc_filter D.str (fun y => decide (y ∉ found)) D.str r.2 (by omega) (fun y hy => ⟨_, rfl, ?_⟩) ?_
      · walk_at "w"
        refine w_lft (notIn_strs y found) ?_
        walk_at "w"
        by_cases c : y ∈ found
        · refine pIteB (fun h => absurd h (by simp [c])) fun _ => ?_
          exact ⟨by simp [c], rfl⟩
        · refine pIteB (fun h => ?_) fun h => absurd h (by simp [c])
          walk_at "w"
          exact ⟨by simp [c], rfl⟩
      · walk_at "w"
        have fl := List.length_filter_le (fun y => decide (y ∉ found)) r.2
        refine w_mutL (by rfl) (ext_nat (by rw [List.length_map, List.length_map]; omega)) ?_
        have hs : [r].foldl stepUp found = found ++ r.2.filter fun y => decide (y ∉ found) := by
          show stepUp found r = _
          unfold stepUp
          rw [if_pos (of_decide_eq_true c)]
        rw [hs, List.map_append]
        exact ⟨_, _, by simp; simp at fl; omega, rfl⟩
    · walk_at "w"
      have hs : [r].foldl stepUp found = found := by
        show stepUp found r = _
        unfold stepUp
        rw [if_neg (of_decide_eq_false c)]
      rw [hs]
      exact ⟨_, _, by simp; omega, rfl⟩
  · obtain ⟨s3, s4, hle, rfl⟩ := h
    have e : rows.reverse.foldl stepUp [label] = aboveL rows label := by
      unfold aboveL aboveAt
      rw [List.take_of_length_le (by simp)]
    rw [e]
    walk_at "w"
    exact k
theorem s_lups5 {rows : List Row2} (v : Valid rows) (hr : rows.length ≤ 100) (h3 : ∀ r ∈ rows, r.2.length ≤ 5) (k : Q (.own (upsD rows)) [.un]) : W (F__law_ups z) [.val (.lst (rows.map rowD))] Q E := by
  unfold F__law_ups
  refine w_fn (by rfl) ?_
  walk_at "w"
  refine w_lc ?_
  walk_at "w"
  refine lc_map rowD (fun r => .tup [.str r.1, .lst ((aboveL rows r.1).map D.str)]) rows (by omega) (fun r hr' => ⟨_, rfl, ?_⟩) ?_
  · walk_at "w"
    refine w_lft (a := .str r.1) (by rfl) ?_
    walk_at "w"
    refine w_lft (a := .str r.1) (by rfl) ?_
    walk_at "w"
    refine s_labove hr h3 ?_
    walk_at "w"
    exact rfl
  · have := dictP_map (fun r : Row2 => r.1) (fun r : Row2 => .lst ((aboveL rows r.1).map D.str)) rows (names_nd v)
    refine w_lft this ?_
    have e : (R.own (.dic ((rows.map fun r : Row2 => r.1).map Sum.inr) (rows.map fun r : Row2 => .lst ((aboveL rows r.1).map D.str)))) = R.own (upsD rows) := by
      unfold upsD fsts
      rw [List.map_map, List.map_map]
      rfl
    rw [e]
    exact k
/-! ### the law's own model -/
theorem s_lups {rows : List Row2} (v : Valid rows) (hr : rows.length ≤ 100) (h3 : ∀ r ∈ rows, r.2.length ≤ 3) (k : Q (.own (upsD rows)) [.un]) : W (F__law_ups z) [.val (.lst (rows.map rowD))] Q E :=
  s_lups5 v hr (fun r h => Nat.le_trans (h3 r h) (by decide)) k
theorem up_mem {rows : List Row2} (v : Valid rows) {x y : Str} (hx : x ∈ fsts rows) : decide (y ∈ aboveL rows x) = decide (y ∈ Anc rows x) := decide_eq_decide.mpr (mem_above v hx y)
theorem zip_pts {p q : Pt} : zipD (ptT p) (ptT q) = some ((p.zip q).map fun xy => D.tup [.str xy.1, .str xy.2]) := by
  unfold zipD
  simp only [seqD]
  rw [if_pos (show tupl (ptT p) = true ∨ tupl (ptT q) = false from Or.inl rfl)]
  congr 1
  unfold pairs
  rw [List.zip_map, List.map_map]
  rfl
theorem le_zip2 {rows : List Row2} : ∀ {p q : Pt}, ((p.zip q).all fun xy => decide (xy.2 ∈ Anc rows xy.1)) = le rows p q
  | [], _ => rfl
  | _ :: _, [] => rfl
  | x :: p, y :: q => by
    rw [List.zip_cons_cons, List.all_cons, le_zip2 (p := p) (q := q)]
    rfl
theorem s_lunder {rows : List Row2} (v : Valid rows) {n : Nat} {p q : Pt} (hp : PtOk rows n p) (h3 : n ≤ 3) (k : Q (.val (.bl (le rows p q))) [.un, .un, .un]) : W (F__law_is_under z) [.val (upsD rows), .val (ptT p), .val (ptT q)] Q E := by
  rw [← le_zip2] at k
  unfold F__law_is_under
  refine w_fn (by rfl) ?_
  walk_at "w"
  refine w_lc ?_
  walk_at "w"
  refine w_lft zip_pts ?_
  refine lc_map (fun xy : Str × Str => D.tup [.str xy.1, .str xy.2]) (fun xy => .bl (decide (xy.2 ∈ Anc rows xy.1))) (p.zip q) (by rw [List.length_zip, hp.1]; omega) (fun xy hxy => ⟨_, rfl, ?_⟩) ?_
  · have hx : xy.1 ∈ fsts rows := hp.2 _ (List.of_mem_zip hxy).1
    walk_at "w"
    refine w_lft (ups_at hx) ?_
    walk_at "w"
    refine w_lft (in_strs _ _) ?_
    rw [up_mem v hx]
    exact ⟨rfl, rfl⟩
  · walk_at "w"
    refine w_lft (all_map (fun xy : Str × Str => decide (xy.2 ∈ Anc rows xy.1)) (p.zip q)) ?_
    exact k
theorem allP_succ {rows : List Row2} (n : Nat) : allP rows (n + 1) = stepC (allP rows n) (fsts rows) := by
  unfold allP
  rw [List.replicate_succ', combos_snoc]
theorem addX_pt {p : Pt} {x : Str} (h : p.length ≤ 1000) : opAddX (ptT p) (.tup [.str x]) = some (ptT (p ++ [x])) := by
  have hz : (p.map D.str).length + [D.str x].length ≤ sizeLine := by rw [List.length_map]; exact le_line (by simp; omega)
  have e : ptT (p ++ [x]) = .tup (p.map D.str ++ [.str x]) := by rw [ptT, List.map_append]; rfl
  cases p with
  | nil => rfl
  | cons a p =>
    have h1 : opAdd (ptT (a :: p)) (.tup [.str x]) = some (.tup ((a :: p).map D.str ++ [.str x])) := if_pos ⟨rfl, hz⟩
    rw [e]
    exact opAddX_of h1
theorem s_lallp {rows : List Row2} {n : Nat} (lr : rows.length ≤ 20) (h1 : 1 ≤ n) (h3 : n ≤ 3) (k : Q (.val (ptsT (allP rows n))) [.un, .un]) : W (F__law_all_points z) [.val (.lst (rows.map rowD)), .val (.int n)] Q E := by
  have hfl := fsts_len rows
  have al : ∀ j, j ≤ 3 → (allP rows j).length ≤ 8000 := fun j hj => by
    unfold allP
    rw [combos_rep, hfl]
    have h1 : rows.length ^ j ≤ 20 ^ j := Nat.pow_le_pow_left lr _
    have h2 : 20 ^ j ≤ 20 ^ 3 := Nat.pow_le_pow_right (by decide) hj
    omega
  unfold F__law_all_points
  refine w_fn (by rfl) ?_
  walk_at "w"
  refine w_rng (by omega) ?_
  refine fr_list _ (List.range n) (fun dn ρ => ∃ s3 s4 s5, ρ = [.val (.lst (rows.map rowD)), .val (.int n), s4, s3, s5.1, s5.2, .un] ∧ ((dn = [] ∧ s4 = .own (ptsT (allP rows dn.length))) ∨ s4 = .val (ptsT (allP rows dn.length)))) ⟨_, _, (_, _), rfl, .inl ⟨rfl, rfl⟩⟩ (fun dn j td ρ e h => ?_) fun ρ h => ?_
  · obtain ⟨s3, s4, ⟨s5, s6⟩, rfl, hs⟩ := h
    have hdn : dn.length + (td.length + 1) = n := by
      have := congrArg List.length e
      rw [List.length_range, List.length_append, List.length_cons] at this
      exact this.symm
    refine ⟨_, rfl, ?_⟩
    rw [List.length_append, List.length_singleton, allP_succ]
    rcases hs with ⟨_, rfl⟩ | rfl
    all_goals
      walk_at "w"
      refine fr_list ptT (allP rows dn.length) (fun d2 ρ => ∃ s5, ρ = [.val (.lst (rows.map rowD)), .val (.int n), .val (ptsT (allP rows dn.length)), .val (.int j), .own (ptsT (stepC d2 (fsts rows))), s5, .un]) ⟨_, rfl⟩ (fun d2 p td2 ρ e2 h => ?_) fun ρ h => ?_
      · obtain ⟨s5, rfl⟩ := h
        have hp : p ∈ allP rows dn.length := by rw [e2]; simp
        have hpl := (mem_allP.mp hp).1
        have l2 : (stepC d2 (fsts rows)).length ≤ 8000 := by
          have h1 := al (dn.length + 1) (by omega)
          rw [allP_succ, e2] at h1
          unfold stepC at h1 ⊢
          rw [List.flatMap_append, List.length_append] at h1
          omega
        refine ⟨_, rfl, ?_⟩
        walk_at "w"
        refine w_lc ?_
        walk_at "w"
        refine lc_map rowD (fun r => ptT (p ++ [r.1])) rows (by omega) (fun r hr => ⟨_, rfl, ?_⟩) ?_
        · walk_at "w"
          refine w_lft (a := .str r.1) (by rfl) ?_
          walk_at "w"
          refine w_lft (addX_pt (by omega)) ?_
          exact ⟨rfl, rfl⟩
        · walk_at "w"
          refine w_mutL (by rfl) (ext_nat (by rw [List.length_map, List.length_map]; omega)) ?_
          refine ⟨.val (ptT p), ?_⟩
          have e3 : ptsT (stepC (d2 ++ [p]) (fsts rows)) = .lst ((stepC d2 (fsts rows)).map ptT ++ rows.map fun r => ptT (p ++ [r.1])) := by
            unfold stepC
            rw [List.flatMap_append, List.flatMap_singleton, ptsT, List.map_append]
            congr 2
            unfold fsts
            rw [List.map_map, List.map_map]
            rfl
          rw [e3]
          rfl
      · obtain ⟨s5, rfl⟩ := h
        walk_at "w"
        exact ⟨_, _, (_, _), rfl, .inr rfl⟩
  · obtain ⟨s3, s4, ⟨s5, s6⟩, rfl, hs⟩ := h
    rw [List.length_range] at hs
    rcases hs with ⟨h0, _⟩ | rfl
    · have := congrArg List.length h0
      rw [List.length_range, List.length_nil] at this
      omega
    · walk_at "w"
      exact k
end
end Fk
namespace Fk
open Tm
open PySem PySem.Spec PyProof.Rows L2 Kv Pu
local macro_rules | `(tactic| walk_at "w") => `(tactic| (repeat' (first | with_reducible refine w_seqU ?_ | with_reducible refine w_opL2 ?_ | with_reducible refine w_consR ?_ | with_reducible refine s_tupR ?_ | with_reducible refine s_forG ?_ | with_reducible refine s_parV ?_ | with_reducible refine s_par3V ?_ | with_reducible refine w_slA ?_ | with_reducible refine w_spl ?_ | with_reducible refine w_calC ?_ | with_reducible refine w_clsC ?_ | with_reducible refine s_parR ?_ | with_reducible refine w_calL ?_ | with_reducible refine w_valA ?_ | with_reducible refine w_slL ?_ | with_reducible refine w_slT ?_ | with_reducible refine w_quiet ?_ | with_reducible refine w_prt ?_ | with_reducible refine w_bnd ?_ | with_reducible refine w_fz ?_ | with_reducible refine w_vl ?_ | with_reducible refine w_op1 ?_ | with_reducible refine w_opR ?_ | with_reducible refine w_opL ?_ | with_reducible refine w_opV ?_ | with_reducible refine w_op2 ?_ | with_reducible refine w_tst ?_ | with_reducible refine w_andV ?_ | with_reducible refine w_orV ?_ | with_reducible refine w_notV ?_ | with_reducible refine w_andB ?_ | with_reducible refine w_orB ?_ | with_reducible refine w_notB ?_ | with_reducible refine w_ifV ?_ | with_reducible refine w_consA ?_ | with_reducible refine w_mkT ?_ | with_reducible refine w_mkL ?_ | with_reducible refine w_ix ?_ | with_reducible refine w_chn ?_ | with_reducible refine w_seqP ?_ | with_reducible refine w_sOpt ?_ | with_reducible refine w_slc ?_ | with_reducible refine w_mts ?_ | with_reducible refine w_mtt ?_ | with_reducible refine w_cal ?_ | with_reducible refine w_met ?_ | with_reducible refine w_met0 ?_ | with_reducible refine w_metS ?_ | with_reducible refine s_sk ?_ | with_reducible refine s_sq ?_ | with_reducible refine s_iff ?_ | with_reducible refine s_ret ?_ | with_reducible refine s_retN ?_ | with_reducible refine s_brk ?_ | with_reducible refine s_cnt ?_ | with_reducible refine s_expr ?_ | with_reducible refine s_set ?_ | with_reducible refine s_unp ?_ | with_reducible refine s_par ?_ | with_reducible refine s_asg ?_ | with_reducible refine s_gName ?_ | with_reducible refine s_asgs0 ?_ | with_reducible refine s_asgs1 ?_ | with_reducible refine s_raise ?_ | with_reducible refine s_for ?_ | with_reducible refine s_gSub ?_ | with_reducible refine s_gPut ?_ | with_reducible refine s_sb ?_ | with_reducible refine w_pow18 ?_ | with_reducible refine w_add ?_ | with_reducible refine w_sub ?_ | with_reducible refine w_lt ?_ | with_reducible refine w_le ?_ | with_reducible refine w_gt ?_ | with_reducible refine w_ge ?_ | with_reducible refine w_max ?_ | with_reducible refine w_min ?_ | with_reducible refine w_abs ?_ | with_reducible refine w_asB ?_ | with_reducible refine w_asI ?_ | with_reducible refine w_lenL ?_ | with_reducible refine w_lenT ?_ | with_reducible refine w_lenF ?_ | with_reducible refine w_lenD ?_ | with_reducible refine w_seqL ?_ | with_reducible refine w_seqT ?_ | with_reducible refine w_seqF ?_ | with_reducible refine w_strP ?_ | with_reducible refine w_tupL ?_ | with_reducible refine w_tupT ?_ | with_reducible refine w_keys ?_ | with_reducible refine w_cutL ?_ | with_reducible refine w_revL ?_ | with_reducible refine w_listL ?_ | with_reducible refine w_isN ?_ | with_reducible refine w_isNotN ?_ | with_reducible refine pIteT ?_ | with_reducible refine pIteF ?_ | with_reducible refine exOwn ?_ | with_reducible refine w_eqI ?_ | with_reducible refine w_eqS ?_ | with_reducible refine w_neS ?_ | with_reducible refine w_ixL0 ?_ | ((with_reducible apply w_lntBO); exact rfl) | ((with_reducible apply w_lntBV); exact rfl) | ((with_reducible apply w_lkV); exact rfl) | ((with_reducible apply w_lntA); exact rfl) | ((with_reducible apply w_mkHL); exact rfl) | ((with_reducible apply w_rdV); exact rfl) | ((with_reducible apply w_rdO); exact rfl) | ((with_reducible apply w_pkV); exact rfl) | ((with_reducible apply w_pkO); exact rfl) | ((with_reducible apply w_mvV); exact rfl) | ((with_reducible apply w_mvO); exact rfl) | ((with_reducible apply w_ownL); exact rfl) | ((with_reducible apply w_calB); exact rfl) | ((with_reducible apply s_gdO); exact rfl) | ((with_reducible apply w_ixLw); exact rfl) | ((with_reducible apply w_ixTw); exact rfl) | ((with_reducible refine And.intro (small_le ?_) ?_); exact rfl) | ((with_reducible refine And.intro ?_ ?_); exact rfl) | ((with_reducible refine And.intro (Nat.le_of_ble_eq_true ?_) ?_); exact rfl) | ((with_reducible apply s_gTup); exact rfl; exact rfl) | ((with_reducible apply w_appB); exact rfl; exact rfl) | ((with_reducible apply s_stIx); exact rfl; exact rfl) | ((with_reducible apply w_mod); decide) | ((with_reducible apply w_fdiv); decide) | ((with_reducible apply w_mul); first | exact .inl ⟨by omega, by omega⟩ | exact .inr ⟨by omega, by omega⟩) | ((with_reducible apply Exists.intro); (with_reducible apply And.intro); exact rfl))))
section
variable {z : Zf} {E : QE} {Q : R → En → Prop}
theorem s_lhig {rows : List Row2} (v : Valid rows) {n : Nat} {ps : List Pt} (hn : ∀ x ∈ fsts rows, PyData.strOk x = true) (h3 : n ≤ 3) (hps : ∀ q ∈ ps, PtOk rows n q) (hl : ps.length ≤ 1000) (k : Q (.own (ptsT (hig (le rows) ps))) [.un, .un]) : W (F__law_highest z) [.val (upsD rows), .val (ptsT ps)] Q E := by
  unfold F__law_highest
  refine w_fn (by rfl) ?_
  walk_at "w"
  refine w_lc ?_
  walk_at "w"
  refine lc_filter ptT (fun p => !(ps.any fun q => decide (q ≠ p) && le rows p q)) ptT ps (by omega) (fun p hp => ⟨_, rfl, ?_⟩) ?_
  · have hpo := hps p hp
    walk_at "w"
    refine w_lc ?_
    walk_at "w"
    refine lc_map ptT (fun q => .bl (!decide (q = p) && le rows p q)) ps (by omega) (fun q hq => ⟨_, rfl, ?_⟩) ?_
    · have hqo := hps q hq
      walk_at "w"
      refine w_lft (ne_pt (pw_ok hn hqo) (pw_ok hn hpo)) ?_
      walk_at "w"
      refine w_ifB (fun c => ?_) fun c => ?_
      · walk_at "w"
        refine s_lunder v hpo h3 ?_
        exact ⟨by rw [c, Bool.true_and], rfl⟩
      · walk_at "w"
        exact ⟨by rw [c, Bool.false_and], rfl⟩
    · walk_at "w"
      refine w_lft (any_map (fun q => !decide (q = p) && le rows p q) ps) ?_
      walk_at "w"
      have e : (ps.any fun q => !decide (q = p) && le rows p q) = (ps.any fun q => decide (q ≠ p) && le rows p q) := by
        congr 1
        funext q
        by_cases h : q = p <;> simp [h]
      rw [e]
      refine pIteB (fun c => ?_) fun c => ?_
      · walk_at "w"
        exact ⟨by rw [if_pos c], rfl⟩
      · exact ⟨by rw [if_neg (by rw [c]; decide)], rfl⟩
  · exact k
end
end Fk
/-! The highest common points: column by column = the highest of all common ones. -/
namespace Tm
open PySem PySem.Spec PyProof.Rows L2 Kv
def comIn (rows : List Row2) (cs : List Str) (n : Str) : Bool := cs.all fun o => decide (o ∈ Anc rows n)
def hiN (rows : List Row2) (cs : List Str) : List Str := hiL (comIn rows cs) (Anc rows) (fsts rows)
theorem hiN_eq {rows : List Row2} (v : Valid rows) (cs : List Str) : hiN rows cs = (fsts rows).filter (topIn (comIn rows cs) (Anc rows) (fsts rows)) :=
  hi_eq (anc_tr v) _ (names_nd v) (names_pw v)
theorem hiN_len {rows : List Row2} (v : Valid rows) (cs : List Str) : (hiN rows cs).length ≤ rows.length := by
  rw [hiN_eq v]
  refine Nat.le_trans (List.length_filter_le ..) ?_
  unfold fsts; rw [List.length_map]; exact Nat.le_refl _
def coln (qs : List Pt) (i : Nat) : List Str := qs.map fun q => (q[i]?).getD Str.empty
def cols : Nat → List Pt → List (List Str)
  | 0, _ => []
  | n + 1, qs => (qs.map fun q => (q[0]?).getD Str.empty) :: cols n (qs.map List.tail)
theorem cols_len : ∀ (n : Nat) (qs : List Pt), (cols n qs).length = n
  | 0, _ => rfl
  | n + 1, qs => congrArg (· + 1) (cols_len n _)
theorem cols_eq : ∀ (n : Nat) (qs : List Pt), (List.range n).map (coln qs) = cols n qs
  | 0, _ => rfl
  | n + 1, qs => by
    rw [List.range_succ_eq_map, List.map_cons, List.map_map]
    show coln qs 0 :: _ = _ :: _
    congr 1
    rw [← cols_eq n]
    refine List.map_congr_left fun i _ => ?_
    unfold coln
    rw [List.map_map]
    refine List.map_congr_left fun q _ => ?_
    cases q <;> simp
def comP (rows : List Row2) (qs : List Pt) (p : Pt) : Bool := qs.all fun q => le rows p q
theorem okCol_cols {rows : List Row2} : ∀ (n : Nat) (qs : List Pt) (p : Pt), (∀ q ∈ qs, q.length = n) → p.length = n → okCol ((cols n qs).map (comIn rows)) p = comP rows qs p
  | 0, qs, p, hq, hp => by
    cases p with
    | cons _ _ => cases hp
    | nil =>
      symm
      show (qs.all fun q => le rows [] q) = true
      rw [List.all_eq_true]
      intro q hm
      have := hq q hm
      cases q with
      | nil => rfl
      | cons _ _ => cases this
  | n + 1, qs, p, hq, hp => by
    cases p with
    | nil => cases hp
    | cons x p =>
      show (comIn rows (qs.map fun q => (q[0]?).getD Str.empty) x && okCol ((cols n (qs.map List.tail)).map (comIn rows)) p) = _
      rw [okCol_cols n _ p (fun q hm => by
        obtain ⟨q', h', rfl⟩ := List.mem_map.mp hm
        have := hq q' h'
        rw [List.length_tail, this]; rfl) (Nat.succ.inj hp)]
      unfold comIn comP
      rw [List.all_map, List.all_map]
      clear hp
      induction qs with
      | nil => rfl
      | cons q qs ih =>
        have := hq q (List.mem_cons_self ..)
        cases q with
        | nil => cases this
        | cons y q =>
          rw [List.all_cons, List.all_cons, List.all_cons, ← ih fun q hm => hq q (List.mem_cons_of_mem _ hm)]
          have e : le rows (x :: p) (y :: q) = (decide (y ∈ Anc rows x) && le rows p q) := rfl
          rw [e]
          show (decide (y ∈ Anc rows x) && _ && (le rows p q && _)) = _
          cases decide (y ∈ Anc rows x) <;> cases le rows p q <;> simp
def dueP (rows : List Row2) (n : Nat) (qs : List Pt) : List Pt := hig (le rows) ((allP rows n).filter (comP rows qs))
def hcp (rows : List Row2) (n : Nat) (qs : List Pt) : List Pt := combos ((List.range n).map fun i => hiN rows (coln qs i))
theorem hcp_eq {rows : List Row2} (v : Valid rows) {n : Nat} {qs : List Pt} (h : ∀ q ∈ qs, PtOk rows n q) : hcp rows n qs = dueP rows n qs := by
  have e1 : (List.range n).map (fun i => hiN rows (coln qs i)) = ((cols n qs).map (comIn rows)).map fun c => (fsts rows).filter (topIn c (Anc rows) (fsts rows)) := by
    rw [← cols_eq, List.map_map, List.map_map]
    exact List.map_congr_left fun i _ => hiN_eq v _
  unfold hcp
  rw [e1, hi_points (up := Anc rows) (fun x hx => anc_self v hx), List.length_map, cols_len]
  unfold dueP hig
  rw [List.filter_filter]
  show (allP rows n).filter _ = _
  refine List.filter_congr fun p hp => ?_
  have hpo := mem_allP.mp hp
  have ok : ∀ r ∈ allP rows n, okCol ((cols n qs).map (comIn rows)) r = comP rows qs r := fun r hr => okCol_cols n qs r (fun q hq => (h q hq).1) (mem_allP.mp hr).1
  rw [ok p hp, List.any_filter]
  have e2 : ((combos (List.replicate n (fsts rows))).any fun q => decide (q ≠ p) && okCol ((cols n qs).map (comIn rows)) q && under (Anc rows) p q) = ((allP rows n).any fun q => comP rows qs q && (decide (q ≠ p) && le rows p q)) := by
    show (allP rows n).any _ = _
    rw [Bool.eq_iff_iff, List.any_eq_true, List.any_eq_true]
    constructor
    · rintro ⟨q, hq, e⟩
      rw [ok q hq] at e
      have e : (decide (q ≠ p) && comP rows qs q && le rows p q) = true := e
      refine ⟨q, hq, ?_⟩
      cases h1 : decide (q ≠ p) <;> cases h2 : comP rows qs q <;> cases h3 : le rows p q <;> simp_all
    · rintro ⟨q, hq, e⟩
      refine ⟨q, hq, ?_⟩
      rw [ok q hq]
      show (decide (q ≠ p) && comP rows qs q && le rows p q) = true
      cases h1 : decide (q ≠ p) <;> cases h2 : comP rows qs q <;> cases h3 : le rows p q <;> simp_all
  rw [e2]
  cases comP rows qs p <;> simp
theorem filter_one {α : Type} [DecidableEq α] {l : List α} {f : α → Bool} {a : α} (nd : l.Nodup) (ha : a ∈ l) (fa : f a = true) (h : ∀ x ∈ l, f x = true → x = a) : l.filter f = [a] := by
  induction l with
  | nil => cases ha
  | cons b l ih =>
    obtain ⟨h1, h2⟩ := List.nodup_cons.mp nd
    rcases List.mem_cons.mp ha with e | e
    · subst e
      rw [List.filter_cons_of_pos fa]
      have : l.filter f = [] := List.filter_eq_nil_iff.mpr fun m hm z => h1 (by rw [← h m (List.mem_cons_of_mem _ hm) z]; exact hm)
      rw [this]
    · have : f b = false := by
        cases fb : f b with
        | false => rfl
        | true => exact absurd (h b (List.mem_cons_self ..) fb) (fun z => h1 (z ▸ e))
      rw [List.filter_cons_of_neg (by rw [this]; decide)]
      exact ih h2 e fun x hx => h x (List.mem_cons_of_mem _ hx)
theorem dueP_congr {rows : List Row2} {n : Nat} {qs rs : List Pt} (h : ∀ q, q ∈ qs ↔ q ∈ rs) : dueP rows n qs = dueP rows n rs := by
  have : comP rows qs = comP rows rs := by
    funext p
    unfold comP
    rw [Bool.eq_iff_iff, List.all_eq_true, List.all_eq_true]
    exact ⟨fun k x hx => k x ((h x).mpr hx), fun k x hx => k x ((h x).mp hx)⟩
  unfold dueP
  rw [this]
theorem dueP_ok {rows : List Row2} {n : Nat} {qs : List Pt} : ∀ p ∈ dueP rows n qs, PtOk rows n p := fun p hp => mem_allP.mp (List.mem_filter.mp (List.mem_filter.mp hp).1).1
theorem dueP_len {rows : List Row2} {n : Nat} {qs : List Pt} : (dueP rows n qs).length ≤ (allP rows n).length := Nat.le_trans (List.length_filter_le ..) (List.length_filter_le ..)
theorem dueP_first {rows : List Row2} (v : Valid rows) {n : Nat} {q0 : Pt} {qs : List Pt} (h : ∀ q ∈ qs, PtOk rows n q) (h0 : q0 ∈ qs) (hl : comP rows qs q0 = true) : dueP rows n qs = [q0] := by
  have hq0 := h q0 h0
  have nd : ((allP rows n).filter (comP rows qs)).Nodup := (allP_nd v n).filter _
  have hm : q0 ∈ (allP rows n).filter (comP rows qs) := List.mem_filter.mpr ⟨mem_allP.mpr hq0, hl⟩
  have below : ∀ p ∈ (allP rows n).filter (comP rows qs), le rows p q0 = true := fun p hp => List.all_eq_true.mp (List.mem_filter.mp hp).2 q0 h0
  unfold dueP hig
  refine filter_one nd hm ?_ fun p hp e => ?_
  · rw [Bool.not_eq_true', List.any_eq_false]
    intro q hq z
    rw [Bool.and_eq_true, decide_eq_true_eq] at z
    exact z.1 ((ord_le v n).anti q q0 (mem_allP.mp (List.mem_filter.mp hq).1) hq0 (below q hq) z.2)
  · rw [Bool.not_eq_true', List.any_eq_false] at e
    have := e q0 hm
    rw [below p hp, Bool.and_true, decide_eq_true_eq] at this
    exact (Classical.not_not.mp this).symm
theorem dueP_over {rows : List Row2} (v : Valid rows) {n : Nat} {qs : List Pt} : ∀ p ∈ (allP rows n).filter (comP rows qs), ((dueP rows n qs).any fun q => le rows p q) = true := by
  intro p hp
  have o := ord_le v n
  have l : Ls (le rows) (PtOk rows n) ((allP rows n).filter (comP rows qs)) := (ls_all v n).filter _
  have o2 : Ord (fun p q => le rows q p) (PtOk rows n) := ⟨o.refl, fun p q r a b c h1 h2 => o.trans r q p c b a h2 h1, fun p q a b h1 h2 => o.anti p q a b h2 h1⟩
  have l2 : Ls (fun p q => le rows q p) (PtOk rows n) ((allP rows n).filter (comP rows qs)).reverse := ⟨fun p hp => l.ok p (List.mem_reverse.mp hp), by rw [List.pairwise_reverse]; exact l.pw⟩
  obtain ⟨t, ht, e⟩ := low_exists o2 l2 (List.mem_reverse.mpr hp)
  rw [List.any_eq_true]
  refine ⟨t, ?_, e⟩
  obtain ⟨h1, h2⟩ := mem_low.mp ht
  exact mem_hig.mpr ⟨List.mem_reverse.mp h1, fun q hq ne => h2 q (List.mem_reverse.mpr hq) ne⟩
/-! the same classes without superclasses -/
def flat (rows : List Row2) : List Row2 := rows.map fun r => (r.1, [])
theorem fsts_flat {rows : List Row2} : fsts (flat rows) = fsts rows := by unfold flat fsts; rw [List.map_map]; rfl
theorem flat_valid {rows : List Row2} (v : Valid rows) : Valid (flat rows) := by
  intro i m ss h
  unfold flat at h ⊢
  rw [List.getElem?_map] at h
  cases e : rows[i]? with
  | none => rw [e] at h; cases h
  | some r =>
    rw [e] at h
    cases h
    obtain ⟨h1, h2, _⟩ := v i r.1 r.2 e
    refine ⟨h1, ?_, List.nodup_nil, fun s hs => nomatch hs⟩
    have : (rows.map fun r : Row2 => ((r.1, []) : Row2)).take i = flat (rows.take i) := by unfold flat; rw [List.map_take]
    rw [this, fsts_flat]; exact h2
theorem anc_flat {rows : List Row2} (v : Valid rows) {x y : Str} (hx : x ∈ fsts rows) : y ∈ Anc (flat rows) x ↔ y = x := by
  obtain ⟨i, ss, e⟩ := mem_row hx
  have e2 : (flat rows)[i]? = some (x, []) := by unfold flat; rw [List.getElem?_map, e]; rfl
  rw [anc_row (flat_valid v) e2]
  constructor
  · rintro (h | ⟨s, hs, _⟩)
    · exact h
    · cases hs
  · exact .inl
theorem le_flat {rows : List Row2} (v : Valid rows) : ∀ {p q : Pt}, p.length = q.length → (∀ x ∈ p, x ∈ fsts rows) → le (flat rows) p q = decide (p = q)
  | [], [], _, _ => rfl
  | [], _ :: _, h, _ => by cases h
  | _ :: _, [], h, _ => by cases h
  | x :: p, y :: q, h, hx => by
    show (decide (y ∈ Anc (flat rows) x) && le (flat rows) p q) = _
    have e : decide (y ∈ Anc (flat rows) x) = decide (y = x) := decide_eq_decide.mpr (anc_flat v (hx x (List.mem_cons_self ..)))
    rw [le_flat v (Nat.succ.inj h) fun z hz => hx z (List.mem_cons_of_mem _ hz), e]
    by_cases a : x = y
    · by_cases b : p = q
      · simp [a, b]
      · simp [a, b]
    · simp [a, Ne.symm a]
theorem allP_flat {rows : List Row2} {n : Nat} : allP (flat rows) n = allP rows n := by unfold allP; rw [fsts_flat]
theorem dueP_flat {rows : List Row2} (v : Valid rows) {n : Nat} {q0 : Pt} {qs : List Pt} (h : ∀ q ∈ q0 :: qs, PtOk rows n q) : dueP (flat rows) n (q0 :: qs) = if ((q0 :: qs).all fun q => decide (q = q0)) = true then [q0] else [] := by
  have h0 := h q0 (List.mem_cons_self ..)
  have hf : ∀ q ∈ q0 :: qs, PtOk (flat rows) n q := fun q hq => ⟨(h q hq).1, by rw [fsts_flat]; exact (h q hq).2⟩
  have lf : ∀ p q, PtOk rows n p → PtOk rows n q → le (flat rows) p q = decide (p = q) := fun p q hp hq => le_flat v (hp.1.trans hq.1.symm) hp.2
  split
  · rename_i c
    refine dueP_first (flat_valid v) hf (List.mem_cons_self ..) ?_
    unfold comP
    rw [List.all_eq_true] at c ⊢
    intro q hq
    rw [lf q0 q h0 (h q hq), of_decide_eq_true (c q hq)]
    exact decide_eq_true rfl
  · rename_i c
    have : (allP (flat rows) n).filter (comP (flat rows) (q0 :: qs)) = [] := List.filter_eq_nil_iff.mpr fun p hp z => c (by
      rw [allP_flat] at hp
      have hpo := mem_allP.mp hp
      unfold comP at z
      rw [List.all_eq_true] at z ⊢
      have e0 := z q0 (List.mem_cons_self ..)
      rw [lf p q0 hpo h0] at e0
      intro q hq
      have eq := z q hq
      rw [lf p q hpo (h q hq)] at eq
      rw [← of_decide_eq_true eq, of_decide_eq_true e0]
      exact decide_eq_true rfl)
    unfold dueP
    rw [this]
    rfl
theorem combos_le {m : Nat} : ∀ (cs : List (List Str)), (∀ c ∈ cs, c.length ≤ m) → (combos cs).length ≤ m ^ cs.length := by
  refine revInd (fun _ => Nat.le_refl _) fun cs c ih h => ?_
  rw [combos_snoc, stepC_length, List.length_append, List.length_singleton, Nat.pow_succ]
  exact Nat.mul_le_mul (ih fun d hd => h d (List.mem_append_left _ hd)) (h c (List.mem_append_right _ (List.mem_singleton.mpr rfl)))
end Tm
namespace Fk
open Tm
open PySem PySem.Spec PyProof.Rows L2 Kv Pu
local macro_rules | `(tactic| walk_at "w") => `(tactic| (repeat' (first | with_reducible refine w_seqU ?_ | with_reducible refine w_opL2 ?_ | with_reducible refine w_consR ?_ | with_reducible refine s_tupR ?_ | with_reducible refine s_forG ?_ | with_reducible refine s_parV ?_ | with_reducible refine s_par3V ?_ | with_reducible refine w_slA ?_ | with_reducible refine w_spl ?_ | with_reducible refine w_calC ?_ | with_reducible refine w_clsC ?_ | with_reducible refine s_parR ?_ | with_reducible refine w_calL ?_ | with_reducible refine w_valA ?_ | with_reducible refine w_slL ?_ | with_reducible refine w_slT ?_ | with_reducible refine w_quiet ?_ | with_reducible refine w_prt ?_ | with_reducible refine w_bnd ?_ | with_reducible refine w_fz ?_ | with_reducible refine w_vl ?_ | with_reducible refine w_op1 ?_ | with_reducible refine w_opR ?_ | with_reducible refine w_opL ?_ | with_reducible refine w_opV ?_ | with_reducible refine w_op2 ?_ | with_reducible refine w_tst ?_ | with_reducible refine w_andV ?_ | with_reducible refine w_orV ?_ | with_reducible refine w_notV ?_ | with_reducible refine w_andB ?_ | with_reducible refine w_orB ?_ | with_reducible refine w_notB ?_ | with_reducible refine w_ifV ?_ | with_reducible refine w_consA ?_ | with_reducible refine w_mkT ?_ | with_reducible refine w_mkL ?_ | with_reducible refine w_ix ?_ | with_reducible refine w_chn ?_ | with_reducible refine w_seqP ?_ | with_reducible refine w_sOpt ?_ | with_reducible refine w_slc ?_ | with_reducible refine w_mts ?_ | with_reducible refine w_mtt ?_ | with_reducible refine w_cal ?_ | with_reducible refine w_met ?_ | with_reducible refine w_met0 ?_ | with_reducible refine w_metS ?_ | with_reducible refine s_sk ?_ | with_reducible refine s_sq ?_ | with_reducible refine s_iff ?_ | with_reducible refine s_ret ?_ | with_reducible refine s_retN ?_ | with_reducible refine s_brk ?_ | with_reducible refine s_cnt ?_ | with_reducible refine s_expr ?_ | with_reducible refine s_set ?_ | with_reducible refine s_unp ?_ | with_reducible refine s_par ?_ | with_reducible refine s_asg ?_ | with_reducible refine s_gName ?_ | with_reducible refine s_asgs0 ?_ | with_reducible refine s_asgs1 ?_ | with_reducible refine s_raise ?_ | with_reducible refine s_for ?_ | with_reducible refine s_gSub ?_ | with_reducible refine s_gPut ?_ | with_reducible refine s_sb ?_ | with_reducible refine w_pow18 ?_ | with_reducible refine w_add ?_ | with_reducible refine w_sub ?_ | with_reducible refine w_lt ?_ | with_reducible refine w_le ?_ | with_reducible refine w_gt ?_ | with_reducible refine w_ge ?_ | with_reducible refine w_max ?_ | with_reducible refine w_min ?_ | with_reducible refine w_abs ?_ | with_reducible refine w_asB ?_ | with_reducible refine w_asI ?_ | with_reducible refine w_lenL ?_ | with_reducible refine w_lenT ?_ | with_reducible refine w_lenF ?_ | with_reducible refine w_lenD ?_ | with_reducible refine w_seqL ?_ | with_reducible refine w_seqT ?_ | with_reducible refine w_seqF ?_ | with_reducible refine w_strP ?_ | with_reducible refine w_tupL ?_ | with_reducible refine w_tupT ?_ | with_reducible refine w_keys ?_ | with_reducible refine w_cutL ?_ | with_reducible refine w_revL ?_ | with_reducible refine w_listL ?_ | with_reducible refine w_isN ?_ | with_reducible refine w_isNotN ?_ | with_reducible refine pIteT ?_ | with_reducible refine pIteF ?_ | with_reducible refine exOwn ?_ | with_reducible refine w_eqI ?_ | with_reducible refine w_eqS ?_ | with_reducible refine w_neS ?_ | with_reducible refine w_ixL0 ?_ | ((with_reducible apply w_lntBO); exact rfl) | ((with_reducible apply w_lntBV); exact rfl) | ((with_reducible apply w_lkV); exact rfl) | ((with_reducible apply w_lntA); exact rfl) | ((with_reducible apply w_mkHL); exact rfl) | ((with_reducible apply w_rdV); exact rfl) | ((with_reducible apply w_rdO); exact rfl) | ((with_reducible apply w_pkV); exact rfl) | ((with_reducible apply w_pkO); exact rfl) | ((with_reducible apply w_mvV); exact rfl) | ((with_reducible apply w_mvO); exact rfl) | ((with_reducible apply w_ownL); exact rfl) | ((with_reducible apply w_calB); exact rfl) | ((with_reducible apply s_gdO); exact rfl) | ((with_reducible apply w_ixLw); exact rfl) | ((with_reducible apply w_ixTw); exact rfl) | ((with_reducible refine And.intro (small_le ?_) ?_); exact rfl) | ((with_reducible refine And.intro ?_ ?_); exact rfl) | ((with_reducible refine And.intro (Nat.le_of_ble_eq_true ?_) ?_); exact rfl) | ((with_reducible apply s_gTup); exact rfl; exact rfl) | ((with_reducible apply w_appB); exact rfl; exact rfl) | ((with_reducible apply s_stIx); exact rfl; exact rfl) | ((with_reducible apply w_mod); decide) | ((with_reducible apply w_fdiv); decide) | ((with_reducible apply w_mul); first | exact .inl ⟨by omega, by omega⟩ | exact .inr ⟨by omega, by omega⟩) | ((with_reducible apply Exists.intro); (with_reducible apply And.intro); exact rfl))))
theorem pt_sm {rows : List Row2} {n : Nat} {p : Pt} (nm : ∀ x ∈ fsts rows, nmS x = true) (h3 : n ≤ 3) (h : PtOk rows n p) : p.length ≤ 3 ∧ ∀ x ∈ p, Sm 8 x := ⟨by rw [h.1]; exact h3, fun x hx => name_sm (nm x (h.2 x hx))⟩
theorem res2 {ρ : En} {a1 a2 : Addr} {j1 j2 : Nat} {L1 L2 : List D} (h1 : fA a1 0 ρ = some (j1, L1)) (h2 : fA a2 0 ρ = some (j2, L2)) :
    resL ρ (.lst [.opq a1, .opq a2]) = .lst [.lsta a1 L1, .lsta a2 L2] := by
  simp [resL, res1, h1, h2]
theorem rsv2 {ρ : En} {a1 a2 : Addr} {j1 j2 : Nat} {L1 L2 : List D} (h1 : fA a1 0 ρ = some (j1, L1)) (h2 : fA a2 0 ρ = some (j2, L2)) :
    rsvL ρ (.lst [.opq a1, .opq a2]) = .lst [.lst L1, .lst L2] := by
  simp [rsvL, rsv1, h1, h2]
theorem ne_int {i j : Int} : opNe (.int i) (.int j) = some (.bl (!decide (i = j))) := by
  unfold opNe eqA eqS
  simp only [flV]
  have : scal (.int i) (.int j) = true := rfl
  simp [this]
/-! zip of points -/
theorem tupsD_pts : ∀ qs : List Pt, tupsD (qs.map ptT) = some (qs.map fun q => q.map D.str)
  | [] => rfl
  | q :: qs => by
    rw [List.map_cons]
    unfold tupsD
    rw [tupsD_pts qs]
    rfl
theorem colD_pts {n : Nat} {qs : List Pt} (h : ∀ q ∈ qs, q.length = n) {i : Nat} (hi : i < n) : colD (qs.map fun q => q.map D.str) i = .tup ((coln qs i).map D.str) := by
  unfold colD coln
  congr 1
  rw [List.map_map, List.map_map]
  refine List.map_congr_left fun q hq => ?_
  have hl : i < q.length := by rw [h q hq]; exact hi
  show ((q.map D.str)[i]?).getD (.tup []) = D.str ((q[i]?).getD Str.empty)
  rw [List.getElem?_map, List.getElem?_eq_getElem hl]
  rfl
theorem zipN_pts {n : Nat} {q0 : Pt} {qs : List Pt} (h : ∀ q ∈ q0 :: qs, q.length = n) (hl : qs.length ≤ 7) : zipN (ptT q0 :: qs.map ptT) = some ((List.range n).map fun i => .tup ((coln (q0 :: qs) i).map D.str)) := by
  unfold zipN
  have e := tupsD_pts (q0 :: qs)
  rw [List.map_cons] at e
  rw [e]
  rw [List.map_cons]
  dsimp only
  rw [List.length_map, List.length_map, if_pos ⟨hl, fun ys hy => by
    obtain ⟨q, hq, rfl⟩ := List.mem_map.mp hy
    rw [List.length_map, h q (List.mem_cons_of_mem _ hq), h q0 (List.mem_cons_self ..)]⟩, h q0 (List.mem_cons_self ..)]
  congr 1
  refine List.map_congr_left fun i hi => ?_
  have := colD_pts h (List.mem_range.mp hi)
  rw [List.map_cons] at this
  exact this
theorem ne_pts {ps qs : List Pt} (hp : ∀ p ∈ ps, PtW p) (hq : ∀ p ∈ qs, PtW p) : opNe (ptsT ps) (ptsT qs) = some (.bl (!decide (ps = qs))) := by
  unfold opNe; rw [eqA_pts hp hq]; rfl
theorem toPy_2 (pss : List (List Pt)) : toPy (.lst (pss.map ptsT)) = some (.list (pss.map fun ps => PyData.list (ps.map fun p => PyData.tuple (p.map PyData.str)))) := by
  show (toPys _).map PyData.list = _
  rw [toPys_map ptsT (fun ps => PyData.list (ps.map fun p => PyData.tuple (p.map PyData.str))) pss fun ps _ => toPy_pts ps]; rfl
theorem sh_2 {pss : List (List Pt)} (h : ∀ ps ∈ pss, ps.length ≤ 100 ∧ ∀ p ∈ ps, p.length ≤ 3 ∧ ∀ x ∈ p, Sm 8 x) (hl : pss.length ≤ 10) : ∃ x, shD (.lst (pss.map ptsT)) = some (.str x) :=
  ⟨_, sh_of (toPy_2 pss) (Fit.lst (fitAll_of (fun ps : List Pt => PyData.list (ps.map fun p => PyData.tuple (p.map PyData.str))) pss fun ps hps => (fit_ptsT (k := 3) (h ps hps).2).mono (n' := 2800) (by have := (h ps hps).1; omega) (Nat.le_refl _))) (by omega) (by decide)⟩
section
variable {z : Zf} {E : QE} {Q : R → En → Prop}
theorem s_hc {rows : List Row2} {c0 : Str} {cs : List Str} (hr : rows.length ≤ 100) (hc : ∀ c ∈ c0 :: cs, c ∈ fsts rows) (hl : cs.length ≤ 100)
    (k : Q (.own (.lst ((hiN rows (c0 :: cs)).map D.str))) [.un, .un, .un]) :
    W (F_Hierarchy_highest_common z) [.val (hierD z.c_Hierarchy rows), .val (.str c0), .val (.tup (cs.map D.str))] Q E := by
  unfold F_Hierarchy_highest_common
  refine w_fn (by rfl) ?_
  walk_at "w"
  refine w_starA ?_
  walk_at "w"
  refine ⟨le_line (by simp; omega), ?_⟩
  rw [List.append_nil]
  walk_at "w"
  refine fr_list D.str (c0 :: cs) (fun dn ρ => ∃ s4, ρ = [.val (hierD z.c_Hierarchy rows), .val (.str c0), .val (.tup (cs.map D.str)), .val (.lst ((c0 :: cs).map D.str)), s4, .un, .un, .un])
    ⟨.un, rfl⟩ (fun dn c td ρ e h => ?_) fun ρ h => ?_
  · obtain ⟨s4, rfl⟩ := h
    refine ⟨_, rfl, ?_⟩
    walk_at "w"
    refine ⟨hier_obj (by decide +kernel), ?_⟩
    walk_at "w"
    refine s_req (hc c (by rw [e]; simp)) ?_
    exact ⟨_, rfl⟩
  · obtain ⟨s4, rfl⟩ := h
    have lc' : (c0 :: cs).length ≤ 101 := by simp; omega
    revert hc k lc'
    generalize c0 :: cs = ds
    intro hc k lc'
    walk_at "w"
    refine ⟨hier_obj (by decide +kernel), ?_⟩
    walk_at "w"
    refine s_nms ?_
    walk_at "w"
    have hfl := fsts_len rows
    refine fr_list D.str (fsts rows) (fun dn ρ => ∃ s4 s6, ρ = [.val (hierD z.c_Hierarchy rows), .val (.str c0), .val (.tup (cs.map D.str)), .val (.lst (ds.map D.str)), s4, .own (.lst ((hiL (comIn rows ds) (Anc rows) dn).map D.str)), s6, .un] ∧ (hiL (comIn rows ds) (Anc rows) dn).length ≤ dn.length)
      ⟨_, _, rfl, Nat.le_refl _⟩ (fun dn x td ρ e h => ?_) fun ρ h => ?_
    · obtain ⟨s4, s6, rfl, hle⟩ := h
      have hx : x ∈ fsts rows := by rw [e]; simp
      have hdl : dn.length < 100 := by have := congrArg List.length e; simp at this; omega
      have hnext : hiL (comIn rows ds) (Anc rows) (dn ++ [x]) = hiStep (comIn rows ds) (Anc rows) (hiL (comIn rows ds) (Anc rows) dn) x := by unfold hiL; rw [List.foldl_append]; rfl
      rw [hnext]
      generalize hiL (comIn rows ds) (Anc rows) dn = hi at hle
      refine ⟨_, rfl, ?_⟩
      walk_at "w"
      refine w_lc ?_
      walk_at "w"
      refine lc_map D.str (fun o => .bl (decide (o ∈ Anc rows x))) ds (by omega) (fun o ho => ⟨_, rfl, ?_⟩) ?_
      · walk_at "w"
        refine w_lft (fld_above _ _) ?_
        walk_at "w"
        refine w_lft (above_at hx) ?_
        refine w_lft (in_flag o _) ?_
        exact ⟨rfl, rfl⟩
      · refine w_lft (all_map _ _) ?_
        walk_at "w"
        have hci : (ds.all fun o => decide (o ∈ Anc rows x)) = comIn rows ds x := rfl
        rw [hci]
        refine w_ifB (fun c => ?_) fun c => ?_
        · walk_at "w"
          refine w_lc ?_
          walk_at "w"
          refine lc_map D.str (fun o => .bl (decide (o ∈ Anc rows x))) hi (by omega) (fun o ho => ⟨_, rfl, ?_⟩) ?_
          · walk_at "w"
            refine w_lft (fld_above _ _) ?_
            walk_at "w"
            refine w_lft (above_at hx) ?_
            refine w_lft (in_flag o _) ?_
            exact ⟨rfl, rfl⟩
          · refine w_lft (any_map _ _) ?_
            walk_at "w"
            refine s_ifB (fun c2 => ?_) fun c2 => ?_
            · walk_at "w"
              refine w_mutL (by rfl) (app_nat (by rw [List.length_map]; omega)) ?_
              have hs : hiStep (comIn rows ds) (Anc rows) hi x = hi ++ [x] := by unfold hiStep; rw [if_pos (by rw [c, Bool.true_and]; exact c2)]
              rw [hs, List.map_append]
              exact ⟨_, _, rfl, by simp; omega⟩
            · walk_at "w"
              have hs : hiStep (comIn rows ds) (Anc rows) hi x = hi := by unfold hiStep; rw [if_neg (by rw [c, Bool.true_and, c2]; decide)]
              rw [hs]
              exact ⟨_, _, rfl, by simp; omega⟩
        · walk_at "w"
          refine s_ifB (fun c => (nomatch c)) fun _ => ?_
          walk_at "w"
          have hs : hiStep (comIn rows ds) (Anc rows) hi x = hi := by unfold hiStep; rw [if_neg (by rw [c, Bool.false_and]; decide)]
          rw [hs]
          exact ⟨_, _, rfl, by simp; omega⟩
    · obtain ⟨s4, s6, rfl, hle⟩ := h
      walk_at "w"
      exact k
theorem s_reqp {rows : List Row2} {n : Nat} {p : Pt} (h : PtOk rows n p) (h1 : 1 ≤ n) (h3 : n ≤ 3) (k : Q (.val .non) [.un, .un]) : W (F_require_point z) [.val (hierD z.c_Hierarchy rows), .val (ptT p)] Q E := by
  unfold F_require_point
  refine w_fn (by rfl) ?_
  walk_at "w"
  refine s_isp h h1 h3 ?_
  walk_at "w"
  refine s_ifB (fun c => (nomatch c)) fun _ => ?_
  walk_at "w"
  exact k
theorem s_reqpl {rows : List Row2} {n : Nat} {p q : Pt} (h : PtOk rows n p) (hq : PtOk rows n q) (h1 : 1 ≤ n) (h3 : n ≤ 3) (k : Q (.val .non) [.un, .un, .un]) : W (F_require_point_like z) [.val (hierD z.c_Hierarchy rows), .val (ptT p), .val (ptT q)] Q E := by
  unfold F_require_point_like
  refine w_fn (by rfl) ?_
  walk_at "w"
  refine s_reqp h h1 h3 ?_
  walk_at "w"
  refine w_lft (a := .bl false) (by rw [List.length_map, List.length_map, h.1, hq.1, ne_int]; simp) ?_
  walk_at "w"
  refine s_ifB (fun c => (nomatch c)) fun _ => ?_
  walk_at "w"
  exact k
theorem s_hcp {rows : List Row2} (v : Valid rows) {n : Nat} {q0 : Pt} {qs : List Pt} (lr : rows.length ≤ 20) (h : ∀ q ∈ q0 :: qs, PtOk rows n q) (h1 : 1 ≤ n) (h3 : n ≤ 3) (hl : qs.length ≤ 7) (k : Q (.own (ptsT (dueP rows n (q0 :: qs)))) [.un, .un, .un]) :
    W (F_highest_common_points z) [.val (hierD z.c_Hierarchy rows), .val (ptT q0), .val (.tup (qs.map ptT))] Q E := by
  rw [← hcp_eq v h] at k
  unfold F_highest_common_points
  refine w_fn (by rfl) ?_
  walk_at "w"
  refine s_reqp (h q0 (List.mem_cons_self ..)) h1 h3 ?_
  walk_at "w"
  refine fr_list ptT qs (fun dn ρ => ∃ s3, ρ = [.val (hierD z.c_Hierarchy rows), .val (ptT q0), .val (.tup (qs.map ptT)), s3, .un]) ⟨_, rfl⟩ (fun dn q td ρ e hρ => ?_) fun ρ hρ => ?_
  · obtain ⟨s3, rfl⟩ := hρ
    refine ⟨_, rfl, ?_⟩
    walk_at "w"
    refine s_reqpl (h q (by rw [e]; simp)) (h q0 (List.mem_cons_self ..)) h1 h3 ?_
    exact ⟨_, rfl⟩
  · obtain ⟨s3, rfl⟩ := hρ
    walk_at "w"
    refine w_lc ?_
    refine w_bnd ?_
    walk_at "w"
    refine w_starA ?_
    walk_at "w"
    rw [List.append_nil]
    refine w_lft (zipN_pts (fun q hq => (h q hq).1) hl) ?_
    refine lc_map (fun i => .tup ((coln (q0 :: qs) i).map D.str)) (fun i => lsT (hiN rows (coln (q0 :: qs) i))) (List.range n) (by rw [List.length_range]; omega) (fun i hi => ⟨_, rfl, ?_⟩) ?_
    · walk_at "w"
      refine w_metSS ?_
      walk_at "w"
      refine ⟨hier_obj (by decide +kernel), ?_⟩
      walk_at "w"
      have hi := List.mem_range.mp hi
      have hcl : ∀ c ∈ coln (q0 :: qs) i, c ∈ fsts rows := fun c hc => by
        unfold coln at hc
        obtain ⟨q, hq, rfl⟩ := List.mem_map.mp hc
        have hq2 := h q hq
        have hlt : i < q.length := by rw [hq2.1]; exact hi
        rw [List.getElem?_eq_getElem hlt]
        exact hq2.2 _ (List.getElem_mem _)
      refine ⟨le_line (by simp [coln]; omega), ?_⟩
      · unfold coln at hcl ⊢
        rw [List.map_cons] at hcl ⊢
        refine s_hc (by omega) hcl (by rw [List.length_map]; omega) ?_
        exact ⟨rfl, rfl⟩
    · walk_at "w"
      have ec : (List.range n).map (fun i => lsT (hiN rows (coln (q0 :: qs) i))) = ((List.range n).map fun i => hiN rows (coln (q0 :: qs) i)).map lsT := by rw [List.map_map]; rfl
      show W (F_combinations z) [.val (.lst ((List.range n).map fun i => lsT (hiN rows (coln (q0 :: qs) i))))] _ _
      rw [ec]
      refine s_comb (by simp; omega) (fun dn c td ec => ?_) k
      have hn : dn.length + (td.length + 1) = n := by
        have := congrArg List.length ec
        rw [List.length_map, List.length_range, List.length_append, List.length_cons] at this
        exact this.symm
      have hall : ∀ x ∈ (List.range n).map fun i => hiN rows (coln (q0 :: qs) i), x.length ≤ 20 := fun x hx => by
        obtain ⟨i, _, rfl⟩ := List.mem_map.mp hx
        exact Nat.le_trans (hiN_len v _) lr
      have hc : c.length ≤ 20 := hall c (by rw [ec]; simp)
      have hlen : (combos dn).length ≤ 400 := by
        have h1 := combos_le (m := 20) dn fun x hx => hall x (by rw [ec]; exact List.mem_append_left _ hx)
        have h2 : 20 ^ dn.length ≤ 20 ^ 2 := Nat.pow_le_pow_right (by decide) (by omega)
        omega
      refine ⟨by omega, by omega, ?_, fun t ht => ?_⟩
      · rw [stepC_length]
        have : (combos dn).length * c.length ≤ 400 * 20 := Nat.mul_le_mul hlen hc
        omega
      · rw [combos_len dn t ht]; omega
theorem s_told {rows : List Row2} (v : Valid rows) {n : Nat} {qs : List Pt} (lr : rows.length ≤ 20) (h : ∀ q ∈ qs, PtOk rows n q) (h1 : 1 ≤ n) (h3 : n ≤ 3) (hl : qs.length = 1 ∨ qs.length = 2 ∨ qs.length = 3 ∨ qs.length = 4 ∨ qs.length = 8) (k : Q (.own (ptsT (dueP rows n qs))) [.un, .un]) :
    W (F__law_told z) [.val (hierD z.c_Hierarchy rows), .val (ptsT qs)] Q E := by
  unfold F__law_told
  refine w_fn (by rfl) ?_
  match qs, hl, h, k with
  | [q0], _, h, k =>
    walk_at "w"
    refine s_ifB (fun _ => ?_) fun c => absurd c (by simp)
    walk_at "w"
    refine w_calS ?_
    walk_at "w"
    exact s_hcp (qs := []) v lr h h1 h3 (by simp) k
  | [q0, q1], _, h, k =>
    walk_at "w"
    refine s_ifB (fun c => absurd c (by simp)) fun _ => ?_
    walk_at "w"
    refine s_ifB (fun _ => ?_) fun c => absurd c (by simp)
    walk_at "w"
    refine w_calS ?_
    walk_at "w"
    exact s_hcp (qs := [q1]) v lr h h1 h3 (by simp) k
  | [q0, q1, q2], _, h, k =>
    walk_at "w"
    refine s_ifB (fun c => absurd c (by simp)) fun _ => ?_
    walk_at "w"
    refine s_ifB (fun c => absurd c (by simp)) fun _ => ?_
    walk_at "w"
    refine s_ifB (fun _ => ?_) fun c => absurd c (by simp)
    walk_at "w"
    refine w_calS ?_
    walk_at "w"
    exact s_hcp (qs := [q1, q2]) v lr h h1 h3 (by simp) k
  | [q0, q1, q2, q3], _, h, k =>
    walk_at "w"
    refine s_ifB (fun c => absurd c (by simp)) fun _ => ?_
    walk_at "w"
    refine s_ifB (fun c => absurd c (by simp)) fun _ => ?_
    walk_at "w"
    refine s_ifB (fun c => absurd c (by simp)) fun _ => ?_
    walk_at "w"
    refine s_ifB (fun _ => ?_) fun c => absurd c (by simp)
    walk_at "w"
    refine w_calS ?_
    walk_at "w"
    exact s_hcp (qs := [q1, q2, q3]) v lr h h1 h3 (by simp) k
  | [q0, q1, q2, q3, q4, q5, q6, q7], _, h, k =>
    walk_at "w"
    refine s_ifB (fun c => absurd c (by simp)) fun _ => ?_
    walk_at "w"
    refine s_ifB (fun c => absurd c (by simp)) fun _ => ?_
    walk_at "w"
    refine s_ifB (fun c => absurd c (by simp)) fun _ => ?_
    walk_at "w"
    refine s_ifB (fun c => absurd c (by simp)) fun _ => ?_
    walk_at "w"
    refine s_unl ?_
    walk_at "w"
    refine ⟨_, _, rfl, rfl, ?_⟩
    walk_at "w"
    refine w_calS ?_
    walk_at "w"
    exact s_hcp (qs := [q1, q2, q3, q4, q5, q6, q7]) v lr h h1 h3 (by simp) k
  | [], hl, _, _ => simp at hl
  | [_, _, _, _, _], hl, _, _ => simp at hl
  | [_, _, _, _, _, _], hl, _, _ => simp at hl
  | [_, _, _, _, _, _, _], hl, _, _ => simp at hl
  | _ :: _ :: _ :: _ :: _ :: _ :: _ :: _ :: _ :: _, hl, _, _ => simp at hl
theorem s_flat {rows : List Row2} (v : Valid rows) {n : Nat} {qs : List Pt} (nm : ∀ x ∈ fsts rows, nmS x = true) (lr : rows.length ≤ 20) (h : ∀ q ∈ qs, PtOk rows n q) (h1 : 1 ≤ n) (h3 : n ≤ 3) (hl : qs.length = 1 ∨ qs.length = 2 ∨ qs.length = 3 ∨ qs.length = 4 ∨ qs.length = 8) (k : Q (.val (.bl true)) [.un, .un]) :
    W (F__law_flat_right z) [.val (.lst (rows.map rowD)), .val (ptsT qs)] Q E := by
  have st : ∀ x ∈ fsts rows, PyData.strOk x = true := fun x hx => nm_okS (nm x hx)
  have pw : ∀ q ∈ qs, PtW q := fun q hq x hx => st x ((h q hq).2 x hx)
  obtain ⟨q0, qt, rfl⟩ : ∃ q0 qt, qs = q0 :: qt := by
    cases qs with
    | nil => simp at hl
    | cons a b => exact ⟨a, b, rfl⟩
  have hf : ∀ q ∈ q0 :: qt, PtOk (flat rows) n q := fun q hq => ⟨(h q hq).1, by rw [fsts_flat]; exact (h q hq).2⟩
  have lf : (flat rows).length ≤ 20 := by unfold flat; rw [List.length_map]; exact lr
  have ef : rows.map (fun r : Row2 => D.tup [.str r.1, .tup []]) = (flat rows).map rowD := by unfold flat; rw [List.map_map]; rfl
  unfold F__law_flat_right
  refine w_fn (by rfl) ?_
  walk_at "w"
  refine w_lc ?_
  walk_at "w"
  refine lc_map rowD (fun r : Row2 => D.tup [.str r.1, .tup []]) rows (by omega) (fun r hr => ⟨_, rfl, ?_⟩) ?_
  · walk_at "w"
    refine w_lft (a := .str r.1) (by rfl) ?_
    walk_at "w"
    exact rfl
  · rw [ef]
    refine w_lft (mkH_ok (rowsOf_map (flat rows)) (flat_valid v) lf) ?_
    walk_at "w"
    refine w_lc ?_
    walk_at "w"
    refine lc_map ptT (fun q => .bl (decide (q = q0))) (q0 :: qt) (by omega) (fun q hq => ⟨_, rfl, ?_⟩) ?_
    · walk_at "w"
      refine w_lft (a := ptT q0) (by exact L2.atI_nat (j := 0) rfl) ?_
      refine w_lft (eq_pt (pw q hq) (pw q0 (List.mem_cons_self ..))) ?_
      exact ⟨rfl, rfl⟩
    · refine w_lft (all_map _ _) ?_
      walk_at "w"
      have sm : ∀ q ∈ [q0], q.length ≤ 3 ∧ ∀ x ∈ q, Sm 8 x := fun q hq => by rw [List.mem_singleton.mp hq]; exact pt_sm nm h3 (h q0 (List.mem_cons_self ..))
      obtain ⟨t, ht⟩ := sh_pts (ps := if ((q0 :: qt).all fun q => decide (q = q0)) = true then [q0] else []) (fun q hq => by
        split at hq
        · exact sm q hq
        · cases hq) (by split <;> simp)
      by_cases c : ((q0 :: qt).all fun q => decide (q = q0)) = true
      · refine w_ifB (fun _ => ?_) fun z => absurd z (by rw [c]; decide)
        rw [if_pos c] at ht
        have ec : cutD ((q0 :: qt).map ptT) none (some 1) = [q0].map ptT := by
          have := cut_takeD (xs := (q0 :: qt).map ptT) (k := 1)
          exact this
        walk_at "w"
        refine s_told (flat_valid v) lf hf h1 h3 hl ?_
        rw [dueP_flat v h, if_pos c]
        refine w_lft ht ?_
        walk_at "w"
        have ht2 : shD (.lst (cutD ((q0 :: qt).map ptT) none (some 1))) = some (.str t) := by rw [ec]; exact ht
        refine w_lft ht2 ?_
        walk_at "w"
        rw [decide_eq_true rfl]
        exact k
      · refine w_ifB (fun z => absurd z c) fun _ => ?_
        rw [if_neg c] at ht
        walk_at "w"
        refine s_told (flat_valid v) lf hf h1 h3 hl ?_
        rw [dueP_flat v h, if_neg c]
        refine w_lft ht ?_
        walk_at "w"
        refine w_lft (show shD (.lst []) = some (.str t) from ht) ?_
        walk_at "w"
        rw [decide_eq_true rfl]
        exact k
theorem s_lright {rows : List Row2} (v : Valid rows) {n : Nat} {q0 : Pt} {qt : List Pt} (nm : ∀ x ∈ fsts rows, nmS x = true) (lr : rows.length ≤ 20) (h : ∀ q ∈ q0 :: qt, PtOk rows n q) (h1 : 1 ≤ n) (h3 : n ≤ 3) (hl : (q0 :: qt).length = 1 ∨ (q0 :: qt).length = 2 ∨ (q0 :: qt).length = 3 ∨ (q0 :: qt).length = 4 ∨ (q0 :: qt).length = 8) (hA : (allP rows n).length ≤ 100) (k : Q (.val (.bl true)) [.un, .un, .un, .un]) :
    W (F__law_right z) [.val (hierD z.c_Hierarchy rows), .val (upsD rows), .val (ptsT (allP rows n)), .val (ptsT (q0 :: qt))] Q E := by
  have st : ∀ x ∈ fsts rows, PyData.strOk x = true := fun x hx => nm_okS (nm x hx)
  have h0 := h q0 (List.mem_cons_self ..)
  have l8 : (q0 :: qt).length ≤ 8 := by omega
  have dl : (dueP rows n (q0 :: qt)).length ≤ 100 := Nat.le_trans dueP_len hA
  have cl : ((allP rows n).filter (comP rows (q0 :: qt))).length ≤ 100 := Nat.le_trans (List.length_filter_le ..) hA
  have cok : ∀ p ∈ (allP rows n).filter (comP rows (q0 :: qt)), PtOk rows n p := fun p hp => mem_allP.mp (List.mem_filter.mp hp).1
  have dok : ∀ p ∈ dueP rows n (q0 :: qt), PtOk rows n p := dueP_ok
  have pwd : ∀ p ∈ dueP rows n (q0 :: qt), PtW p := fun p hp x hx => st x ((dok p hp).2 x hx)
  obtain ⟨t1, ht1⟩ := sh_pts (ps := dueP rows n (q0 :: qt)) (fun q hq => pt_sm nm h3 (dok q hq)) (by omega)
  obtain ⟨t2, ht2⟩ := sh_2 (pss := [dueP rows n (q0 :: qt), dueP rows n (q0 :: qt)]) (fun qs hqs => by
    have : qs = dueP rows n (q0 :: qt) := by
      rcases List.mem_cons.mp hqs with h | h
      · exact h
      · exact List.mem_singleton.mp h
    rw [this]
    exact ⟨dl, fun r h => pt_sm nm h3 (dok r h)⟩) (by show 2 ≤ 10; decide)
  unfold F__law_right
  refine w_fn (by rfl) ?_
  walk_at "w"
  refine w_lc ?_
  walk_at "w"
  refine lc_filter ptT (comP rows (q0 :: qt)) ptT (allP rows n) (by omega) (fun p hp => ⟨_, rfl, ?_⟩) ?_
  · have hpo := mem_allP.mp hp
    walk_at "w"
    refine w_lc ?_
    walk_at "w"
    refine lc_map ptT (fun q => .bl (le rows p q)) (q0 :: qt) (by omega) (fun q hq => ⟨_, rfl, ?_⟩) ?_
    · walk_at "w"
      refine s_lunder v hpo h3 ?_
      exact ⟨rfl, rfl⟩
    · refine w_lft (all_map _ _) ?_
      walk_at "w"
      have e : ((q0 :: qt).all fun q => le rows p q) = comP rows (q0 :: qt) p := rfl
      rw [e]
      refine pIteB (fun c => ?_) fun c => ?_
      · walk_at "w"
        exact ⟨by rw [if_pos c], rfl⟩
      · exact ⟨by rw [c]; rfl, rfl⟩
  · walk_at "w"
    refine s_lhig v st h3 cok (by omega) ?_
    walk_at "w"
    refine s_nest ?_
    walk_at "w"
    refine s_told v lr h h1 h3 hl ?_
    walk_at "w"
    have er : ((q0 :: qt).map ptT).reverse = (q0 :: qt).reverse.map ptT := by rw [List.map_reverse]
    have hrv : ∀ q, q ∈ (q0 :: qt).reverse ↔ q ∈ q0 :: qt := fun q => List.mem_reverse
    rw [er]
    refine s_told v lr (fun q hq => h q ((hrv q).mp hq)) h1 h3 (by rw [List.length_reverse]; exact hl) ?_
    rw [dueP_congr hrv]
    walk_at "w"
    have le1 : ((dueP rows n (q0 :: qt)).map ptT).length ≤ 1000 := by rw [List.length_map]; omega
    have ed : hig (le rows) ((allP rows n).filter (comP rows (q0 :: qt))) = dueP rows n (q0 :: qt) := rfl
    rw [ed]
    have hover := dueP_over v (n := n) (qs := q0 :: qt)
    have hfirst : comP rows (q0 :: qt) q0 = true → dueP rows n (q0 :: qt) = [q0] := fun c => dueP_first v h (List.mem_cons_self ..) c
    have ht2b : shD (.lst [ptsT (dueP rows n (q0 :: qt)), ptsT (dueP rows n (q0 :: qt))]) = some (.str t2) := ht2
    have hne : opNe (ptsT (dueP rows n (q0 :: qt))) (.lst [ptT q0]) = some (.bl (!decide (dueP rows n (q0 :: qt) = [q0]))) := ne_pts (qs := [q0]) pwd (fun p hp x hx => by rw [List.mem_singleton.mp hp] at hx; exact st x (h0.2 x hx))
    have d0 := dok
    have hcm : ∀ p, p ∈ (allP rows n).filter (comP rows (q0 :: qt)) → ((dueP rows n (q0 :: qt)).any fun q => le rows p q) = true := hover
    generalize hcom : (allP rows n).filter (comP rows (q0 :: qt)) = com at cl cok hcm
    generalize hdue : dueP rows n (q0 :: qt) = due at le1 ht1 ht2b hne dl d0 hcm hfirst
    refine ⟨.rt (.val (.bl true)) [.val (hierD z.c_Hierarchy rows), .val (upsD rows), .val (ptsT (allP rows n)), .val (ptsT (q0 :: qt)), .val (ptsT com), .val (ptsT due), .un, .un, .un, .un, .un], k, fun as hlen hn => ?_⟩
    match as, hlen with
    | [a1, a2], _ =>
      have n12 : a1 ≠ a2 := fun e => by subst e; simp at hn
      show WS _ [.val (hierD z.c_Hierarchy rows), .val (upsD rows), .val (ptsT (allP rows n)), .val (ptsT (q0 :: qt)), .val (ptsT com), .own (ptsT due), .val (.lst [.opq a1, .opq a2]), .un, .un, .own (.lsta a1 (due.map ptT)), .own (.lsta a2 (due.map ptT))] _ _ _ _ _
      walk_at "w"
      refine w_shN ?_
      walk_at "w"
      rw [res2 (j1 := 9) (j2 := 10) (L1 := due.map ptT) (L2 := due.map ptT) (by simp [fA]) (by simp [fA, n12])]
      have ht3 : (toPy (.lst [.lsta a1 (due.map ptT), .lsta a2 (due.map ptT)])).bind showP = some (.str t2) := ht2b
      refine w_lft ht3 ?_
      walk_at "w"
      refine w_lft ht2b ?_
      walk_at "w"
      refine s_ifB (fun c => absurd c (by simp)) fun _ => ?_
      walk_at "w"
      show W _ [.val (hierD z.c_Hierarchy rows), .val (upsD rows), .val (ptsT (allP rows n)), .val (ptsT (q0 :: qt)), .val (ptsT com), .val (ptsT due), .val (.lst [.opq a1, .opq a2]), .un, .un, .own (.lsta a1 (due.map ptT)), .own (.lsta a2 (due.map ptT))] _ _
      have ersv : rsvL [.val (hierD z.c_Hierarchy rows), .val (upsD rows), .val (ptsT (allP rows n)), .val (ptsT (q0 :: qt)), .val (ptsT com), .val (ptsT due), .val (.lst [.opq a1, .opq a2]), .un, .un, .own (.lsta a1 (due.map ptT)), .own (.lsta a2 (due.map ptT))] (.lst [.opq a1, .opq a2]) = .lst [ptsT due, ptsT due] :=
        rsv2 (j1 := 9) (j2 := 10) (L1 := due.map ptT) (L2 := due.map ptT) (by simp [fA]) (by simp [fA, n12])
      refine w_brw rfl rfl ?_
      rw [ersv]
      show W _ [.val (hierD z.c_Hierarchy rows), .val (upsD rows), .val (ptsT (allP rows n)), .val (ptsT (q0 :: qt)), .val (ptsT com), .val (ptsT due), .val (.lst [ptsT due, ptsT due]), .un, .un, .un, .un] _ _
      refine W.mono (Q := fun c ρ2 => c = false ∧ ρ2 = [.val (hierD z.c_Hierarchy rows), .val (upsD rows), .val (ptsT (allP rows n)), .val (ptsT (q0 :: qt)), .val (ptsT com), .val (ptsT due), .val (.lst [ptsT due, ptsT due]), .un, .un, .un, .un]) (E := fun _ _ _ _ => False) ?_ (fun c ρ2 h => ?_) fun _ _ _ _ h => h
      · walk_at "w"
        refine w_lc ?_
        walk_at "w"
        refine lc_map ptT (fun q => .bl (le rows q0 q)) (q0 :: qt) (by omega) (fun q hq => ⟨_, rfl, ?_⟩) ?_
        · walk_at "w"
          refine w_lft (a := ptT q0) (by exact L2.atI_nat (j := 0) rfl) ?_
          walk_at "w"
          refine s_lunder v h0 h3 ?_
          exact ⟨rfl, rfl⟩
        · refine w_lft (all_map _ _) ?_
          walk_at "w"
          have e : ((q0 :: qt).all fun q => le rows q0 q) = comP rows (q0 :: qt) q0 := rfl
          rw [e]
          refine w_ifB (fun c => ?_) fun c => ?_
          · have hd := hfirst c
            walk_at "w"
            refine w_lft (a := ptT q0) (by exact L2.atI_nat (j := 0) rfl) ?_
            walk_at "w"
            refine w_lft hne ?_
            walk_at "w"
            refine ⟨?_, rfl⟩
            rw [decide_eq_true hd]; rfl
          · walk_at "w"
            exact rfl
      · obtain ⟨rfl, rfl⟩ := h
        refine ⟨rfl, ?_⟩
        refine s_ifB (fun c => (nomatch c)) fun _ => ?_
        walk_at "w"
        refine w_brw rfl rfl ?_
        rw [ersv]
        show W _ [.val (hierD z.c_Hierarchy rows), .val (upsD rows), .val (ptsT (allP rows n)), .val (ptsT (q0 :: qt)), .val (ptsT com), .val (ptsT due), .val (.lst [ptsT due, ptsT due]), .un, .un, .un, .un] _ _
        refine W.mono (Q := fun c ρ2 => c = false ∧ ρ2 = [.val (hierD z.c_Hierarchy rows), .val (upsD rows), .val (ptsT (allP rows n)), .val (ptsT (q0 :: qt)), .val (ptsT com), .val (ptsT due), .val (.lst [ptsT due, ptsT due]), .un, .un, .un, .un]) (E := fun _ _ _ _ => False) ?_ (fun c ρ2 h => ?_) fun _ _ _ _ h => h
        · walk_at "w"
          refine w_lc ?_
          walk_at "w"
          refine lc_map ptT (fun p => .bl (due.any fun q => le rows p q)) com (by omega) (fun p hp => ⟨_, rfl, ?_⟩) ?_
          · walk_at "w"
            refine w_lc ?_
            walk_at "w"
            refine lc_map ptT (fun q => .bl (le rows p q)) due (by omega) (fun q hq => ⟨_, rfl, ?_⟩) ?_
            · walk_at "w"
              refine s_lunder v (cok p hp) h3 ?_
              exact ⟨rfl, rfl⟩
            · refine w_lft (any_map _ _) ?_
              exact ⟨rfl, rfl⟩
          · refine w_lft (all_map _ _) ?_
            walk_at "w"
            refine ⟨?_, rfl⟩
            rw [Bool.not_eq_false', List.all_eq_true]
            exact hcm
        · obtain ⟨rfl, rfl⟩ := h
          refine ⟨rfl, ?_⟩
          refine s_ifB (fun c => (nomatch c)) fun _ => ?_
          walk_at "w"
          refine w_mtA ?_
          walk_at "w"
          refine ⟨a1, (9, due.map ptT), rfl, by simp [fA], ?_⟩
          walk_at "w"
          refine ⟨9, due.map ptT, _, _, by simp [fA], app_nat (by omega), ?_⟩
          walk_at "w"
          refine w_mtA ?_
          walk_at "w"
          refine ⟨a1, (9, due.map ptT ++ [.non]), rfl, by simp [fA], ?_⟩
          walk_at "w"
          refine ⟨9, due.map ptT ++ [.non], _, _, by simp [fA], show stRev (due.map ptT ++ [.non]) [] = _ from rfl, ?_⟩
          walk_at "w"
          refine s_told v lr h h1 h3 hl ?_
          rw [hdue]
          refine w_lft ht1 ?_
          walk_at "w"
          refine w_lft ht1 ?_
          walk_at "w"
          rw [decide_eq_true rfl]
          rfl
theorem allP_le {rows : List Row2} {n sz m : Nat} (h : rows.length ≤ sz) (hp : sz ^ n ≤ m) : (allP rows n).length ≤ m := by
  unfold allP
  rw [combos_rep, fsts_len]
  exact Nat.le_trans (Nat.pow_le_pow_left h n) hp
theorem cellsR (n : Nat) (c : Int) (h0 : 0 ≤ c) (h1 : c ≤ 100) : ∃ m : Nat, m ≤ 100 ∧ (if (if (n : Int) < c then (n : Int) else c) > 1 then (if (n : Int) < c then (n : Int) else c) else 1) = (m : Int) := by
  refine ⟨(if (if (n : Int) < c then (n : Int) else c) > 1 then (if (n : Int) < c then (n : Int) else c) else 1).toNat, ?_, ?_⟩
  · split <;> split <;> omega
  · split <;> split <;> omega
theorem s_sizes {p : D} (hp : Pot p) (k : ∀ (sz cn : Nat) p2, 0 < sz → sz ≤ 8 → 1 ≤ cn → cn ≤ 3 → sz ^ cn ≤ 64 → Pot p2 → Q (.val (.tup [.int sz, .int cn])) [.own p2]) : W (F__law_sizes z) [.own p] Q E := by
  unfold F__law_sizes
  refine w_fn (by rfl) ?_
  walk_at "w"
  refine s_drawN (n := 6) hp (by omega) (by omega) fun x p2 hx hp2 => ?_
  walk_at "w"
  obtain ⟨sz, cn, e1, hs0, hs2, h1, h3, hpw⟩ : ∃ sz cn : Nat, ([.tup [.int 8, .int 1], .tup [.int 8, .int 1], .tup [.int 6, .int 1], .tup [.int 6, .int 2], .tup [.int 8, .int 2], .tup [.int 4, .int 3]] : List D)[x]? = some (.tup [.int sz, .int cn]) ∧ 0 < sz ∧ sz ≤ 8 ∧ 1 ≤ cn ∧ cn ≤ 3 ∧ sz ^ cn ≤ 64 := by
    match x, hx with
    | 0, _ => exact ⟨8, 1, rfl, by decide⟩
    | 1, _ => exact ⟨8, 1, rfl, by decide⟩
    | 2, _ => exact ⟨6, 1, rfl, by decide⟩
    | 3, _ => exact ⟨6, 2, rfl, by decide⟩
    | 4, _ => exact ⟨8, 2, rfl, by decide⟩
    | 5, _ => exact ⟨4, 3, rfl, by decide⟩
  refine w_ixL e1 ?_
  exact k sz cn p2 hs0 hs2 h1 h3 hpw hp2
theorem s_law {ns : List Int} (k : Q (.val (.bl true)) [.un]) : W (F_law z) [.val (.flst (ns.map D.int))] Q E := by
  unfold F_law
  refine w_fn (by rfl) ?_
  walk_at "w"
  obtain ⟨m, hm, em⟩ := cellsR (ns.map D.int).length 3 (by decide) (by decide)
  rw [em]
  refine w_rng (by omega) ?_
  refine fr_list _ (List.range m) (fun dn ρ => ∃ s1 s2 s3 s4 s5 s6 s7 s8 s9 s10, ρ = [.val (.flst (ns.map D.int)), s1, s2, s3, s4, s5, s6, s7, s8, s9, s10, .un])
    ⟨_, _, _, _, _, _, _, _, _, _, rfl⟩ (fun dn j td ρ e h => ?_) fun ρ h => ?_
  · obtain ⟨s1, s2, s3, s4, s5, s6, s7, s8, s9, s10, rfl⟩ := h
    have hj : j < m := List.mem_range.mp (by rw [e]; simp)
    refine ⟨_, rfl, ?_⟩
    walk_at "w"
    refine s_pot (by omega) fun p hp => ?_
    walk_at "w"
    refine s_sizes hp fun sz cn p2 hs0 hs2 h1 h3 hpw hp2 => ?_
    walk_at "w"
    refine s_kinds (m := sz) hp2 (by omega) (by omega) fun rows p3 v hr0 hr hk hp3 => ?_
    have nm : ∀ x ∈ fsts rows, nmS x = true := fun x hx => by
      obtain ⟨r, hr', rfl⟩ := List.mem_map.mp hx
      exact (hk r hr').2.1
    have hr3 : ∀ r ∈ rows, r.2.length ≤ 3 := fun r h => (hk r h).1
    have hA : (allP rows cn).length ≤ 64 := allP_le (sz := sz) hr hpw
    have hA0 : 0 < (allP rows cn).length := by
      unfold allP
      rw [combos_rep, fsts_len]
      exact Nat.pow_pos hr0
    have lr : rows.length ≤ 20 := by omega
    walk_at "w"
    refine w_lft (mkH_ok (rowsOf_map rows) v lr) ?_
    walk_at "w"
    refine s_lups v (by omega) hr3 ?_
    walk_at "w"
    refine s_lallp lr h1 h3 ?_
    walk_at "w"
    refine w_rng (n := 12) (by omega) ?_
    refine fr_list _ (List.range 12) (fun dn ρ => ∃ p s9 s10, Pot p ∧ ρ = [.val (.flst (ns.map D.int)), .val (.int j), .own p, .val (.int sz), .val (.int cn), .val (.lst (rows.map rowD)), .val (hierD z.c_Hierarchy rows), .val (upsD rows), .val (ptsT (allP rows cn)), s9, s10, .un])
      ⟨_, _, _, hp3, rfl⟩ (fun dn jj td ρ e h => ?_) fun ρ h => ?_
    · obtain ⟨p4, s9, s10, hp4, rfl⟩ := h
      refine ⟨_, rfl, ?_⟩
      walk_at "w"
      refine w_lc ?_
      walk_at "w"
      refine s_drawN (n := 7) hp4 (by omega) (by omega) fun y p5 hy hp5 => ?_
      walk_at "w"
      obtain ⟨len, e1, hlen⟩ : ∃ len : Nat, ([.int 1, .int 2, .int 2, .int 2, .int 3, .int 4, .int 8] : List D)[y]? = some (.int len) ∧ (len = 1 ∨ len = 2 ∨ len = 3 ∨ len = 4 ∨ len = 8) := by
        match y, hy with
        | 0, _ => exact ⟨1, rfl, by decide⟩
        | 1, _ => exact ⟨2, rfl, by decide⟩
        | 2, _ => exact ⟨2, rfl, by decide⟩
        | 3, _ => exact ⟨2, rfl, by decide⟩
        | 4, _ => exact ⟨3, rfl, by decide⟩
        | 5, _ => exact ⟨4, rfl, by decide⟩
        | 6, _ => exact ⟨8, rfl, by decide⟩
      refine w_ixL e1 ?_
      refine w_rng (by omega) ?_
      refine lc_list _ (List.range len) (by rw [List.length_range]; omega) (fun dn acc ρ => ∃ (p : D) (cs : List Pt), Pot p ∧ acc = cs.map ptT ∧ cs.length = dn.length ∧ (∀ c ∈ cs, c ∈ allP rows cn) ∧ ρ = [.val (.flst (ns.map D.int)), .val (.int j), .own p, .val (.int sz), .val (.int cn), .val (.lst (rows.map rowD)), .val (hierD z.c_Hierarchy rows), .val (upsD rows), .val (ptsT (allP rows cn)), .val (.int jj), s10, .un])
        ⟨p5, [], hp5, rfl, rfl, fun c h => (nomatch h), rfl⟩ (fun dn i td acc ρ e h => ?_) fun acc ρ h => ?_
      · obtain ⟨p6, cs, hp6, rfl, hcl, hcs, rfl⟩ := h
        refine ⟨_, rfl, ?_⟩
        walk_at "w"
        refine s_drawN hp6 (by rw [List.length_map]; exact hA0) (by rw [List.length_map]; omega) fun x2 p7 hx2 hp7 => ?_
        rw [List.length_map] at hx2
        walk_at "w"
        refine w_ixL (d := ptT (allP rows cn)[x2]) (by rw [List.getElem?_map, List.getElem?_eq_getElem hx2]; rfl) ?_
        refine ⟨p7, cs ++ [(allP rows cn)[x2]], hp7, by rw [List.map_append]; rfl, by simp [hcl], fun c hc => ?_, rfl⟩
        rcases List.mem_append.mp hc with h | h
        · exact hcs c h
        · rw [List.mem_singleton.mp h]; exact List.getElem_mem _
      · obtain ⟨p6, cs, hp6, rfl, hcl, hcs, rfl⟩ := h
        rw [List.length_range] at hcl
        walk_at "w"
        refine s_drawN (n := 6) hp6 (by omega) (by omega) fun w p7 hw hp7 => ?_
        walk_at "w"
        have ok : ∀ c ∈ cs, PtOk rows cn c := fun c hc => mem_allP.mp (hcs c hc)
        refine W.mono (Q := fun r ρ' => ∃ (ds : List Pt) (t10 : Slot), r = .val (ptsT ds) ∧ (ds.length = 1 ∨ ds.length = 2 ∨ ds.length = 3 ∨ ds.length = 4 ∨ ds.length = 8) ∧ (∀ q ∈ ds, PtOk rows cn q) ∧ ρ' = [.val (.flst (ns.map D.int)), .val (.int j), .own p7, .val (.int sz), .val (.int cn), .val (.lst (rows.map rowD)), .val (hierD z.c_Hierarchy rows), .val (upsD rows), .val (ptsT (allP rows cn)), .val (.int jj), t10, .un]) ?_ (fun r ρ' h => ?_) fun _ _ _ _ h => h
        · refine w_ifB (fun _ => ?_) fun _ => ?_
          · walk_at "w"
            have c1 : Pu.cutD (cs.map ptT) none (some 1) = (cs.take 1).map ptT := by
              have := cut_takeD (xs := cs.map ptT) (k := 1)
              rw [List.map_take]; exact this
            have c2 : Pu.cutD (cs.map ptT) (some 2) none = (cs.drop 2).map ptT := by
              have := cut_dropD (xs := cs.map ptT) (k := 2)
              rw [List.map_drop]; exact this
            have hlen2 : cs.length = 1 ∨ cs.length = 2 ∨ cs.length = 3 ∨ cs.length = 4 ∨ cs.length = 8 := by omega
            have em2 : opMul (.lst ((cs.take 1).map ptT)) (.int 2) = some (.lst ((cs.take 1 ++ cs.take 1).map ptT)) := by
              have e := mul_of (opRep_of (xs := (cs.take 1).map ptT) (k := 2) ⟨by decide, by decide, le_line (by
                rw [List.length_map, List.length_take]
                show min 1 cs.length * 2 ≤ _
                omega)⟩)
              rw [e]
              congr 2
              show (List.replicate 2 ((cs.take 1).map ptT)).flatten = _
              simp [List.replicate_succ, List.map_append]
            rw [c1]
            refine w_lft em2 ?_
            walk_at "w"
            rw [c2]
            refine w_lft (add_lst (by simp; omega)) ?_
            walk_at "w"
            refine ⟨cs.take 1 ++ cs.take 1 ++ cs.drop 2, _, by rw [← List.map_append], ?_, fun q hq => ?_, rfl⟩
            · rw [List.length_append, List.length_append, List.length_take, List.length_drop]
              omega
            · rcases List.mem_append.mp hq with hq | hq
              · rcases List.mem_append.mp hq with hq | hq
                · exact ok q (List.mem_of_mem_take hq)
                · exact ok q (List.mem_of_mem_take hq)
              · exact ok q (List.mem_of_mem_drop hq)
          · walk_at "w"
            exact ⟨cs, _, rfl, by omega, ok, rfl⟩
        · obtain ⟨ds, t10, rfl, dlen, dok, rfl⟩ := h
          obtain ⟨q0, qt, rfl⟩ : ∃ q0 qt, ds = q0 :: qt := by
            cases ds with
            | nil => simp at dlen
            | cons a b => exact ⟨a, b, rfl⟩
          walk_at "w"
          refine s_lright v nm lr dok h1 h3 dlen (by omega) ?_
          walk_at "w"
          refine w_ifB (fun c => (nomatch c)) fun _ => ?_
          walk_at "w"
          refine s_flat v nm lr dok h1 h3 dlen ?_
          walk_at "w"
          refine s_ifB (fun c => (nomatch c)) fun _ => ?_
          walk_at "w"
          refine s_lright v nm lr dok h1 h3 dlen (by omega) ?_
          walk_at "w"
          refine s_ifB (fun c => (nomatch c)) fun _ => ?_
          walk_at "w"
          exact ⟨p7, _, _, hp7, rfl⟩
    · obtain ⟨p4, s9, s10, hp4, rfl⟩ := h
      walk_at "w"
      exact ⟨_, _, _, _, _, _, _, _, _, _, rfl⟩
  · obtain ⟨s1, s2, s3, s4, s5, s6, s7, s8, s9, s10, rfl⟩ := h
    walk_at "w"
    exact k
end
end Fk
/-! From the law's function on trees to the law's promise. -/
namespace Pu
open PySem PySem.Spec PyProof.Rows L2 Kv
def spLaw (K : PySem.W.Frag) : Sp := fun vs H Q _ => ∃ (a : Addr) (ns : List Int), vs = [.ref a] ∧ Only H ∧ SqL K H a (ns.map V.int) ∧ ns.length ≤ 63 ∧ ∀ H', Q (.bl true) H'
theorem ints_rep {K : PySem.W.Frag} {ok : Addr → Prop} {H : Hp} : ∀ ns : List Int, Reps K ok H (ns.map V.int) (ns.map D.int)
  | [] => .nil
  | n :: ns => .cons (.int n) (ints_rep ns)
theorem lawG {P' : Program} {w : World} {K : PySem.W.Frag} {mg : Str → Option Value} {base : Heap} {k : Nat} {f : Addr} {fd : FuncData} {x : Str} {F : P R} (G : FnG P' w K mg base (L2.CX P' w) k f fd [x] (spP K [] 1 F))
    (h : ∀ ns : List Int, ns.length ≤ 63 → W F [.val (.flst (ns.map D.int))] (fun r _ => r = .val (.bl true)) NX) : FnG P' w K mg base CX0 k f fd [x] (spLaw K) := by
  refine ⟨fun vs H Q E hs => ?_, fun A fr s H ar us vs Q E hg hr e0 hb rv hs => ?_⟩
  · obtain ⟨a, ns, rfl, _⟩ := hs
    rfl
  · obtain ⟨a, ns, rfl, on, sq, hl, q⟩ := hs
    refine codeAny_mono (G.goes A fr s H ar us [.ref a] Q (fun _ _ _ => False) hg hr e0 hb rv ?_) fun r s' hr' => ?_
    · refine ⟨fun _ => True, [.val (.flst (ns.map D.int))], rfl, ?_, ?_⟩
      · have fz : FzL K H a (ns.map V.int) := by
          rcases sq with (h1 | h1) | h1
          · rcases on a with z | ⟨o, xs, z⟩
            · rw [z] at h1; cases h1
            · rw [z] at h1; cases h1
          · exact .inl h1
          · exact .inr h1
        refine ⟨rfl, fun _ _ => trivial, fun _ h => h, fun i d hi => ?_, fun i d hi => ?_, fun i j d e q hi => ?_, TbOk.nil⟩
        · match i, hi with
          | 0, hi => cases hi; exact ⟨_, rfl, .lstF fz (ints_rep ns)⟩
          | i + 1, hi => cases hi
        · match i, hi with
          | 0, hi => cases hi
          | i + 1, hi => cases hi
        · match i, hi with
          | 0, hi => cases hi
          | i + 1, hi => cases hi
      · have hw := h ns hl
        unfold W at hw
        split at hw
        · exact hw.elim
        · rename_i z
          subst hw
          rw [z]
          intro v H' ok' _ _ r1
          have r1 : Rep K ok' H' v (.bl true) := r1
          cases r1
          exact q H'
        · exact hw.elim
    · unfold CR at hr' ⊢
      cases r with
      | ok fl =>
        cases fl with
        | ret u => exact hr'
        | _ => exact hr'.elim
      | error e =>
        obtain ⟨_, _, _, _, _, _, _, _, _, _, _, _, z⟩ := hr'
        exact z.elim
end Pu
/-! From the law's function on trees to the law's promise, when tables of code objects are tracked. -/
namespace Pu
open PySem PySem.Spec PyProof.Rows L2 Kv
end Pu
namespace Lw
open PySem PySem.Spec PyProof.Rows L2 Kv Pu Fk
theorem all_mk {l : PySem.W.OpenLaw} {w : World} {K : PySem.W.Frag} {h : Heap} {mg : Str → Option Value} {fa : Addr} (X : K.In h) (G : h.Ns mainGlobals mg) (hfa : mg "law" = some (.ref fa))
    {C_Hierarchy : Addr} (a_Hierarchy : PySem.W.nsIn K mainGlobals "Hierarchy" = some (some (.ref C_Hierarchy)))
     (pg_Hierarchy : PySem.W.plainGet K C_Hierarchy Str.empty = true)
     (hd_Hierarchy : PySem.W.hasDictIn K C_Hierarchy = true)
     (po_Hierarchy : PySem.W.plainOver K C_Hierarchy = true)
     (sa_Hierarchy : PySem.W.findIn K (.ref C_Hierarchy) "__setattr__" = some (some (.builtin "object.__setattr__")))
     (na_Hierarchy_rows : PySem.W.findIn K (.ref C_Hierarchy) "rows" = some none)
     (na_Hierarchy_places : PySem.W.findIn K (.ref C_Hierarchy) "places" = some none)
     (na_Hierarchy_above : PySem.W.findIn K (.ref C_Hierarchy) "above" = some none)
    {h_init : Addr} (m_init : PySem.W.findIn K (.ref C_Hierarchy) "__init__" = some (some (.ref h_init)))
     (i_init : PySem.W.isFn K (.ref h_init) = true)
    {TD T0 : Addr} {oc_init kV_init dc_init pm_init cd_init ct_init : Value} {od_init an_init : Option Addr} {sl_init : Array (Option Value)} (l_init : K.lookup h_init = some ⟨oc_init, od_init, .func (PySem.W.fnOf "__init__" "Hierarchy.__init__" (defArgs Lw.m_init) (defBody Lw.m_init) (defScope Lw.m_init)
      (.ref TD) kV_init dc_init pm_init an_init cd_init ct_init), sl_init⟩)
     (c_init_c : PySem.W.codeIn K cd_init "Hierarchy.__init__" = true)
     (kp_init : PySem.W.keepIn K (.ref h_init) = true)
    {ocT : Value} {odT odU : Option Addr} {nT nU : Nat} {slT slU : Array (Option Value)} {uL : Tok} (lT : K.lookup TD = some ⟨ocT, odT, .seq #[.ref T0] nT, slT⟩)
     (lU : K.lookup T0 = some ⟨.type "tuple", odU, .seq #[] nU, slU⟩)
     (mk : PySem.W.makesIn K C_Hierarchy = true)
     (kc : PySem.W.keepIn K (.ref C_Hierarchy) = true)
     (rd : PySem.W.readsIn K C_Hierarchy (.type "type") = true)
     (ga : PySem.W.specialIn K (.ref C_Hierarchy) "__getattribute__" = some (some (.builtin "type.__getattribute__")))
     (cl : PySem.W.findCls K (.ref C_Hierarchy) (.type "type") "LIMIT" = some (.val (.int 20 uL)))
    {f_is_name : Addr} (a_is_name : PySem.W.nsIn K mainGlobals "is_name" = some (some (.ref f_is_name)))
    {oc_is_name kV_is_name dc_is_name pm_is_name cd_is_name ct_is_name : Value} {od_is_name an_is_name : Option Addr} {sl_is_name : Array (Option Value)} (l_is_name : K.lookup f_is_name = some ⟨oc_is_name, od_is_name, .func (PySem.W.fnOf "is_name" "is_name" (defArgs Lw.sIsName) (defBody Lw.sIsName) (defScope Lw.sIsName)
      .none kV_is_name dc_is_name pm_is_name an_is_name cd_is_name ct_is_name), sl_is_name⟩)
     (c_is_name_c : PySem.W.codeIn K cd_is_name "is_name" = true)
     (kp_is_name : PySem.W.keepIn K (.ref f_is_name) = true)
    {f_are_superclasses : Addr} (a_are_superclasses : PySem.W.nsIn K mainGlobals "are_superclasses" = some (some (.ref f_are_superclasses)))
    {oc_are_superclasses kV_are_superclasses dc_are_superclasses pm_are_superclasses cd_are_superclasses ct_are_superclasses : Value} {od_are_superclasses an_are_superclasses : Option Addr} {sl_are_superclasses : Array (Option Value)} (l_are_superclasses : K.lookup f_are_superclasses = some ⟨oc_are_superclasses, od_are_superclasses, .func (PySem.W.fnOf "are_superclasses" "are_superclasses" (defArgs Lw.sAre) (defBody Lw.sAre) (defScope Lw.sAre)
      .none kV_are_superclasses dc_are_superclasses pm_are_superclasses an_are_superclasses cd_are_superclasses ct_are_superclasses), sl_are_superclasses⟩)
     (c_are_superclasses_c : PySem.W.codeIn K cd_are_superclasses "are_superclasses" = true)
     (kp_are_superclasses : PySem.W.keepIn K (.ref f_are_superclasses) = true)
    {f_row_problem : Addr} (a_row_problem : PySem.W.nsIn K mainGlobals "row_problem" = some (some (.ref f_row_problem)))
    {oc_row_problem kV_row_problem dc_row_problem pm_row_problem cd_row_problem ct_row_problem : Value} {od_row_problem an_row_problem : Option Addr} {sl_row_problem : Array (Option Value)} (l_row_problem : K.lookup f_row_problem = some ⟨oc_row_problem, od_row_problem, .func (PySem.W.fnOf "row_problem" "row_problem" (defArgs Lw.sProb) (defBody Lw.sProb) (defScope Lw.sProb)
      .none kV_row_problem dc_row_problem pm_row_problem an_row_problem cd_row_problem ct_row_problem), sl_row_problem⟩)
     (c_row_problem_c : PySem.W.codeIn K cd_row_problem "row_problem" = true)
     (kp_row_problem : PySem.W.keepIn K (.ref f_row_problem) = true)
    {f_ancestors_of : Addr} (a_ancestors_of : PySem.W.nsIn K mainGlobals "ancestors_of" = some (some (.ref f_ancestors_of)))
    {oc_ancestors_of kV_ancestors_of dc_ancestors_of pm_ancestors_of cd_ancestors_of ct_ancestors_of : Value} {od_ancestors_of an_ancestors_of : Option Addr} {sl_ancestors_of : Array (Option Value)} (l_ancestors_of : K.lookup f_ancestors_of = some ⟨oc_ancestors_of, od_ancestors_of, .func (PySem.W.fnOf "ancestors_of" "ancestors_of" (defArgs Lw.sAnc) (defBody Lw.sAnc) (defScope Lw.sAnc)
      .none kV_ancestors_of dc_ancestors_of pm_ancestors_of an_ancestors_of cd_ancestors_of ct_ancestors_of), sl_ancestors_of⟩)
     (c_ancestors_of_c : PySem.W.codeIn K cd_ancestors_of "ancestors_of" = true)
     (kp_ancestors_of : PySem.W.keepIn K (.ref f_ancestors_of) = true)
    {f__law_pot : Addr} (a__law_pot : PySem.W.nsIn K mainGlobals "_law_pot" = some (some (.ref f__law_pot)))
    {oc__law_pot kV__law_pot dc__law_pot pm__law_pot cd__law_pot ct__law_pot : Value} {od__law_pot an__law_pot : Option Addr} {sl__law_pot : Array (Option Value)} (l__law_pot : K.lookup f__law_pot = some ⟨oc__law_pot, od__law_pot, .func (PySem.W.fnOf "_law_pot" "_law_pot" (defArgs s__law_pot) (defBody s__law_pot) (defScope s__law_pot)
      .none kV__law_pot dc__law_pot pm__law_pot an__law_pot cd__law_pot ct__law_pot), sl__law_pot⟩)
     (c__law_pot_c : PySem.W.codeIn K cd__law_pot "_law_pot" = true)
     (kp__law_pot : PySem.W.keepIn K (.ref f__law_pot) = true)
    {f__law_draw : Addr} (a__law_draw : PySem.W.nsIn K mainGlobals "_law_draw" = some (some (.ref f__law_draw)))
    {oc__law_draw kV__law_draw dc__law_draw pm__law_draw cd__law_draw ct__law_draw : Value} {od__law_draw an__law_draw : Option Addr} {sl__law_draw : Array (Option Value)} (l__law_draw : K.lookup f__law_draw = some ⟨oc__law_draw, od__law_draw, .func (PySem.W.fnOf "_law_draw" "_law_draw" (defArgs s__law_draw) (defBody s__law_draw) (defScope s__law_draw)
      .none kV__law_draw dc__law_draw pm__law_draw an__law_draw cd__law_draw ct__law_draw), sl__law_draw⟩)
     (c__law_draw_c : PySem.W.codeIn K cd__law_draw "_law_draw" = true)
     (kp__law_draw : PySem.W.keepIn K (.ref f__law_draw) = true)
    {f__law_sizes : Addr} (a__law_sizes : PySem.W.nsIn K mainGlobals "_law_sizes" = some (some (.ref f__law_sizes)))
    {oc__law_sizes kV__law_sizes dc__law_sizes pm__law_sizes cd__law_sizes ct__law_sizes : Value} {od__law_sizes an__law_sizes : Option Addr} {sl__law_sizes : Array (Option Value)} (l__law_sizes : K.lookup f__law_sizes = some ⟨oc__law_sizes, od__law_sizes, .func (PySem.W.fnOf "_law_sizes" "_law_sizes" (defArgs s__law_sizes) (defBody s__law_sizes) (defScope s__law_sizes)
      .none kV__law_sizes dc__law_sizes pm__law_sizes an__law_sizes cd__law_sizes ct__law_sizes), sl__law_sizes⟩)
     (c__law_sizes_c : PySem.W.codeIn K cd__law_sizes "_law_sizes" = true)
     (kp__law_sizes : PySem.W.keepIn K (.ref f__law_sizes) = true)
    {f__law_name : Addr} (a__law_name : PySem.W.nsIn K mainGlobals "_law_name" = some (some (.ref f__law_name)))
    {oc__law_name kV__law_name dc__law_name pm__law_name cd__law_name ct__law_name : Value} {od__law_name an__law_name : Option Addr} {sl__law_name : Array (Option Value)} (l__law_name : K.lookup f__law_name = some ⟨oc__law_name, od__law_name, .func (PySem.W.fnOf "_law_name" "_law_name" (defArgs s__law_name) (defBody s__law_name) (defScope s__law_name)
      .none kV__law_name dc__law_name pm__law_name an__law_name cd__law_name ct__law_name), sl__law_name⟩)
     (c__law_name_c : PySem.W.codeIn K cd__law_name "_law_name" = true)
     (kp__law_name : PySem.W.keepIn K (.ref f__law_name) = true)
    {f__law_names : Addr} (a__law_names : PySem.W.nsIn K mainGlobals "_law_names" = some (some (.ref f__law_names)))
    {oc__law_names kV__law_names dc__law_names pm__law_names cd__law_names ct__law_names : Value} {od__law_names an__law_names : Option Addr} {sl__law_names : Array (Option Value)} (l__law_names : K.lookup f__law_names = some ⟨oc__law_names, od__law_names, .func (PySem.W.fnOf "_law_names" "_law_names" (defArgs s__law_names) (defBody s__law_names) (defScope s__law_names)
      .none kV__law_names dc__law_names pm__law_names an__law_names cd__law_names ct__law_names), sl__law_names⟩)
     (c__law_names_c : PySem.W.codeIn K cd__law_names "_law_names" = true)
     (kp__law_names : PySem.W.keepIn K (.ref f__law_names) = true)
    {f__law_mixed : Addr} (a__law_mixed : PySem.W.nsIn K mainGlobals "_law_mixed" = some (some (.ref f__law_mixed)))
    {oc__law_mixed kV__law_mixed dc__law_mixed pm__law_mixed cd__law_mixed ct__law_mixed : Value} {od__law_mixed an__law_mixed : Option Addr} {sl__law_mixed : Array (Option Value)} (l__law_mixed : K.lookup f__law_mixed = some ⟨oc__law_mixed, od__law_mixed, .func (PySem.W.fnOf "_law_mixed" "_law_mixed" (defArgs s__law_mixed) (defBody s__law_mixed) (defScope s__law_mixed)
      .none kV__law_mixed dc__law_mixed pm__law_mixed an__law_mixed cd__law_mixed ct__law_mixed), sl__law_mixed⟩)
     (c__law_mixed_c : PySem.W.codeIn K cd__law_mixed "_law_mixed" = true)
     (kp__law_mixed : PySem.W.keepIn K (.ref f__law_mixed) = true)
    {f__law_kinds : Addr} (a__law_kinds : PySem.W.nsIn K mainGlobals "_law_kinds" = some (some (.ref f__law_kinds)))
    {oc__law_kinds kV__law_kinds dc__law_kinds pm__law_kinds cd__law_kinds ct__law_kinds : Value} {od__law_kinds an__law_kinds : Option Addr} {sl__law_kinds : Array (Option Value)} (l__law_kinds : K.lookup f__law_kinds = some ⟨oc__law_kinds, od__law_kinds, .func (PySem.W.fnOf "_law_kinds" "_law_kinds" (defArgs s__law_kinds) (defBody s__law_kinds) (defScope s__law_kinds)
      .none kV__law_kinds dc__law_kinds pm__law_kinds an__law_kinds cd__law_kinds ct__law_kinds), sl__law_kinds⟩)
     (c__law_kinds_c : PySem.W.codeIn K cd__law_kinds "_law_kinds" = true)
     (kp__law_kinds : PySem.W.keepIn K (.ref f__law_kinds) = true)
    {f__law_all_points : Addr} (a__law_all_points : PySem.W.nsIn K mainGlobals "_law_all_points" = some (some (.ref f__law_all_points)))
    {oc__law_all_points kV__law_all_points dc__law_all_points pm__law_all_points cd__law_all_points ct__law_all_points : Value} {od__law_all_points an__law_all_points : Option Addr} {sl__law_all_points : Array (Option Value)} (l__law_all_points : K.lookup f__law_all_points = some ⟨oc__law_all_points, od__law_all_points, .func (PySem.W.fnOf "_law_all_points" "_law_all_points" (defArgs s__law_all_points) (defBody s__law_all_points) (defScope s__law_all_points)
      .none kV__law_all_points dc__law_all_points pm__law_all_points an__law_all_points cd__law_all_points ct__law_all_points), sl__law_all_points⟩)
     (c__law_all_points_c : PySem.W.codeIn K cd__law_all_points "_law_all_points" = true)
     (kp__law_all_points : PySem.W.keepIn K (.ref f__law_all_points) = true)
    {f__law_above : Addr} (a__law_above : PySem.W.nsIn K mainGlobals "_law_above" = some (some (.ref f__law_above)))
    {oc__law_above kV__law_above dc__law_above pm__law_above cd__law_above ct__law_above : Value} {od__law_above an__law_above : Option Addr} {sl__law_above : Array (Option Value)} (l__law_above : K.lookup f__law_above = some ⟨oc__law_above, od__law_above, .func (PySem.W.fnOf "_law_above" "_law_above" (defArgs s__law_above) (defBody s__law_above) (defScope s__law_above)
      .none kV__law_above dc__law_above pm__law_above an__law_above cd__law_above ct__law_above), sl__law_above⟩)
     (c__law_above_c : PySem.W.codeIn K cd__law_above "_law_above" = true)
     (kp__law_above : PySem.W.keepIn K (.ref f__law_above) = true)
    {f__law_ups : Addr} (a__law_ups : PySem.W.nsIn K mainGlobals "_law_ups" = some (some (.ref f__law_ups)))
    {oc__law_ups kV__law_ups dc__law_ups pm__law_ups cd__law_ups ct__law_ups : Value} {od__law_ups an__law_ups : Option Addr} {sl__law_ups : Array (Option Value)} (l__law_ups : K.lookup f__law_ups = some ⟨oc__law_ups, od__law_ups, .func (PySem.W.fnOf "_law_ups" "_law_ups" (defArgs s__law_ups) (defBody s__law_ups) (defScope s__law_ups)
      .none kV__law_ups dc__law_ups pm__law_ups an__law_ups cd__law_ups ct__law_ups), sl__law_ups⟩)
     (c__law_ups_c : PySem.W.codeIn K cd__law_ups "_law_ups" = true)
     (kp__law_ups : PySem.W.keepIn K (.ref f__law_ups) = true)
    {f_is_parameter_count : Addr} (a_is_parameter_count : PySem.W.nsIn K mainGlobals "is_parameter_count" = some (some (.ref f_is_parameter_count)))
    {oc_is_parameter_count kV_is_parameter_count dc_is_parameter_count pm_is_parameter_count cd_is_parameter_count ct_is_parameter_count : Value} {od_is_parameter_count an_is_parameter_count : Option Addr} {sl_is_parameter_count : Array (Option Value)} (l_is_parameter_count : K.lookup f_is_parameter_count = some ⟨oc_is_parameter_count, od_is_parameter_count, .func (PySem.W.fnOf "is_parameter_count" "is_parameter_count" (defArgs s_is_parameter_count) (defBody s_is_parameter_count) (defScope s_is_parameter_count)
      .none kV_is_parameter_count dc_is_parameter_count pm_is_parameter_count an_is_parameter_count cd_is_parameter_count ct_is_parameter_count), sl_is_parameter_count⟩)
     (c_is_parameter_count_c : PySem.W.codeIn K cd_is_parameter_count "is_parameter_count" = true)
     (kp_is_parameter_count : PySem.W.keepIn K (.ref f_is_parameter_count) = true)
    {h_Hierarchy_has_class : Addr} (m_Hierarchy_has_class_m : PySem.W.findIn K (.ref C_Hierarchy) "has_class" = some (some (.ref h_Hierarchy_has_class)))
     (i_Hierarchy_has_class : PySem.W.isFn K (.ref h_Hierarchy_has_class) = true)
    {oc_Hierarchy_has_class kV_Hierarchy_has_class dc_Hierarchy_has_class pm_Hierarchy_has_class cd_Hierarchy_has_class ct_Hierarchy_has_class : Value} {od_Hierarchy_has_class an_Hierarchy_has_class : Option Addr} {sl_Hierarchy_has_class : Array (Option Value)} (l_Hierarchy_has_class : K.lookup h_Hierarchy_has_class = some ⟨oc_Hierarchy_has_class, od_Hierarchy_has_class, .func (PySem.W.fnOf "has_class" "Hierarchy.has_class" (defArgs m_Hierarchy_has_class) (defBody m_Hierarchy_has_class) (defScope m_Hierarchy_has_class)
      .none kV_Hierarchy_has_class dc_Hierarchy_has_class pm_Hierarchy_has_class an_Hierarchy_has_class cd_Hierarchy_has_class ct_Hierarchy_has_class), sl_Hierarchy_has_class⟩)
     (c_Hierarchy_has_class_c : PySem.W.codeIn K cd_Hierarchy_has_class "Hierarchy.has_class" = true)
     (kp_Hierarchy_has_class : PySem.W.keepIn K (.ref h_Hierarchy_has_class) = true)
    {f_is_point : Addr} (a_is_point : PySem.W.nsIn K mainGlobals "is_point" = some (some (.ref f_is_point)))
    {oc_is_point kV_is_point dc_is_point pm_is_point cd_is_point ct_is_point : Value} {od_is_point an_is_point : Option Addr} {sl_is_point : Array (Option Value)} (l_is_point : K.lookup f_is_point = some ⟨oc_is_point, od_is_point, .func (PySem.W.fnOf "is_point" "is_point" (defArgs s_is_point) (defBody s_is_point) (defScope s_is_point)
      .none kV_is_point dc_is_point pm_is_point an_is_point cd_is_point ct_is_point), sl_is_point⟩)
     (c_is_point_c : PySem.W.codeIn K cd_is_point "is_point" = true)
     (kp_is_point : PySem.W.keepIn K (.ref f_is_point) = true)
    {f_require_point : Addr} (a_require_point : PySem.W.nsIn K mainGlobals "require_point" = some (some (.ref f_require_point)))
    {oc_require_point kV_require_point dc_require_point pm_require_point cd_require_point ct_require_point : Value} {od_require_point an_require_point : Option Addr} {sl_require_point : Array (Option Value)} (l_require_point : K.lookup f_require_point = some ⟨oc_require_point, od_require_point, .func (PySem.W.fnOf "require_point" "require_point" (defArgs s_require_point) (defBody s_require_point) (defScope s_require_point)
      .none kV_require_point dc_require_point pm_require_point an_require_point cd_require_point ct_require_point), sl_require_point⟩)
     (c_require_point_c : PySem.W.codeIn K cd_require_point "require_point" = true)
     (kp_require_point : PySem.W.keepIn K (.ref f_require_point) = true)
    {f_require_point_like : Addr} (a_require_point_like : PySem.W.nsIn K mainGlobals "require_point_like" = some (some (.ref f_require_point_like)))
    {oc_require_point_like kV_require_point_like dc_require_point_like pm_require_point_like cd_require_point_like ct_require_point_like : Value} {od_require_point_like an_require_point_like : Option Addr} {sl_require_point_like : Array (Option Value)} (l_require_point_like : K.lookup f_require_point_like = some ⟨oc_require_point_like, od_require_point_like, .func (PySem.W.fnOf "require_point_like" "require_point_like" (defArgs s_require_point_like) (defBody s_require_point_like) (defScope s_require_point_like)
      .none kV_require_point_like dc_require_point_like pm_require_point_like an_require_point_like cd_require_point_like ct_require_point_like), sl_require_point_like⟩)
     (c_require_point_like_c : PySem.W.codeIn K cd_require_point_like "require_point_like" = true)
     (kp_require_point_like : PySem.W.keepIn K (.ref f_require_point_like) = true)
    {f_combinations : Addr} (a_combinations : PySem.W.nsIn K mainGlobals "combinations" = some (some (.ref f_combinations)))
    {oc_combinations kV_combinations dc_combinations pm_combinations cd_combinations ct_combinations : Value} {od_combinations an_combinations : Option Addr} {sl_combinations : Array (Option Value)} (l_combinations : K.lookup f_combinations = some ⟨oc_combinations, od_combinations, .func (PySem.W.fnOf "combinations" "combinations" (defArgs s_combinations) (defBody s_combinations) (defScope s_combinations)
      .none kV_combinations dc_combinations pm_combinations an_combinations cd_combinations ct_combinations), sl_combinations⟩)
     (c_combinations_c : PySem.W.codeIn K cd_combinations "combinations" = true)
     (kp_combinations : PySem.W.keepIn K (.ref f_combinations) = true)
    {h_Hierarchy_require_class : Addr} (m_Hierarchy_require_class_m : PySem.W.findIn K (.ref C_Hierarchy) "require_class" = some (some (.ref h_Hierarchy_require_class)))
     (i_Hierarchy_require_class : PySem.W.isFn K (.ref h_Hierarchy_require_class) = true)
    {oc_Hierarchy_require_class kV_Hierarchy_require_class dc_Hierarchy_require_class pm_Hierarchy_require_class cd_Hierarchy_require_class ct_Hierarchy_require_class : Value} {od_Hierarchy_require_class an_Hierarchy_require_class : Option Addr} {sl_Hierarchy_require_class : Array (Option Value)} (l_Hierarchy_require_class : K.lookup h_Hierarchy_require_class = some ⟨oc_Hierarchy_require_class, od_Hierarchy_require_class, .func (PySem.W.fnOf "require_class" "Hierarchy.require_class" (defArgs m_Hierarchy_require_class) (defBody m_Hierarchy_require_class) (defScope m_Hierarchy_require_class)
      .none kV_Hierarchy_require_class dc_Hierarchy_require_class pm_Hierarchy_require_class an_Hierarchy_require_class cd_Hierarchy_require_class ct_Hierarchy_require_class), sl_Hierarchy_require_class⟩)
     (c_Hierarchy_require_class_c : PySem.W.codeIn K cd_Hierarchy_require_class "Hierarchy.require_class" = true)
     (kp_Hierarchy_require_class : PySem.W.keepIn K (.ref h_Hierarchy_require_class) = true)
    {h_Hierarchy_names : Addr} (m_Hierarchy_names_m : PySem.W.findIn K (.ref C_Hierarchy) "names" = some (some (.ref h_Hierarchy_names)))
     (i_Hierarchy_names : PySem.W.isFn K (.ref h_Hierarchy_names) = true)
    {oc_Hierarchy_names kV_Hierarchy_names dc_Hierarchy_names pm_Hierarchy_names cd_Hierarchy_names ct_Hierarchy_names : Value} {od_Hierarchy_names an_Hierarchy_names : Option Addr} {sl_Hierarchy_names : Array (Option Value)} (l_Hierarchy_names : K.lookup h_Hierarchy_names = some ⟨oc_Hierarchy_names, od_Hierarchy_names, .func (PySem.W.fnOf "names" "Hierarchy.names" (defArgs m_Hierarchy_names) (defBody m_Hierarchy_names) (defScope m_Hierarchy_names)
      .none kV_Hierarchy_names dc_Hierarchy_names pm_Hierarchy_names an_Hierarchy_names cd_Hierarchy_names ct_Hierarchy_names), sl_Hierarchy_names⟩)
     (c_Hierarchy_names_c : PySem.W.codeIn K cd_Hierarchy_names "Hierarchy.names" = true)
     (kp_Hierarchy_names : PySem.W.keepIn K (.ref h_Hierarchy_names) = true)
    {h_Hierarchy_highest_common : Addr} (m_Hierarchy_highest_common_m : PySem.W.findIn K (.ref C_Hierarchy) "highest_common" = some (some (.ref h_Hierarchy_highest_common)))
     (i_Hierarchy_highest_common : PySem.W.isFn K (.ref h_Hierarchy_highest_common) = true)
    {oc_Hierarchy_highest_common kV_Hierarchy_highest_common dc_Hierarchy_highest_common pm_Hierarchy_highest_common cd_Hierarchy_highest_common ct_Hierarchy_highest_common : Value} {od_Hierarchy_highest_common an_Hierarchy_highest_common : Option Addr} {sl_Hierarchy_highest_common : Array (Option Value)} (l_Hierarchy_highest_common : K.lookup h_Hierarchy_highest_common = some ⟨oc_Hierarchy_highest_common, od_Hierarchy_highest_common, .func (PySem.W.fnOf "highest_common" "Hierarchy.highest_common" (defArgs m_Hierarchy_highest_common) (defBody m_Hierarchy_highest_common) (defScope m_Hierarchy_highest_common)
      .none kV_Hierarchy_highest_common dc_Hierarchy_highest_common pm_Hierarchy_highest_common an_Hierarchy_highest_common cd_Hierarchy_highest_common ct_Hierarchy_highest_common), sl_Hierarchy_highest_common⟩)
     (c_Hierarchy_highest_common_c : PySem.W.codeIn K cd_Hierarchy_highest_common "Hierarchy.highest_common" = true)
     (kp_Hierarchy_highest_common : PySem.W.keepIn K (.ref h_Hierarchy_highest_common) = true)
    {f_highest_common_points : Addr} (a_highest_common_points : PySem.W.nsIn K mainGlobals "highest_common_points" = some (some (.ref f_highest_common_points)))
    {oc_highest_common_points kV_highest_common_points dc_highest_common_points pm_highest_common_points cd_highest_common_points ct_highest_common_points : Value} {od_highest_common_points an_highest_common_points : Option Addr} {sl_highest_common_points : Array (Option Value)} (l_highest_common_points : K.lookup f_highest_common_points = some ⟨oc_highest_common_points, od_highest_common_points, .func (PySem.W.fnOf "highest_common_points" "highest_common_points" (defArgs s_highest_common_points) (defBody s_highest_common_points) (defScope s_highest_common_points)
      .none kV_highest_common_points dc_highest_common_points pm_highest_common_points an_highest_common_points cd_highest_common_points ct_highest_common_points), sl_highest_common_points⟩)
     (c_highest_common_points_c : PySem.W.codeIn K cd_highest_common_points "highest_common_points" = true)
     (kp_highest_common_points : PySem.W.keepIn K (.ref f_highest_common_points) = true)
    {f__law_told : Addr} (a__law_told : PySem.W.nsIn K mainGlobals "_law_told" = some (some (.ref f__law_told)))
    {oc__law_told kV__law_told dc__law_told pm__law_told cd__law_told ct__law_told : Value} {od__law_told an__law_told : Option Addr} {sl__law_told : Array (Option Value)} (l__law_told : K.lookup f__law_told = some ⟨oc__law_told, od__law_told, .func (PySem.W.fnOf "_law_told" "_law_told" (defArgs s__law_told) (defBody s__law_told) (defScope s__law_told)
      .none kV__law_told dc__law_told pm__law_told an__law_told cd__law_told ct__law_told), sl__law_told⟩)
     (c__law_told_c : PySem.W.codeIn K cd__law_told "_law_told" = true)
     (kp__law_told : PySem.W.keepIn K (.ref f__law_told) = true)
    {f__law_flat_right : Addr} (a__law_flat_right : PySem.W.nsIn K mainGlobals "_law_flat_right" = some (some (.ref f__law_flat_right)))
    {oc__law_flat_right kV__law_flat_right dc__law_flat_right pm__law_flat_right cd__law_flat_right ct__law_flat_right : Value} {od__law_flat_right an__law_flat_right : Option Addr} {sl__law_flat_right : Array (Option Value)} (l__law_flat_right : K.lookup f__law_flat_right = some ⟨oc__law_flat_right, od__law_flat_right, .func (PySem.W.fnOf "_law_flat_right" "_law_flat_right" (defArgs s__law_flat_right) (defBody s__law_flat_right) (defScope s__law_flat_right)
      .none kV__law_flat_right dc__law_flat_right pm__law_flat_right an__law_flat_right cd__law_flat_right ct__law_flat_right), sl__law_flat_right⟩)
     (c__law_flat_right_c : PySem.W.codeIn K cd__law_flat_right "_law_flat_right" = true)
     (kp__law_flat_right : PySem.W.keepIn K (.ref f__law_flat_right) = true)
    {f__law_is_under : Addr} (a__law_is_under : PySem.W.nsIn K mainGlobals "_law_is_under" = some (some (.ref f__law_is_under)))
    {oc__law_is_under kV__law_is_under dc__law_is_under pm__law_is_under cd__law_is_under ct__law_is_under : Value} {od__law_is_under an__law_is_under : Option Addr} {sl__law_is_under : Array (Option Value)} (l__law_is_under : K.lookup f__law_is_under = some ⟨oc__law_is_under, od__law_is_under, .func (PySem.W.fnOf "_law_is_under" "_law_is_under" (defArgs s__law_is_under) (defBody s__law_is_under) (defScope s__law_is_under)
      .none kV__law_is_under dc__law_is_under pm__law_is_under an__law_is_under cd__law_is_under ct__law_is_under), sl__law_is_under⟩)
     (c__law_is_under_c : PySem.W.codeIn K cd__law_is_under "_law_is_under" = true)
     (kp__law_is_under : PySem.W.keepIn K (.ref f__law_is_under) = true)
    {f__law_highest : Addr} (a__law_highest : PySem.W.nsIn K mainGlobals "_law_highest" = some (some (.ref f__law_highest)))
    {oc__law_highest kV__law_highest dc__law_highest pm__law_highest cd__law_highest ct__law_highest : Value} {od__law_highest an__law_highest : Option Addr} {sl__law_highest : Array (Option Value)} (l__law_highest : K.lookup f__law_highest = some ⟨oc__law_highest, od__law_highest, .func (PySem.W.fnOf "_law_highest" "_law_highest" (defArgs s__law_highest) (defBody s__law_highest) (defScope s__law_highest)
      .none kV__law_highest dc__law_highest pm__law_highest an__law_highest cd__law_highest ct__law_highest), sl__law_highest⟩)
     (c__law_highest_c : PySem.W.codeIn K cd__law_highest "_law_highest" = true)
     (kp__law_highest : PySem.W.keepIn K (.ref f__law_highest) = true)
    {f__law_right : Addr} (a__law_right : PySem.W.nsIn K mainGlobals "_law_right" = some (some (.ref f__law_right)))
    {oc__law_right kV__law_right dc__law_right pm__law_right cd__law_right ct__law_right : Value} {od__law_right an__law_right : Option Addr} {sl__law_right : Array (Option Value)} (l__law_right : K.lookup f__law_right = some ⟨oc__law_right, od__law_right, .func (PySem.W.fnOf "_law_right" "_law_right" (defArgs s__law_right) (defBody s__law_right) (defScope s__law_right)
      .none kV__law_right dc__law_right pm__law_right an__law_right cd__law_right ct__law_right), sl__law_right⟩)
     (c__law_right_c : PySem.W.codeIn K cd__law_right "_law_right" = true)
     (kp__law_right : PySem.W.keepIn K (.ref f__law_right) = true)
    {f_law : Addr} (a_law : PySem.W.nsIn K mainGlobals "law" = some (some (.ref f_law)))
    {oc_law kV_law dc_law pm_law cd_law ct_law : Value} {od_law an_law : Option Addr} {sl_law : Array (Option Value)} (l_law : K.lookup f_law = some ⟨oc_law, od_law, .func (PySem.W.fnOf "law" "law" (defArgs s_law) (defBody s_law) (defScope s_law)
      .none kV_law dc_law pm_law an_law cd_law ct_law), sl_law⟩)
     (c_law_c : PySem.W.codeIn K cd_law "law" = true)
     (kp_law : PySem.W.keepIn K (.ref f_law) = true)
     (gf_Hierarchy_highest_common : PySem.W.specialIn K (.ref h_Hierarchy_highest_common) "__get__" = some (some (.builtin "function.__get__")))
     (tk_Hierarchy_highest_common : PySem.W.takesIn K (.ref h_Hierarchy_highest_common) = some false)
     (fi_Hierarchy_highest_common : PySem.W.fnIn K h_Hierarchy_highest_common = true)
     (z_abs : PySem.W.nsIn K mainGlobals "abs" = some none)
     (z_all : PySem.W.nsIn K mainGlobals "all" = some none)
     (z_any : PySem.W.nsIn K mainGlobals "any" = some none)
     (z_bool : PySem.W.nsIn K mainGlobals "bool" = some none)
     (z_dict : PySem.W.nsIn K mainGlobals "dict" = some none)
     (z_divmod : PySem.W.nsIn K mainGlobals "divmod" = some none)
     (z_enumerate : PySem.W.nsIn K mainGlobals "enumerate" = some none)
     (z_int : PySem.W.nsIn K mainGlobals "int" = some none)
     (z_isinstance : PySem.W.nsIn K mainGlobals "isinstance" = some none)
     (z_len : PySem.W.nsIn K mainGlobals "len" = some none)
     (z_list : PySem.W.nsIn K mainGlobals "list" = some none)
     (z_max : PySem.W.nsIn K mainGlobals "max" = some none)
     (z_min : PySem.W.nsIn K mainGlobals "min" = some none)
     (z_range : PySem.W.nsIn K mainGlobals "range" = some none)
     (z_repr : PySem.W.nsIn K mainGlobals "repr" = some none)
     (z_set : PySem.W.nsIn K mainGlobals "set" = some none)
     (z_str : PySem.W.nsIn K mainGlobals "str" = some none)
     (z_tuple : PySem.W.nsIn K mainGlobals "tuple" = some none)
     (z_zip : PySem.W.nsIn K mainGlobals "zip" = some none)
    {ut_LETTERS : Tok} (e_LETTERS : PySem.W.nsIn K mainGlobals "LETTERS" = some (some (.str "abcdefghijklmnopqrstuvwxyz" ut_LETTERS)))
    {ut_LONGEST_NAME : Tok} (e_LONGEST_NAME : PySem.W.nsIn K mainGlobals "LONGEST_NAME" = some (some (.int 8 ut_LONGEST_NAME)))
    {ut_MAX_PARAMETERS : Tok} (e_MAX_PARAMETERS : PySem.W.nsIn K mainGlobals "MAX_PARAMETERS" = some (some (.int 3 ut_MAX_PARAMETERS)))
    : ∃ fd : FuncData, (∀ (s : Shared) (v : Value), BindsTo s fd ⟨[v], []⟩ [("_law_script", v)]) ∧
      ∀ base : Heap, K.In base → base.Ns mainGlobals mg → sysModules < base.objs.size →
        FnG l.prog w K mg base CX0 8 fa fd ["_law_script"] (Pu.spLaw K) := by
  have e := hfa.symm.trans (PySem.W.mg_of X G a_law)
  cases e
  have k_Hierarchy : Cls K C_Hierarchy := ⟨pg_Hierarchy, hd_Hierarchy, po_Hierarchy, sa_Hierarchy⟩
  have g_Hierarchy := PySem.W.mg_of X G a_Hierarchy
  have T : HTxt K mg C_Hierarchy := ⟨k_Hierarchy, na_Hierarchy_rows, na_Hierarchy_places, na_Hierarchy_above, g_Hierarchy, _, _, ⟨rd, ga⟩, ⟨cl, ⟨_, rfl⟩⟩⟩
  obtain ⟨fdI, F_init⟩ : ∃ fdI, FunD K "__init__" "Hierarchy.__init__" (defArgs Lw.m_init) (defBody Lw.m_init) (defScope Lw.m_init) [.ref T0] [] h_init fdI :=
    ⟨_, ⟨_, _, .ref TD, _, _, _, _, _, _, _, rfl, l_init, c_init_c, .inr ⟨by simp, TD, _, [.ref T0], _, rfl, lT, rfl, .cons rfl .nil⟩, .inl rfl⟩, kp_init⟩
  have b_init1 : Binds K fdI ["self", "classes"] [] := by
    obtain ⟨ds, r, b⟩ := F_init.binds1 (ps := ["self", "classes"]) 2 1 (by simp) rfl fun _ _ _ _ _ _ _ us its hu hi =>
      match us, its, hu, hi with | [_, _], [_], _, _ => ⟨_, rfl, rfl⟩
    cases r
    exact b
  have M : Mk K C_Hierarchy h_init := ⟨mk, m_init, i_init, kc⟩
  have U_is_name := fun_mk (st := Lw.sIsName) l_is_name c_is_name_c kp_is_name
  have b_is_name := U_is_name.binds (ps := ["value"]) fun _ _ _ _ _ _ us hl =>
    match us, hl with | [_], _ => rfl
  have g_is_name := PySem.W.mg_of X G a_is_name
  have d_is_name : Def K mg "is_name" Lw.sIsName ["value"] := ⟨_, _, U_is_name, b_is_name, g_is_name⟩
  have U_are_superclasses := fun_mk (st := Lw.sAre) l_are_superclasses c_are_superclasses_c kp_are_superclasses
  have b_are_superclasses := U_are_superclasses.binds (ps := ["value", "known"]) fun _ _ _ _ _ _ us hl =>
    match us, hl with | [_, _], _ => rfl
  have g_are_superclasses := PySem.W.mg_of X G a_are_superclasses
  have d_are_superclasses : Def K mg "are_superclasses" Lw.sAre ["value", "known"] := ⟨_, _, U_are_superclasses, b_are_superclasses, g_are_superclasses⟩
  have U_row_problem := fun_mk (st := Lw.sProb) l_row_problem c_row_problem_c kp_row_problem
  have b_row_problem := U_row_problem.binds (ps := ["row", "known"]) fun _ _ _ _ _ _ us hl =>
    match us, hl with | [_, _], _ => rfl
  have g_row_problem := PySem.W.mg_of X G a_row_problem
  have d_row_problem : Def K mg "row_problem" Lw.sProb ["row", "known"] := ⟨_, _, U_row_problem, b_row_problem, g_row_problem⟩
  have U_ancestors_of := fun_mk (st := Lw.sAnc) l_ancestors_of c_ancestors_of_c kp_ancestors_of
  have b_ancestors_of := U_ancestors_of.binds (ps := ["name", "superclasses", "above"]) fun _ _ _ _ _ _ us hl =>
    match us, hl with | [_, _, _], _ => rfl
  have g_ancestors_of := PySem.W.mg_of X G a_ancestors_of
  have d_ancestors_of : Def K mg "ancestors_of" Lw.sAnc ["name", "superclasses", "above"] := ⟨_, _, U_ancestors_of, b_ancestors_of, g_ancestors_of⟩
  have U__law_pot := fun_mk (st := s__law_pot) l__law_pot c__law_pot_c kp__law_pot
  have b__law_pot := U__law_pot.binds (ps := ["_law_script", "_law_k"]) fun _ _ _ _ _ _ us hl =>
    match us, hl with | [_, _], _ => rfl
  have g__law_pot := PySem.W.mg_of X G a__law_pot
  have d__law_pot : Def K mg "_law_pot" s__law_pot ["_law_script", "_law_k"] := ⟨_, _, U__law_pot, b__law_pot, g__law_pot⟩
  have U__law_draw := fun_mk (st := s__law_draw) l__law_draw c__law_draw_c kp__law_draw
  have b__law_draw := U__law_draw.binds (ps := ["_law_pot_here", "_law_many"]) fun _ _ _ _ _ _ us hl =>
    match us, hl with | [_, _], _ => rfl
  have g__law_draw := PySem.W.mg_of X G a__law_draw
  have d__law_draw : Def K mg "_law_draw" s__law_draw ["_law_pot_here", "_law_many"] := ⟨_, _, U__law_draw, b__law_draw, g__law_draw⟩
  have U__law_sizes := fun_mk (st := s__law_sizes) l__law_sizes c__law_sizes_c kp__law_sizes
  have b__law_sizes := U__law_sizes.binds (ps := ["_law_pot_here"]) fun _ _ _ _ _ _ us hl =>
    match us, hl with | [_], _ => rfl
  have g__law_sizes := PySem.W.mg_of X G a__law_sizes
  have d__law_sizes : Def K mg "_law_sizes" s__law_sizes ["_law_pot_here"] := ⟨_, _, U__law_sizes, b__law_sizes, g__law_sizes⟩
  have U__law_name := fun_mk (st := s__law_name) l__law_name c__law_name_c kp__law_name
  have b__law_name := U__law_name.binds (ps := ["_law_pot_here"]) fun _ _ _ _ _ _ us hl =>
    match us, hl with | [_], _ => rfl
  have g__law_name := PySem.W.mg_of X G a__law_name
  have d__law_name : Def K mg "_law_name" s__law_name ["_law_pot_here"] := ⟨_, _, U__law_name, b__law_name, g__law_name⟩
  have U__law_names := fun_mk (st := s__law_names) l__law_names c__law_names_c kp__law_names
  have b__law_names := U__law_names.binds (ps := ["_law_pot_here", "_law_many"]) fun _ _ _ _ _ _ us hl =>
    match us, hl with | [_, _], _ => rfl
  have g__law_names := PySem.W.mg_of X G a__law_names
  have d__law_names : Def K mg "_law_names" s__law_names ["_law_pot_here", "_law_many"] := ⟨_, _, U__law_names, b__law_names, g__law_names⟩
  have U__law_mixed := fun_mk (st := s__law_mixed) l__law_mixed c__law_mixed_c kp__law_mixed
  have b__law_mixed := U__law_mixed.binds (ps := ["_law_pot_here", "_law_some"]) fun _ _ _ _ _ _ us hl =>
    match us, hl with | [_, _], _ => rfl
  have g__law_mixed := PySem.W.mg_of X G a__law_mixed
  have d__law_mixed : Def K mg "_law_mixed" s__law_mixed ["_law_pot_here", "_law_some"] := ⟨_, _, U__law_mixed, b__law_mixed, g__law_mixed⟩
  have U__law_kinds := fun_mk (st := s__law_kinds) l__law_kinds c__law_kinds_c kp__law_kinds
  have b__law_kinds := U__law_kinds.binds (ps := ["_law_pot_here", "_law_most"]) fun _ _ _ _ _ _ us hl =>
    match us, hl with | [_, _], _ => rfl
  have g__law_kinds := PySem.W.mg_of X G a__law_kinds
  have d__law_kinds : Def K mg "_law_kinds" s__law_kinds ["_law_pot_here", "_law_most"] := ⟨_, _, U__law_kinds, b__law_kinds, g__law_kinds⟩
  have U__law_all_points := fun_mk (st := s__law_all_points) l__law_all_points c__law_all_points_c kp__law_all_points
  have b__law_all_points := U__law_all_points.binds (ps := ["_law_rows", "_law_many"]) fun _ _ _ _ _ _ us hl =>
    match us, hl with | [_, _], _ => rfl
  have g__law_all_points := PySem.W.mg_of X G a__law_all_points
  have d__law_all_points : Def K mg "_law_all_points" s__law_all_points ["_law_rows", "_law_many"] := ⟨_, _, U__law_all_points, b__law_all_points, g__law_all_points⟩
  have U__law_above := fun_mk (st := s__law_above) l__law_above c__law_above_c kp__law_above
  have b__law_above := U__law_above.binds (ps := ["_law_rows", "_law_label"]) fun _ _ _ _ _ _ us hl =>
    match us, hl with | [_, _], _ => rfl
  have g__law_above := PySem.W.mg_of X G a__law_above
  have d__law_above : Def K mg "_law_above" s__law_above ["_law_rows", "_law_label"] := ⟨_, _, U__law_above, b__law_above, g__law_above⟩
  have U__law_ups := fun_mk (st := s__law_ups) l__law_ups c__law_ups_c kp__law_ups
  have b__law_ups := U__law_ups.binds (ps := ["_law_rows"]) fun _ _ _ _ _ _ us hl =>
    match us, hl with | [_], _ => rfl
  have g__law_ups := PySem.W.mg_of X G a__law_ups
  have d__law_ups : Def K mg "_law_ups" s__law_ups ["_law_rows"] := ⟨_, _, U__law_ups, b__law_ups, g__law_ups⟩
  have U_is_parameter_count := fun_mk (st := s_is_parameter_count) l_is_parameter_count c_is_parameter_count_c kp_is_parameter_count
  have b_is_parameter_count := U_is_parameter_count.binds (ps := ["value"]) fun _ _ _ _ _ _ us hl =>
    match us, hl with | [_], _ => rfl
  have g_is_parameter_count := PySem.W.mg_of X G a_is_parameter_count
  have d_is_parameter_count : Def K mg "is_parameter_count" s_is_parameter_count ["value"] := ⟨_, _, U_is_parameter_count, b_is_parameter_count, g_is_parameter_count⟩
  have U_Hierarchy_has_class := fun_mk (st := m_Hierarchy_has_class) l_Hierarchy_has_class c_Hierarchy_has_class_c kp_Hierarchy_has_class
  have b_Hierarchy_has_class := U_Hierarchy_has_class.binds (ps := ["self", "value"]) fun _ _ _ _ _ _ us hl =>
    match us, hl with | [_, _], _ => rfl
  have d_Hierarchy_has_class : DefM K C_Hierarchy "has_class" "Hierarchy.has_class" m_Hierarchy_has_class ["self", "value"] := ⟨_, _, U_Hierarchy_has_class, b_Hierarchy_has_class, ⟨m_Hierarchy_has_class_m, i_Hierarchy_has_class, kp_Hierarchy_has_class⟩, k_Hierarchy⟩
  have U_is_point := fun_mk (st := s_is_point) l_is_point c_is_point_c kp_is_point
  have b_is_point := U_is_point.binds (ps := ["hierarchy", "value"]) fun _ _ _ _ _ _ us hl =>
    match us, hl with | [_, _], _ => rfl
  have g_is_point := PySem.W.mg_of X G a_is_point
  have d_is_point : Def K mg "is_point" s_is_point ["hierarchy", "value"] := ⟨_, _, U_is_point, b_is_point, g_is_point⟩
  have U_require_point := fun_mk (st := s_require_point) l_require_point c_require_point_c kp_require_point
  have b_require_point := U_require_point.binds (ps := ["hierarchy", "value"]) fun _ _ _ _ _ _ us hl =>
    match us, hl with | [_, _], _ => rfl
  have g_require_point := PySem.W.mg_of X G a_require_point
  have d_require_point : Def K mg "require_point" s_require_point ["hierarchy", "value"] := ⟨_, _, U_require_point, b_require_point, g_require_point⟩
  have U_require_point_like := fun_mk (st := s_require_point_like) l_require_point_like c_require_point_like_c kp_require_point_like
  have b_require_point_like := U_require_point_like.binds (ps := ["hierarchy", "value", "first"]) fun _ _ _ _ _ _ us hl =>
    match us, hl with | [_, _, _], _ => rfl
  have g_require_point_like := PySem.W.mg_of X G a_require_point_like
  have d_require_point_like : Def K mg "require_point_like" s_require_point_like ["hierarchy", "value", "first"] := ⟨_, _, U_require_point_like, b_require_point_like, g_require_point_like⟩
  have U_combinations := fun_mk (st := s_combinations) l_combinations c_combinations_c kp_combinations
  have b_combinations := U_combinations.binds (ps := ["choices"]) fun _ _ _ _ _ _ us hl =>
    match us, hl with | [_], _ => rfl
  have g_combinations := PySem.W.mg_of X G a_combinations
  have d_combinations : Def K mg "combinations" s_combinations ["choices"] := ⟨_, _, U_combinations, b_combinations, g_combinations⟩
  have U_Hierarchy_require_class := fun_mk (st := m_Hierarchy_require_class) l_Hierarchy_require_class c_Hierarchy_require_class_c kp_Hierarchy_require_class
  have b_Hierarchy_require_class := U_Hierarchy_require_class.binds (ps := ["self", "value"]) fun _ _ _ _ _ _ us hl =>
    match us, hl with | [_, _], _ => rfl
  have d_Hierarchy_require_class : DefM K C_Hierarchy "require_class" "Hierarchy.require_class" m_Hierarchy_require_class ["self", "value"] := ⟨_, _, U_Hierarchy_require_class, b_Hierarchy_require_class, ⟨m_Hierarchy_require_class_m, i_Hierarchy_require_class, kp_Hierarchy_require_class⟩, k_Hierarchy⟩
  have U_Hierarchy_names := fun_mk (st := m_Hierarchy_names) l_Hierarchy_names c_Hierarchy_names_c kp_Hierarchy_names
  have b_Hierarchy_names := U_Hierarchy_names.binds (ps := ["self"]) fun _ _ _ _ _ _ us hl =>
    match us, hl with | [_], _ => rfl
  have d_Hierarchy_names : DefM K C_Hierarchy "names" "Hierarchy.names" m_Hierarchy_names ["self"] := ⟨_, _, U_Hierarchy_names, b_Hierarchy_names, ⟨m_Hierarchy_names_m, i_Hierarchy_names, kp_Hierarchy_names⟩, k_Hierarchy⟩
  have U_Hierarchy_highest_common := fun_mk (st := m_Hierarchy_highest_common) l_Hierarchy_highest_common c_Hierarchy_highest_common_c kp_Hierarchy_highest_common
  have d_Hierarchy_highest_common : DefS K C_Hierarchy "highest_common" "Hierarchy.highest_common" m_Hierarchy_highest_common ["self", "first"] "others" := ⟨_, _, U_Hierarchy_highest_common, ⟨m_Hierarchy_highest_common_m, i_Hierarchy_highest_common, kp_Hierarchy_highest_common⟩, k_Hierarchy, StX.bind_star2 (B := fun us => bindArgs _ ⟨us, []⟩) (fun _ _ => rfl) (fun _ _ _ _ => rfl)⟩
  have U_highest_common_points := fun_mk (st := s_highest_common_points) l_highest_common_points c_highest_common_points_c kp_highest_common_points
  have g_highest_common_points := PySem.W.mg_of X G a_highest_common_points
  have d_highest_common_points : DefFS K mg "highest_common_points" s_highest_common_points ["hierarchy", "first"] "others" := ⟨_, _, U_highest_common_points, g_highest_common_points, StX.bind_star2 (B := fun us => bindArgs _ ⟨us, []⟩) (fun _ _ => rfl) (fun _ _ _ _ => rfl)⟩
  have U__law_told := fun_mk (st := s__law_told) l__law_told c__law_told_c kp__law_told
  have b__law_told := U__law_told.binds (ps := ["_law_world", "_law_some"]) fun _ _ _ _ _ _ us hl =>
    match us, hl with | [_, _], _ => rfl
  have g__law_told := PySem.W.mg_of X G a__law_told
  have d__law_told : Def K mg "_law_told" s__law_told ["_law_world", "_law_some"] := ⟨_, _, U__law_told, b__law_told, g__law_told⟩
  have U__law_flat_right := fun_mk (st := s__law_flat_right) l__law_flat_right c__law_flat_right_c kp__law_flat_right
  have b__law_flat_right := U__law_flat_right.binds (ps := ["_law_rows", "_law_some"]) fun _ _ _ _ _ _ us hl =>
    match us, hl with | [_, _], _ => rfl
  have g__law_flat_right := PySem.W.mg_of X G a__law_flat_right
  have d__law_flat_right : Def K mg "_law_flat_right" s__law_flat_right ["_law_rows", "_law_some"] := ⟨_, _, U__law_flat_right, b__law_flat_right, g__law_flat_right⟩
  have U__law_is_under := fun_mk (st := s__law_is_under) l__law_is_under c__law_is_under_c kp__law_is_under
  have b__law_is_under := U__law_is_under.binds (ps := ["_law_ups_here", "_law_inner", "_law_outer"]) fun _ _ _ _ _ _ us hl =>
    match us, hl with | [_, _, _], _ => rfl
  have g__law_is_under := PySem.W.mg_of X G a__law_is_under
  have d__law_is_under : Def K mg "_law_is_under" s__law_is_under ["_law_ups_here", "_law_inner", "_law_outer"] := ⟨_, _, U__law_is_under, b__law_is_under, g__law_is_under⟩
  have U__law_highest := fun_mk (st := s__law_highest) l__law_highest c__law_highest_c kp__law_highest
  have b__law_highest := U__law_highest.binds (ps := ["_law_ups_here", "_law_spots"]) fun _ _ _ _ _ _ us hl =>
    match us, hl with | [_, _], _ => rfl
  have g__law_highest := PySem.W.mg_of X G a__law_highest
  have d__law_highest : Def K mg "_law_highest" s__law_highest ["_law_ups_here", "_law_spots"] := ⟨_, _, U__law_highest, b__law_highest, g__law_highest⟩
  have U__law_right := fun_mk (st := s__law_right) l__law_right c__law_right_c kp__law_right
  have b__law_right := U__law_right.binds (ps := ["_law_world", "_law_ups_here", "_law_spots", "_law_some"]) fun _ _ _ _ _ _ us hl =>
    match us, hl with | [_, _, _, _], _ => rfl
  have g__law_right := PySem.W.mg_of X G a__law_right
  have d__law_right : Def K mg "_law_right" s__law_right ["_law_world", "_law_ups_here", "_law_spots", "_law_some"] := ⟨_, _, U__law_right, b__law_right, g__law_right⟩
  have U_law := fun_mk (st := s_law) l_law c_law_c kp_law
  have bm_Hierarchy_highest_common : ∃ f, L2.BMeth K C_Hierarchy "highest_common" f := ⟨_, ⟨m_Hierarchy_highest_common_m, i_Hierarchy_highest_common, kp_Hierarchy_highest_common⟩, gf_Hierarchy_highest_common, tk_Hierarchy_highest_common, by decide, fi_Hierarchy_highest_common⟩
  have n_abs := PySem.W.mg_none_of X G z_abs
  have n_all := PySem.W.mg_none_of X G z_all
  have n_any := PySem.W.mg_none_of X G z_any
  have n_bool := PySem.W.mg_none_of X G z_bool
  have n_dict := PySem.W.mg_none_of X G z_dict
  have n_divmod := PySem.W.mg_none_of X G z_divmod
  have n_enumerate := PySem.W.mg_none_of X G z_enumerate
  have n_int := PySem.W.mg_none_of X G z_int
  have n_isinstance := PySem.W.mg_none_of X G z_isinstance
  have n_len := PySem.W.mg_none_of X G z_len
  have n_list := PySem.W.mg_none_of X G z_list
  have n_max := PySem.W.mg_none_of X G z_max
  have n_min := PySem.W.mg_none_of X G z_min
  have n_range := PySem.W.mg_none_of X G z_range
  have n_repr := PySem.W.mg_none_of X G z_repr
  have n_set := PySem.W.mg_none_of X G z_set
  have n_str := PySem.W.mg_none_of X G z_str
  have n_tuple := PySem.W.mg_none_of X G z_tuple
  have n_zip := PySem.W.mg_none_of X G z_zip
  have g_LETTERS := PySem.W.mg_of X G e_LETTERS
  have g_LONGEST_NAME := PySem.W.mg_of X G e_LONGEST_NAME
  have g_MAX_PARAMETERS := PySem.W.mg_of X G e_MAX_PARAMETERS
  refine ⟨PySem.W.fnOf "law" "law" (defArgs s_law) (defBody s_law) (defScope s_law)
      .none kV_law dc_law pm_law an_law cd_law ct_law, fun s v => ?_, fun base _ _ low => ?_⟩
  · exact .of_eq rfl
  · have GA := Lw.ok_are (P := l.prog) (w := w) (base := base) (k := 0) U_are_superclasses n_isinstance n_tuple n_str n_all n_len n_set
    have GIN := Lw.ok_isname (P := l.prog) (w := w) (base := base) (k := 0) U_is_name n_isinstance n_str n_len n_all g_LETTERS g_LONGEST_NAME
    have GPr := Lw.ok_prob (P := l.prog) (w := w) (base := base) (k := 0) U_row_problem U_is_name b_is_name g_is_name U_are_superclasses b_are_superclasses g_are_superclasses GIN GA n_isinstance n_tuple n_len
    have GAn := Lw.ok_anc (P := l.prog) (w := w) (mg := mg) (base := base) (k := 0) U_ancestors_of
    have GI := Lw.ok_init (P := l.prog) (w := w) (base := base) (k := 0) F_init T U_row_problem b_row_problem g_row_problem U_ancestors_of b_ancestors_of g_ancestors_of GPr GAn n_isinstance n_tuple n_list n_enumerate n_len
    have mkHier : Lw.MkHi l.prog w K mg base C_Hierarchy 3 := ⟨_, _, M, GI, g_Hierarchy, b_init1⟩
    have c__law_pot := t__law_pot (T := []) (P' := l.prog) (w := w) (mg := mg) (base := base) (z := { K := K, c_Hierarchy := C_Hierarchy }) (d := d__law_pot) (n_len := n_len) (n_abs := n_abs) (n_max := n_max)
    have c__law_draw := t__law_draw (T := []) (P' := l.prog) (w := w) (mg := mg) (base := base) (z := { K := K, c_Hierarchy := C_Hierarchy }) (d := d__law_draw) (n_divmod := n_divmod)
    have c__law_sizes := t__law_sizes (T := []) (P' := l.prog) (w := w) (mg := mg) (base := base) (z := { K := K, c_Hierarchy := C_Hierarchy }) (d := d__law_sizes) (c__law_draw := c__law_draw)
    have c__law_name := t__law_name (T := []) (P' := l.prog) (w := w) (mg := mg) (base := base) (z := { K := K, c_Hierarchy := C_Hierarchy }) (d := d__law_name) (c__law_draw := c__law_draw) (n_range := n_range)
    have c__law_names := t__law_names (T := []) (P' := l.prog) (w := w) (mg := mg) (base := base) (z := { K := K, c_Hierarchy := C_Hierarchy }) (d := d__law_names) (n_range := n_range) (c__law_name := c__law_name)
    have c__law_mixed := t__law_mixed (T := []) (P' := l.prog) (w := w) (mg := mg) (base := base) (z := { K := K, c_Hierarchy := C_Hierarchy }) (d := d__law_mixed) (n_list := n_list) (n_len := n_len) (n_range := n_range) (c__law_draw := c__law_draw)
    have c__law_kinds := t__law_kinds (T := []) (P' := l.prog) (w := w) (mg := mg) (base := base) (z := { K := K, c_Hierarchy := C_Hierarchy }) (d := d__law_kinds) (c__law_names := c__law_names) (c__law_draw := c__law_draw) (c__law_mixed := c__law_mixed) (n_tuple := n_tuple)
    have c__law_all_points := t__law_all_points (T := []) (P' := l.prog) (w := w) (mg := mg) (base := base) (z := { K := K, c_Hierarchy := C_Hierarchy }) (d := d__law_all_points) (n_range := n_range)
    have c__law_above := t__law_above (T := []) (P' := l.prog) (w := w) (mg := mg) (base := base) (z := { K := K, c_Hierarchy := C_Hierarchy }) (d := d__law_above) 
    have c__law_ups := t__law_ups (T := []) (P' := l.prog) (w := w) (mg := mg) (base := base) (z := { K := K, c_Hierarchy := C_Hierarchy }) (d := d__law_ups) (c__law_above := c__law_above) (n_dict := n_dict)
    have c_is_parameter_count := t_is_parameter_count (T := []) (P' := l.prog) (w := w) (mg := mg) (base := base) (z := { K := K, c_Hierarchy := C_Hierarchy }) (d := d_is_parameter_count) (g_MAX_PARAMETERS := g_MAX_PARAMETERS) (n_isinstance := n_isinstance) (n_bool := n_bool) (n_int := n_int)
    have c_Hierarchy_has_class := t_Hierarchy_has_class (T := []) (P' := l.prog) (w := w) (mg := mg) (base := base) (z := { K := K, c_Hierarchy := C_Hierarchy }) (d := d_Hierarchy_has_class) (k_Hierarchy := k_Hierarchy) (na_Hierarchy_places := na_Hierarchy_places) (n_isinstance := n_isinstance) (n_str := n_str)
    have c_is_point := t_is_point (T := []) (P' := l.prog) (w := w) (mg := mg) (base := base) (z := { K := K, c_Hierarchy := C_Hierarchy }) (d := d_is_point) (c_is_parameter_count := c_is_parameter_count) (n_len := n_len) (n_isinstance := n_isinstance) (n_tuple := n_tuple) (c_Hierarchy_has_class := c_Hierarchy_has_class) (n_all := n_all)
    have c_require_point := t_require_point (T := []) (P' := l.prog) (w := w) (mg := mg) (base := base) (z := { K := K, c_Hierarchy := C_Hierarchy }) (d := d_require_point) (c_is_point := c_is_point)
    have c_require_point_like := t_require_point_like (T := []) (P' := l.prog) (w := w) (mg := mg) (base := base) (z := { K := K, c_Hierarchy := C_Hierarchy }) (d := d_require_point_like) (c_require_point := c_require_point) (n_len := n_len)
    have c_combinations := t_combinations (T := []) (P' := l.prog) (w := w) (mg := mg) (base := base) (z := { K := K, c_Hierarchy := C_Hierarchy }) (d := d_combinations) 
    have c_Hierarchy_require_class := t_Hierarchy_require_class (T := []) (P' := l.prog) (w := w) (mg := mg) (base := base) (z := { K := K, c_Hierarchy := C_Hierarchy }) (d := d_Hierarchy_require_class) (c_Hierarchy_has_class := c_Hierarchy_has_class)
    have c_Hierarchy_names := t_Hierarchy_names (T := []) (P' := l.prog) (w := w) (mg := mg) (base := base) (z := { K := K, c_Hierarchy := C_Hierarchy }) (d := d_Hierarchy_names) (k_Hierarchy := k_Hierarchy) (na_Hierarchy_places := na_Hierarchy_places) (n_list := n_list)
    have c_Hierarchy_highest_common := t_Hierarchy_highest_common (T := []) (P' := l.prog) (w := w) (mg := mg) (base := base) (z := { K := K, c_Hierarchy := C_Hierarchy }) (d := d_Hierarchy_highest_common) (c_Hierarchy_require_class := c_Hierarchy_require_class) (c_Hierarchy_names := c_Hierarchy_names) (k_Hierarchy := k_Hierarchy) (na_Hierarchy_above := na_Hierarchy_above) (n_all := n_all) (n_any := n_any)
    have c_highest_common_points := t_highest_common_points (T := []) (P' := l.prog) (w := w) (mg := mg) (base := base) (z := { K := K, c_Hierarchy := C_Hierarchy }) (d := d_highest_common_points) (c_require_point := c_require_point) (c_require_point_like := c_require_point_like) (c_combinations := c_combinations) (n_zip := n_zip) (c_Hierarchy_highest_common := c_Hierarchy_highest_common) (bm_Hierarchy_highest_common := bm_Hierarchy_highest_common)
    have c__law_told := t__law_told (T := []) (P' := l.prog) (w := w) (mg := mg) (base := base) (z := { K := K, c_Hierarchy := C_Hierarchy }) (d := d__law_told) (n_len := n_len) (c_highest_common_points := c_highest_common_points)
    have c__law_flat_right := t__law_flat_right (T := []) (P' := l.prog) (w := w) (mg := mg) (base := base) (z := { K := K, c_Hierarchy := C_Hierarchy }) (d := d__law_flat_right) (mkHier := mkHier) (n_all := n_all) (c__law_told := c__law_told) (n_repr := n_repr)
    have c__law_is_under := t__law_is_under (T := []) (P' := l.prog) (w := w) (mg := mg) (base := base) (z := { K := K, c_Hierarchy := C_Hierarchy }) (d := d__law_is_under) (n_zip := n_zip) (n_all := n_all)
    have c__law_highest := t__law_highest (T := []) (P' := l.prog) (w := w) (mg := mg) (base := base) (z := { K := K, c_Hierarchy := C_Hierarchy }) (d := d__law_highest) (c__law_is_under := c__law_is_under) (n_any := n_any)
    have c__law_right := t__law_right (T := []) (P' := l.prog) (w := w) (mg := mg) (base := base) (z := { K := K, c_Hierarchy := C_Hierarchy }) (d := d__law_right) (c__law_is_under := c__law_is_under) (n_all := n_all) (c__law_highest := c__law_highest) (c__law_told := c__law_told) (n_repr := n_repr) (n_any := n_any)
    exact lawG (tl_law (T := []) (P' := l.prog) (w := w) (base := base) (z := { K := K, c_Hierarchy := C_Hierarchy }) U_law (n_len := n_len) (n_min := n_min) (n_max := n_max) (n_range := n_range) (c__law_pot := c__law_pot) (c__law_sizes := c__law_sizes) (c__law_kinds := c__law_kinds) (c__law_all_points := c__law_all_points) (c__law_ups := c__law_ups) (mkHier := mkHier) (c__law_draw := c__law_draw) (c__law_flat_right := c__law_flat_right) (c__law_right := c__law_right)) (fun ns hl => Fk.s_law rfl)
end Lw
open PySem PySem.W PyProof.Rows
set_option maxHeartbeats 0 in
theorem PySem.Challenge.cw_fewestmethods_k24_whole_highest_common_p_holds : PySem.Challenge.rw_fewestmethods_k24_whole_highest_common_p.Holds := by
  w_on; o_law; k_head; (case hw => w_witness2)
  k_fill
  refine Kv.walk_ofG (l := PySem.Challenge.rw_fewestmethods_k24_whole_highest_common_p) (n := 63) (k := 8) (x := "_law_script") (sp := fun w => Pu.spLaw _)
    rfl (by decide) rfl ⟨rfl, by decide, by decide⟩ (fun w h Y => PySem.W.kIn_of Y) ?F
    (fun _ _ a ns hl _ hO hS => ⟨a, ns, rfl, hO, hS, hl, fun _ => rfl⟩)
  case F =>
    intro w mg fa h KX G hmg
    refine' Lw.all_mk KX G hmg
      ?a_Hierarchy ?pg_Hierarchy ?hd_Hierarchy ?po_Hierarchy ?sa_Hierarchy ?na_Hierarchy_rows ?na_Hierarchy_places ?na_Hierarchy_above ?m_init ?i_init ?l_init ?c_init_c
      ?kp_init ?lT ?lU ?mk ?kc ?rd ?ga ?cl ?a_is_name ?l_is_name ?c_is_name_c ?kp_is_name
      ?a_are_superclasses ?l_are_superclasses ?c_are_superclasses_c ?kp_are_superclasses ?a_row_problem ?l_row_problem ?c_row_problem_c ?kp_row_problem ?a_ancestors_of ?l_ancestors_of ?c_ancestors_of_c ?kp_ancestors_of
      ?a__law_pot ?l__law_pot ?c__law_pot_c ?kp__law_pot ?a__law_draw ?l__law_draw ?c__law_draw_c ?kp__law_draw ?a__law_sizes ?l__law_sizes ?c__law_sizes_c ?kp__law_sizes
      ?a__law_name ?l__law_name ?c__law_name_c ?kp__law_name ?a__law_names ?l__law_names ?c__law_names_c ?kp__law_names ?a__law_mixed ?l__law_mixed ?c__law_mixed_c ?kp__law_mixed
      ?a__law_kinds ?l__law_kinds ?c__law_kinds_c ?kp__law_kinds ?a__law_all_points ?l__law_all_points ?c__law_all_points_c ?kp__law_all_points ?a__law_above ?l__law_above ?c__law_above_c ?kp__law_above
      ?a__law_ups ?l__law_ups ?c__law_ups_c ?kp__law_ups ?a_is_parameter_count ?l_is_parameter_count ?c_is_parameter_count_c ?kp_is_parameter_count ?m_Hierarchy_has_class_m ?i_Hierarchy_has_class ?l_Hierarchy_has_class ?c_Hierarchy_has_class_c
      ?kp_Hierarchy_has_class ?a_is_point ?l_is_point ?c_is_point_c ?kp_is_point ?a_require_point ?l_require_point ?c_require_point_c ?kp_require_point ?a_require_point_like ?l_require_point_like ?c_require_point_like_c
      ?kp_require_point_like ?a_combinations ?l_combinations ?c_combinations_c ?kp_combinations ?m_Hierarchy_require_class_m ?i_Hierarchy_require_class ?l_Hierarchy_require_class ?c_Hierarchy_require_class_c ?kp_Hierarchy_require_class ?m_Hierarchy_names_m ?i_Hierarchy_names
      ?l_Hierarchy_names ?c_Hierarchy_names_c ?kp_Hierarchy_names ?m_Hierarchy_highest_common_m ?i_Hierarchy_highest_common ?l_Hierarchy_highest_common ?c_Hierarchy_highest_common_c ?kp_Hierarchy_highest_common ?a_highest_common_points ?l_highest_common_points ?c_highest_common_points_c ?kp_highest_common_points
      ?a__law_told ?l__law_told ?c__law_told_c ?kp__law_told ?a__law_flat_right ?l__law_flat_right ?c__law_flat_right_c ?kp__law_flat_right ?a__law_is_under ?l__law_is_under ?c__law_is_under_c ?kp__law_is_under
      ?a__law_highest ?l__law_highest ?c__law_highest_c ?kp__law_highest ?a__law_right ?l__law_right ?c__law_right_c ?kp__law_right ?a_law ?l_law ?c_law_c ?kp_law
      ?gf_Hierarchy_highest_common ?tk_Hierarchy_highest_common ?fi_Hierarchy_highest_common ?z_abs ?z_all ?z_any ?z_bool ?z_dict ?z_divmod ?z_enumerate ?z_int ?z_isinstance
      ?z_len ?z_list ?z_max ?z_min ?z_range ?z_repr ?z_set ?z_str ?z_tuple ?z_zip ?e_LETTERS ?e_LONGEST_NAME
      ?e_MAX_PARAMETERS
    (case a_Hierarchy => k_is); (case pg_Hierarchy => k_is); (case hd_Hierarchy => k_is); (case po_Hierarchy => k_is)
    (case sa_Hierarchy => k_is); (case na_Hierarchy_rows => k_is); (case na_Hierarchy_places => k_is); (case na_Hierarchy_above => k_is)
    (case m_init => k_is); (case i_init => k_is); (case l_init => k_is); (case c_init_c => k_is)
    (case kp_init => k_is); (case lT => k_is); (case lU => k_is); (case mk => k_is)
    (case kc => k_is); (case rd => k_is); (case ga => k_is); (case cl => k_is)
    (case a_is_name => k_is); (case l_is_name => k_is); (case c_is_name_c => k_is); (case kp_is_name => k_is)
    (case a_are_superclasses => k_is); (case l_are_superclasses => k_is); (case c_are_superclasses_c => k_is); (case kp_are_superclasses => k_is)
    (case a_row_problem => k_is); (case l_row_problem => k_is); (case c_row_problem_c => k_is); (case kp_row_problem => k_is)
    (case a_ancestors_of => k_is); (case l_ancestors_of => k_is); (case c_ancestors_of_c => k_is); (case kp_ancestors_of => k_is)
    (case a__law_pot => k_is); (case l__law_pot => k_is); (case c__law_pot_c => k_is); (case kp__law_pot => k_is)
    (case a__law_draw => k_is); (case l__law_draw => k_is); (case c__law_draw_c => k_is); (case kp__law_draw => k_is)
    (case a__law_sizes => k_is); (case l__law_sizes => k_is); (case c__law_sizes_c => k_is); (case kp__law_sizes => k_is)
    (case a__law_name => k_is); (case l__law_name => k_is); (case c__law_name_c => k_is); (case kp__law_name => k_is)
    (case a__law_names => k_is); (case l__law_names => k_is); (case c__law_names_c => k_is); (case kp__law_names => k_is)
    (case a__law_mixed => k_is); (case l__law_mixed => k_is); (case c__law_mixed_c => k_is); (case kp__law_mixed => k_is)
    (case a__law_kinds => k_is); (case l__law_kinds => k_is); (case c__law_kinds_c => k_is); (case kp__law_kinds => k_is)
    (case a__law_all_points => k_is); (case l__law_all_points => k_is); (case c__law_all_points_c => k_is); (case kp__law_all_points => k_is)
    (case a__law_above => k_is); (case l__law_above => k_is); (case c__law_above_c => k_is); (case kp__law_above => k_is)
    (case a__law_ups => k_is); (case l__law_ups => k_is); (case c__law_ups_c => k_is); (case kp__law_ups => k_is)
    (case a_is_parameter_count => k_is); (case l_is_parameter_count => k_is); (case c_is_parameter_count_c => k_is); (case kp_is_parameter_count => k_is)
    (case m_Hierarchy_has_class_m => k_is); (case i_Hierarchy_has_class => k_is); (case l_Hierarchy_has_class => k_is); (case c_Hierarchy_has_class_c => k_is)
    (case kp_Hierarchy_has_class => k_is); (case a_is_point => k_is); (case l_is_point => k_is); (case c_is_point_c => k_is)
    (case kp_is_point => k_is); (case a_require_point => k_is); (case l_require_point => k_is); (case c_require_point_c => k_is)
    (case kp_require_point => k_is); (case a_require_point_like => k_is); (case l_require_point_like => k_is); (case c_require_point_like_c => k_is)
    (case kp_require_point_like => k_is); (case a_combinations => k_is); (case l_combinations => k_is); (case c_combinations_c => k_is)
    (case kp_combinations => k_is); (case m_Hierarchy_require_class_m => k_is); (case i_Hierarchy_require_class => k_is); (case l_Hierarchy_require_class => k_is)
    (case c_Hierarchy_require_class_c => k_is); (case kp_Hierarchy_require_class => k_is); (case m_Hierarchy_names_m => k_is); (case i_Hierarchy_names => k_is)
    (case l_Hierarchy_names => k_is); (case c_Hierarchy_names_c => k_is); (case kp_Hierarchy_names => k_is); (case m_Hierarchy_highest_common_m => k_is)
    (case i_Hierarchy_highest_common => k_is); (case l_Hierarchy_highest_common => k_is); (case c_Hierarchy_highest_common_c => k_is); (case kp_Hierarchy_highest_common => k_is)
    (case a_highest_common_points => k_is); (case l_highest_common_points => k_is); (case c_highest_common_points_c => k_is); (case kp_highest_common_points => k_is)
    (case a__law_told => k_is); (case l__law_told => k_is); (case c__law_told_c => k_is); (case kp__law_told => k_is)
    (case a__law_flat_right => k_is); (case l__law_flat_right => k_is); (case c__law_flat_right_c => k_is); (case kp__law_flat_right => k_is)
    (case a__law_is_under => k_is); (case l__law_is_under => k_is); (case c__law_is_under_c => k_is); (case kp__law_is_under => k_is)
    (case a__law_highest => k_is); (case l__law_highest => k_is); (case c__law_highest_c => k_is); (case kp__law_highest => k_is)
    (case a__law_right => k_is); (case l__law_right => k_is); (case c__law_right_c => k_is); (case kp__law_right => k_is)
    (case a_law => k_is); (case l_law => k_is); (case c_law_c => k_is); (case kp_law => k_is)
    (case gf_Hierarchy_highest_common => k_is); (case tk_Hierarchy_highest_common => k_is); (case fi_Hierarchy_highest_common => k_is); (case z_abs => k_is)
    (case z_all => k_is); (case z_any => k_is); (case z_bool => k_is); (case z_dict => k_is)
    (case z_divmod => k_is); (case z_enumerate => k_is); (case z_int => k_is); (case z_isinstance => k_is)
    (case z_len => k_is); (case z_list => k_is); (case z_max => k_is); (case z_min => k_is)
    (case z_range => k_is); (case z_repr => k_is); (case z_set => k_is); (case z_str => k_is)
    (case z_tuple => k_is); (case z_zip => k_is); (case e_LETTERS => k_is); (case e_LONGEST_NAME => k_is)
    (case e_MAX_PARAMETERS => k_is)
